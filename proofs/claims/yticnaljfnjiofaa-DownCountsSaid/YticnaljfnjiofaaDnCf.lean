/-
  Package down (layer 14): how a packet's way ends; a packet in later worlds.
-/
import Derived.Test.YticnaljfnjiofaaDnCs
import Derived.Test.YticnaljfnjiofaaDnCe
namespace Go.Proofs.Yticnaljfnjiofaa
open Go.RowKit

theorem Pq.At.next {w w' : World} {S : Nat → Prop} {p : Pq} (h : p.At w S) (hb : Below w.heap.size w w') : p.At w' S :=
  ⟨h.fit, h.len1, (h.row1.below hb (Nat.le_refl _)).more hb.size, h.far1, h.len2, h.its.next hb, h.far2, h.far2', h.len3, (h.row3.below hb (Nat.le_refl _)).more hb.size, h.far3⟩
theorem FarS.but {w w' : World} {S T : Nat → Prop} {z n : Nat} {A : Option Addr} {xs : List Value} (hf : FarS S A n) (h : Row w w.heap.size z A n xs) (k : But T w w') (hT : ∀ b, T b → S b) : Row w' w'.heap.size z A n xs :=
  (h.butA (Nat.le_refl _) k (fun hn a ha ht => hf hn a ha (hT _ ht))).more k.size
theorem Pq.At.but {w w' : World} {S T : Nat → Prop} {p : Pq} (h : p.At w S) (k : But T w w') (hT : ∀ b, T b → S b) : p.At w' S :=
  ⟨h.fit, h.len1, h.far1.but h.row1 k hT, h.far1, h.len2, ⟨h.far2.but h.its.1 k hT, fun q hq => ⟨(h.far2' q hq).but (h.its.2 q hq).1 k hT, (h.its.2 q hq).2⟩⟩, h.far2, h.far2', h.len3, h.far3.but h.row3 k hT, h.far3⟩

/-- What pass tells. -/
def PassTold (d : Dn) (x : Sx) (g : Nat) (S : Nat → Prop) (w : World) (e : Ending) (w' : World) : Prop :=
  ∃ A c S', e = .returned (.tuple #[.slice A (d.told x).length c, .bool (d.is x)]) ∧ DnAt w' g S' (d.next x) ∧ Row w' w'.heap.size 1 A (d.told x).length (u8s (d.told x)) ∧ (d.told x).length ≤ c ∧ c ≤ maxLen ∧ But S w w' ∧ ∀ k, k < w.heap.size → S' k → S k
theorem pass_end {d' : Dn} {g gs mm r : Nat} {S : Nat → Prop} {w w' : World} {pk : Cs} (hS : S g ∧ S gs ∧ S mm ∧ S r) (hlt : ∀ k, S k → k < w.heap.size) (hne : g ≠ gs ∧ g ≠ mm ∧ g ≠ r) (hpk : pk.as d'.pick)
    (hW : Whole w' g 78 (dcs d'.ssrc pk d'.nums gs d'.sent d'.left d'.drop d'.late d'.bad)) (hst : SAt (fun b => DnOwn S g gs mm r b ∨ w.heap.size ≤ b) w' gs mm r d'.room d'.kept) (hz : w.heap.size ≤ w'.heap.size) :
    ∃ S', DnAt w' g S' d' ∧ ∀ k, k < w.heap.size → S' k → S k := by
  have l1 := hlt _ hS.1
  have l2 := hlt _ hS.2.1
  have l3 := hlt _ hS.2.2.1
  have l4 := hlt _ hS.2.2.2
  refine ⟨fun k => (S k ∨ w.heap.size ≤ k) ∧ k < w'.heap.size, ⟨pk, gs, mm, r, hpk, hW, hst.weak (fun b hb h => ?_) (fun h => h.2.2.1 rfl) (fun h => h.2.2.2.1 rfl) (fun h => h.2.2.2.2 rfl), ⟨⟨.inl hS.1, by omega⟩, ⟨.inl hS.2.1, by omega⟩, ⟨.inl hS.2.2.1, by omega⟩, .inl hS.2.2.2, by omega⟩, fun k h => h.2, hne⟩, fun k hk h => h.1.elim id (fun h => by omega)⟩
  rcases h with h | h
  · exact ⟨⟨.inl h.1, hb⟩, h.2⟩
  · exact ⟨⟨.inr h, hb⟩, by omega, by omega, by omega, by omega⟩
theorem pass_quiet {d d' : Dn} {x : Sx} {g gs mm r : Nat} {S : Nat → Prop} {w w' : World} {pk : Cs} (hS : S g ∧ S gs ∧ S mm ∧ S r) (hlt : ∀ k, S k → k < w.heap.size) (hne : g ≠ gs ∧ g ≠ mm ∧ g ≠ r) (hst : SAt (DnOwn S g gs mm r) w gs mm r d.room d.kept)
    (ht : d.take x = (d', none)) (hpk : pk.as d'.pick) (hW : Whole w' g 78 (dcs d'.ssrc pk d'.nums gs d'.sent d'.left d'.drop d'.late d'.bad)) (hr : d'.room = d.room) (hk : d'.kept = d.kept) (hB : But (fun k => k = g) w w') :
    PassTold d x g S w (.returned (.tuple #[.slice none 0 0, .bool false])) w' := by
  have h1 : SAt (DnOwn S g gs mm r) w' gs mm r d'.room d'.kept := by
    rw [hr, hk]
    refine hst.keep hB.size (fun k hk hh => hB.block k hk (fun e => ?_))
    subst e
    rcases hh with h | h | h | h
    · exact hne.1 h
    · exact hne.2.1 h
    · exact hne.2.2 h
    · exact h.2.1 rfl
  have hlt' := h1.lt
  obtain ⟨S', a, b⟩ := pass_end hS hlt hne hpk hW (h1.weak (fun b _ h => .inl h) (fun h => h.elim (fun h => h.2.2.1 rfl) (fun h => by have := hlt _ hS.2.1; omega)) (fun h => h.elim (fun h => h.2.2.2.1 rfl) (fun h => by have := hlt _ hS.2.2.1; omega)) (fun h => h.elim (fun h => h.2.2.2.2 rfl) (fun h => by have := hlt _ hS.2.2.2; omega))) hB.size
  refine ⟨none, 0, S', ?_, ?_, ?_, ?_, by decide, hB.mono (fun k _ h => by rw [h]; exact hS.1), b⟩
  · unfold Dn.told Dn.is; rw [ht]; rfl
  · unfold Dn.next; rw [ht]; exact a
  · unfold Dn.told; rw [ht]; exact Row.nil
  · unfold Dn.told; rw [ht]; exact Nat.le_refl 0
theorem pass_sent {d d' : Dn} {x : Sx} {o : List UInt8} {A : Option Addr} {c g gs mm r : Nat} {S : Nat → Prop} {w w0 w' : World} {pk : Cs} (hS : S g ∧ S gs ∧ S mm ∧ S r) (hlt : ∀ k, S k → k < w.heap.size) (hne : g ≠ gs ∧ g ≠ mm ∧ g ≠ r)
    (ht : d.take x = (d', some o)) (hpk : pk.as d'.pick) (hW : Whole w' g 78 (dcs d'.ssrc pk d'.nums gs d'.sent d'.left d'.drop d'.late d'.bad)) (hst : SAt (fun b => DnOwn S g gs mm r b ∨ w0.heap.size ≤ b) w' gs mm r d'.room d'.kept)
    (hB : But (fun k => k = g) w w0) (hB2 : But (fun b => b = g ∨ b = gs ∨ b = mm ∨ b = r) w0 w') (hrow : Row w' w'.heap.size 1 A o.length (u8s o)) (h1 : o.length ≤ c) (h2 : c ≤ maxLen) :
    PassTold d x g S w (.returned (.tuple #[.slice A o.length c, .bool true])) w' := by
  have hz := hB.size
  obtain ⟨S', a, b⟩ := pass_end hS hlt hne hpk hW (hst.weak (D' := fun b => DnOwn S g gs mm r b ∨ w.heap.size ≤ b) (fun b _ h => h.imp id (fun h => Nat.le_trans hz h)) (fun h => h.elim (fun h => h.2.2.1 rfl) (fun h => by have := hlt _ hS.2.1; omega)) (fun h => h.elim (fun h => h.2.2.2.1 rfl) (fun h => by have := hlt _ hS.2.2.1; omega)) (fun h => h.elim (fun h => h.2.2.2.2 rfl) (fun h => by have := hlt _ hS.2.2.2; omega))) (Nat.le_trans hz hB2.size)
  refine ⟨A, c, S', ?_, ?_, ?_, ?_, h2, (hB.mono (fun k _ h => by rw [h]; exact hS.1)).trans (hB2.mono (fun k _ h => ?_)), b⟩
  · unfold Dn.told Dn.is; rw [ht]; rfl
  · unfold Dn.next; rw [ht]; exact a
  · unfold Dn.told; rw [ht]; exact hrow
  · unfold Dn.told; rw [ht]; exact h1
  · rcases h with rfl | rfl | rfl | rfl
    · exact hS.1
    · exact hS.2.1
    · exact hS.2.2.1
    · exact hS.2.2.2
end Go.Proofs.Yticnaljfnjiofaa
