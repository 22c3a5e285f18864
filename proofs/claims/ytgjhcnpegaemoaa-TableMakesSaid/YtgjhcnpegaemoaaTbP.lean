/-
  A table that may be nil; its calls told in one way.
-/
import Derived.Test.YtgjhcnpegaemoaaTbC
import Derived.Test.YtgjhcnpegaemoaaTbQ
import Derived.Test.YtgjhcnpegaemoaaTbPl
import Derived.Test.YtgjhcnpegaemoaaTbM
namespace Go.Proofs.Ytgjhcnpegaemoaa
open Go.RowKit

theorem I64.of {k : Int} (h : (Lit.int .i64 k).wf = true) : I64 k := by
  have := wf_i64 h
  unfold I64
  omega
/-- A table, or nil: of nil there is nothing. -/
def TOp (w : World) (P : Option Addr) (S : Nat → Prop) (p : Int) (R : List Rt) (D : List Dn) : Prop :=
  (P = none ∧ p = 0 ∧ R = [] ∧ D = [] ∧ ∀ k, ¬ S k) ∨ ∃ g, P = some ⟨g, 0, none⟩ ∧ TAt w g S p R D
section
variable {w w' : World} {P : Option Addr} {S : Nat → Prop} {p : Int} {R : List Rt} {D : List Dn}
theorem TOp.lt (h : TOp w P S p R D) : ∀ k, S k → k < w.heap.size := by
  rcases h with ⟨_, _, _, _, hS⟩ | ⟨g, _, h⟩
  · exact fun k hk => absurd hk (hS k)
  · exact h.lt
theorem TOp.keep (h : TOp w P S p R D) (hs : w.heap.size ≤ w'.heap.size) (hk : ∀ k, S k → w'.heap[k]? = w.heap[k]?) : TOp w' P S p R D := by
  rcases h with h | ⟨g, e, h⟩
  · exact .inl h
  · exact .inr ⟨g, e, h.keep hs hk⟩
theorem TOp.next (h : TOp w P S p R D) (hb : Below w.heap.size w w') : TOp w' P S p R D := h.keep hb.size fun k hk => hb.block k (h.lt k hk)
theorem TAt.op {g : Nat} (h : TAt w g S p R D) : TOp w (some ⟨g, 0, none⟩) S p R D := .inr ⟨g, rfl, h⟩
theorem TOp.nil (w : World) : TOp w none (fun _ => False) 0 [] [] := .inl ⟨rfl, rfl, rfl, rfl, fun _ h => h⟩
theorem oepoch (h : TOp w P S p R D) : Calls Try.prog 21 #[.pointer P] w fun e w' => e = .returned (.int .u64 p) ∧ Below w.heap.size w w' := by
  rcases h with ⟨rfl, rfl, rfl, rfl, _⟩ | ⟨g, rfl, h⟩
  · exact tepoch_nil w
  · exact tepoch_any g S p R D w h
theorem oroute (h : TOp w P S p R D) (s : Int) (hs : 0 ≤ s ∧ s < 4294967296) : Calls Try.prog 12 #[.pointer P, .int .u32 s] w fun e w' => e = .returned (rtOut (routeS R s)) ∧ Below w.heap.size w w' := by
  rcases h with ⟨rfl, rfl, rfl, rfl, _⟩ | ⟨g, rfl, h⟩
  · exact troute_nil w s
  · exact troute_any g S p R D w s hs h
theorem oown (h : TOp w P S p R D) (s : Int) (hs : 0 ≤ s ∧ s < 4294967296) : Calls Try.prog 14 #[.pointer P, .int .u32 s] w fun e w' => e = .returned (dnOut (ownS D s)) ∧ Below w.heap.size w w' := by
  rcases h with ⟨rfl, rfl, rfl, rfl, _⟩ | ⟨g, rfl, h⟩
  · exact town_nil w s
  · exact town_any g S p R D w s hs h
theorem osource (h : TOp w P S p R D) (t y : Int) (ht : I64 t) (hy : I64 y) : Calls Try.prog 16 #[.pointer P, .int .i64 t, .int .i64 y] w fun e w' => e = .returned (srcOut (sourceS R t y)) ∧ Below w.heap.size w w' := by
  rcases h with ⟨rfl, rfl, rfl, rfl, _⟩ | ⟨g, rfl, h⟩
  · exact tsource_nil w t y
  · exact tsource_any g S p R D w t y ht hy h
theorem odowns (h : TOp w P S p R D) (t : Int) (ht : I64 t) : Calls Try.prog 18 #[.pointer P, .int .i64 t] w (NewRow 41 10 (downsS D t).length (dnC (downsS D t)) w) := by
  rcases h with ⟨rfl, rfl, rfl, rfl, _⟩ | ⟨g, rfl, h⟩
  · exact tdowns_nil w t
  · exact tdowns_any g S p R D w t ht h
theorem olen (h : TOp w P S p R D) : Calls Try.prog 22 #[.pointer P] w fun e w' => e = .returned (.int .i64 (D.length : Int)) ∧ Below w.heap.size w w' := by
  rcases h with ⟨rfl, rfl, rfl, rfl, _⟩ | ⟨g, rfl, h⟩
  · exact tlen_nil w
  · exact tlen_any g S p R D w h
end

theorem info_tr : (Try.prog.info? 37).map (fun i => (i.zero, i.size, i.bytes)) = some (some (.agg #[.int .u32 0, .int .i64 0, .int .i64 0, .int .i64 0, .int .i64 0]), 5, 40) := by kernel_rfl
theorem info_td : (Try.prog.info? 41).map (fun i => (i.zero, i.size, i.bytes)) = some (some (.agg #[.int .u32 0, .int .i64 0, .int .u32 0, .int .i64 0, .int .i64 0, .int .i64 0, .int .i64 0, .int .i64 0, .int .i64 0, .bool false]), 10, 80) := by kernel_rfl
theorem TMade.op {p : Int} {R : List Rt} {D : List Dn} {w : World} {e : Ending} {w' : World} (h : TMade p R D w e w') : ∃ P S, e = .returned (.tuple #[.pointer P, .int .i64 (if decide (May R D) = true then 0 else 1)]) ∧
    TOp w' P S (if decide (May R D) = true then p else 0) (if decide (May R D) = true then R else []) (if decide (May R D) = true then D else []) ∧ (∀ k, S k → w.heap.size ≤ k) ∧ Below w.heap.size w w' ∧ (decide (May R D) = true → ∃ a, P = some a) ∧ (decide (May R D) = false → P = none) := by
  rcases h with ⟨hm, g, S, he, ht, hs, hb⟩ | ⟨hm, he, hb⟩
  · have hd : decide (May R D) = true := decide_eq_true hm
    refine ⟨some ⟨g, 0, none⟩, S, ?_, ?_, hs, hb, fun _ => ⟨_, rfl⟩, fun h => by rw [hd] at h; cases h⟩
    · rw [he, if_pos hd]
    · rw [if_pos hd, if_pos hd, if_pos hd]; exact ht.op
  · have hd : decide (May R D) = false := decide_eq_false hm
    refine ⟨none, fun _ => False, ?_, ?_, fun k h => absurd h id, hb, fun h => by (rw [hd] at h; cases h), fun _ => rfl⟩
    · rw [he, hd]; rfl
    · rw [hd]; exact TOp.nil w'
end Go.Proofs.Ytgjhcnpegaemoaa
