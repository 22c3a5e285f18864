/-
  Rows of the call's own, and rows anywhere: what leaves them as they are. Nothing here names the program.
-/
import Derived.Test.YtmmeceehfdbdoaaMemW
import Derived.Test.YtmmeceehfdbdoaaOwnW
namespace Go.Proofs.Ytmmeceehfdbdoaa
open Go.RowKit

section
variable {w w' : World} {S : Nat → Prop} {base : Nat} {e : TypeId} {z n : Nat} {v : Value} {xs : List Value}
/-- A row stays, where none of its block is turned. -/
theorem row_butX {B : Nat} {A : Option Addr} (h : Row w B z A n xs) (hB : B ≤ w.heap.size) (k : But S w w') (hS : ∀ a, A = some a → ¬ S a.block) : Row w' B z A n xs :=
  ⟨h.1, fun hn => by
    obtain ⟨g, o, e, hb, hc⟩ := h.2 hn
    exact ⟨g, o, e, hb, fun j u hu => (World.cell?_of_block (a := ⟨g, o + j, none⟩) (k.block g (by omega) (hS _ e))).trans (hc j u hu)⟩⟩
theorem row_grownX {B : Nat} {A : Option Addr} {row : Option Nat} (h : Row w B z A n xs) (hB : B ≤ w.heap.size) (k : w.grownBy w' row) (hS : ∀ a, A = some a → row ≠ some a.block) : Row w' B z A n xs :=
  ⟨h.1, fun hn => by
    obtain ⟨g, o, e, hb, hc⟩ := h.2 hn
    exact ⟨g, o, e, hb, fun j u hu => (World.cell?_of_block (a := ⟨g, o + j, none⟩) (k.block g (by omega) (fun e' => hS _ e e'.symm))).trans (hc j u hu)⟩⟩
theorem row_farX {B : Nat} {A : Option Addr} {p : Addr} {u : Value} (h : Row w B z A n xs) (hS : ∀ a, A = some a → p.block ≠ a.block) : Row (w.setCell p u) B z A n xs :=
  ⟨h.1, fun hn => by
    obtain ⟨g, o, e, hb, hc⟩ := h.2 hn
    exact ⟨g, o, e, hb, fun j u' hu => (World.cell?_of_block (a := ⟨g, o + j, none⟩) (Below.heap_setCell _ _ _ _ (fun e' => hS _ e e'.symm))).trans (hc j u' hu)⟩⟩
theorem own_butX (h : w.ownsRow base e z v n xs) (k : But S w w') (hv : ∀ q, v.ownBlock = some q → ¬ S q) : w'.ownsRow base e z v n xs := by
  refine ⟨h.1, h.2.imp id ?_⟩
  rintro ⟨g, cap, cur, h1, h2, h3, h4⟩
  have hg : ¬ S g := hv g (by rw [h1]; rfl)
  have hlt : g < w.heap.size := (Array.getElem?_eq_some_iff.1 h3).1
  exact ⟨g, cap, cur, h1, h2, (k.block g hlt hg).trans h3, h4⟩
theorem own_grownX {row : Option Nat} (h : w.ownsRow base e z v n xs) (k : w.grownBy w' row) (hv : ∀ q, v.ownBlock = some q → row ≠ some q) : w'.ownsRow base e z v n xs := by
  refine ⟨h.1, h.2.imp id ?_⟩
  rintro ⟨g, cap, cur, h1, h2, h3, h4⟩
  have hlt : g < w.heap.size := (Array.getElem?_eq_some_iff.1 h3).1
  exact ⟨g, cap, cur, h1, h2, (k.block g hlt (fun e => hv g (by rw [h1]; rfl) e.symm)).trans h3, h4⟩
theorem own_farX {p : Addr} {u : Value} (h : w.ownsRow base e z v n xs) (hv : ∀ q, v.ownBlock = some q → p.block ≠ q) : (w.setCell p u).ownsRow base e z v n xs := by
  refine ⟨h.1, h.2.imp id ?_⟩
  rintro ⟨g, cap, cur, h1, h2, h3, h4⟩
  exact ⟨g, cap, cur, h1, h2, (Below.heap_setCell _ _ _ _ (fun e => hv g (by rw [h1]; rfl) e.symm)).trans h3, h4⟩
/-- Two rows of elements of other types lie in other blocks. -/
theorem own_apartX {b b' : Nat} {e' : TypeId} {z' n' : Nat} {v' : Value} {xs' : List Value} (h : w.ownsRow b e z v n xs) (h' : w.ownsRow b' e' z' v' n' xs') (hne : e ≠ e') : ∀ q, v.ownBlock = some q → v'.ownBlock ≠ some q := by
  rcases h.2 with ⟨rfl, _⟩ | ⟨g, cap, cur, rfl, _, hh, _⟩
  · intro q hq; simp [Value.ownBlock] at hq
  · rcases h'.2 with ⟨rfl, _⟩ | ⟨g', cap', cur', rfl, _, hh', _⟩
    · intro q _; simp [Value.ownBlock]
    · intro q hq he
      have e1 : g = q := by simpa [Value.ownBlock] using hq
      have e2 : g' = q := by simpa [Value.ownBlock] using he
      subst e1
      subst e2
      rw [hh] at hh'
      injection hh' with hh'
      injection hh' with _ ht
      exact hne ht
/-- What a row of the call's own is, where it has a block: all of it known, where it lies. -/
theorem own_wholeX {A : Option Addr} {c : Nat} (h : w.ownsRow base e z (.slice A n c) n xs) (hn : 0 < n) : ∃ g cur, A = some ⟨g, 0, none⟩ ∧ base ≤ g ∧ Whole w g e cur ∧ n * z ≤ cur.size := by
  rcases h.2 with ⟨_, h0⟩ | ⟨g, cap, cur, h1, h2, h3, h4, h5, h6, _⟩
  · omega
  · injection h1 with h1 _ _
    exact ⟨g, cur, h1, h2, h3, by have := Nat.mul_le_mul_right z h4; omega⟩
end
end Go.Proofs.Ytmmeceehfdbdoaa
