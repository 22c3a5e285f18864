/-
  What Take answers (layer 12), and memory of four structs.
-/
import Derived.Test.YtoajbaimjkhegaaChR
namespace Go.Proofs.Ytoajbaimjkhegaa
open Go.RowKit
set_option linter.unusedSimpArgs false
set_option linter.unusedVariables false

theorem four_set {b : Nat} {w0 w : World} {r : Nat} (h : Below b w0 w) (hr : b ≤ r) (u0 u1 u2 u3 : Value) : Below b w0 ((((w.setCell ⟨r, 0, none⟩ u0).setCell ⟨r, 1, none⟩ u1).setCell ⟨r, 2, none⟩ u2).setCell ⟨r, 3, none⟩ u3) :=
  (((h.setCell (p := ⟨r, 0, none⟩) hr u0).setCell (p := ⟨r, 1, none⟩) hr u1).setCell (p := ⟨r, 2, none⟩) hr u2).setCell (p := ⟨r, 3, none⟩) hr u3
/-- What Take answers. -/
def ChOut (s : Cs) (x : Cx) (u : Cw) (w : World) (e : Ending) (w' : World) : Prop :=
  e = .returned (.tuple #[.agg (s.next x u).cells, .int .i64 (s.kind x u)]) ∧ Below w.heap.size w w'
theorem four_new {w : World} {t t1 t2 t3 : TypeId} (a b c d : Array Value) :
    Whole ((((w.alloc (.cells a t)).alloc (.cells b t1)).alloc (.cells c t2)).alloc (.cells d t3)) w.heap.size t a ∧
    Whole ((((w.alloc (.cells a t)).alloc (.cells b t1)).alloc (.cells c t2)).alloc (.cells d t3)) (w.heap.size + 1) t1 b ∧
    Whole ((((w.alloc (.cells a t)).alloc (.cells b t1)).alloc (.cells c t2)).alloc (.cells d t3)) (w.heap.size + 1 + 1) t2 c ∧
    Whole ((((w.alloc (.cells a t)).alloc (.cells b t1)).alloc (.cells c t2)).alloc (.cells d t3)) (w.heap.size + 1 + 1 + 1) t3 d ∧
    Below w.heap.size w ((((w.alloc (.cells a t)).alloc (.cells b t1)).alloc (.cells c t2)).alloc (.cells d t3)) := by
  have h1 := Whole.new w t a
  have h2 : Whole ((w.alloc (.cells a t)).alloc (.cells b t1)) (w.heap.size + 1) t1 b := Whole.new2 w (.cells a t) t1 b
  have h3 : Whole (((w.alloc (.cells a t)).alloc (.cells b t1)).alloc (.cells c t2)) (w.heap.size + 1 + 1) t2 c := by have := Whole.new2 (w.alloc (.cells a t)) (.cells b t1) t2 c; simpa using this
  have h4 : Whole ((((w.alloc (.cells a t)).alloc (.cells b t1)).alloc (.cells c t2)).alloc (.cells d t3)) (w.heap.size + 1 + 1 + 1) t3 d := by have := Whole.new2 ((w.alloc (.cells a t)).alloc (.cells b t1)) (.cells c t2) t3 d; simpa using this
  have h0 := ((((Below.refl w.heap.size w).alloc (Nat.le_refl _) (.cells a t)).alloc (by simp) (.cells b t1)).alloc (by simp; omega) (.cells c t2)).alloc (by simp; omega) (.cells d t3)
  exact ⟨((h1.alloc _).alloc _).alloc _, (h2.alloc _).alloc _, h3.alloc _, h4, h0⟩

end Go.Proofs.Ytoajbaimjkhegaa
