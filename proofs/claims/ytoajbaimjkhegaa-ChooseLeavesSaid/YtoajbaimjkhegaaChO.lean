/-
  What comes in to layer 12's laws: states, packets, what is wanted; rows of them.
-/
import Derived.Test.YtoajbaimjkhegaaChL
import Derived.Test.YtoajbaimjkhegaaLift
import Derived.Lib.SmallJoins
namespace Go.Proofs.Ytoajbaimjkhegaa
open Go.Joins Go.ChangeShapes Go.WideShapes Go.ChangeAt Go.RowKit Go.Deep

section
variable {H : Type} {enc : TypeId × Value → H} {W : World}
theorem trod_3 {e : TypeId} {f0 f1 f2 : Field} (he : Try.prog.underlying e = some (.struct #[f0, f1, f2])) (h0 : f0.offset = 0) (c0 : Try.prog.cellsOf f0.type = 1) (h1 : f1.offset = 1) (c1 : Try.prog.cellsOf f1.type = 1) (h2 : f2.offset = 2) (c2 : Try.prog.cellsOf f2.type = 1) {cs : List Value} (hl : cs.length = 3)
    {k : Nat} {y : DataW H × List MemPlace} (h : DataW.trod enc Try.prog W 0 (fun _ => true) true k e cs = some y) :
    ∃ v0 v1 v2 n, cs = [v0, v1, v2] ∧ (∃ y, DataW.trod enc Try.prog W 0 (fun _ => true) true n f0.type [v0] = some y) ∧ (∃ y, DataW.trod enc Try.prog W 0 (fun _ => true) true n f1.type [v1] = some y) ∧ (∃ y, DataW.trod enc Try.prog W 0 (fun _ => true) true n f2.type [v2] = some y) := by
  obtain ⟨xs, n, rfl, rfl, _, hxl, hf⟩ := DataW.trod_struct he h
  match cs, hl with
  | [v0, v1, v2], _ =>
    have g0 := hf 0 f0 rfl
    rw [h0, c0] at g0
    have g1 := hf 1 f1 rfl
    rw [h1, c1] at g1
    have g2 := hf 2 f2 rfl
    rw [h2, c2] at g2
    simp at hxl
    match xs, hxl with
    | [x0, x1, x2], _ => exact ⟨v0, v1, v2, n, rfl, ⟨x0, by simpa using g0⟩, ⟨x1, by simpa using g1⟩, ⟨x2, by simpa using g2⟩⟩
theorem trod_4 {e : TypeId} {f0 f1 f2 f3 : Field} (he : Try.prog.underlying e = some (.struct #[f0, f1, f2, f3])) (h0 : f0.offset = 0) (c0 : Try.prog.cellsOf f0.type = 1) (h1 : f1.offset = 1) (c1 : Try.prog.cellsOf f1.type = 1) (h2 : f2.offset = 2) (c2 : Try.prog.cellsOf f2.type = 1) (h3 : f3.offset = 3) (c3 : Try.prog.cellsOf f3.type = 1) {cs : List Value} (hl : cs.length = 4)
    {k : Nat} {y : DataW H × List MemPlace} (h : DataW.trod enc Try.prog W 0 (fun _ => true) true k e cs = some y) :
    ∃ v0 v1 v2 v3 n, cs = [v0, v1, v2, v3] ∧ (∃ y, DataW.trod enc Try.prog W 0 (fun _ => true) true n f0.type [v0] = some y) ∧ (∃ y, DataW.trod enc Try.prog W 0 (fun _ => true) true n f1.type [v1] = some y) ∧ (∃ y, DataW.trod enc Try.prog W 0 (fun _ => true) true n f2.type [v2] = some y) ∧ (∃ y, DataW.trod enc Try.prog W 0 (fun _ => true) true n f3.type [v3] = some y) := by
  obtain ⟨xs, n, rfl, rfl, _, hxl, hf⟩ := DataW.trod_struct he h
  match cs, hl with
  | [v0, v1, v2, v3], _ =>
    have g0 := hf 0 f0 rfl
    rw [h0, c0] at g0
    have g1 := hf 1 f1 rfl
    rw [h1, c1] at g1
    have g2 := hf 2 f2 rfl
    rw [h2, c2] at g2
    have g3 := hf 3 f3 rfl
    rw [h3, c3] at g3
    simp at hxl
    match xs, hxl with
    | [x0, x1, x2, x3], _ => exact ⟨v0, v1, v2, v3, n, rfl, ⟨x0, by simpa using g0⟩, ⟨x1, by simpa using g1⟩, ⟨x2, by simpa using g2⟩, ⟨x3, by simpa using g3⟩⟩
theorem trod_7 {e : TypeId} {f0 f1 f2 f3 f4 f5 f6 : Field} (he : Try.prog.underlying e = some (.struct #[f0, f1, f2, f3, f4, f5, f6])) (h0 : f0.offset = 0) (c0 : Try.prog.cellsOf f0.type = 1) (h1 : f1.offset = 1) (c1 : Try.prog.cellsOf f1.type = 1) (h2 : f2.offset = 2) (c2 : Try.prog.cellsOf f2.type = 1) (h3 : f3.offset = 3) (c3 : Try.prog.cellsOf f3.type = 1) (h4 : f4.offset = 4) (c4 : Try.prog.cellsOf f4.type = 1) (h5 : f5.offset = 5) (c5 : Try.prog.cellsOf f5.type = 1) (h6 : f6.offset = 6) (c6 : Try.prog.cellsOf f6.type = 1) {cs : List Value} (hl : cs.length = 7)
    {k : Nat} {y : DataW H × List MemPlace} (h : DataW.trod enc Try.prog W 0 (fun _ => true) true k e cs = some y) :
    ∃ v0 v1 v2 v3 v4 v5 v6 n, cs = [v0, v1, v2, v3, v4, v5, v6] ∧ (∃ y, DataW.trod enc Try.prog W 0 (fun _ => true) true n f0.type [v0] = some y) ∧ (∃ y, DataW.trod enc Try.prog W 0 (fun _ => true) true n f1.type [v1] = some y) ∧ (∃ y, DataW.trod enc Try.prog W 0 (fun _ => true) true n f2.type [v2] = some y) ∧ (∃ y, DataW.trod enc Try.prog W 0 (fun _ => true) true n f3.type [v3] = some y) ∧ (∃ y, DataW.trod enc Try.prog W 0 (fun _ => true) true n f4.type [v4] = some y) ∧ (∃ y, DataW.trod enc Try.prog W 0 (fun _ => true) true n f5.type [v5] = some y) ∧ (∃ y, DataW.trod enc Try.prog W 0 (fun _ => true) true n f6.type [v6] = some y) := by
  obtain ⟨xs, n, rfl, rfl, _, hxl, hf⟩ := DataW.trod_struct he h
  match cs, hl with
  | [v0, v1, v2, v3, v4, v5, v6], _ =>
    have g0 := hf 0 f0 rfl
    rw [h0, c0] at g0
    have g1 := hf 1 f1 rfl
    rw [h1, c1] at g1
    have g2 := hf 2 f2 rfl
    rw [h2, c2] at g2
    have g3 := hf 3 f3 rfl
    rw [h3, c3] at g3
    have g4 := hf 4 f4 rfl
    rw [h4, c4] at g4
    have g5 := hf 5 f5 rfl
    rw [h5, c5] at g5
    have g6 := hf 6 f6 rfl
    rw [h6, c6] at g6
    simp at hxl
    match xs, hxl with
    | [x0, x1, x2, x3, x4, x5, x6], _ => exact ⟨v0, v1, v2, v3, v4, v5, v6, n, rfl, ⟨x0, by simpa using g0⟩, ⟨x1, by simpa using g1⟩, ⟨x2, by simpa using g2⟩, ⟨x3, by simpa using g3⟩, ⟨x4, by simpa using g4⟩, ⟨x5, by simpa using g5⟩, ⟨x6, by simpa using g6⟩⟩
theorem trod_state {cs : List Value} (hl : cs.length = 4) {k : Nat} {y : DataW H × List MemPlace} (h : DataW.trod enc Try.prog W 0 (fun _ => true) true k 23 cs = some y) : ∃ a : Cs, cs = a.cells.toList := by
  obtain ⟨v0, v1, v2, v3, n', rfl, ⟨_, t0⟩, ⟨_, t1⟩, ⟨_, t2⟩, ⟨_, t3⟩⟩ := trod_4 Try.underlying23 rfl (by kernel_rfl) rfl (by kernel_rfl) rfl (by kernel_rfl) rfl (by kernel_rfl) hl h
  obtain ⟨a0, e0, _⟩ := DataW.trod_bool Try.underlying4 t0
  obtain ⟨a1, e1, _, _⟩ := DataW.trod_int Try.underlying3 t1
  obtain ⟨a2, e2, _, _⟩ := DataW.trod_int Try.underlying3 t2
  obtain ⟨a3, e3, _, _⟩ := DataW.trod_int Try.underlying3 t3
  simp only [List.cons.injEq, and_true] at e0 e1 e2 e3
  subst e0 e1 e2 e3
  exact ⟨⟨a0, a1, a2, a3⟩, rfl⟩
theorem trod_in {cs : List Value} (hl : cs.length = 7) {k : Nat} {y : DataW H × List MemPlace} (h : DataW.trod enc Try.prog W 0 (fun _ => true) true k 25 cs = some y) : ∃ a : Cx, cs = a.cells.toList := by
  obtain ⟨v0, v1, v2, v3, v4, v5, v6, n', rfl, ⟨_, t0⟩, ⟨_, t1⟩, ⟨_, t2⟩, ⟨_, t3⟩, ⟨_, t4⟩, ⟨_, t5⟩, ⟨_, t6⟩⟩ := trod_7 Try.underlying25 rfl (by kernel_rfl) rfl (by kernel_rfl) rfl (by kernel_rfl) rfl (by kernel_rfl) rfl (by kernel_rfl) rfl (by kernel_rfl) rfl (by kernel_rfl) hl h
  obtain ⟨a0, e0, _, _⟩ := DataW.trod_int Try.underlying3 t0
  obtain ⟨a1, e1, _, _⟩ := DataW.trod_int Try.underlying3 t1
  obtain ⟨a2, e2, _⟩ := DataW.trod_bool Try.underlying4 t2
  obtain ⟨a3, e3, _⟩ := DataW.trod_bool Try.underlying4 t3
  obtain ⟨a4, e4, _⟩ := DataW.trod_bool Try.underlying4 t4
  obtain ⟨a5, e5, _, _⟩ := DataW.trod_int Try.underlying3 t5
  obtain ⟨a6, e6, _⟩ := DataW.trod_bool Try.underlying4 t6
  simp only [List.cons.injEq, and_true] at e0 e1 e2 e3 e4 e5 e6
  subst e0 e1 e2 e3 e4 e5 e6
  exact ⟨⟨a0, a1, a2, a3, a4, a5, a6⟩, rfl⟩
theorem trod_want {cs : List Value} (hl : cs.length = 3) {k : Nat} {y : DataW H × List MemPlace} (h : DataW.trod enc Try.prog W 0 (fun _ => true) true k 27 cs = some y) : ∃ a : Cw, cs = a.cells.toList := by
  obtain ⟨v0, v1, v2, n', rfl, ⟨_, t0⟩, ⟨_, t1⟩, ⟨_, t2⟩⟩ := trod_3 Try.underlying27 rfl (by kernel_rfl) rfl (by kernel_rfl) rfl (by kernel_rfl) hl h
  obtain ⟨a0, e0, _, _⟩ := DataW.trod_int Try.underlying3 t0
  obtain ⟨a1, e1, _, _⟩ := DataW.trod_int Try.underlying3 t1
  obtain ⟨a2, e2, _, _⟩ := DataW.trod_int Try.underlying3 t2
  simp only [List.cons.injEq, and_true] at e0 e1 e2
  subst e0 e1 e2
  exact ⟨⟨a0, a1, a2⟩, rfl⟩
theorem trod_step {cs : List Value} (hl : cs.length = 10) {k : Nat} {y : DataW H × List MemPlace} (h : DataW.trod enc Try.prog W 0 (fun _ => true) true k 44 cs = some y) : ∃ a : Cx × Cw, cs = a.1.cells.toList ++ a.2.cells.toList := by
  obtain ⟨xs, n, rfl, rfl, _, hxl, hf⟩ := DataW.trod_struct Try.underlying44 h
  have g0 : DataW.trod enc Try.prog W 0 (fun _ => true) true n 25 (List.take (Try.prog.cellsOf 25) (List.drop 0 cs)) = xs[0]? := hf 0 _ rfl
  have g1 : DataW.trod enc Try.prog W 0 (fun _ => true) true n 27 (List.take (Try.prog.cellsOf 27) (List.drop 7 cs)) = xs[1]? := hf 1 _ rfl
  rw [show Try.prog.cellsOf 25 = 7 from by kernel_rfl] at g0
  rw [show Try.prog.cellsOf 27 = 3 from by kernel_rfl] at g1
  match cs, hl with
  | [v0, v1, v2, v3, v4, v5, v6, v7, v8, v9], _ =>
    simp at hxl
    match xs, hxl with
    | [x0, x1], _ =>
      obtain ⟨a, ha⟩ := trod_in (cs := [v0, v1, v2, v3, v4, v5, v6]) rfl (by simpa using g0)
      obtain ⟨b, hb⟩ := trod_want (cs := [v7, v8, v9]) rfl (by simpa using g1)
      exact ⟨(a, b), by rw [← ha, ← hb]; rfl⟩
theorem open_state {r : Reach} {b0 : Nat} {v : Value} {d : DataW H} {p : List MemPlace} (hok : Value.okWide Try.prog W r b0 23 v) (h : DataW.Trod enc Try.prog W 0 (fun _ => true) true 23 v d p) : ∃ s : Cs, v = .agg s.cells := by
  obtain ⟨cs, rfl, hsz⟩ := okWide_struct Try.underlying23 hok
  obtain ⟨fuel, hf⟩ := h
  obtain ⟨a, ha⟩ := trod_state (cs := cs.toList) (by simpa using hsz.trans (by kernel_rfl)) (by simpa [Value.cells] using hf)
  exact ⟨a, by rw [← Array.toArray_toList (xs := cs), ha]⟩
theorem open_in {r : Reach} {b0 : Nat} {v : Value} {d : DataW H} {p : List MemPlace} (hok : Value.okWide Try.prog W r b0 25 v) (h : DataW.Trod enc Try.prog W 0 (fun _ => true) true 25 v d p) : ∃ s : Cx, v = .agg s.cells := by
  obtain ⟨cs, rfl, hsz⟩ := okWide_struct Try.underlying25 hok
  obtain ⟨fuel, hf⟩ := h
  obtain ⟨a, ha⟩ := trod_in (cs := cs.toList) (by simpa using hsz.trans (by kernel_rfl)) (by simpa [Value.cells] using hf)
  exact ⟨a, by rw [← Array.toArray_toList (xs := cs), ha]⟩
theorem open_want {r : Reach} {b0 : Nat} {v : Value} {d : DataW H} {p : List MemPlace} (hok : Value.okWide Try.prog W r b0 27 v) (h : DataW.Trod enc Try.prog W 0 (fun _ => true) true 27 v d p) : ∃ s : Cw, v = .agg s.cells := by
  obtain ⟨cs, rfl, hsz⟩ := okWide_struct Try.underlying27 hok
  obtain ⟨fuel, hf⟩ := h
  obtain ⟨a, ha⟩ := trod_want (cs := cs.toList) (by simpa using hsz.trans (by kernel_rfl)) (by simpa [Value.cells] using hf)
  exact ⟨a, by rw [← Array.toArray_toList (xs := cs), ha]⟩
end

/-- Rows of structs, z cells each. -/
def rowC {α : Type} (conv : α → List Value) (l : List α) : List Value := (l.map conv).flatten
theorem rowC_get {α : Type} {conv : α → List Value} {z : Nat} (hz : ∀ a, (conv a).length = z) : ∀ (l : List α) (k j : Nat) (a : α), l[k]? = some a → j < z → (rowC conv l)[k * z + j]? = (conv a)[j]?
  | [], k, j, a, h, _ => by simp at h
  | b :: l, 0, j, a, h, hj => by
    simp at h
    subst h
    show (conv b ++ rowC conv l)[0 * z + j]? = _
    rw [Nat.zero_mul, Nat.zero_add, List.getElem?_append_left (by rw [hz]; exact hj)]
  | b :: l, k + 1, j, a, h, hj => by
    rw [List.getElem?_cons_succ] at h
    show (conv b ++ rowC conv l)[(k + 1) * z + j]? = _
    rw [List.getElem?_append_right (by rw [hz, Nat.succ_mul]; omega), hz, show (k + 1) * z + j - z = k * z + j by rw [Nat.succ_mul]; omega]
    exact rowC_get hz l k j a h hj
def stepCs (a : Cx × Cw) : List Value := a.1.cells.toList ++ a.2.cells.toList
theorem stepCs_length (a : Cx × Cw) : (stepCs a).length = 10 := rfl
def wantCs (a : Cw) : List Value := a.cells.toList
def inCs (a : Cx) : List Value := a.cells.toList
theorem wantCs_length (a : Cw) : (wantCs a).length = 3 := rfl
theorem inCs_length (a : Cx) : (inCs a).length = 7 := rfl
/-- What the cells of an element hold in a later world. -/
theorem row_at {α : Type} {conv : α → List Value} {z : Nat} (hz : ∀ a, (conv a).length = z) {w : World} {A : Option Addr} {l : List α} {n : Nat} (hr : Row w w.heap.size z A n (rowC conv l)) (hn : 0 < n) :
    ∃ g o, A = some ⟨g, o, none⟩ ∧ g < w.heap.size ∧ ∀ w', Below w.heap.size w w' → ∀ k a j v, l[k]? = some a → (conv a)[j]? = some v → w'.cell? ⟨g, o + k * z + j, none⟩ = some v := by
  obtain ⟨g, o, hA, hg, hc⟩ := hr.2 hn
  refine ⟨g, o, hA, hg, fun w' hb k a j v hk hj => ?_⟩
  have hjz : j < z := by
    have := (List.getElem?_eq_some_iff.1 hj).1
    rwa [hz] at this
  rw [Nat.add_assoc]
  exact (hb.cell (p := ⟨g, o + (k * z + j), none⟩) hg).trans (hc _ _ ((rowC_get hz l k j a hk hjz).trans hj))

section
variable {H : Type} {enc : TypeId × Value → H} {W : World}
theorem open_steps {r : Reach} {b0 : Nat} {v : Value} {d : DataW H} {p : List MemPlace} (hok : Value.okWide Try.prog W r b0 42 v) (h : DataW.Trod enc Try.prog W 0 (fun _ => true) true 42 v d p) :
    ∃ A c, ∃ l : List (Cx × Cw), v = .slice A l.length c ∧ l.length ≤ maxLen ∧ Row W W.heap.size 10 A l.length (rowC stepCs l) := by
  obtain ⟨A, n, c, xss, rfl, hn, hm, hl, hr, hx⟩ := open_rows (z := 10) Try.underlying42 (by kernel_rfl) (by decide) hok h
  obtain ⟨l, rfl, _⟩ := typed_list (conv := stepCs) (Q := fun _ => True) (xss := xss) (fun cs hcs => by
    obtain ⟨h1, k, y, h2⟩ := hx cs hcs
    obtain ⟨a, ha⟩ := trod_step h1 h2
    exact ⟨a, ha, trivial⟩)
  simp only [List.length_map] at hl
  subst hl
  exact ⟨A, c, l, rfl, by omega, hr⟩
theorem open_wants {r : Reach} {b0 : Nat} {v : Value} {d : DataW H} {p : List MemPlace} (hok : Value.okWide Try.prog W r b0 46 v) (h : DataW.Trod enc Try.prog W 0 (fun _ => true) true 46 v d p) :
    ∃ A c, ∃ l : List (Cw), v = .slice A l.length c ∧ l.length ≤ maxLen ∧ Row W W.heap.size 3 A l.length (rowC wantCs l) := by
  obtain ⟨A, n, c, xss, rfl, hn, hm, hl, hr, hx⟩ := open_rows (z := 3) Try.underlying46 (by kernel_rfl) (by decide) hok h
  obtain ⟨l, rfl, _⟩ := typed_list (conv := wantCs) (Q := fun _ => True) (xss := xss) (fun cs hcs => by
    obtain ⟨h1, k, y, h2⟩ := hx cs hcs
    obtain ⟨a, ha⟩ := trod_want h1 h2
    exact ⟨a, ha, trivial⟩)
  simp only [List.length_map] at hl
  subst hl
  exact ⟨A, c, l, rfl, by omega, hr⟩
theorem open_ins {r : Reach} {b0 : Nat} {v : Value} {d : DataW H} {p : List MemPlace} (hok : Value.okWide Try.prog W r b0 48 v) (h : DataW.Trod enc Try.prog W 0 (fun _ => true) true 48 v d p) :
    ∃ A c, ∃ l : List (Cx), v = .slice A l.length c ∧ l.length ≤ maxLen ∧ Row W W.heap.size 7 A l.length (rowC inCs l) := by
  obtain ⟨A, n, c, xss, rfl, hn, hm, hl, hr, hx⟩ := open_rows (z := 7) Try.underlying48 (by kernel_rfl) (by decide) hok h
  obtain ⟨l, rfl, _⟩ := typed_list (conv := inCs) (Q := fun _ => True) (xss := xss) (fun cs hcs => by
    obtain ⟨h1, k, y, h2⟩ := hx cs hcs
    obtain ⟨a, ha⟩ := trod_in h1 h2
    exact ⟨a, ha, trivial⟩)
  simp only [List.length_map] at hl
  subst hl
  exact ⟨A, c, l, rfl, by omega, hr⟩
end
end Go.Proofs.Ytoajbaimjkhegaa
