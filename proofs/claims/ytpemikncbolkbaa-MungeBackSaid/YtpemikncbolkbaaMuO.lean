/-
  What comes in to layer 13's laws: numbers, states, steps, parts; rows of them.
-/
import Derived.Test.YtpemikncbolkbaaMuL
import Derived.Test.YtpemikncbolkbaaOpn
namespace Go.Proofs.Ytpemikncbolkbaa
set_option maxRecDepth 100000
open Go.ChangeShapes Go.WideShapes Go.ChangeAt Go.RowKit

/-- A step: what is done. -/
structure Mk where
  kind : Int
  num : Mn
  time : Int
  beg : Bool
def Mk.cells (x : Mk) : Array Value := #[.int .i64 x.kind, .int .u16 x.num.seq, .int .u32 x.num.time, .int .u16 x.num.pic, .int .u8 x.num.tl0, .int .u32 x.time, .bool x.beg]
def Mk.Fit (x : Mk) : Prop := x.num.Fit ∧ 0 ≤ x.time ∧ x.time < 4294967296
/-- A part: packets of one stream. -/
structure Mp where
  num : Mn
  step : Int
  A : Option Addr
  c : Nat
  gone : List Bool
def Mp.cells (x : Mp) : Array Value := #[.int .u16 x.num.seq, .int .u32 x.num.time, .int .u16 x.num.pic, .int .u8 x.num.tl0, .int .u32 x.step, .slice x.A x.gone.length x.c]
def Mp.Fit (W : World) (x : Mp) : Prop := x.num.Fit ∧ (0 ≤ x.step ∧ x.step < 4294967296) ∧ x.gone.length ≤ maxLen ∧ Row W W.heap.size 1 x.A x.gone.length (x.gone.map Value.bool)
def stepCs (x : Mk) : List Value := x.cells.toList
theorem stepCs_length (a : Mk) : (stepCs a).length = 7 := rfl
def partCs (x : Mp) : List Value := x.cells.toList
theorem partCs_length (a : Mp) : (partCs a).length = 6 := rfl

section
variable {H : Type} {enc : TypeId × Value → H} {W : World}
theorem flat_one (f : Bool → Value) (l : List Bool) : (l.map fun b => [f b]).flatten = l.map f := by
  induction l with
  | nil => rfl
  | cons a l ih => simp [ih]
theorem trod_nums {cs : List Value} (hl : cs.length = 4) {k : Nat} {y : DataW H × List MemPlace} (h : DataW.trod enc Try.prog W 0 (fun _ => true) true k 25 cs = some y) : ∃ a : Mn, cs = a.cells.toList ∧ a.Fit := by
  obtain ⟨n, hp⟩ := struct_parts Try.underlying25 h
  match cs, hl with
  | [v0, v1, v2, v3], _ =>
    obtain ⟨z0, t0⟩ : ∃ z, DataW.trod enc Try.prog W 0 (fun _ => true) true n 22 (([v0, v1, v2, v3].drop 0).take (Try.prog.cellsOf 22)) = some z := hp 0 _ rfl
    rw [show Try.prog.cellsOf 22 = 1 from by kernel_rfl] at t0
    obtain ⟨a0, e0, _, w0⟩ := DataW.trod_int Try.underlying22 t0
    have w0 := wf_u16 w0
    simp at e0
    obtain ⟨z1, t1⟩ : ∃ z, DataW.trod enc Try.prog W 0 (fun _ => true) true n 23 (([v0, v1, v2, v3].drop 1).take (Try.prog.cellsOf 23)) = some z := hp 1 _ rfl
    rw [show Try.prog.cellsOf 23 = 1 from by kernel_rfl] at t1
    obtain ⟨a1, e1, _, w1⟩ := DataW.trod_int Try.underlying23 t1
    have w1 := wf_u32 w1
    simp at e1
    obtain ⟨z2, t2⟩ : ∃ z, DataW.trod enc Try.prog W 0 (fun _ => true) true n 22 (([v0, v1, v2, v3].drop 2).take (Try.prog.cellsOf 22)) = some z := hp 2 _ rfl
    rw [show Try.prog.cellsOf 22 = 1 from by kernel_rfl] at t2
    obtain ⟨a2, e2, _, w2⟩ := DataW.trod_int Try.underlying22 t2
    have w2 := wf_u16 w2
    simp at e2
    obtain ⟨z3, t3⟩ : ∃ z, DataW.trod enc Try.prog W 0 (fun _ => true) true n 5 (([v0, v1, v2, v3].drop 3).take (Try.prog.cellsOf 5)) = some z := hp 3 _ rfl
    rw [show Try.prog.cellsOf 5 = 1 from by kernel_rfl] at t3
    obtain ⟨a3, e3, _, w3⟩ := DataW.trod_int Try.underlying5 t3
    have w3 := wf_u8 w3
    simp at e3
    subst e0 e1 e2 e3
    exact ⟨⟨a0, a1, a2, a3⟩, rfl, ⟨w0, w1, w2, w3⟩⟩
theorem trod_state {cs : List Value} (hl : cs.length = 11) {k : Nat} {y : DataW H × List MemPlace} (h : DataW.trod enc Try.prog W 0 (fun _ => true) true k 27 cs = some y) : ∃ a : Mst, cs = a.cells.toList ∧ a.Parts := by
  obtain ⟨n, hp⟩ := struct_parts Try.underlying27 h
  match cs, hl with
  | [v0, v1, v2, v3, v4, v5, v6, v7, v8, v9, v10], _ =>
    obtain ⟨z0, t0⟩ : ∃ z, DataW.trod enc Try.prog W 0 (fun _ => true) true n 4 (([v0, v1, v2, v3, v4, v5, v6, v7, v8, v9, v10].drop 0).take (Try.prog.cellsOf 4)) = some z := hp 0 _ rfl
    rw [show Try.prog.cellsOf 4 = 1 from by kernel_rfl] at t0
    obtain ⟨a0, e0, _⟩ := DataW.trod_bool Try.underlying4 t0
    simp at e0
    obtain ⟨z1, t1⟩ : ∃ z, DataW.trod enc Try.prog W 0 (fun _ => true) true n 2 (([v0, v1, v2, v3, v4, v5, v6, v7, v8, v9, v10].drop 1).take (Try.prog.cellsOf 2)) = some z := hp 1 _ rfl
    rw [show Try.prog.cellsOf 2 = 1 from by kernel_rfl] at t1
    obtain ⟨a1, e1, _, w1⟩ := DataW.trod_int Try.underlying2 t1
    have w1 := wf_i64 w1
    simp at e1
    obtain ⟨z2, t2⟩ : ∃ z, DataW.trod enc Try.prog W 0 (fun _ => true) true n 2 (([v0, v1, v2, v3, v4, v5, v6, v7, v8, v9, v10].drop 2).take (Try.prog.cellsOf 2)) = some z := hp 2 _ rfl
    rw [show Try.prog.cellsOf 2 = 1 from by kernel_rfl] at t2
    obtain ⟨a2, e2, _, w2⟩ := DataW.trod_int Try.underlying2 t2
    have w2 := wf_i64 w2
    simp at e2
    obtain ⟨z3, t3⟩ : ∃ z, DataW.trod enc Try.prog W 0 (fun _ => true) true n 25 (([v0, v1, v2, v3, v4, v5, v6, v7, v8, v9, v10].drop 3).take (Try.prog.cellsOf 25)) = some z := hp 3 _ rfl
    rw [show Try.prog.cellsOf 25 = 4 from by kernel_rfl] at t3
    obtain ⟨a3, e3, q3⟩ := trod_nums (cs := [v3, v4, v5, v6]) rfl (by simpa using t3)
    obtain ⟨z4, t4⟩ : ∃ z, DataW.trod enc Try.prog W 0 (fun _ => true) true n 25 (([v0, v1, v2, v3, v4, v5, v6, v7, v8, v9, v10].drop 7).take (Try.prog.cellsOf 25)) = some z := hp 4 _ rfl
    rw [show Try.prog.cellsOf 25 = 4 from by kernel_rfl] at t4
    obtain ⟨a4, e4, q4⟩ := trod_nums (cs := [v7, v8, v9, v10]) rfl (by simpa using t4)
    subst e0 e1 e2
    simp only [Mn.cells, List.cons.injEq, and_true] at e3 e4
    obtain ⟨rfl, rfl, rfl, rfl⟩ := e3
    obtain ⟨rfl, rfl, rfl, rfl⟩ := e4
    exact ⟨⟨a0, a1, a2, a3, a4⟩, rfl, w1, q3, q4⟩
theorem trod_step {cs : List Value} (hl : cs.length = 7) {k : Nat} {y : DataW H × List MemPlace} (h : DataW.trod enc Try.prog W 0 (fun _ => true) true k 29 cs = some y) : ∃ a : Mk, cs = a.cells.toList ∧ a.Fit := by
  obtain ⟨n, hp⟩ := struct_parts Try.underlying29 h
  match cs, hl with
  | [v0, v1, v2, v3, v4, v5, v6], _ =>
    obtain ⟨z0, t0⟩ : ∃ z, DataW.trod enc Try.prog W 0 (fun _ => true) true n 3 (([v0, v1, v2, v3, v4, v5, v6].drop 0).take (Try.prog.cellsOf 3)) = some z := hp 0 _ rfl
    rw [show Try.prog.cellsOf 3 = 1 from by kernel_rfl] at t0
    obtain ⟨a0, e0, _, w0⟩ := DataW.trod_int Try.underlying3 t0
    have w0 := wf_i64 w0
    simp at e0
    obtain ⟨z1, t1⟩ : ∃ z, DataW.trod enc Try.prog W 0 (fun _ => true) true n 25 (([v0, v1, v2, v3, v4, v5, v6].drop 1).take (Try.prog.cellsOf 25)) = some z := hp 1 _ rfl
    rw [show Try.prog.cellsOf 25 = 4 from by kernel_rfl] at t1
    obtain ⟨a1, e1, q1⟩ := trod_nums (cs := [v1, v2, v3, v4]) rfl (by simpa using t1)
    obtain ⟨z2, t2⟩ : ∃ z, DataW.trod enc Try.prog W 0 (fun _ => true) true n 23 (([v0, v1, v2, v3, v4, v5, v6].drop 5).take (Try.prog.cellsOf 23)) = some z := hp 2 _ rfl
    rw [show Try.prog.cellsOf 23 = 1 from by kernel_rfl] at t2
    obtain ⟨a2, e2, _, w2⟩ := DataW.trod_int Try.underlying23 t2
    have w2 := wf_u32 w2
    simp at e2
    obtain ⟨z3, t3⟩ : ∃ z, DataW.trod enc Try.prog W 0 (fun _ => true) true n 4 (([v0, v1, v2, v3, v4, v5, v6].drop 6).take (Try.prog.cellsOf 4)) = some z := hp 3 _ rfl
    rw [show Try.prog.cellsOf 4 = 1 from by kernel_rfl] at t3
    obtain ⟨a3, e3, _⟩ := DataW.trod_bool Try.underlying4 t3
    simp at e3
    subst e0 e2 e3
    simp only [Mn.cells, List.cons.injEq, and_true] at e1
    obtain ⟨rfl, rfl, rfl, rfl⟩ := e1
    exact ⟨⟨a0, a1, a2, a3⟩, rfl, q1, w2⟩
theorem trod_part {cs : List Value} (hl : cs.length = 6) {k : Nat} {y : DataW H × List MemPlace} (h : DataW.trod enc Try.prog W 0 (fun _ => true) true k 53 cs = some y) : ∃ a : Mp, cs = partCs a ∧ a.Fit W := by
  obtain ⟨n, hp⟩ := struct_parts Try.underlying53 h
  match cs, hl with
  | [v0, v1, v2, v3, v4, v5], _ =>
    obtain ⟨z0, t0⟩ : ∃ z, DataW.trod enc Try.prog W 0 (fun _ => true) true n 25 (([v0, v1, v2, v3, v4, v5].drop 0).take (Try.prog.cellsOf 25)) = some z := hp 0 _ rfl
    rw [show Try.prog.cellsOf 25 = 4 from by kernel_rfl] at t0
    obtain ⟨a0, e0, q0⟩ := trod_nums (cs := [v0, v1, v2, v3]) rfl (by simpa using t0)
    obtain ⟨z1, t1⟩ : ∃ z, DataW.trod enc Try.prog W 0 (fun _ => true) true n 23 (([v0, v1, v2, v3, v4, v5].drop 4).take (Try.prog.cellsOf 23)) = some z := hp 1 _ rfl
    rw [show Try.prog.cellsOf 23 = 1 from by kernel_rfl] at t1
    obtain ⟨a1, e1, _, w1⟩ := DataW.trod_int Try.underlying23 t1
    have w1 := wf_u32 w1
    simp at e1
    obtain ⟨z2, t2⟩ : ∃ z, DataW.trod enc Try.prog W 0 (fun _ => true) true n 51 (([v0, v1, v2, v3, v4, v5].drop 5).take (Try.prog.cellsOf 51)) = some z := hp 2 _ rfl
    rw [show Try.prog.cellsOf 51 = 1 from by kernel_rfl] at t2
    obtain ⟨A2, n2, c2, xss2, e2, hn2, hc2, hx2, hr2, hq2⟩ := rows_cell (z := 1) Try.underlying51 (by kernel_rfl) (by decide) (v := v5) (by simpa using t2)
    subst e1 e2
    simp only [Mn.cells, List.cons.injEq, and_true] at e0
    obtain ⟨rfl, rfl, rfl, rfl⟩ := e0
    obtain ⟨g, rfl, _⟩ := typed_list (conv := fun b : Bool => [Value.bool b]) (Q := fun _ => True) (xss := xss2) (fun cs hcs => by
      obtain ⟨h1, k, y, h2⟩ := hq2 cs hcs
      obtain ⟨b, hb, _⟩ := DataW.trod_bool Try.underlying4 h2
      exact ⟨b, hb, trivial⟩)
    rw [flat_one Value.bool] at hr2
    simp only [List.length_map] at hx2
    subst hx2
    exact ⟨⟨a0, a1, A2, c2, g⟩, rfl, q0, w1, by show g.length ≤ maxLen; omega, hr2⟩
theorem open_mn {r : Reach} {b0 : Nat} {v : Value} {d : DataW H} {p : List MemPlace} (hok : Value.okWide Try.prog W r b0 25 v) (h : DataW.Trod enc Try.prog W 0 (fun _ => true) true 25 v d p) : ∃ a : Mn, v = .agg a.cells ∧ a.Fit := by
  obtain ⟨cs, rfl, hsz⟩ := okWide_struct Try.underlying25 hok
  obtain ⟨fuel, hf⟩ := h
  obtain ⟨a, ha, hq⟩ := trod_nums (cs := cs.toList) (by simpa using hsz.trans (by kernel_rfl)) (by simpa [Value.cells] using hf)
  exact ⟨a, by rw [← Array.toArray_toList (xs := cs), ha], hq⟩
theorem open_state {r : Reach} {b0 : Nat} {v : Value} {d : DataW H} {p : List MemPlace} (hok : Value.okWide Try.prog W r b0 27 v) (h : DataW.Trod enc Try.prog W 0 (fun _ => true) true 27 v d p) : ∃ a : Mst, v = .agg a.cells ∧ a.Parts := by
  obtain ⟨cs, rfl, hsz⟩ := okWide_struct Try.underlying27 hok
  obtain ⟨fuel, hf⟩ := h
  obtain ⟨a, ha, hq⟩ := trod_state (cs := cs.toList) (by simpa using hsz.trans (by kernel_rfl)) (by simpa [Value.cells] using hf)
  exact ⟨a, by rw [← Array.toArray_toList (xs := cs), ha], hq⟩
theorem open_step {r : Reach} {b0 : Nat} {v : Value} {d : DataW H} {p : List MemPlace} (hok : Value.okWide Try.prog W r b0 29 v) (h : DataW.Trod enc Try.prog W 0 (fun _ => true) true 29 v d p) : ∃ a : Mk, v = .agg a.cells ∧ a.Fit := by
  obtain ⟨cs, rfl, hsz⟩ := okWide_struct Try.underlying29 hok
  obtain ⟨fuel, hf⟩ := h
  obtain ⟨a, ha, hq⟩ := trod_step (cs := cs.toList) (by simpa using hsz.trans (by kernel_rfl)) (by simpa [Value.cells] using hf)
  exact ⟨a, by rw [← Array.toArray_toList (xs := cs), ha], hq⟩
theorem open_steps {r : Reach} {b0 : Nat} {v : Value} {d : DataW H} {p : List MemPlace} (hok : Value.okWide Try.prog W r b0 48 v) (h : DataW.Trod enc Try.prog W 0 (fun _ => true) true 48 v d p) :
    ∃ A c, ∃ l : List Mk, v = .slice A l.length c ∧ l.length ≤ maxLen ∧ Row W W.heap.size 7 A l.length (rowC stepCs l) ∧ ∀ a ∈ l, a.Fit := by
  obtain ⟨A, n, c, xss, rfl, hn, hm, hl, hr, hx⟩ := open_rows (z := 7) Try.underlying48 (by kernel_rfl) (by decide) hok h
  obtain ⟨l, he, hll, hq⟩ := typed_rows (conv := stepCs) (Q := fun a => a.Fit) (xss := xss) (fun cs hcs => by
    obtain ⟨h1, k, y, h2⟩ := hx cs hcs
    exact trod_step h1 h2)
  rw [he] at hr
  obtain rfl : n = l.length := hl.symm.trans hll
  exact ⟨A, c, l, rfl, by omega, hr, hq⟩
theorem open_parts {r : Reach} {b0 : Nat} {v : Value} {d : DataW H} {p : List MemPlace} (hok : Value.okWide Try.prog W r b0 50 v) (h : DataW.Trod enc Try.prog W 0 (fun _ => true) true 50 v d p) :
    ∃ A c, ∃ l : List Mp, v = .slice A l.length c ∧ l.length ≤ maxLen ∧ Row W W.heap.size 6 A l.length (rowC partCs l) ∧ ∀ a ∈ l, a.Fit W := by
  obtain ⟨A, n, c, xss, rfl, hn, hm, hl, hr, hx⟩ := open_rows (z := 6) Try.underlying50 (by kernel_rfl) (by decide) hok h
  obtain ⟨l, he, hll, hq⟩ := typed_rows (conv := partCs) (Q := fun a => a.Fit W) (xss := xss) (fun cs hcs => by
    obtain ⟨h1, k, y, h2⟩ := hx cs hcs
    exact trod_part h1 h2)
  rw [he] at hr
  obtain rfl : n = l.length := hl.symm.trans hll
  exact ⟨A, c, l, rfl, by omega, hr, hq⟩
theorem open_bools {r : Reach} {b0 : Nat} {v : Value} {d : DataW H} {p : List MemPlace} (hok : Value.okWide Try.prog W r b0 51 v) (h : DataW.Trod enc Try.prog W 0 (fun _ => true) true 51 v d p) :
    ∃ A c, ∃ l : List Bool, v = .slice A l.length c ∧ l.length ≤ maxLen ∧ Row W W.heap.size 1 A l.length (l.map Value.bool) := by
  obtain ⟨A, n, c, xss, rfl, hn, hm, hl, hr, hx⟩ := open_rows (z := 1) Try.underlying51 (by kernel_rfl) (by decide) hok h
  obtain ⟨g, rfl, _⟩ := typed_list (conv := fun b : Bool => [Value.bool b]) (Q := fun _ => True) (xss := xss) (fun cs hcs => by
    obtain ⟨h1, k, y, h2⟩ := hx cs hcs
    obtain ⟨b, hb, _⟩ := DataW.trod_bool Try.underlying4 h2
    exact ⟨b, hb, trivial⟩)
  rw [flat_one Value.bool] at hr
  simp only [List.length_map] at hl
  subst hl
  exact ⟨A, c, g, rfl, by omega, hr⟩
theorem wf_i8 {n : Int} (h : (Lit.int .i8 n).wf = true) : -128 ≤ n ∧ n < 128 := by
  have h1 : IntKind.i8.min ≤ n ∧ n ≤ IntKind.i8.max := by simpa [Lit.wf] using h
  have e1 : IntKind.i8.min = -128 := by decide
  have e2 : IntKind.i8.max = 127 := by decide
  omega
theorem open_i8s {r : Reach} {b0 : Nat} {v : Value} {d : DataW H} {p : List MemPlace} (hok : Value.okWide Try.prog W r b0 55 v) (h : DataW.Trod enc Try.prog W 0 (fun _ => true) true 55 v d p) :
    ∃ A c, ∃ l : List Int, v = .slice A l.length c ∧ l.length ≤ maxLen ∧ Row W W.heap.size 1 A l.length (l.map (Value.int .i8)) ∧ ∀ x ∈ l, -128 ≤ x ∧ x < 128 := by
  obtain ⟨A, c, l, rfl, hl, hr, _, _, hw⟩ := open_nums (k := .i8) Try.underlying55 Try.underlying57 (by kernel_rfl) hok h
  exact ⟨A, c, l, rfl, hl, hr, fun x hx => wf_i8 (hw x hx)⟩
end
/-- What the cells of an argument hold in a later world. -/
theorem one_at {α : Type} {f : α → Value} {w : World} {A : Option Addr} {l : List α} {n : Nat} (hr : Row w w.heap.size 1 A n (l.map f)) (hn : 0 < n) :
    ∃ g o, A = some ⟨g, o, none⟩ ∧ g < w.heap.size ∧ ∀ w', Below w.heap.size w w' → ∀ k a, l[k]? = some a → w'.cell? ⟨g, o + k, none⟩ = some (f a) := by
  obtain ⟨g, o, hA, hg, hc⟩ := hr.2 hn
  exact ⟨g, o, hA, hg, fun w' hb k a hk => (hb.cell (p := ⟨g, o + k, none⟩) hg).trans (hc _ _ (by rw [List.getElem?_map, hk]; rfl))⟩
end Go.Proofs.Ytpemikncbolkbaa
