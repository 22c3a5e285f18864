/-
  What comes in to layer 18's laws: how many there may be, requests; rows of them.
-/
import Derived.Test.YtmmeceehfdbdoaaDeF
import Derived.Test.YtmmeceehfdbdoaaOpn
namespace Go.Proofs.Ytmmeceehfdbdoaa
set_option maxRecDepth 100000
open Go.ChangeShapes Go.WideShapes Go.ChangeAt Go.RowKit
open Dl
structure QOk (W : World) (x : Qm) : Prop where
  row : Row W W.heap.size 1 x.A x.q.ss.length (n32 x.q.ss)
  le : x.q.ss.length ≤ x.c
  cap : x.c ≤ maxLen
  u : ∀ y ∈ x.q.ss, 0 ≤ y ∧ y < 4294967296
theorem n32_flat (l : List Int) : (l.map fun x : Int => [Value.int .u32 x]).flatten = n32 l := by
  induction l with
  | nil => rfl
  | cons a l ih => simp_all [n32]
section
variable {H : Type} {enc : TypeId × Value → H} {W : World}
theorem trod_conf {cs : List Value} (hl : cs.length = 4) {k : Nat} {y : DataW H × List MemPlace} (h : DataW.trod enc Try.prog W 0 (fun _ => true) true k 23 cs = some y) : ∃ c : Cf, cs = [.int .i64 c.ps, .int .i64 c.ts, .int .i64 c.bs, .int .i64 c.sl] ∧ True := by
  obtain ⟨n, hp⟩ := struct_parts Try.underlying23 h
  match cs, hl with
  | [v0, v1, v2, v3], _ =>
    obtain ⟨z0, t0⟩ : ∃ z, DataW.trod enc Try.prog W 0 (fun _ => true) true n 3 (([v0, v1, v2, v3].drop 0).take (Try.prog.cellsOf 3)) = some z := hp 0 _ rfl
    rw [show Try.prog.cellsOf 3 = 1 from by kernel_rfl] at t0
    obtain ⟨a0, e0, _, w0⟩ := DataW.trod_int Try.underlying3 t0
    have w0 := wf_i64 w0
    simp at e0
    obtain ⟨z1, t1⟩ : ∃ z, DataW.trod enc Try.prog W 0 (fun _ => true) true n 3 (([v0, v1, v2, v3].drop 1).take (Try.prog.cellsOf 3)) = some z := hp 1 _ rfl
    rw [show Try.prog.cellsOf 3 = 1 from by kernel_rfl] at t1
    obtain ⟨a1, e1, _, w1⟩ := DataW.trod_int Try.underlying3 t1
    have w1 := wf_i64 w1
    simp at e1
    obtain ⟨z2, t2⟩ : ∃ z, DataW.trod enc Try.prog W 0 (fun _ => true) true n 3 (([v0, v1, v2, v3].drop 2).take (Try.prog.cellsOf 3)) = some z := hp 2 _ rfl
    rw [show Try.prog.cellsOf 3 = 1 from by kernel_rfl] at t2
    obtain ⟨a2, e2, _, w2⟩ := DataW.trod_int Try.underlying3 t2
    have w2 := wf_i64 w2
    simp at e2
    obtain ⟨z3, t3⟩ : ∃ z, DataW.trod enc Try.prog W 0 (fun _ => true) true n 3 (([v0, v1, v2, v3].drop 3).take (Try.prog.cellsOf 3)) = some z := hp 3 _ rfl
    rw [show Try.prog.cellsOf 3 = 1 from by kernel_rfl] at t3
    obtain ⟨a3, e3, _, w3⟩ := DataW.trod_int Try.underlying3 t3
    have w3 := wf_i64 w3
    simp at e3
    subst e0 e1 e2 e3
    exact ⟨⟨a0, a1, a2, a3⟩, rfl, trivial⟩
theorem open_conf {r : Reach} {b0 : Nat} {v : Value} {d : DataW H} {p : List MemPlace} (hok : Value.okWide Try.prog W r b0 23 v) (h : DataW.Trod enc Try.prog W 0 (fun _ => true) true 23 v d p) : ∃ c : Cf, v = .agg #[.int .i64 c.ps, .int .i64 c.ts, .int .i64 c.bs, .int .i64 c.sl] ∧ True := by
  obtain ⟨cs, rfl, hsz⟩ := okWide_struct Try.underlying23 hok
  obtain ⟨fuel, hf⟩ := h
  obtain ⟨a, ha, hq⟩ := trod_conf (cs := cs.toList) (by simpa using hsz.trans (by kernel_rfl)) (by simpa [Value.cells] using hf)
  exact ⟨a, by rw [← Array.toArray_toList (xs := cs), ha], hq⟩
theorem trod_req {cs : List Value} (hl : cs.length = 8) {k : Nat} {y : DataW H × List MemPlace} (h : DataW.trod enc Try.prog W 0 (fun _ => true) true k 45 cs = some y) : ∃ x : Qm, cs = qmV x ∧ QOk W x := by
  obtain ⟨n, hp⟩ := struct_parts Try.underlying45 h
  match cs, hl with
  | [v0, v1, v2, v3, v4, v5, v6, v7], _ =>
    obtain ⟨z0, t0⟩ : ∃ z, DataW.trod enc Try.prog W 0 (fun _ => true) true n 3 (([v0, v1, v2, v3, v4, v5, v6, v7].drop 0).take (Try.prog.cellsOf 3)) = some z := hp 0 _ rfl
    rw [show Try.prog.cellsOf 3 = 1 from by kernel_rfl] at t0
    obtain ⟨a0, e0, _, w0⟩ := DataW.trod_int Try.underlying3 t0
    have w0 := wf_i64 w0
    simp at e0
    obtain ⟨z1, t1⟩ : ∃ z, DataW.trod enc Try.prog W 0 (fun _ => true) true n 3 (([v0, v1, v2, v3, v4, v5, v6, v7].drop 1).take (Try.prog.cellsOf 3)) = some z := hp 1 _ rfl
    rw [show Try.prog.cellsOf 3 = 1 from by kernel_rfl] at t1
    obtain ⟨a1, e1, _, w1⟩ := DataW.trod_int Try.underlying3 t1
    have w1 := wf_i64 w1
    simp at e1
    obtain ⟨z2, t2⟩ : ∃ z, DataW.trod enc Try.prog W 0 (fun _ => true) true n 3 (([v0, v1, v2, v3, v4, v5, v6, v7].drop 2).take (Try.prog.cellsOf 3)) = some z := hp 2 _ rfl
    rw [show Try.prog.cellsOf 3 = 1 from by kernel_rfl] at t2
    obtain ⟨a2, e2, _, w2⟩ := DataW.trod_int Try.underlying3 t2
    have w2 := wf_i64 w2
    simp at e2
    obtain ⟨z3, t3⟩ : ∃ z, DataW.trod enc Try.prog W 0 (fun _ => true) true n 3 (([v0, v1, v2, v3, v4, v5, v6, v7].drop 3).take (Try.prog.cellsOf 3)) = some z := hp 3 _ rfl
    rw [show Try.prog.cellsOf 3 = 1 from by kernel_rfl] at t3
    obtain ⟨a3, e3, _, w3⟩ := DataW.trod_int Try.underlying3 t3
    have w3 := wf_i64 w3
    simp at e3
    obtain ⟨z4, t4⟩ : ∃ z, DataW.trod enc Try.prog W 0 (fun _ => true) true n 3 (([v0, v1, v2, v3, v4, v5, v6, v7].drop 4).take (Try.prog.cellsOf 3)) = some z := hp 4 _ rfl
    rw [show Try.prog.cellsOf 3 = 1 from by kernel_rfl] at t4
    obtain ⟨a4, e4, _, w4⟩ := DataW.trod_int Try.underlying3 t4
    have w4 := wf_i64 w4
    simp at e4
    obtain ⟨z5, t5⟩ : ∃ z, DataW.trod enc Try.prog W 0 (fun _ => true) true n 43 (([v0, v1, v2, v3, v4, v5, v6, v7].drop 5).take (Try.prog.cellsOf 43)) = some z := hp 5 _ rfl
    rw [show Try.prog.cellsOf 43 = 1 from by kernel_rfl] at t5
    obtain ⟨A5, n5, c5, xss5, e5, hn5, hc5, hx5, hr5, hq5⟩ := rows_cell (z := 1) Try.underlying43 (by kernel_rfl) (by decide) (v := v5) (by simpa using t5)
    obtain ⟨z6, t6⟩ : ∃ z, DataW.trod enc Try.prog W 0 (fun _ => true) true n 3 (([v0, v1, v2, v3, v4, v5, v6, v7].drop 6).take (Try.prog.cellsOf 3)) = some z := hp 6 _ rfl
    rw [show Try.prog.cellsOf 3 = 1 from by kernel_rfl] at t6
    obtain ⟨a6, e6, _, w6⟩ := DataW.trod_int Try.underlying3 t6
    have w6 := wf_i64 w6
    simp at e6
    obtain ⟨z7, t7⟩ : ∃ z, DataW.trod enc Try.prog W 0 (fun _ => true) true n 3 (([v0, v1, v2, v3, v4, v5, v6, v7].drop 7).take (Try.prog.cellsOf 3)) = some z := hp 7 _ rfl
    rw [show Try.prog.cellsOf 3 = 1 from by kernel_rfl] at t7
    obtain ⟨a7, e7, _, w7⟩ := DataW.trod_int Try.underlying3 t7
    have w7 := wf_i64 w7
    simp at e7
    subst e0 e1 e2 e3 e4 e5 e6 e7
    obtain ⟨l5, rfl, q5⟩ := typed_list (conv := fun x : Int => [Value.int .u32 x]) (Q := fun x => 0 ≤ x ∧ x < 4294967296) (xss := xss5) (fun cs hcs => by
      obtain ⟨g1, k1, y1, g2⟩ := hq5 cs hcs
      obtain ⟨a, e, _, wa⟩ := DataW.trod_int Try.underlying64 g2
      exact ⟨a, e, wf_u32 wa⟩)
    rw [n32_flat] at hr5
    simp only [List.length_map] at hx5
    subst hx5
    exact ⟨⟨⟨a0, a1, a2, a3, a4, l5, a6, a7⟩, A5, c5⟩, rfl, ⟨hr5, hn5, hc5, q5⟩⟩
theorem open_req {r : Reach} {b0 : Nat} {v : Value} {d : DataW H} {p : List MemPlace} (hok : Value.okWide Try.prog W r b0 45 v) (h : DataW.Trod enc Try.prog W 0 (fun _ => true) true 45 v d p) : ∃ x : Qm, v = .agg (qmV x).toArray ∧ QOk W x := by
  obtain ⟨cs, rfl, hsz⟩ := okWide_struct Try.underlying45 hok
  obtain ⟨fuel, hf⟩ := h
  obtain ⟨a, ha, hq⟩ := trod_req (cs := cs.toList) (by simpa using hsz.trans (by kernel_rfl)) (by simpa [Value.cells] using hf)
  exact ⟨a, by rw [← Array.toArray_toList (xs := cs), ha], hq⟩
theorem open_reqs {r : Reach} {b0 : Nat} {v : Value} {d : DataW H} {p : List MemPlace} (hok : Value.okWide Try.prog W r b0 24 v) (h : DataW.Trod enc Try.prog W 0 (fun _ => true) true 24 v d p) :
    ∃ A c, ∃ l : List Qm, v = .slice A l.length c ∧ l.length ≤ maxLen ∧ Row W W.heap.size 8 A l.length (rowC qmV l) ∧ ∀ a ∈ l, QOk W a := by
  obtain ⟨A, n, c, xss, rfl, hn, hm, hl, hr, hx⟩ := open_rows (z := 8) Try.underlying24 (by kernel_rfl) (by decide) hok h
  obtain ⟨l, he, hll, hq⟩ := typed_rows (conv := qmV) (Q := fun a => QOk W a) (xss := xss) (fun cs hcs => by
    obtain ⟨h1, k, y, h2⟩ := hx cs hcs
    exact trod_req h1 h2)
  rw [he] at hr
  obtain rfl : n = l.length := hl.symm.trans hll
  exact ⟨A, c, l, rfl, by omega, hr, hq⟩
end
end Go.Proofs.Ytmmeceehfdbdoaa
