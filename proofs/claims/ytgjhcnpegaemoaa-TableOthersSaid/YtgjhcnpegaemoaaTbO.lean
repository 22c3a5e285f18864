/-
  What comes in to layer 17's laws: routes, downtracks; rows of them.
-/
import Derived.Test.YtgjhcnpegaemoaaTbL
import Derived.Test.YtgjhcnpegaemoaaOpn
namespace Go.Proofs.Ytgjhcnpegaemoaa
set_option maxRecDepth 100000
open Go.ChangeShapes Go.WideShapes Go.ChangeAt Go.RowKit

/-- The fields are in their kinds' bounds. -/
structure Rt.Fit (x : Rt) : Prop where
  ssrc : 0 ≤ x.ssrc ∧ x.ssrc < 4294967296
  ints : (-9223372036854775808 ≤ x.track ∧ x.track < 9223372036854775808) ∧ (-9223372036854775808 ≤ x.src ∧ x.src < 9223372036854775808) ∧ (-9223372036854775808 ≤ x.layer ∧ x.layer < 9223372036854775808) ∧ (-9223372036854775808 ≤ x.shard ∧ x.shard < 9223372036854775808)
structure Dn.Fit (x : Dn) : Prop where
  ssrc : 0 ≤ x.ssrc ∧ x.ssrc < 4294967296
  turn : 0 ≤ x.turn ∧ x.turn < 4294967296
  ints : (-9223372036854775808 ≤ x.slot ∧ x.slot < 9223372036854775808) ∧ (-9223372036854775808 ≤ x.who ∧ x.who < 9223372036854775808) ∧ (-9223372036854775808 ≤ x.track ∧ x.track < 9223372036854775808) ∧ (-9223372036854775808 ≤ x.shard ∧ x.shard < 9223372036854775808) ∧ (-9223372036854775808 ≤ x.src ∧ x.src < 9223372036854775808) ∧ (-9223372036854775808 ≤ x.layer ∧ x.layer < 9223372036854775808) ∧ (-9223372036854775808 ≤ x.tid ∧ x.tid < 9223372036854775808)
section
variable {H : Type} {enc : TypeId × Value → H} {W : World}
theorem trod_ref17 {cs : List Value} (hl : cs.length = 2) {k : Nat} {y : DataW H × List MemPlace} (h : DataW.trod enc Try.prog W 0 (fun _ => true) true k 39 cs = some y) : ∃ a b : Int, cs = [.int .i64 a, .int .u32 b] ∧ (-9223372036854775808 ≤ a ∧ a < 9223372036854775808) ∧ (0 ≤ b ∧ b < 4294967296) := by
  obtain ⟨n, hp⟩ := struct_parts Try.underlying39 h
  match cs, hl with
  | [v0, v1], _ =>
    obtain ⟨z0, t0⟩ : ∃ z, DataW.trod enc Try.prog W 0 (fun _ => true) true n 3 (([v0, v1].drop 0).take (Try.prog.cellsOf 3)) = some z := hp 0 _ rfl
    rw [show Try.prog.cellsOf 3 = 1 from by kernel_rfl] at t0
    obtain ⟨a0, e0, _, w0⟩ := DataW.trod_int Try.underlying3 t0
    have w0 := wf_i64 w0
    simp at e0
    obtain ⟨z1, t1⟩ : ∃ z, DataW.trod enc Try.prog W 0 (fun _ => true) true n 25 (([v0, v1].drop 1).take (Try.prog.cellsOf 25)) = some z := hp 1 _ rfl
    rw [show Try.prog.cellsOf 25 = 1 from by kernel_rfl] at t1
    obtain ⟨a1, e1, _, w1⟩ := DataW.trod_int Try.underlying25 t1
    have w1 := wf_u32 w1
    simp at e1
    subst e0 e1
    exact ⟨a0, a1, rfl, w0, w1⟩
theorem trod_route17 {cs : List Value} (hl : cs.length = 5) {k : Nat} {y : DataW H × List MemPlace} (h : DataW.trod enc Try.prog W 0 (fun _ => true) true k 37 cs = some y) : ∃ a : Rt, cs = a.cells ∧ a.Fit := by
  obtain ⟨n, hp⟩ := struct_parts Try.underlying37 h
  match cs, hl with
  | [v0, v1, v2, v3, v4], _ =>
    obtain ⟨z0, t0⟩ : ∃ z, DataW.trod enc Try.prog W 0 (fun _ => true) true n 25 (([v0, v1, v2, v3, v4].drop 0).take (Try.prog.cellsOf 25)) = some z := hp 0 _ rfl
    rw [show Try.prog.cellsOf 25 = 1 from by kernel_rfl] at t0
    obtain ⟨a0, e0, _, w0⟩ := DataW.trod_int Try.underlying25 t0
    have w0 := wf_u32 w0
    simp at e0
    obtain ⟨z1, t1⟩ : ∃ z, DataW.trod enc Try.prog W 0 (fun _ => true) true n 3 (([v0, v1, v2, v3, v4].drop 1).take (Try.prog.cellsOf 3)) = some z := hp 1 _ rfl
    rw [show Try.prog.cellsOf 3 = 1 from by kernel_rfl] at t1
    obtain ⟨a1, e1, _, w1⟩ := DataW.trod_int Try.underlying3 t1
    have w1 := wf_i64 w1
    simp at e1
    obtain ⟨z2, t2⟩ : ∃ z, DataW.trod enc Try.prog W 0 (fun _ => true) true n 3 (([v0, v1, v2, v3, v4].drop 2).take (Try.prog.cellsOf 3)) = some z := hp 2 _ rfl
    rw [show Try.prog.cellsOf 3 = 1 from by kernel_rfl] at t2
    obtain ⟨a2, e2, _, w2⟩ := DataW.trod_int Try.underlying3 t2
    have w2 := wf_i64 w2
    simp at e2
    obtain ⟨z3, t3⟩ : ∃ z, DataW.trod enc Try.prog W 0 (fun _ => true) true n 3 (([v0, v1, v2, v3, v4].drop 3).take (Try.prog.cellsOf 3)) = some z := hp 3 _ rfl
    rw [show Try.prog.cellsOf 3 = 1 from by kernel_rfl] at t3
    obtain ⟨a3, e3, _, w3⟩ := DataW.trod_int Try.underlying3 t3
    have w3 := wf_i64 w3
    simp at e3
    obtain ⟨z4, t4⟩ : ∃ z, DataW.trod enc Try.prog W 0 (fun _ => true) true n 3 (([v0, v1, v2, v3, v4].drop 4).take (Try.prog.cellsOf 3)) = some z := hp 4 _ rfl
    rw [show Try.prog.cellsOf 3 = 1 from by kernel_rfl] at t4
    obtain ⟨a4, e4, _, w4⟩ := DataW.trod_int Try.underlying3 t4
    have w4 := wf_i64 w4
    simp at e4
    subst e0 e1 e2 e3 e4
    exact ⟨⟨a0, a1, a2, a3, a4⟩, rfl, w0, w1, w2, w3, w4⟩
theorem trod_down17 {cs : List Value} (hl : cs.length = 10) {k : Nat} {y : DataW H × List MemPlace} (h : DataW.trod enc Try.prog W 0 (fun _ => true) true k 41 cs = some y) : ∃ a : Dn, cs = a.cells ∧ a.Fit := by
  obtain ⟨n, hp⟩ := struct_parts Try.underlying41 h
  match cs, hl with
  | [v0, v1, v2, v3, v4, v5, v6, v7, v8, v9], _ =>
    obtain ⟨z0, t0⟩ : ∃ z, DataW.trod enc Try.prog W 0 (fun _ => true) true n 25 (([v0, v1, v2, v3, v4, v5, v6, v7, v8, v9].drop 0).take (Try.prog.cellsOf 25)) = some z := hp 0 _ rfl
    rw [show Try.prog.cellsOf 25 = 1 from by kernel_rfl] at t0
    obtain ⟨a0, e0, _, w0⟩ := DataW.trod_int Try.underlying25 t0
    have w0 := wf_u32 w0
    simp at e0
    obtain ⟨z1, t1⟩ : ∃ z, DataW.trod enc Try.prog W 0 (fun _ => true) true n 39 (([v0, v1, v2, v3, v4, v5, v6, v7, v8, v9].drop 1).take (Try.prog.cellsOf 39)) = some z := hp 1 _ rfl
    rw [show Try.prog.cellsOf 39 = 2 from by kernel_rfl] at t1
    obtain ⟨a1, b1, e1, p1, u1⟩ := trod_ref17 (cs := [v1, v2]) rfl (by simpa using t1)
    obtain ⟨z2, t2⟩ : ∃ z, DataW.trod enc Try.prog W 0 (fun _ => true) true n 3 (([v0, v1, v2, v3, v4, v5, v6, v7, v8, v9].drop 3).take (Try.prog.cellsOf 3)) = some z := hp 2 _ rfl
    rw [show Try.prog.cellsOf 3 = 1 from by kernel_rfl] at t2
    obtain ⟨a2, e2, _, w2⟩ := DataW.trod_int Try.underlying3 t2
    have w2 := wf_i64 w2
    simp at e2
    obtain ⟨z3, t3⟩ : ∃ z, DataW.trod enc Try.prog W 0 (fun _ => true) true n 3 (([v0, v1, v2, v3, v4, v5, v6, v7, v8, v9].drop 4).take (Try.prog.cellsOf 3)) = some z := hp 3 _ rfl
    rw [show Try.prog.cellsOf 3 = 1 from by kernel_rfl] at t3
    obtain ⟨a3, e3, _, w3⟩ := DataW.trod_int Try.underlying3 t3
    have w3 := wf_i64 w3
    simp at e3
    obtain ⟨z4, t4⟩ : ∃ z, DataW.trod enc Try.prog W 0 (fun _ => true) true n 3 (([v0, v1, v2, v3, v4, v5, v6, v7, v8, v9].drop 5).take (Try.prog.cellsOf 3)) = some z := hp 4 _ rfl
    rw [show Try.prog.cellsOf 3 = 1 from by kernel_rfl] at t4
    obtain ⟨a4, e4, _, w4⟩ := DataW.trod_int Try.underlying3 t4
    have w4 := wf_i64 w4
    simp at e4
    obtain ⟨z5, t5⟩ : ∃ z, DataW.trod enc Try.prog W 0 (fun _ => true) true n 3 (([v0, v1, v2, v3, v4, v5, v6, v7, v8, v9].drop 6).take (Try.prog.cellsOf 3)) = some z := hp 5 _ rfl
    rw [show Try.prog.cellsOf 3 = 1 from by kernel_rfl] at t5
    obtain ⟨a5, e5, _, w5⟩ := DataW.trod_int Try.underlying3 t5
    have w5 := wf_i64 w5
    simp at e5
    obtain ⟨z6, t6⟩ : ∃ z, DataW.trod enc Try.prog W 0 (fun _ => true) true n 3 (([v0, v1, v2, v3, v4, v5, v6, v7, v8, v9].drop 7).take (Try.prog.cellsOf 3)) = some z := hp 6 _ rfl
    rw [show Try.prog.cellsOf 3 = 1 from by kernel_rfl] at t6
    obtain ⟨a6, e6, _, w6⟩ := DataW.trod_int Try.underlying3 t6
    have w6 := wf_i64 w6
    simp at e6
    obtain ⟨z7, t7⟩ : ∃ z, DataW.trod enc Try.prog W 0 (fun _ => true) true n 3 (([v0, v1, v2, v3, v4, v5, v6, v7, v8, v9].drop 8).take (Try.prog.cellsOf 3)) = some z := hp 7 _ rfl
    rw [show Try.prog.cellsOf 3 = 1 from by kernel_rfl] at t7
    obtain ⟨a7, e7, _, w7⟩ := DataW.trod_int Try.underlying3 t7
    have w7 := wf_i64 w7
    simp at e7
    obtain ⟨z8, t8⟩ : ∃ z, DataW.trod enc Try.prog W 0 (fun _ => true) true n 4 (([v0, v1, v2, v3, v4, v5, v6, v7, v8, v9].drop 9).take (Try.prog.cellsOf 4)) = some z := hp 8 _ rfl
    rw [show Try.prog.cellsOf 4 = 1 from by kernel_rfl] at t8
    obtain ⟨a8, e8, _⟩ := DataW.trod_bool Try.underlying4 t8
    simp at e8
    subst e0 e2 e3 e4 e5 e6 e7 e8
    simp only [List.cons.injEq, and_true] at e1
    obtain ⟨rfl, rfl⟩ := e1
    exact ⟨⟨a0, a1, b1, a2, a3, a4, a5, a6, a7, a8⟩, rfl, w0, u1, p1, w2, w3, w4, w5, w6, w7⟩
theorem open_routes17 {r : Reach} {b0 : Nat} {v : Value} {d : DataW H} {p : List MemPlace} (hok : Value.okWide Try.prog W r b0 23 v) (h : DataW.Trod enc Try.prog W 0 (fun _ => true) true 23 v d p) :
    ∃ A c, ∃ l : List Rt, v = .slice A l.length c ∧ l.length ≤ maxLen ∧ Row W W.heap.size 5 A l.length (rowC Rt.cells l) ∧ ∀ a ∈ l, a.Fit := by
  obtain ⟨A, n, c, xss, rfl, hn, hm, hl, hr, hx⟩ := open_rows (z := 5) Try.underlying23 (by kernel_rfl) (by decide) hok h
  obtain ⟨l, he, hll, hq⟩ := typed_rows (conv := Rt.cells) (Q := fun a => a.Fit) (xss := xss) (fun cs hcs => by
    obtain ⟨h1, k, y, h2⟩ := hx cs hcs
    exact trod_route17 h1 h2)
  rw [he] at hr
  obtain rfl : n = l.length := hl.symm.trans hll
  exact ⟨A, c, l, rfl, by omega, hr, hq⟩
theorem open_downs17 {r : Reach} {b0 : Nat} {v : Value} {d : DataW H} {p : List MemPlace} (hok : Value.okWide Try.prog W r b0 24 v) (h : DataW.Trod enc Try.prog W 0 (fun _ => true) true 24 v d p) :
    ∃ A c, ∃ l : List Dn, v = .slice A l.length c ∧ l.length ≤ maxLen ∧ Row W W.heap.size 10 A l.length (rowC Dn.cells l) ∧ ∀ a ∈ l, a.Fit := by
  obtain ⟨A, n, c, xss, rfl, hn, hm, hl, hr, hx⟩ := open_rows (z := 10) Try.underlying24 (by kernel_rfl) (by decide) hok h
  obtain ⟨l, he, hll, hq⟩ := typed_rows (conv := Dn.cells) (Q := fun a => a.Fit) (xss := xss) (fun cs hcs => by
    obtain ⟨h1, k, y, h2⟩ := hx cs hcs
    exact trod_down17 h1 h2)
  rw [he] at hr
  obtain rfl : n = l.length := hl.symm.trans hll
  exact ⟨A, c, l, rfl, by omega, hr, hq⟩
end
end Go.Proofs.Ytgjhcnpegaemoaa
