/-
  What comes in to layer 16's laws: acts; rows of them.
-/
import Derived.Test.YtgacejencnkpmaaPnL
import Derived.Test.YtgacejencnkpmaaOpn
namespace Go.Proofs.Ytgacejencnkpmaa
set_option maxRecDepth 100000
open Go.ChangeShapes Go.WideShapes Go.ChangeAt Go.RowKit

/-- An act: what is done. -/
structure Pc where
  kind : Int
  who : Int
  ep : Int
  slot : Int
  turn : Int
def Pc.cells (x : Pc) : List Value := [.int .i64 x.kind, .int .i64 x.who, .int .u64 x.ep, .int .i64 x.slot, .int .u32 x.turn]
theorem Pc.cells_length (x : Pc) : x.cells.length = 5 := rfl
def Pc.Fit (x : Pc) : Prop := (0 ≤ x.ep ∧ x.ep < 18446744073709551616) ∧ (0 ≤ x.turn ∧ x.turn < 4294967296)

section
variable {H : Type} {enc : TypeId × Value → H} {W : World}
theorem trod_ref16 {cs : List Value} (hl : cs.length = 2) {k : Nat} {y : DataW H × List MemPlace} (h : DataW.trod enc Try.prog W 0 (fun _ => true) true k 33 cs = some y) : ∃ a b : Int, cs = [.int .i64 a, .int .u32 b] ∧ (0 ≤ b ∧ b < 4294967296) := by
  obtain ⟨n, hp⟩ := struct_parts Try.underlying33 h
  match cs, hl with
  | [v0, v1], _ =>
    obtain ⟨z0, t0⟩ : ∃ z, DataW.trod enc Try.prog W 0 (fun _ => true) true n 3 (([v0, v1].drop 0).take (Try.prog.cellsOf 3)) = some z := hp 0 _ rfl
    rw [show Try.prog.cellsOf 3 = 1 from by kernel_rfl] at t0
    obtain ⟨a0, e0, _, w0⟩ := DataW.trod_int Try.underlying3 t0
    have w0 := wf_i64 w0
    simp at e0
    obtain ⟨z1, t1⟩ : ∃ z, DataW.trod enc Try.prog W 0 (fun _ => true) true n 31 (([v0, v1].drop 1).take (Try.prog.cellsOf 31)) = some z := hp 1 _ rfl
    rw [show Try.prog.cellsOf 31 = 1 from by kernel_rfl] at t1
    obtain ⟨a1, e1, _, w1⟩ := DataW.trod_int Try.underlying31 t1
    have w1 := wf_u32 w1
    simp at e1
    subst e0 e1
    exact ⟨a0, a1, rfl, w1⟩
theorem trod_act16 {cs : List Value} (hl : cs.length = 5) {k : Nat} {y : DataW H × List MemPlace} (h : DataW.trod enc Try.prog W 0 (fun _ => true) true k 35 cs = some y) : ∃ a : Pc, cs = a.cells ∧ a.Fit := by
  obtain ⟨n, hp⟩ := struct_parts Try.underlying35 h
  match cs, hl with
  | [v0, v1, v2, v3, v4], _ =>
    obtain ⟨z0, t0⟩ : ∃ z, DataW.trod enc Try.prog W 0 (fun _ => true) true n 3 (([v0, v1, v2, v3, v4].drop 0).take (Try.prog.cellsOf 3)) = some z := hp 0 _ rfl
    rw [show Try.prog.cellsOf 3 = 1 from by kernel_rfl] at t0
    obtain ⟨a0, e0, _, w0⟩ := DataW.trod_int Try.underlying3 t0
    have w0 := wf_i64 w0
    simp at e0
    obtain ⟨z1, t1⟩ : ∃ z, DataW.trod enc Try.prog W 0 (fun _ => true) true n 3 (([v0, v1, v2, v3, v4].drop 1).take (Try.prog.cellsOf 3)) = some z := hp 1 _ rfl
    rw [show Try.prog.cellsOf 3 = 1 from by kernel_rfl] at t1
    obtain ⟨a1, e1, _, w1⟩ := DataW.trod_int Try.underlying3 t1
    have w1 := wf_i64 w1
    simp at e1
    obtain ⟨z2, t2⟩ : ∃ z, DataW.trod enc Try.prog W 0 (fun _ => true) true n 30 (([v0, v1, v2, v3, v4].drop 2).take (Try.prog.cellsOf 30)) = some z := hp 2 _ rfl
    rw [show Try.prog.cellsOf 30 = 1 from by kernel_rfl] at t2
    obtain ⟨a2, e2, _, w2⟩ := DataW.trod_int Try.underlying30 t2
    have w2 := wf_u64 w2
    simp at e2
    obtain ⟨z3, t3⟩ : ∃ z, DataW.trod enc Try.prog W 0 (fun _ => true) true n 33 (([v0, v1, v2, v3, v4].drop 3).take (Try.prog.cellsOf 33)) = some z := hp 3 _ rfl
    rw [show Try.prog.cellsOf 33 = 2 from by kernel_rfl] at t3
    obtain ⟨a3, b3, e3, q3⟩ := trod_ref16 (cs := [v3, v4]) rfl (by simpa using t3)
    subst e0 e1 e2
    simp only [List.cons.injEq, and_true] at e3
    obtain ⟨rfl, rfl⟩ := e3
    exact ⟨⟨a0, a1, a2, a3, b3⟩, rfl, w2, q3⟩
theorem open_acts16 {r : Reach} {b0 : Nat} {v : Value} {d : DataW H} {p : List MemPlace} (hok : Value.okWide Try.prog W r b0 22 v) (h : DataW.Trod enc Try.prog W 0 (fun _ => true) true 22 v d p) :
    ∃ A c, ∃ l : List Pc, v = .slice A l.length c ∧ l.length ≤ maxLen ∧ Row W W.heap.size 5 A l.length (rowC Pc.cells l) ∧ ∀ a ∈ l, a.Fit := by
  obtain ⟨A, n, c, xss, rfl, hn, hm, hl, hr, hx⟩ := open_rows (z := 5) Try.underlying22 (by kernel_rfl) (by decide) hok h
  obtain ⟨l, he, hll, hq⟩ := typed_rows (conv := Pc.cells) (Q := fun a => a.Fit) (xss := xss) (fun cs hcs => by
    obtain ⟨h1, k, y, h2⟩ := hx cs hcs
    exact trod_act16 h1 h2)
  rw [he] at hr
  obtain rfl : n = l.length := hl.symm.trans hll
  exact ⟨A, c, l, rfl, by omega, hr, hq⟩
end
end Go.Proofs.Ytgacejencnkpmaa
