/-
  What comes in to layer 15's laws: acts; rows of them.
-/
import Derived.Test.YtejfjjgcajdjmaaArL
import Derived.Test.YtejfjjgcajdjmaaOpn
namespace Go.Proofs.Ytejfjjgcajdjmaa
set_option maxRecDepth 100000
open Go.ChangeShapes Go.WideShapes Go.ChangeAt Go.RowKit

/-- A Ref. -/
structure Rf where
  slot : Int
  turn : Int
def Rf.cells (x : Rf) : Array Value := #[.int .i64 x.slot, .int .u32 x.turn]
/-- An act: what is done. -/
structure Ac where
  kind : Int
  x : Int
  which : Int
  ref : Rf
def Ac.cells (x : Ac) : List Value := [.int .i64 x.kind, .int .i64 x.x, .int .i64 x.which, .int .i64 x.ref.slot, .int .u32 x.ref.turn]
theorem Ac.cells_length (x : Ac) : x.cells.length = 5 := rfl
def Ac.Fit (x : Ac) : Prop := (0 ≤ x.ref.turn ∧ x.ref.turn < 4294967296) ∧ (-9223372036854775808 ≤ x.which ∧ x.which < 9223372036854775808)

section
variable {H : Type} {enc : TypeId × Value → H} {W : World}
theorem trod_ref {cs : List Value} (hl : cs.length = 2) {k : Nat} {y : DataW H × List MemPlace} (h : DataW.trod enc Try.prog W 0 (fun _ => true) true k 30 cs = some y) : ∃ a : Rf, cs = a.cells.toList ∧ (0 ≤ a.turn ∧ a.turn < 4294967296) := by
  obtain ⟨n, hp⟩ := struct_parts Try.underlying30 h
  match cs, hl with
  | [v0, v1], _ =>
    obtain ⟨z0, t0⟩ : ∃ z, DataW.trod enc Try.prog W 0 (fun _ => true) true n 3 (([v0, v1].drop 0).take (Try.prog.cellsOf 3)) = some z := hp 0 _ rfl
    rw [show Try.prog.cellsOf 3 = 1 from by kernel_rfl] at t0
    obtain ⟨a0, e0, _, w0⟩ := DataW.trod_int Try.underlying3 t0
    have w0 := wf_i64 w0
    simp at e0
    obtain ⟨z1, t1⟩ : ∃ z, DataW.trod enc Try.prog W 0 (fun _ => true) true n 28 (([v0, v1].drop 1).take (Try.prog.cellsOf 28)) = some z := hp 1 _ rfl
    rw [show Try.prog.cellsOf 28 = 1 from by kernel_rfl] at t1
    obtain ⟨a1, e1, _, w1⟩ := DataW.trod_int Try.underlying28 t1
    have w1 := wf_u32 w1
    simp at e1
    subst e0 e1
    exact ⟨⟨a0, a1⟩, rfl, w1⟩
theorem trod_act {cs : List Value} (hl : cs.length = 5) {k : Nat} {y : DataW H × List MemPlace} (h : DataW.trod enc Try.prog W 0 (fun _ => true) true k 32 cs = some y) : ∃ a : Ac, cs = a.cells ∧ a.Fit := by
  obtain ⟨n, hp⟩ := struct_parts Try.underlying32 h
  match cs, hl with
  | [v0, v1, v2, v3, v4], _ =>
    obtain ⟨z0, t0⟩ : ∃ z, DataW.trod enc Try.prog W 0 (fun _ => true) true n 3 (([v0, v1, v2, v3, v4].drop 0).take (Try.prog.cellsOf 3)) = some z := hp 0 _ rfl
    rw [show Try.prog.cellsOf 3 = 1 from by kernel_rfl] at t0
    obtain ⟨a0, e0, _, w0⟩ := DataW.trod_int Try.underlying3 t0
    have w0 := wf_i64 w0
    simp at e0
    obtain ⟨z1, t1⟩ : ∃ z, DataW.trod enc Try.prog W 0 (fun _ => true) true n 3 (([v0, v1, v2, v3, v4].drop 1).take (Try.prog.cellsOf 3)) = some z := hp 1 _ rfl
    rw [show Try.prog.cellsOf 3 = 1 from by kernel_rfl] at t1
    obtain ⟨a1, e1, _, w1⟩ := DataW.trod_int Try.underlying3 t1
    have w1 := wf_i64 w1
    simp at e1
    obtain ⟨z2, t2⟩ : ∃ z, DataW.trod enc Try.prog W 0 (fun _ => true) true n 3 (([v0, v1, v2, v3, v4].drop 2).take (Try.prog.cellsOf 3)) = some z := hp 2 _ rfl
    rw [show Try.prog.cellsOf 3 = 1 from by kernel_rfl] at t2
    obtain ⟨a2, e2, _, w2⟩ := DataW.trod_int Try.underlying3 t2
    have w2 := wf_i64 w2
    simp at e2
    obtain ⟨z3, t3⟩ : ∃ z, DataW.trod enc Try.prog W 0 (fun _ => true) true n 30 (([v0, v1, v2, v3, v4].drop 3).take (Try.prog.cellsOf 30)) = some z := hp 3 _ rfl
    rw [show Try.prog.cellsOf 30 = 2 from by kernel_rfl] at t3
    obtain ⟨a3, e3, q3⟩ := trod_ref (cs := [v3, v4]) rfl (by simpa using t3)
    subst e0 e1 e2
    simp only [Rf.cells, List.cons.injEq, and_true] at e3
    obtain ⟨rfl, rfl⟩ := e3
    exact ⟨⟨a0, a1, a2, a3⟩, rfl, q3, w2⟩
theorem open_acts {r : Reach} {b0 : Nat} {v : Value} {d : DataW H} {p : List MemPlace} (hok : Value.okWide Try.prog W r b0 22 v) (h : DataW.Trod enc Try.prog W 0 (fun _ => true) true 22 v d p) :
    ∃ A c, ∃ l : List Ac, v = .slice A l.length c ∧ l.length ≤ maxLen ∧ Row W W.heap.size 5 A l.length (rowC Ac.cells l) ∧ ∀ a ∈ l, a.Fit := by
  obtain ⟨A, n, c, xss, rfl, hn, hm, hl, hr, hx⟩ := open_rows (z := 5) Try.underlying22 (by kernel_rfl) (by decide) hok h
  obtain ⟨l, he, hll, hq⟩ := typed_rows (conv := Ac.cells) (Q := fun a => a.Fit) (xss := xss) (fun cs hcs => by
    obtain ⟨h1, k, y, h2⟩ := hx cs hcs
    exact trod_act h1 h2)
  rw [he] at hr
  obtain rfl : n = l.length := hl.symm.trans hll
  exact ⟨A, c, l, rfl, by omega, hr, hq⟩
end
end Go.Proofs.Ytejfjjgcajdjmaa
