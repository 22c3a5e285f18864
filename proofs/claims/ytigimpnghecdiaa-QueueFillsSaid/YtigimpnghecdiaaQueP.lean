/-
  The arguments of layer 3's laws that are slices: acts, and texts.
-/
import Derived.Test.YtigimpnghecdiaaQueAw
import Derived.Test.YtigimpnghecdiaaLift
namespace Go.Proofs.Ytigimpnghecdiaa
open Go.ChangeShapes Go.WideShapes Go.ChangeAt Go.RowKit

/-- Acts as cells. -/
def actC (l : List (Int × Int)) : List Value := l.flatMap fun p => [.int .i64 p.1, .int .i64 p.2]
theorem actC_get (l : List (Int × Int)) (k : Nat) (hk : k < l.length) : (actC l)[k * 2]? = some (.int .i64 l[k].1) ∧ (actC l)[k * 2 + 1]? = some (.int .i64 l[k].2) := by
  induction l generalizing k with
  | nil => simp at hk
  | cons p l ih =>
    cases k with
    | zero => simp [actC]
    | succ k =>
      have h := ih k (by simpa using hk)
      have e : (k + 1) * 2 = k * 2 + 1 + 1 := by omega
      simpa [actC, e] using h

section
variable {H : Type} {enc : TypeId × Value → H} {W : World}
theorem open_acts {r : Reach} {b0 : Nat} {v : Value} {d : DataW H} {p : List MemPlace} (hok : Value.okWide Try.prog W r b0 22 v) (h : DataW.Trod enc Try.prog W 0 (fun _ => true) true 22 v d p) :
    ∃ A c, ∃ l : List (Int × Int), v = .slice A l.length c ∧ l.length ≤ maxLen ∧ Row W W.heap.size 2 A l.length (actC l) := by
  obtain ⟨A, n, c, xss, rfl, hn, hm, hl, hr, hx⟩ := open_rows (z := 2) Try.underlying22 (by kernel_rfl) (by decide) hok h
  obtain ⟨l, rfl, hQ⟩ := typed_list (conv := fun x : Int × Int => [Value.int .i64 x.1, .int .i64 x.2]) (Q := fun _ => True) (xss := xss) (fun cs hcs => by
    obtain ⟨h1, k, y, h2⟩ := hx cs hcs
    obtain ⟨v0, v1, n', y0, y1, rfl, t0, t1⟩ := trod_two Try.underlying30 rfl rfl (by kernel_rfl) (by kernel_rfl) h1 h2
    obtain ⟨x, e0, _⟩ := DataW.trod_int Try.underlying3 t0
    obtain ⟨s, e1, _⟩ := DataW.trod_int Try.underlying3 t1
    simp only [List.cons.injEq, and_true] at e0 e1
    subst e0
    subst e1
    exact ⟨(x, s), rfl, trivial⟩)
  simp only [List.length_map] at hl
  subst hl
  exact ⟨A, c, l, rfl, by omega, hr⟩

/-- A slice of texts that came in. -/
theorem open_texts {r : Reach} {b0 : Nat} {v : Value} {d : DataW H} {p : List MemPlace} (hok : Value.okWide Try.prog W r b0 45 v) (h : DataW.Trod enc Try.prog W 0 (fun _ => true) true 45 v d p) :
    ∃ A c, ∃ l : List ByteArray, v = .slice A l.length c ∧ l.length ≤ maxLen ∧ Row W W.heap.size 1 A l.length (l.map Value.string) := by
  obtain ⟨A, n, c, xss, rfl, hn, hm, hl, hr, hx⟩ := open_rows (z := 1) Try.underlying45 (by kernel_rfl) (by decide) hok h
  obtain ⟨l, rfl, hQ⟩ := typed_list (conv := fun x : ByteArray => [Value.string x]) (Q := fun _ => True) (xss := xss) (fun cs hcs => by
    obtain ⟨h1, k, y, h2⟩ := hx cs hcs
    obtain ⟨s, rfl, _⟩ := DataW.trod_string Try.underlying9 h2
    exact ⟨s, rfl, trivial⟩)
  simp only [List.length_map] at hl
  subst hl
  refine ⟨A, c, l, rfl, by omega, ?_⟩
  have e : l.map Value.string = (l.map fun x : ByteArray => [Value.string x]).flatten := by
    clear hr hx h hok hn
    induction l <;> simp_all
  rw [e]
  exact hr
end

/-- What a cell of an argument holds, in a later world. -/
theorem act_cells {w wr : World} {A : Option Addr} {l : List (Int × Int)} (hr : Row w w.heap.size 2 A l.length (actC l)) (hb : Below w.heap.size w wr) (k : Nat) (hk : k < l.length) :
    ∃ gs o, A = some ⟨gs, o, none⟩ ∧ gs < w.heap.size ∧ wr.cell? ⟨gs, o + k * 2, none⟩ = some (.int .i64 l[k].1) ∧ wr.cell? ⟨gs, o + k * 2 + 1, none⟩ = some (.int .i64 l[k].2) := by
  obtain ⟨gs, o, hA, hgs, hcell⟩ := hr.2 (by omega)
  exact ⟨gs, o, hA, hgs, (hb.cell (p := ⟨gs, o + k * 2, none⟩) hgs).trans (hcell _ _ (actC_get l k hk).1), (hb.cell (p := ⟨gs, o + k * 2 + 1, none⟩) hgs).trans (hcell _ _ (actC_get l k hk).2)⟩
theorem map_cell {α : Type} {cv : α → Value} {w wr : World} {A : Option Addr} {l : List α} (hr : Row w w.heap.size 1 A l.length (l.map cv)) (hb : Below w.heap.size w wr) (k : Nat) (hk : k < l.length) :
    ∃ gs o, A = some ⟨gs, o, none⟩ ∧ gs < w.heap.size ∧ wr.cell? ⟨gs, o + k, none⟩ = some (cv l[k]) := by
  obtain ⟨gs, o, hA, hgs, hcell⟩ := hr.2 (by omega)
  exact ⟨gs, o, hA, hgs, (hb.cell (p := ⟨gs, o + k, none⟩) hgs).trans (hcell _ _ (by simp [hk]))⟩
end Go.Proofs.Ytigimpnghecdiaa
