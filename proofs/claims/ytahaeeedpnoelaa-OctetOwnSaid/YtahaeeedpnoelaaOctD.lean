/-
  The arguments of layer 1's laws that are slices of structs: parts, and steps.
-/
import Derived.Test.YtahaeeedpnoelaaOctC
import Derived.Test.YtahaeeedpnoelaaLift
namespace Go.Proofs.Ytahaeeedpnoelaa
open Go.ChangeShapes Go.WideShapes Go.ChangeAt Go.RowKit

section
variable {H : Type} {enc : TypeId × Value → H} {W : World}
theorem open_parts {r : Reach} {b0 : Nat} {v : Value} {d : DataW H} {p : List MemPlace} (hok : Value.okWide Try.prog W r b0 22 v) (h : DataW.Trod enc Try.prog W 0 (fun _ => true) true 22 v d p) :
    ∃ A c, ∃ l : List (Nat × Int), v = .slice A l.length c ∧ l.length ≤ maxLen ∧ Row W W.heap.size 2 A l.length (partC l) ∧ ∀ x ∈ l, x.1 < 18446744073709551616 ∧ -9223372036854775808 ≤ x.2 ∧ x.2 < 9223372036854775808 := by
  obtain ⟨A, n, c, xss, rfl, hn, hm, hl, hr, hx⟩ := open_rows (z := 2) Try.underlying22 (by kernel_rfl) (by decide) hok h
  obtain ⟨l, rfl, hQ⟩ := typed_list (conv := fun x : Nat × Int => [Value.int .u64 (x.1 : Int), .int .i64 x.2]) (Q := fun x => x.1 < 18446744073709551616 ∧ -9223372036854775808 ≤ x.2 ∧ x.2 < 9223372036854775808) (xss := xss) (fun cs hcs => by
    obtain ⟨h1, k, y, h2⟩ := hx cs hcs
    obtain ⟨v0, v1, n', y0, y1, rfl, t0, t1⟩ := trod_two Try.underlying28 rfl rfl (by kernel_rfl) (by kernel_rfl) h1 h2
    obtain ⟨x, e0, _, hw0⟩ := DataW.trod_int Try.underlying26 t0
    obtain ⟨s, e1, _, hw1⟩ := DataW.trod_int Try.underlying3 t1
    simp only [List.cons.injEq, and_true] at e0 e1
    subst e0
    subst e1
    have b0 := wf_u64 hw0
    have b1 := wf_i64 hw1
    obtain ⟨x, rfl⟩ := Int.eq_ofNat_of_zero_le b0.1
    exact ⟨(x, s), rfl, by have := b0.2; simp; omega, b1⟩)
  simp only [List.length_map] at hl
  subst hl
  exact ⟨A, c, l, rfl, by omega, hr, hQ⟩

/-- Steps as cells. -/
def stepC (l : List (Bool × Int)) : List Value := l.flatMap fun p => [.bool p.1, .int .i64 p.2]
theorem stepC_get (l : List (Bool × Int)) (k : Nat) (hk : k < l.length) : (stepC l)[k * 2]? = some (.bool l[k].1) ∧ (stepC l)[k * 2 + 1]? = some (.int .i64 l[k].2) := by
  induction l generalizing k with
  | nil => simp at hk
  | cons p l ih =>
    cases k with
    | zero => simp [stepC]
    | succ k =>
      have h := ih k (by simpa using hk)
      have e : (k + 1) * 2 = k * 2 + 1 + 1 := by omega
      simpa [stepC, e] using h

theorem open_steps {r : Reach} {b0 : Nat} {v : Value} {d : DataW H} {p : List MemPlace} (hok : Value.okWide Try.prog W r b0 31 v) (h : DataW.Trod enc Try.prog W 0 (fun _ => true) true 31 v d p) :
    ∃ A c, ∃ l : List (Bool × Int), v = .slice A l.length c ∧ l.length ≤ maxLen ∧ Row W W.heap.size 2 A l.length (stepC l) ∧ ∀ x ∈ l, -9223372036854775808 ≤ x.2 ∧ x.2 < 9223372036854775808 := by
  obtain ⟨A, n, c, xss, rfl, hn, hm, hl, hr, hx⟩ := open_rows (z := 2) Try.underlying31 (by kernel_rfl) (by decide) hok h
  obtain ⟨l, rfl, hQ⟩ := typed_list (conv := fun x : Bool × Int => [Value.bool x.1, .int .i64 x.2]) (Q := fun x => -9223372036854775808 ≤ x.2 ∧ x.2 < 9223372036854775808) (xss := xss) (fun cs hcs => by
    obtain ⟨h1, k, y, h2⟩ := hx cs hcs
    obtain ⟨v0, v1, n', y0, y1, rfl, t0, t1⟩ := trod_two Try.underlying38 rfl rfl (by kernel_rfl) (by kernel_rfl) h1 h2
    obtain ⟨x, e0, _⟩ := DataW.trod_bool Try.underlying4 t0
    obtain ⟨s, e1, _, hw1⟩ := DataW.trod_int Try.underlying3 t1
    simp only [List.cons.injEq, and_true] at e0 e1
    subst e0
    subst e1
    exact ⟨(x, s), rfl, wf_i64 hw1⟩)
  simp only [List.length_map] at hl
  subst hl
  exact ⟨A, c, l, rfl, by omega, hr, hQ⟩
end

def OkErr (e : Int) : Prop := e = 0 ∨ e = 1 ∨ e = 10
theorem OkErr.next {e : Int} (h : OkErr e) (l : List UInt8) (n : Int) (may : Bool) : OkErr (errS l e n may) := by
  unfold errS
  split
  · exact h
  · split
    · exact .inr (.inl rfl)
    · split
      · exact .inl rfl
      · exact .inr (.inr rfl)
theorem rest_le (l : List UInt8) (e n : Int) (may : Bool) : (restS l e n may).length ≤ l.length := by
  unfold restS; split <;> simp
end Go.Proofs.Ytahaeeedpnoelaa
