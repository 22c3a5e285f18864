/-
  A []byte that came in, opened.
-/
import Derived.Test.YtejfjjgcajdjmaaLift
namespace Go.Proofs.Ytejfjjgcajdjmaa
set_option maxRecDepth 100000
open Go.ChangeShapes Go.WideShapes Go.ChangeAt Go.RowKit
section
variable {H : Type} {enc : TypeId × Value → H} {W : World}

/-- A []byte that came in. -/
theorem open_bytes {r : Reach} {b0 : Nat} {v : Value} {d : DataW H} {p : List MemPlace} (hok : Value.okWide Try.prog W r b0 57 v) (h : DataW.Trod enc Try.prog W 0 (fun _ => true) true 57 v d p) :
    ∃ A c, ∃ l : List UInt8, v = .slice A l.length c ∧ l.length ≤ maxLen ∧ Row W W.heap.size 1 A l.length (u8s l) ∧ l.length ≤ c ∧ c ≤ maxLen := by
  obtain ⟨A, n, c, xss, rfl, hn, hm, hl, hr, hx⟩ := open_rows (z := 1) Try.underlying57 (by kernel_rfl) (by decide) hok h
  obtain ⟨l, rfl, _⟩ := typed_list (conv := fun b : UInt8 => [Value.int .u8 (b.toNat : Int)]) (Q := fun _ => True) (xss := xss) (fun cs hcs => by
    obtain ⟨h1, k, y, h2⟩ := hx cs hcs
    obtain ⟨n, rfl, _, hw⟩ := DataW.trod_int Try.underlying5 h2
    have := wf_u8 hw
    exact ⟨UInt8.ofNat n.toNat, by simp; omega, trivial⟩)
  simp only [List.length_map] at hl
  subst hl
  refine ⟨A, c, l, rfl, by omega, ?_, hn, hm⟩
  have e : u8s l = (l.map fun b : UInt8 => [Value.int .u8 (b.toNat : Int)]).flatten := by
    clear hr hx h hok hn
    induction l <;> simp_all [u8s]
  rw [e]
  exact hr
end
end Go.Proofs.Ytejfjjgcajdjmaa
