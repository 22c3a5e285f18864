/-
  Numbers of 16 bits that came in.
-/
import Derived.Test.YtphhhfgenhbmlaaRvC
import Derived.Test.YtphhhfgenhbmlaaLift
namespace Go.Proofs.Ytphhhfgenhbmlaa
open Go.RowKit

/-- Numbers of 16 bits as cells. -/
def n16 (l : List Nat) : List Value := l.map fun (x : Nat) => .int .u16 (x : Int)
theorem n16_length (l : List Nat) : (n16 l).length = l.length := by simp [n16]
theorem n16_append (a b : List Nat) : n16 (a ++ b) = n16 a ++ n16 b := by simp [n16]
theorem n16_get (l : List Nat) (j x : Nat) (h : l[j]? = some x) : (n16 l)[j]? = some (.int .u16 (x : Int)) := by simp [n16, h]
theorem n16_one (l : List Nat) : ∀ u ∈ n16 l, u.oneCell' = true := by
  intro u hu
  obtain ⟨_, _, rfl⟩ := List.mem_map.1 hu
  rfl

section
open Go.ChangeShapes Go.WideShapes Go.ChangeAt
variable {H : Type} {enc : TypeId × Value → H} {W : World}

theorem u16_nat {l : List Int} (h : ∀ x ∈ l, (Lit.int .u16 x).wf = true) : ∃ m : List Nat, l = m.map (fun (x : Nat) => (x : Int)) ∧ ∀ x ∈ m, x < 65536 := by
  induction l with
  | nil => exact ⟨[], rfl, by simp⟩
  | cons a l ih =>
    obtain ⟨m, hm, hx⟩ := ih (fun x hx => h x (by simp [hx]))
    have ha := wf_u16 (h a (by simp))
    refine ⟨a.toNat :: m, by simp [hm, Int.toNat_of_nonneg ha.1], fun x hx' => ?_⟩
    rcases List.mem_cons.1 hx' with rfl | hx'
    · omega
    · exact hx x hx'
/-- Numbers of 16 bits that came in. -/
theorem open_u16s {r : Reach} {b0 : Nat} {v : Value} {d : DataW H} {p : List MemPlace} (hok : Value.okWide Try.prog W r b0 22 v) (h : DataW.Trod enc Try.prog W 0 (fun _ => true) true 22 v d p) :
    ∃ A c, ∃ l : List Nat, v = .slice A l.length c ∧ l.length ≤ maxLen ∧ Row W W.heap.size 1 A l.length (n16 l) ∧ ∀ x ∈ l, x < 65536 := by
  obtain ⟨A, c, l, rfl, hl, hr, _, _, hw⟩ := open_nums (k := .u16) Try.underlying22 Try.underlying32 (by kernel_rfl) hok h
  obtain ⟨m, rfl, hx⟩ := u16_nat hw
  refine ⟨A, c, m, by simp, by simpa using hl, ?_, hx⟩
  have e : (List.map (fun (x : Nat) => (x : Int)) m).map (Value.int .u16) = n16 m := by simp [n16, Function.comp_def]
  rw [e] at hr
  simpa using hr
end
end Go.Proofs.Ytphhhfgenhbmlaa
