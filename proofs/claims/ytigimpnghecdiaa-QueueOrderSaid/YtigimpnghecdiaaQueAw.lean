/-
  The examples of layer 3.
-/
import Derived.Test.YtigimpnghecdiaaQhI
namespace Go.Proofs.Ytigimpnghecdiaa
open Go.RowKit

theorem ret_bool {a b : Bool} (h : a = b) : Ending.returned (.bool a) = .returned (.bool b) := by rw [h]

set_option maxRecDepth 100000 in
theorem awake_any (w : World) : Calls Try.prog 8 #[] w fun e w' => e = .returned (.bool true) ∧ Below w.heap.size w w' := by
  go_enter Try.func8, Try.ntmps8
  go_wp2_with fail
  refine (newI_any 2 _ (by decide) (by decide)).mono ?_
  rintro e w1 ⟨g, r, rfl, q1, hg, hr, b1⟩
  go_wp2_with fail
  refine (pushI_yes g r 2 [] 1 _ q1 (by decide)).mono ?_
  rintro e w2 ⟨rfl, q2, b2⟩
  go_wp2_with fail
  refine (pushI_yes g r 2 [1] 2 _ q2 (by decide)).mono ?_
  rintro e w3 ⟨rfl, q3, b3⟩
  go_wp2_with fail
  refine (pushI_no g r 2 [1, 2] 3 _ q3 (by decide)).mono ?_
  rintro e w4 ⟨rfl, q4, b4⟩
  go_wp2_with fail
  refine (popI_yes g r 2 [2] 1 _ q4).mono ?_
  rintro e w5 ⟨rfl, q5, b5⟩
  go_wp2_with fail
  refine (lenI_any g r 2 [2] _ q5).mono ?_
  rintro e w6 ⟨rfl, rfl⟩
  rw [show (([2] : List Int).length : Int) = 1 from rfl]
  go_wp2_with fail
  refine (roomI_any g r 2 [2] _ q5).mono ?_
  rintro e w6 ⟨rfl, q6, b6⟩
  rw [show ((2 - ([2] : List Int).length : Nat) : Int) = 1 from rfl]
  go_wp2
  go_ret
  have hb := ((((b2.trans b3).trans b4).trans b5).trans b6).below hg hr
  exact ⟨rfl, b1.trans hb⟩
end Go.Proofs.Ytigimpnghecdiaa
