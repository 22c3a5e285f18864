/-
  Contracts of serial.Near16 and of the document's Near (layer 2's, for the layers that call them).
-/
import Derived.Test.YtpemikncbolkbaaSerF
namespace Go.Proofs.Ytpemikncbolkbaa
open Go.RowKit

theorem near16_any (last x : Int) (h1 : -4611686018427387904 ≤ last) (h2 : last ≤ 4611686018427387904) (w : World) : Calls Try.prog 32 #[.int .i64 last, .int .u16 x] w fun e w' => e = .returned (.int .i64 (last + d16 last x)) ∧ Below w.heap.size w w' := by
  go_enter Try.func32, Try.ntmps32
  go_wp2_with fail
  refine (from16_any _ x _).mono ?_
  rintro e w1 ⟨rfl, hb⟩
  rw [d16_rest]
  have hd := d16_bd last x
  go_wp2
  go_ret
  exact ⟨ret_i64 rfl, hb⟩

/-- The document's answer, as it is written. -/
def refD (a b m : Int) : Int := if b - a < -(m / 2) then b - a + m else if m / 2 ≤ b - a then b - a - m else b - a
theorem refD_16 (a b : Int) (ha : 0 ≤ a ∧ a < 65536) (hb : 0 ≤ b ∧ b < 65536) : refD a b 65536 = d16 a b := by
  unfold refD d16; split <;> (try split) <;> omega
theorem refFrom_any (a b m h : Int) (hm : m = 2 * h) (h1 : 1 ≤ h) (h2 : h ≤ 2147483648) (ha : 0 ≤ a ∧ a < m) (hb : 0 ≤ b ∧ b < m) (w : World) : Calls Try.prog 28 #[.int .i64 a, .int .i64 b, .int .i64 m] w fun e w' => e = .returned (.int .i64 (refD a b m)) ∧ w = w' := by
  have hh : m / 2 = h := by omega
  obtain ⟨h3, h4⟩ : 2 ≤ m ∧ m ≤ 4294967296 := by omega
  have e1 : b - a < - (m / 2) → refD a b m = b - a + m := fun h => by unfold refD; rw [if_pos h]
  have e2 : ¬ b - a < - (m / 2) → m / 2 ≤ b - a → refD a b m = b - a - m := fun h h' => by unfold refD; rw [if_neg h, if_pos h']
  have e3 : ¬ b - a < - (m / 2) → ¬ m / 2 ≤ b - a → refD a b m = b - a := fun h h' => by unfold refD; rw [if_neg h, if_neg h']
  have e5 : b - a < - (m / 2) → ¬ m / 2 ≤ b - a + m := by omega
  clear hm hh
  have E1 := Lib.hid e1
  have E2 := Lib.hid e2
  have E3 := Lib.hid e3
  clear e1 e2 e3
  by_cases c1 : b - a < - (m / 2)
  · have c2 := e5 c1
    clear e5
    go_enter Try.func28, Try.ntmps28
    go_wp2
    go_ret
    exact ⟨ret_i64 (E1.out c1).symm, rfl⟩
  · clear e5
    by_cases c2 : m / 2 ≤ b - a
    all_goals
      go_enter Try.func28, Try.ntmps28
      go_wp2
      go_ret
    · exact ⟨ret_i64 (E2.out c1 c2).symm, rfl⟩
    · exact ⟨ret_i64 (E3.out c1 c2).symm, rfl⟩

theorem rest_low (x m : Int) (h1 : 1 ≤ m) (h : x.tmod m < 0) : -m < x.tmod m ∧ x.tmod m + m = x % m := by
  have h2 := Int.tmod_eq_emod (a := x) (b := m)
  have h3 := Int.emod_nonneg x (show m ≠ 0 by omega)
  have h4 := Int.emod_lt_of_pos x (show 0 < m by omega)
  split at h2 <;> omega
theorem rest_high (x m : Int) (h1 : 1 ≤ m) (h : 0 ≤ x.tmod m) : x.tmod m = x % m := by
  have h2 := Int.tmod_eq_emod (a := x) (b := m)
  have h3 := Int.emod_nonneg x (show m ≠ 0 by omega)
  have h4 := Int.emod_lt_of_pos x (show 0 < m by omega)
  split at h2 <;> omega
theorem rest_any (x m : Int) (h1 : 1 ≤ m) (h2 : m ≤ 4294967296) (w : World) : Calls Try.prog 33 #[.int .i64 x, .int .i64 m] w fun e w' => e = .returned (.int .i64 (x % m)) ∧ w = w' := by
  go_enter Try.func33, Try.ntmps33
  go_wp2
  · have h : x.tmod m < 0 := by assumption
    go_ret
    obtain ⟨g1, g2⟩ := rest_low x m h1 h
    exact ⟨ret_i64 (by rw [IntWalk.wrap64_in _ (by omega), g2]), rfl⟩
  · have h : 0 ≤ x.tmod m := by assumption
    go_ret
    exact ⟨ret_i64 (rest_high x m h1 h), rfl⟩
theorem refNear_any (last x m h : Int) (hm : m = 2 * h) (h1 : 1 ≤ h) (h2 : h ≤ 2147483648) (hl : -4611686018427387904 ≤ last) (hl' : last ≤ 4611686018427387904) (hx : 0 ≤ x ∧ x < m) (w : World) : Calls Try.prog 27 #[.int .i64 last, .int .i64 x, .int .i64 m] w fun e w' => e = .returned (.int .i64 (last + refD (last % m) x m)) ∧ w = w' := by
  have g1 := Int.emod_nonneg last (show m ≠ 0 by omega)
  have g2 := Int.emod_lt_of_pos last (show 0 < m by omega)
  have g3 : -m ≤ refD (last % m) x m ∧ refD (last % m) x m ≤ m := by unfold refD; split <;> (try split) <;> omega
  have HM := Lib.hid hm
  have hm4 : m ≤ 4294967296 := by omega
  have hm1 : 1 ≤ m := by omega
  clear hm
  go_enter Try.func27, Try.ntmps27
  go_wp2_with fail
  refine (rest_any last m hm1 hm4 _).mono ?_
  rintro e w1 ⟨rfl, rfl⟩
  go_wp2_with fail
  refine (refFrom_any _ x m h HM.out h1 h2 ⟨g1, g2⟩ hx _).mono ?_
  rintro e w1 ⟨rfl, rfl⟩
  go_wp2
  go_ret
  exact ⟨ret_i64 rfl, rfl⟩
theorem refNear_16 (last x : Int) (hx : 0 ≤ x ∧ x < 65536) : refD (last % 65536) x 65536 = d16 last x := by
  rw [refD_16 _ _ (by omega) hx]; unfold d16; omega

end Go.Proofs.Ytpemikncbolkbaa
