/-
  Contracts of package serial's calls, of the document's answers, and of the examples.
-/
import Derived.Test.YtbjmclohnegaaaaProg
import Derived.Test.YtbjmclohnegaaaaWords
import Derived.Deep.DeepCutAuto
namespace Go.Proofs.Ytbjmclohnegaaaa
open Go.RowKit

/-- How far it is from a to b, of numbers that go round at 65536. -/
def d16 (a b : Int) : Int := (b - a + 32768) % 65536 - 32768
/-- How far it is from a to b, of numbers that go round at 4294967296. -/
def d32 (a b : Int) : Int := (b - a + 2147483648) % 4294967296 - 2147483648
def up16 (a b : Int) : Bool := decide (0 < d16 a b)
def up32 (a b : Int) : Bool := decide (0 < d32 a b)

theorem wrap_u16 (n : Int) : IntKind.u16.wrap n = n % 65536 := by simp [IntKind.wrap, IntKind.bits, IntKind.signed]
theorem wrap_i16 (n : Int) : IntKind.i16.wrap n = (n + 32768) % 65536 - 32768 := by
  simp only [IntKind.wrap, IntKind.bits, IntKind.signed]; simp; split <;> omega

theorem d16_is (a b : Int) : wrap64 (IntKind.i16.wrap (IntKind.u16.wrap (b - a))) = d16 a b := by
  rw [wrap_i16, wrap_u16]; unfold wrap64 d16; omega
theorem d32_is (a b : Int) : wrap64 (wrap32 ((b - a) % 4294967296)) = d32 a b := by
  unfold wrap64 wrap32 d32; omega
theorem d16_bd (a b : Int) : -32768 ≤ d16 a b ∧ d16 a b ≤ 32767 := by unfold d16; omega
theorem d32_bd (a b : Int) : -2147483648 ≤ d32 a b ∧ d32 a b ≤ 2147483647 := by unfold d32; omega
theorem d16_rest (a b : Int) : d16 (IntKind.u16.wrap a) b = d16 a b := by rw [wrap_u16]; unfold d16; omega
theorem d32_rest (a b : Int) : d32 (a % 4294967296) b = d32 a b := by unfold d32; omega
theorem ret_i64 {a b : Int} (h : a = b) : Ending.returned (.int .i64 a) = .returned (.int .i64 b) := by rw [h]
theorem ret_bool {a b : Bool} (h : a = b) : Ending.returned (.bool a) = .returned (.bool b) := by rw [h]

theorem way16_in (a b : Int) (w : World) (p : Addr) (hc : w.cell? p = some (.int .u16 a)) : Calls Try.prog 23 #[.int .u16 b, .pointer (some p)] w fun e w' => e = .returned (.int .i64 (d16 a b)) ∧ w = w' := by
  go_enter Try.func23, Try.ntmps23
  go_wp2
  go_ret
  exact ⟨ret_i64 (d16_is a b), rfl⟩
theorem way16_any (a : Int) (w : World) : Calls Try.prog 20 #[.int .u16 a] w fun e w' => e = .returned (.func (.func 23) #[] #[.pointer (some ⟨w.heap.size, 0, none⟩)]) ∧ w' = w.alloc (.cells #[.int .u16 a] 22) := by
  go_enter Try.func20, Try.ntmps20
  go_wp2
  go_ret
  exact ⟨rfl, rfl⟩
theorem from16_any (a b : Int) (w : World) : Calls Try.prog 13 #[.int .u16 a, .int .u16 b] w fun e w' => e = .returned (.int .i64 (d16 a b)) ∧ Below w.heap.size w w' := by
  go_enter Try.func13, Try.ntmps13
  go_wp2_with fail
  refine (way16_any a _).mono ?_
  rintro e w1 ⟨rfl, rfl⟩
  go_wp2_with fail
  refine (way16_in a b _ ⟨w.heap.size, 0, none⟩ (by simp)).mono ?_
  rintro e w2 ⟨rfl, rfl⟩
  go_wp2
  go_ret
  exact ⟨rfl, (Below.refl _ _).alloc (Nat.le_refl _) _⟩
theorem less16_any (a b : Int) (w : World) : Calls Try.prog 15 #[.int .u16 a, .int .u16 b] w fun e w' => e = .returned (.bool (up16 a b)) ∧ Below w.heap.size w w' := by
  go_enter Try.func15, Try.ntmps15
  go_wp2_with fail
  refine (from16_any a b _).mono ?_
  rintro e w1 ⟨rfl, h1⟩
  have hd := d16_bd a b
  go_wp2
  go_ret
  exact ⟨ret_bool rfl, h1⟩
theorem near16_any (last x : Int) (h1 : -4611686018427387904 ≤ last) (h2 : last ≤ 4611686018427387904) (w : World) : Calls Try.prog 17 #[.int .i64 last, .int .u16 x] w fun e w' => e = .returned (.int .i64 (last + d16 last x)) ∧ Below w.heap.size w w' := by
  go_enter Try.func17, Try.ntmps17
  go_wp2_with fail
  refine (from16_any _ x _).mono ?_
  rintro e w1 ⟨rfl, hb⟩
  rw [d16_rest]
  have hd := d16_bd last x
  go_wp2
  go_ret
  exact ⟨ret_i64 rfl, hb⟩

theorem way32_in (a b : Int) (w : World) (p : Addr) (hc : w.cell? p = some (.int .u32 a)) : Calls Try.prog 24 #[.int .u32 b, .pointer (some p)] w fun e w' => e = .returned (.int .i64 (d32 a b)) ∧ w = w' := by
  go_enter Try.func24, Try.ntmps24
  go_wp2
  go_ret
  exact ⟨ret_i64 (d32_is a b), rfl⟩
theorem way32_any (a : Int) (w : World) : Calls Try.prog 21 #[.int .u32 a] w fun e w' => e = .returned (.func (.func 24) #[] #[.pointer (some ⟨w.heap.size, 0, none⟩)]) ∧ w' = w.alloc (.cells #[.int .u32 a] 23) := by
  go_enter Try.func21, Try.ntmps21
  go_wp2
  go_ret
  exact ⟨rfl, rfl⟩
theorem from32_any (a b : Int) (w : World) : Calls Try.prog 14 #[.int .u32 a, .int .u32 b] w fun e w' => e = .returned (.int .i64 (d32 a b)) ∧ Below w.heap.size w w' := by
  go_enter Try.func14, Try.ntmps14
  go_wp2_with fail
  refine (way32_any a _).mono ?_
  rintro e w1 ⟨rfl, rfl⟩
  go_wp2_with fail
  refine (way32_in a b _ ⟨w.heap.size, 0, none⟩ (by simp)).mono ?_
  rintro e w2 ⟨rfl, rfl⟩
  go_wp2
  go_ret
  exact ⟨rfl, (Below.refl _ _).alloc (Nat.le_refl _) _⟩
theorem less32_any (a b : Int) (w : World) : Calls Try.prog 16 #[.int .u32 a, .int .u32 b] w fun e w' => e = .returned (.bool (up32 a b)) ∧ Below w.heap.size w w' := by
  go_enter Try.func16, Try.ntmps16
  go_wp2_with fail
  refine (from32_any a b _).mono ?_
  rintro e w1 ⟨rfl, h1⟩
  have hd := d32_bd a b
  go_wp2
  go_ret
  exact ⟨ret_bool rfl, h1⟩
theorem near32_any (last x : Int) (h1 : -4611686018427387904 ≤ last) (h2 : last ≤ 4611686018427387904) (w : World) : Calls Try.prog 19 #[.int .i64 last, .int .u32 x] w fun e w' => e = .returned (.int .i64 (last + d32 last x)) ∧ Below w.heap.size w w' := by
  go_enter Try.func19, Try.ntmps19
  go_wp2_with fail
  refine (from32_any _ x _).mono ?_
  rintro e w1 ⟨rfl, hb⟩
  rw [d32_rest]
  have hd := d32_bd last x
  go_wp2
  go_ret
  exact ⟨ret_i64 rfl, hb⟩

/-- The document's answer, as it is written. -/
def refD (a b m : Int) : Int := if b - a < -(m / 2) then b - a + m else if m / 2 ≤ b - a then b - a - m else b - a
theorem refD_16 (a b : Int) (ha : 0 ≤ a ∧ a < 65536) (hb : 0 ≤ b ∧ b < 65536) : refD a b 65536 = d16 a b := by
  unfold refD d16; split <;> (try split) <;> omega
theorem refD_32 (a b : Int) (ha : 0 ≤ a ∧ a < 4294967296) (hb : 0 ≤ b ∧ b < 4294967296) : refD a b 4294967296 = d32 a b := by
  unfold refD d32; split <;> (try split) <;> omega
theorem refFrom_any (a b m h : Int) (hm : m = 2 * h) (h1 : 1 ≤ h) (h2 : h ≤ 2147483648) (ha : 0 ≤ a ∧ a < m) (hb : 0 ≤ b ∧ b < m) (w : World) : Calls Try.prog 12 #[.int .i64 a, .int .i64 b, .int .i64 m] w fun e w' => e = .returned (.int .i64 (refD a b m)) ∧ w = w' := by
  have hh : m / 2 = h := by omega
  obtain ⟨h3, h4⟩ : 2 ≤ m ∧ m ≤ 4294967296 := by omega
  have e1 : b - a < - (m / 2) → refD a b m = b - a + m := fun h => by unfold refD; rw [if_pos h]
  have e2 : ¬ b - a < - (m / 2) → m / 2 ≤ b - a → refD a b m = b - a - m := fun h h' => by unfold refD; rw [if_neg h, if_pos h']
  have e3 : ¬ b - a < - (m / 2) → ¬ m / 2 ≤ b - a → refD a b m = b - a := fun h h' => by unfold refD; rw [if_neg h, if_neg h']
  have e5 : b - a < - (m / 2) → ¬ m / 2 ≤ b - a + m := by omega
  clear hm hh
  have E1 := Lib.hid e1
  have E2 := Lib.hid e2
  have E3 := Lib.hid e3
  clear e1 e2 e3
  by_cases c1 : b - a < - (m / 2)
  · have c2 := e5 c1
    clear e5
    go_enter Try.func12, Try.ntmps12
    go_wp2
    go_ret
    exact ⟨ret_i64 (E1.out c1).symm, rfl⟩
  · clear e5
    by_cases c2 : m / 2 ≤ b - a
    all_goals
      go_enter Try.func12, Try.ntmps12
      go_wp2
      go_ret
    · exact ⟨ret_i64 (E2.out c1 c2).symm, rfl⟩
    · exact ⟨ret_i64 (E3.out c1 c2).symm, rfl⟩

theorem rest_low (x m : Int) (h1 : 1 ≤ m) (h : x.tmod m < 0) : -m < x.tmod m ∧ x.tmod m + m = x % m := by
  have h2 := Int.tmod_eq_emod (a := x) (b := m)
  have h3 := Int.emod_nonneg x (show m ≠ 0 by omega)
  have h4 := Int.emod_lt_of_pos x (show 0 < m by omega)
  split at h2 <;> omega
theorem rest_high (x m : Int) (h1 : 1 ≤ m) (h : 0 ≤ x.tmod m) : x.tmod m = x % m := by
  have h2 := Int.tmod_eq_emod (a := x) (b := m)
  have h3 := Int.emod_nonneg x (show m ≠ 0 by omega)
  have h4 := Int.emod_lt_of_pos x (show 0 < m by omega)
  split at h2 <;> omega
theorem rest_any (x m : Int) (h1 : 1 ≤ m) (h2 : m ≤ 4294967296) (w : World) : Calls Try.prog 22 #[.int .i64 x, .int .i64 m] w fun e w' => e = .returned (.int .i64 (x % m)) ∧ w = w' := by
  go_enter Try.func22, Try.ntmps22
  go_wp2
  · have h : x.tmod m < 0 := by assumption
    go_ret
    obtain ⟨g1, g2⟩ := rest_low x m h1 h
    exact ⟨ret_i64 (by rw [IntWalk.wrap64_in _ (by omega), g2]), rfl⟩
  · have h : 0 ≤ x.tmod m := by assumption
    go_ret
    exact ⟨ret_i64 (rest_high x m h1 h), rfl⟩
theorem refNear_any (last x m h : Int) (hm : m = 2 * h) (h1 : 1 ≤ h) (h2 : h ≤ 2147483648) (hl : -4611686018427387904 ≤ last) (hl' : last ≤ 4611686018427387904) (hx : 0 ≤ x ∧ x < m) (w : World) : Calls Try.prog 18 #[.int .i64 last, .int .i64 x, .int .i64 m] w fun e w' => e = .returned (.int .i64 (last + refD (last % m) x m)) ∧ w = w' := by
  have g1 := Int.emod_nonneg last (show m ≠ 0 by omega)
  have g2 := Int.emod_lt_of_pos last (show 0 < m by omega)
  have g3 : -m ≤ refD (last % m) x m ∧ refD (last % m) x m ≤ m := by unfold refD; split <;> (try split) <;> omega
  have HM := Lib.hid hm
  have hm4 : m ≤ 4294967296 := by omega
  have hm1 : 1 ≤ m := by omega
  clear hm
  go_enter Try.func18, Try.ntmps18
  go_wp2_with fail
  refine (rest_any last m hm1 hm4 _).mono ?_
  rintro e w1 ⟨rfl, rfl⟩
  go_wp2_with fail
  refine (refFrom_any _ x m h HM.out h1 h2 ⟨g1, g2⟩ hx _).mono ?_
  rintro e w1 ⟨rfl, rfl⟩
  go_wp2
  go_ret
  exact ⟨ret_i64 rfl, rfl⟩
theorem refNear_16 (last x : Int) (hx : 0 ≤ x ∧ x < 65536) : refD (last % 65536) x 65536 = d16 last x := by
  rw [refD_16 _ _ (by omega) hx]; unfold d16; omega
theorem refNear_32 (last x : Int) (hx : 0 ≤ x ∧ x < 4294967296) : refD (last % 4294967296) x 4294967296 = d32 last x := by
  rw [refD_32 _ _ (by omega) hx]; unfold d32; omega

theorem bnext {w w1 w2 : World} (h1 : Below w.heap.size w w1) (h2 : Below w1.heap.size w1 w2) : Below w.heap.size w w2 := h1.trans (h2.mono h1.size)

theorem awake_any (w : World) : Calls Try.prog 11 #[] w fun e w' => e = .returned (.bool true) ∧ Below w.heap.size w w' := by
  go_enter Try.func11, Try.ntmps11
  go_wp2_with fail
  refine (from16_any _ _ _).mono ?_
  rintro e w1 ⟨rfl, b1⟩
  rw [show d16 65535 2 = 3 from by decide]
  go_wp2_with fail
  refine (near16_any _ _ (by decide) (by decide) _).mono ?_
  rintro e w2 ⟨rfl, b2⟩
  rw [show (65535 : Int) + d16 65535 2 = 65538 from by decide]
  go_wp2_with fail
  refine (from32_any _ _ _).mono ?_
  rintro e w3 ⟨rfl, b3⟩
  rw [show d32 5 4294967295 = -6 from by decide]
  go_wp2_with fail
  refine (less16_any _ _ _).mono ?_
  rintro e w4 ⟨rfl, b4⟩
  rw [show up16 65535 0 = true from by decide]
  go_wp2_with fail
  refine (less32_any _ _ _).mono ?_
  rintro e w5 ⟨rfl, b5⟩
  rw [show up32 0 4294967295 = false from by decide]
  go_wp2_with fail
  refine (near32_any _ _ (by decide) (by decide) _).mono ?_
  rintro e w6 ⟨rfl, b6⟩
  rw [show (4294967296 : Int) + d32 4294967296 4294967295 = 4294967295 from by decide]
  go_wp2
  go_ret
  exact ⟨ret_bool rfl, ((((b1.trans (b2.mono b1.size)).trans (b3.mono (b1.trans (b2.mono b1.size)).size)).trans (b4.mono (by have := b1.size; have := b2.size; have := b3.size; omega))).trans (b5.mono (by have := b1.size; have := b2.size; have := b3.size; have := b4.size; omega))).trans (b6.mono (by have := b1.size; have := b2.size; have := b3.size; have := b4.size; have := b5.size; omega))⟩
end Go.Proofs.Ytbjmclohnegaaaa
