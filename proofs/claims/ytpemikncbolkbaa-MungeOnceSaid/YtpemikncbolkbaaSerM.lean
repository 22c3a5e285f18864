/-
  Contracts of serial.Less16, Less32 and of the document's From at 4294967296 (for the layers that call them).
-/
import Derived.Test.YtpemikncbolkbaaSerN
namespace Go.Proofs.Ytpemikncbolkbaa
open Go.RowKit

def d32 (a b : Int) : Int := (b - a + 2147483648) % 4294967296 - 2147483648
def up16 (a b : Int) : Bool := decide (0 < d16 a b)
def up32 (a b : Int) : Bool := decide (0 < d32 a b)
theorem ret_bool {a b : Bool} (h : a = b) : Ending.returned (.bool a) = .returned (.bool b) := by rw [h]
theorem d32_is (a b : Int) : wrap64 (wrap32 ((b - a) % 4294967296)) = d32 a b := by
  unfold wrap64 wrap32 d32; omega
theorem d32_bd (a b : Int) : -2147483648 ≤ d32 a b ∧ d32 a b ≤ 2147483647 := by unfold d32; omega
theorem d32_rest (a b : Int) : d32 (a % 4294967296) b = d32 a b := by unfold d32; omega
theorem less16_any (a b : Int) (w : World) : Calls Try.prog 20 #[.int .u16 a, .int .u16 b] w fun e w' => e = .returned (.bool (up16 a b)) ∧ Below w.heap.size w w' := by
  go_enter Try.func20, Try.ntmps20
  go_wp2_with fail
  refine (from16_any a b _).mono ?_
  rintro e w1 ⟨rfl, h1⟩
  have hd := d16_bd a b
  go_wp2
  go_ret
  exact ⟨ret_bool rfl, h1⟩
theorem way32_in (a b : Int) (w : World) (p : Addr) (hc : w.cell? p = some (.int .u32 a)) : Calls Try.prog 36 #[.int .u32 b, .pointer (some p)] w fun e w' => e = .returned (.int .i64 (d32 a b)) ∧ w = w' := by
  go_enter Try.func36, Try.ntmps36
  go_wp2
  go_ret
  exact ⟨ret_i64 (d32_is a b), rfl⟩
theorem way32_any (a : Int) (w : World) : Calls Try.prog 34 #[.int .u32 a] w fun e w' => e = .returned (.func (.func 36) #[] #[.pointer (some ⟨w.heap.size, 0, none⟩)]) ∧ w' = w.alloc (.cells #[.int .u32 a] 23) := by
  go_enter Try.func34, Try.ntmps34
  go_wp2
  go_ret
  exact ⟨rfl, rfl⟩
theorem from32_any (a b : Int) (w : World) : Calls Try.prog 30 #[.int .u32 a, .int .u32 b] w fun e w' => e = .returned (.int .i64 (d32 a b)) ∧ Below w.heap.size w w' := by
  go_enter Try.func30, Try.ntmps30
  go_wp2_with fail
  refine (way32_any a _).mono ?_
  rintro e w1 ⟨rfl, rfl⟩
  go_wp2_with fail
  refine (way32_in a b _ ⟨w.heap.size, 0, none⟩ (by simp)).mono ?_
  rintro e w2 ⟨rfl, rfl⟩
  go_wp2
  go_ret
  exact ⟨rfl, (Below.refl _ _).alloc (Nat.le_refl _) _⟩
theorem less32_any (a b : Int) (w : World) : Calls Try.prog 19 #[.int .u32 a, .int .u32 b] w fun e w' => e = .returned (.bool (up32 a b)) ∧ Below w.heap.size w w' := by
  go_enter Try.func19, Try.ntmps19
  go_wp2_with fail
  refine (from32_any a b _).mono ?_
  rintro e w1 ⟨rfl, h1⟩
  have hd := d32_bd a b
  go_wp2
  go_ret
  exact ⟨ret_bool rfl, h1⟩
theorem refD_32 (a b : Int) (ha : 0 ≤ a ∧ a < 4294967296) (hb : 0 ≤ b ∧ b < 4294967296) : refD a b 4294967296 = d32 a b := by
  unfold refD d32; split <;> (try split) <;> omega
end Go.Proofs.Ytpemikncbolkbaa
