/-
  The contract of serial.From16, alone (for the layers that call it).
-/
import Derived.Test.YtpemikncbolkbaaProg
import Derived.Test.YtpemikncbolkbaaWords
import Derived.Deep.DeepCutAuto
namespace Go.Proofs.Ytpemikncbolkbaa
open Go.RowKit

/-- How far it is from a to b, of numbers that go round at 65536. -/
def d16 (a b : Int) : Int := (b - a + 32768) % 65536 - 32768
theorem wrap_u16 (n : Int) : IntKind.u16.wrap n = n % 65536 := by simp [IntKind.wrap, IntKind.bits, IntKind.signed]
theorem wrap_i16 (n : Int) : IntKind.i16.wrap n = (n + 32768) % 65536 - 32768 := by
  simp only [IntKind.wrap, IntKind.bits, IntKind.signed]; simp; split <;> omega

theorem d16_is (a b : Int) : wrap64 (IntKind.i16.wrap (IntKind.u16.wrap (b - a))) = d16 a b := by
  rw [wrap_i16, wrap_u16]; unfold wrap64 d16; omega
theorem d16_bd (a b : Int) : -32768 ≤ d16 a b ∧ d16 a b ≤ 32767 := by unfold d16; omega
theorem d16_rest (a b : Int) : d16 (IntKind.u16.wrap a) b = d16 a b := by rw [wrap_u16]; unfold d16; omega
theorem ret_i64 {a b : Int} (h : a = b) : Ending.returned (.int .i64 a) = .returned (.int .i64 b) := by rw [h]
theorem way16_in (a b : Int) (w : World) (p : Addr) (hc : w.cell? p = some (.int .u16 a)) : Calls Try.prog 37 #[.int .u16 b, .pointer (some p)] w fun e w' => e = .returned (.int .i64 (d16 a b)) ∧ w = w' := by
  go_enter Try.func37, Try.ntmps37
  go_wp2
  go_ret
  exact ⟨ret_i64 (d16_is a b), rfl⟩
theorem way16_any (a : Int) (w : World) : Calls Try.prog 35 #[.int .u16 a] w fun e w' => e = .returned (.func (.func 37) #[] #[.pointer (some ⟨w.heap.size, 0, none⟩)]) ∧ w' = w.alloc (.cells #[.int .u16 a] 22) := by
  go_enter Try.func35, Try.ntmps35
  go_wp2
  go_ret
  exact ⟨rfl, rfl⟩
theorem from16_any (a b : Int) (w : World) : Calls Try.prog 31 #[.int .u16 a, .int .u16 b] w fun e w' => e = .returned (.int .i64 (d16 a b)) ∧ Below w.heap.size w w' := by
  go_enter Try.func31, Try.ntmps31
  go_wp2_with fail
  refine (way16_any a _).mono ?_
  rintro e w1 ⟨rfl, rfl⟩
  go_wp2_with fail
  refine (way16_in a b _ ⟨w.heap.size, 0, none⟩ (by simp)).mono ?_
  rintro e w2 ⟨rfl, rfl⟩
  go_wp2
  go_ret
  exact ⟨rfl, (Below.refl _ _).alloc (Nat.le_refl _) _⟩
end Go.Proofs.Ytpemikncbolkbaa
