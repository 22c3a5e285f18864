/-
  Several texts in one (SerF, SerW, SerNa): what each of them says stands at its head.
-/
import Derived.Test.YticnaljfnjiofaaGpl
import Derived.Test.YticnaljfnjiofaaProg
import Derived.Test.YticnaljfnjiofaaWords
import Derived.Deep.DeepCutAuto
/-
  The contract of serial.From16, alone (for the layers that call it).
-/
namespace Go.Proofs.Yticnaljfnjiofaa
open Go.RowKit

/-- How far it is from a to b, of numbers that go round at 65536. -/
def d16 (a b : Int) : Int := (b - a + 32768) % 65536 - 32768
theorem wrap_u16 (n : Int) : IntKind.u16.wrap n = n % 65536 := by simp [IntKind.wrap, IntKind.bits, IntKind.signed]
theorem wrap_i16 (n : Int) : IntKind.i16.wrap n = (n + 32768) % 65536 - 32768 := by
  simp only [IntKind.wrap, IntKind.bits, IntKind.signed]; simp; split <;> omega

theorem d16_is (a b : Int) : wrap64 (IntKind.i16.wrap (IntKind.u16.wrap (b - a))) = d16 a b := by
  rw [wrap_i16, wrap_u16]; unfold wrap64 d16; omega
theorem d16_bd (a b : Int) : -32768 ≤ d16 a b ∧ d16 a b ≤ 32767 := by unfold d16; omega
theorem d16_rest (a b : Int) : d16 (IntKind.u16.wrap a) b = d16 a b := by rw [wrap_u16]; unfold d16; omega
theorem way16_in (a b : Int) (w : World) (p : Addr) (hc : w.cell? p = some (.int .u16 a)) : Calls Try.prog 98 #[.int .u16 b, .pointer (some p)] w fun e w' => e = .returned (.int .i64 (d16 a b)) ∧ w = w' := by
  go_enter Try.func98, Try.ntmps98
  go_wp2
  go_ret
  exact ⟨ret_i64 (d16_is a b), rfl⟩
theorem way16_any (a : Int) (w : World) : Calls Try.prog 97 #[.int .u16 a] w fun e w' => e = .returned (.func (.func 98) #[] #[.pointer (some ⟨w.heap.size, 0, none⟩)]) ∧ w' = w.alloc (.cells #[.int .u16 a] 28) := by
  go_enter Try.func97, Try.ntmps97
  go_wp2
  go_ret
  exact ⟨rfl, rfl⟩
theorem from16_any (a b : Int) (w : World) : Calls Try.prog 96 #[.int .u16 a, .int .u16 b] w fun e w' => e = .returned (.int .i64 (d16 a b)) ∧ Below w.heap.size w w' := by
  go_enter Try.func96, Try.ntmps96
  go_wp2_with fail
  refine (way16_any a _).mono ?_
  rintro e w1 ⟨rfl, rfl⟩
  go_wp2_with fail
  refine (way16_in a b _ ⟨w.heap.size, 0, none⟩ (by simp)).mono ?_
  rintro e w2 ⟨rfl, rfl⟩
  go_wp2
  go_ret
  exact ⟨rfl, (Below.refl _ _).alloc (Nat.le_refl _) _⟩
end Go.Proofs.Yticnaljfnjiofaa
/-
  The contract of serial.Less32.
-/
namespace Go.Proofs.Yticnaljfnjiofaa
open Go.RowKit

def d32 (a b : Int) : Int := (b - a + 2147483648) % 4294967296 - 2147483648
def up32 (a b : Int) : Bool := decide (0 < d32 a b)
theorem d32_is (a b : Int) : wrap64 (wrap32 ((b - a) % 4294967296)) = d32 a b := by
  unfold wrap64 wrap32 d32; omega
theorem d32_bd (a b : Int) : -2147483648 ≤ d32 a b ∧ d32 a b ≤ 2147483647 := by unfold d32; omega
theorem d32_rest (a b : Int) : d32 (a % 4294967296) b = d32 a b := by unfold d32; omega
theorem way32_in (a b : Int) (w : World) (p : Addr) (hc : w.cell? p = some (.int .u32 a)) : Calls Try.prog 71 #[.int .u32 b, .pointer (some p)] w fun e w' => e = .returned (.int .i64 (d32 a b)) ∧ w = w' := by
  go_enter Try.func71, Try.ntmps71
  go_wp2
  go_ret
  exact ⟨ret_i64 (d32_is a b), rfl⟩
theorem way32_any (a : Int) (w : World) : Calls Try.prog 49 #[.int .u32 a] w fun e w' => e = .returned (.func (.func 71) #[] #[.pointer (some ⟨w.heap.size, 0, none⟩)]) ∧ w' = w.alloc (.cells #[.int .u32 a] 22) := by
  go_enter Try.func49, Try.ntmps49
  go_wp2
  go_ret
  exact ⟨rfl, rfl⟩
theorem from32_any (a b : Int) (w : World) : Calls Try.prog 35 #[.int .u32 a, .int .u32 b] w fun e w' => e = .returned (.int .i64 (d32 a b)) ∧ Below w.heap.size w w' := by
  go_enter Try.func35, Try.ntmps35
  go_wp2_with fail
  refine (way32_any a _).mono ?_
  rintro e w1 ⟨rfl, rfl⟩
  go_wp2_with fail
  refine (way32_in a b _ ⟨w.heap.size, 0, none⟩ (by simp)).mono ?_
  rintro e w2 ⟨rfl, rfl⟩
  go_wp2
  go_ret
  exact ⟨rfl, (Below.refl _ _).alloc (Nat.le_refl _) _⟩
theorem less32_any (a b : Int) (w : World) : Calls Try.prog 17 #[.int .u32 a, .int .u32 b] w fun e w' => e = .returned (.bool (up32 a b)) ∧ Below w.heap.size w w' := by
  go_enter Try.func17, Try.ntmps17
  go_wp2_with fail
  refine (from32_any a b _).mono ?_
  rintro e w1 ⟨rfl, h1⟩
  have hd := d32_bd a b
  go_wp2
  go_ret
  exact ⟨ret_bool rfl, h1⟩
end Go.Proofs.Yticnaljfnjiofaa
/-
  The contract of serial.Near16.
-/
namespace Go.Proofs.Yticnaljfnjiofaa
open Go.RowKit

theorem near16_any (last x : Int) (h1 : -4611686018427387904 ≤ last) (h2 : last ≤ 4611686018427387904) (w : World) : Calls Try.prog 92 #[.int .i64 last, .int .u16 x] w fun e w' => e = .returned (.int .i64 (last + d16 last x)) ∧ Below w.heap.size w w' := by
  go_enter Try.func92, Try.ntmps92
  go_wp2_with fail
  refine (from16_any _ x _).mono ?_
  rintro e w1 ⟨rfl, hb⟩
  rw [d16_rest]
  have hd := d16_bd last x
  go_wp2
  go_ret
  exact ⟨ret_i64 rfl, hb⟩

end Go.Proofs.Yticnaljfnjiofaa
