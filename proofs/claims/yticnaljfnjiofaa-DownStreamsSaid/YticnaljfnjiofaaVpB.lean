/-
  Contracts of vp8's picOf, and of Put.
-/
import Derived.Test.YticnaljfnjiofaaVpAb
import Derived.Deep.RegionHeld3
import Derived.RegionTactic
namespace Go.Proofs.Yticnaljfnjiofaa
open Go.RowKit

/-- New bytes, of the call's own. -/
def OwnBytes (bs : List UInt8) (w : World) (e : Ending) (w' : World) : Prop :=
  ∃ A c, e = .returned (.slice A bs.length c) ∧ w'.ownsRow w.heap.size 5 1 (.slice A bs.length c) bs.length (u8s bs) ∧ Below w.heap.size w w'

theorem putOne_two (x : Nat) : putOne (x, 2) = [UInt8.ofNat (x / 256), UInt8.ofNat x] := by
  have := putOne_yes x (s := 2) (by omega) (by omega)
  rw [show bytesN x 2 = [UInt8.ofNat (x / 256), UInt8.ofNat x] from by simp [bytesN]] at this
  exact this
theorem byte_mod (x y : Nat) (h : x % 256 = y % 256) : UInt8.ofNat x = UInt8.ofNat y := by
  apply UInt8.toNat_inj.1
  simpa using h

theorem picOf_any (p : Nat) (wide : Bool) (w : World) (hp : p < 65536) : Calls Try.prog 83 #[.int .u16 (p : Int), .bool wide] w (OwnBytes (picB wide p) w) := by
  have A15 := and15 p hp
  have A7 := and7 p hp
  cases wide with
  | true =>
    have hx : putS [(32768 + p % 32768, 2)] = picB true p := by
      rw [putS_cons, putS_nil, putOne_two]
      simp only [picB, if_true, List.append_nil]
      rw [byte_mod ((32768 + p % 32768) / 256) (128 + p / 256 % 128) (by omega), byte_mod (32768 + p % 32768) p (by omega)]
    have HX := Lib.hid hx
    have HO := Lib.hid (or_more (p % 32768) (by omega))
    have hA : bits .and .u16 (p : Int) 32767 = ((p % 32768 : Nat) : Int) := by rw [A15]; rfl
    have hq : p % 32768 < 32768 := Nat.mod_lt _ (by decide)
    clear A15 A7 hx
    generalize p % 32768 = q at *
    go_enter Try.func83, Try.ntmps83
    go_wp2_with fail
    rw [HO.out]
    refine (put_any _ 1 1 [(32768 + q, 2)] _ (Row.fresh _ _ _ _ _ _ rfl rfl) (by omega) (by simp; omega)).mono ?_
    rintro e w2 ⟨A2, c2, rfl, hown, b2⟩
    rw [HX.out] at hown ⊢
    have HF := Lib.hid (show OwnBytes (picB true p) w (.returned (.slice A2 (picB true p).length c2)) w2 from ⟨A2, c2, rfl, own_base hown (by simp), ((Below.refl _ _).alloc (Nat.le_refl _) _).trans (b2.mono (by simp))⟩)
    clear hown b2
    go_wp2
    go_ret
    exact HF.out
  | false =>
    have hx : putS [(p % 128, 1)] = picB false p := by
      rw [putS_cons, putS_nil, putOne_one]
      simp [picB]
    have HX := Lib.hid hx
    have hA : bits .and .u16 (p : Int) 127 = ((p % 128 : Nat) : Int) := by rw [A7]; rfl
    have hq : p % 128 < 128 := Nat.mod_lt _ (by decide)
    clear A15 A7 hx
    generalize p % 128 = q at *
    go_enter Try.func83, Try.ntmps83
    go_wp2_with fail
    refine (put_any _ 1 1 [(q, 1)] _ (Row.fresh _ _ _ _ _ _ rfl rfl) (by omega) (by simp; omega)).mono ?_
    rintro e w2 ⟨A2, c2, rfl, hown, b2⟩
    rw [HX.out] at hown ⊢
    have HF := Lib.hid (show OwnBytes (picB false p) w (.returned (.slice A2 (picB false p).length c2)) w2 from ⟨A2, c2, rfl, own_base hown (by simp), ((Below.refl _ _).alloc (Nat.le_refl _) _).trans (b2.mono (by simp))⟩)
    clear hown b2
    go_wp2
    go_ret
    exact HF.out
end Go.Proofs.Yticnaljfnjiofaa
