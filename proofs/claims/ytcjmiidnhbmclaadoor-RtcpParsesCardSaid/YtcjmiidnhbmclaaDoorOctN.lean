/-
  The contract of the reference of layer 1: the number as a text.
-/
import Derived.Test.YtcjmiidnhbmclaaDoorProg
import Derived.Test.YtcjmiidnhbmclaaDoorOctP
namespace Go.Proofs.YtcjmiidnhbmclaaDoor
set_option maxRecDepth 100000
open Go.RowKit

/-- louverref01.Num: the text of a part's bytes. -/
theorem refnum_any (x : Nat) (n : Int) (w : World) (hx : x < 18446744073709551616) :
    Calls Tryd.prog 35 #[.int .u64 x, .int .i64 n] w fun e w' => e = .returned (.string (str (putOne (x, n)))) ∧ Below w.heap.size w w' := by
  by_cases h1 : n < 1
  · have e1 : putOne (x, n) = [] := putOne_no x (by simp [sizeB]; omega)
    rw [e1]
    go_enter Tryd.func35, Tryd.ntmps35
    go_wp2
    go_ret
    exact ⟨rfl, Below.refl _ _⟩
  by_cases h8 : 8 < n
  · have e1 : putOne (x, n) = [] := putOne_no x (by simp [sizeB]; omega)
    rw [e1]
    go_enter Tryd.func35, Tryd.ntmps35
    go_wp2
    go_ret
    exact ⟨rfl, Below.refl _ _⟩
  obtain ⟨s, rfl⟩ := Int.eq_ofNat_of_zero_le (show 0 ≤ n by omega)
  rw [putOne_yes x (by omega) (by omega)]
  obtain ⟨all, hall⟩ : ∃ all, all = bytesN x s := ⟨_, rfl⟩
  rw [← hall]
  have Hx : Hid (bytesN x (s - 0) ++ [] = all) := by show _ = _; rw [hall]; simp
  clear hall
  go_enter Tryd.func35, Tryd.ntmps35
  go_wp2
  go_loopw [0, 5, 6] (fun xv sv i wr => ∃ (k y : Nat) (d : List UInt8), k ≤ s ∧ i = .int .i64 k ∧ y < 18446744073709551616 ∧ xv = .int .u64 y ∧ sv = .string (str d) ∧ Hid (bytesN y (s - k) ++ d = all) ∧ d.length ≤ k ∧ Below w.heap.size w wr) (fun _ _ i _ => s - (intOf i).toNat)
  case atStart => exact ⟨0, x, [], Nat.zero_le _, rfl, hx, rfl, rfl, Hx, Nat.le_refl _, Below.refl _ _⟩
  case round =>
    obtain ⟨k, y, d, hk, rfl, hy, rfl, rfl, hd, hdl, hb⟩ := hrel
    by_cases hlt : k < s
    · have hmod : ((y : Int) % 256).toNat = y % 256 := by omega
      have hcv := run_text_one (P := Tryd.prog) wr 25 5 9 Tryd.underlying25 Tryd.underlying5 Tryd.underlying9 ((y : Int) % 256) (by omega) (by omega)
      rw [hmod] at hcv
      clear hmod
      have hnext : Hid (bytesN (y / 256) (s - (k + 1)) ++ ([UInt8.ofNat (y % 256)] ++ d) = all) := by
        show _ = _
        rw [← hd.out, show s - k = (s - (k + 1)) + 1 by omega, bytesN_snoc, List.append_assoc]
        congr 3
        apply UInt8.toNat_inj.1
        simp only [UInt8.toNat_ofNat']
        omega
      clear hd Hx
      go_wp2
      go_roundw
      case rel => exact ⟨k + 1, y / 256, _, by omega, by go_num, by omega, by go_num, rfl, hnext, by simp; omega, hb.alloc hb.size _⟩
      case measure => simp [intOf]; omega
    · have hk2 : k = s := by omega
      subst hk2
      have hall : d = all := by have := hd.out; rw [Nat.sub_self] at this; simpa [bytesN] using this
      subst hall
      clear hd Hx
      go_wp2
      go_ret
      exact ⟨rfl, hb⟩
end Go.Proofs.YtcjmiidnhbmclaaDoor
