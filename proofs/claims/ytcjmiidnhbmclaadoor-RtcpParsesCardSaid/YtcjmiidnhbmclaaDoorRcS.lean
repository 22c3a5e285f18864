/-
  The contract of package rtcp's Is.
-/
import Derived.Test.YtcjmiidnhbmclaaDoorRcR
namespace Go.Proofs.YtcjmiidnhbmclaaDoor
open Go.RowKit
set_option maxRecDepth 100000

theorem below_drewS (w : World) (m : Nat) : Below w.heap.size w (w.drewN m) := ⟨rfl, rfl, rfl, Nat.le_refl _, fun _ _ => rfl⟩
set_option maxHeartbeats 1600000 in
theorem is_any (A : Option Addr) (c n : Nat) (s : List UInt8) (w : World) (h : Row w w.heap.size 1 A n (u8s s)) (hn : s.length = n) (hl : n ≤ 100000) :
    Calls Tryd.prog 17 #[.slice A n c] w fun e w' => e = .returned (.bool (isB s)) ∧ Below w.heap.size w w' := by
  by_cases h2 : (2 : Int) ≤ (n : Int)
  · match s, hn, h with
    | a :: b :: r, hn, h =>
      obtain ⟨g, o, hA, hg, hcs⟩ := h.2 (by omega)
      subst hA
      have q0 : w.cell? ⟨g, o, none⟩ = some (.int .u8 (a.toNat : Int)) := hcs 0 _ rfl
      have q1 : w.cell? ⟨g, o + 1, none⟩ = some (.int .u8 (b.toNat : Int)) := hcs 1 _ rfl
      have C := Lib.hid (fun wx => show Calls Tryd.prog 30 #[.int .u8 (a.toNat : Int), .int .u8 (b.toNat : Int)] wx fun e w' => e = .returned (.bool (headB a.toNat b.toNat)) ∧ w' = wx from (isHead_any a.toNat b.toNat wx).mono fun _ _ hh => ⟨hh.1, hh.2.symm⟩)
      have HI : Hid (isB (a :: b :: r) = headB a.toNat b.toNat) := Lib.hid rfl
      obtain ⟨hb, hhb⟩ : ∃ hb, headB a.toNat b.toNat = hb := ⟨_, rfl⟩
      rw [hhb] at C HI
      rw [HI.out]
      have hd : decide ((2 : Int) ≤ (n : Int)) = true := by simpa using h2
      have hlt : (0 : Int) < (n : Int) := by omega
      have hlt1 : (1 : Int) < (n : Int) := by omega
      have hl0 : 0 < n := by omega
      have hl1 : 1 < n := by omega
      have hz0 : (0 : Int) ≤ 0 := by decide
      have hz1 : (0 : Int) ≤ 1 := by decide
      clear hcs h hhb HI hn
      generalize a.toNat = x at *
      generalize b.toNat = y at *
      go_enter Tryd.func17, Tryd.ntmps17
      go_wp2_with fail
      go_quiet ((go_at_call 30; exact Calls.quiet_of_same (C.out _)))
      go_wp2
      go_ret
      exact ⟨rfl, below_drewS _ _⟩
    | [_], hn, _ => simp at hn; omega
    | [], hn, _ => simp at hn; omega
  · have HI : Hid (isB s = false) := Lib.hid (by
      match s, hn with
      | [], _ => rfl
      | [_], _ => rfl
      | _ :: _ :: _, hn => simp at hn; omega)
    rw [HI.out]
    have hd : decide ((2 : Int) ≤ (n : Int)) = false := by simpa using h2
    clear HI h hn h2
    go_enter Tryd.func17, Tryd.ntmps17
    go_wp2_with fail
    go_quiet (fail)
    go_wp2
    go_ret
    exact ⟨rfl, below_drewS _ _⟩
end Go.Proofs.YtcjmiidnhbmclaaDoor
