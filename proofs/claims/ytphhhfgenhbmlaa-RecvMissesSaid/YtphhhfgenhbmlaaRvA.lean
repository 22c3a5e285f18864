/-
  Contracts of package recv: what only looks.
-/
import Derived.Test.YtphhhfgenhbmlaaRvL
import Derived.Test.YtphhhfgenhbmlaaSerN
import Derived.Deep.DeepCutAuto
import Derived.Deep.QuietTactic
import Derived.BigQuiet
import Derived.IntWalk
import Derived.Laws.BitsAllLaws
import Derived.RegionTactic
import Derived.Deep.RegionHeld3
import Derived.ChangeAlike
namespace Go.Proofs.Ytphhhfgenhbmlaa
open Go.RowKit

set_option maxRecDepth 100000 in
theorem below_any (t : Trk) (n d : Int) (h0 : -2305843009213693952 ≤ n) (h1 : n ≤ 2305843009213693952) (h2 : -2305843009213693952 ≤ t.high) (h3 : t.high ≤ 2305843009213693952) (hd : t.high - n = d) (hd0 : 0 ≤ d) (w : World) :
    Calls Try.prog 20 #[.agg t.cells, .int .i64 n] w fun e w' => e = .returned (.int .u64 d) ∧ Below w.heap.size w w' := by
  have hd' : d = t.high - n := hd.symm
  have hx : IntKind.u64.wrap (t.high - n) = d := by rw [hd]; simp only [IntKind.wrap, IntKind.bits, IntKind.signed]; simp; omega
  obtain ⟨on, base, high, got, seen⟩ := t
  dsimp only [Trk.cells] at *
  have HX := Lib.hid hx
  have HD := Lib.hid hd
  clear hx hd hd'
  go_enter Try.func20, Try.ntmps20
  go_wp2
  go_ret
  exact ⟨by rw [HX.out]; rfl, (Below.refl _ _).alloc (Nat.le_refl _) _⟩

theorem bit_int (s k : Nat) (hs : s < 2 ^ 64) : (bits .and .u64 ((s : Int) / 2 ^ k) 1 == 1) = s.testBit k := by
  have e : ((s : Int) / 2 ^ k) = ((s / 2 ^ k : Nat) : Int) := by simp
  have hlt : s / 2 ^ k < 18446744073709551616 := Nat.lt_of_le_of_lt (Nat.div_le_self _ _) hs
  rw [e]
  have h := u64_and_nat (s / 2 ^ k) 1 hlt (by decide)
  rw [show ((1 : Nat) : Int) = 1 from rfl] at h
  rw [h, Nat.testBit_eq_decide_div_mod_eq, Bool.eq_iff_iff, beq_iff_eq, decide_eq_true_iff, show ∀ m : Nat, m &&& 1 = m % 2 from fun m => Nat.and_one_is_mod m]
  omega
set_option maxRecDepth 100000 in
theorem came_any (t : Trk) (k : Nat) (hk : k < 64) (hs : t.seen < 2 ^ 64) (w : World) :
    Calls Try.prog 23 #[.agg t.cells, .int .u64 (k : Int)] w fun e w' => e = .returned (.bool (t.seen.testBit k)) ∧ Below w.heap.size w w' := by
  obtain ⟨on, base, high, got, seen⟩ := t
  dsimp only [Trk.cells] at *
  go_enter Try.func23, Try.ntmps23
  go_wp2
  go_ret
  exact ⟨congrArg (fun b => Ending.returned (.bool b)) (bit_int seen k hs), (Below.refl _ _).alloc (Nat.le_refl _) _⟩

/-- The track's numbers are such that nothing goes round. -/
abbrev Trk.Fit (t : Trk) : Prop := t.Ok 1000000000
set_option maxRecDepth 100000 in
theorem kind_any (t : Trk) (n : Int) (ho : t.on = true) (ht : t.Fit) (h0 : -2305843009213693952 ≤ n) (h1 : n ≤ 2305843009213693952) (w : World) :
    Calls Try.prog 19 #[.agg t.cells, .int .i64 n] w fun e w' => e = .returned (.int .i64 (t.kind n)) ∧ Below w.heap.size w w' := by
  have g2 := ht.high0
  have g3 := ht.high1
  obtain ⟨K, hK⟩ : ∃ K, t.kind n = K := ⟨_, rfl⟩
  rw [hK]
  have e0 : t.high < n → K = 0 := fun h => by rw [← hK]; unfold Trk.kind; rw [if_pos ho, if_pos h]
  have e3 : ¬ t.high < n → 64 ≤ t.high - n → K = 3 := fun h h' => by rw [← hK]; unfold Trk.kind; rw [if_pos ho, if_neg h, if_pos h']
  have e2 : ∀ d : Nat, ¬ t.high < n → t.high - n = d → d < 64 → t.seen.testBit d = true → K = 2 := fun d h h' h4 h5 => by
    rw [← hK]; unfold Trk.kind; rw [if_pos ho, if_neg h, if_neg (by omega), if_pos (by rw [h']; exact h5)]
  have e1 : ∀ d : Nat, ¬ t.high < n → t.high - n = d → d < 64 → t.seen.testBit d = false → K = 1 := fun d h h' h4 h5 => by
    rw [← hK]; unfold Trk.kind; rw [if_pos ho, if_neg h, if_neg (by omega), if_neg (by rw [h', Int.toNat_natCast, h5]; decide)]
  have CB : ∀ d : Nat, t.high - n = d → ∀ w, Calls Try.prog 20 #[.agg t.cells, .int .i64 n] w fun e w' => e = .returned (.int .u64 (d : Int)) ∧ Below w.heap.size w w' :=
    fun d hd w => below_any t n d h0 h1 (by omega) (by omega) hd (by omega) w
  have CC : ∀ d : Nat, d < 64 → ∀ w, Calls Try.prog 23 #[.agg t.cells, .int .u64 (d : Int)] w fun e w' => e = .returned (.bool (t.seen.testBit d)) ∧ Below w.heap.size w w' :=
    fun d hd w => came_any t d hd ht.seen w
  clear hK ht ho
  by_cases c0 : t.high < n
  · obtain rfl := e0 c0
    clear e0 e3 e2 e1 CB CC
    obtain ⟨on, base, high, got, seen⟩ := t
    dsimp only [Trk.cells] at *
    go_enter Try.func19, Try.ntmps19
    go_wp2
    go_ret
    exact ⟨rfl, (Below.refl _ _).alloc (Nat.le_refl _) _⟩
  obtain ⟨d, hd⟩ : ∃ d : Nat, t.high - n = d := ⟨(t.high - n).toNat, by omega⟩
  have CB := Lib.hid (CB d hd)
  rw [hd] at e3
  have HD := Lib.hid hd
  clear hd e0
  by_cases c3 : 64 ≤ (d : Int)
  · obtain rfl := e3 c0 c3
    clear e3 e2 e1 CC
    obtain ⟨on, base, high, got, seen⟩ := t
    dsimp only [Trk.cells] at *
    have B0 := Lib.hid ((Below.refl w.heap.size w).alloc (Nat.le_refl _) (.cells #[.bool on, .int .i64 base, .int .i64 high, .int .i64 got, .int .u64 (seen : Int)] 26))
    go_enter Try.func19, Try.ntmps19
    go_wp2_with fail
    refine (CB.out _).mono ?_
    rintro e w1 ⟨rfl, b1⟩
    go_wp2
    go_ret
    exact ⟨rfl, B0.out.trans (b1.mono (by simp))⟩
  have hd64 : d < 64 := by omega
  have CC := Lib.hid (CC d hd64)
  obtain ⟨b, hb⟩ : ∃ b, t.seen.testBit d = b := ⟨_, rfl⟩
  rw [hb] at CC
  have hK : K = if b = true then 2 else 1 := by
    cases b
    · rw [e1 d c0 HD.out hd64 hb]; rfl
    · rw [e2 d c0 HD.out hd64 hb]; rfl
  clear e1 e2 e3 hb
  obtain ⟨on, base, high, got, seen⟩ := t
  dsimp only [Trk.cells] at *
  have B0 := Lib.hid ((Below.refl w.heap.size w).alloc (Nat.le_refl _) (.cells #[.bool on, .int .i64 base, .int .i64 high, .int .i64 got, .int .u64 (seen : Int)] 26))
  have W0 := Lib.hid (Whole.new w 26 #[.bool on, .int .i64 base, .int .i64 high, .int .i64 got, .int .u64 (seen : Int)])
  cases b
  all_goals
    obtain rfl := hK
    go_enter Try.func19, Try.ntmps19
    go_wp2_with fail
    refine (CB.out _).mono ?_
    rintro e w1 ⟨rfl, b1⟩
    have W1 := W0.out.below b1 (by simp)
    have k0 := W1.cell 0
    have k1 := W1.cell 1
    have k2 := W1.cell 2
    have k3 := W1.cell 3
    have k4 := W1.cell 4
    have HB := Lib.hid (B0.out.trans (b1.mono (by simp)))
    clear b1 W1
    go_wp2_with fail
    refine (CC.out _).mono ?_
    rintro e w2 ⟨rfl, b2⟩
    go_wp2
    go_ret
    exact ⟨rfl, HB.out.trans (b2.mono HB.out.size)⟩

set_option maxRecDepth 100000 in
theorem lost_any (t : Trk) (ht : t.Fit) (w : World) :
    Calls Try.prog 12 #[.agg t.cells] w fun e w' => e = .returned (.int .i64 t.lost) ∧ Below w.heap.size w w' := by
  obtain ⟨on, base, high, got, seen⟩ := t
  have := ht.base0
  have := ht.base1
  have := ht.high0
  have := ht.high1
  have := ht.got0
  have := ht.got1
  dsimp only [Trk.cells] at *
  clear ht
  cases on
  all_goals
    go_enter Try.func12, Try.ntmps12
    go_wp2
    go_ret
    exact ⟨by simp [Trk.lost], (Below.refl _ _).alloc (Nat.le_refl _) _⟩
end Go.Proofs.Ytphhhfgenhbmlaa
