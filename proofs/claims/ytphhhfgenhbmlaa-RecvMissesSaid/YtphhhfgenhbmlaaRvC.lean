/-
  Contract of package recv: Missing.
-/
import Derived.Test.YtphhhfgenhbmlaaRvA
import Derived.Test.YtphhhfgenhbmlaaQueL
import Derived.Laws.OwnMore
import Derived.Deep.AppendLies
namespace Go.Proofs.Ytphhhfgenhbmlaa
open Go.RowKit

/-- Cells of a row of the call's own. -/
theorem own_cell {w : World} {base : Nat} {e : TypeId} {z n : Nat} {A : Option Addr} {c : Nat} {xs : List Value} (h : w.ownsRow base e z (.slice A n c) n xs) (hn : 0 < n) :
    ∃ g, A = some ⟨g, 0, none⟩ ∧ base ≤ g ∧ g < w.heap.size ∧ ∀ j, j < n * z → w.cell? ⟨g, j, none⟩ = xs[j]? := by
  obtain ⟨g, cap, hv, hb, hg⟩ := h.form hn
  have hA : A = some ⟨g, 0, none⟩ := by injection hv
  subst hA
  exact ⟨g, rfl, hb, hg, fun j hj => h.cellAt j hj⟩

/-- Each one's rest. -/
def lows (l : List Int) : List Value := l.map fun x => .int .u16 (x % 65536)
theorem lows_length (l : List Int) : (lows l).length = l.length := by simp [lows]
theorem lows_append (a b : List Int) : lows (a ++ b) = lows a ++ lows b := by simp [lows]
theorem lows_get (l : List Int) (j : Nat) (x : Int) (h : l[j]? = some x) : (lows l)[j]? = some (.int .u16 (x % 65536)) := by simp [lows, h]
theorem info_u16 : (Try.prog.info? 32).map (fun i => (i.zero, i.size, i.bytes)) = some (some (.int .u16 0), 1, 2) := by kernel_rfl
/-- What misses. -/
def Trk.missing (t : Trk) : List Int := if t.on = true then t.miss else []
/-- New numbers. -/
def NewLows (xs : List Int) (w : World) (e : Ending) (w' : World) : Prop :=
  ∃ A c, e = .returned (.slice A xs.length c) ∧ w'.ownsRow w.heap.size 32 1 (.slice A xs.length c) xs.length (lows xs) ∧ Below w.heap.size w w'

set_option maxRecDepth 100000 in
set_option maxHeartbeats 1600000 in
theorem missing_any (t : Trk) (ht : t.Fit) (w : World) : Calls Try.prog 16 #[.agg t.cells] w (NewLows t.missing w) := by
  by_cases ho : t.on = true
  case neg =>
    have HM : Hid (t.missing = []) := Lib.hid (by unfold Trk.missing; rw [if_neg ho])
    obtain ⟨on, base, high, got, seen⟩ := t
    obtain rfl : on = false := by simpa using ho
    dsimp only [Trk.cells]
    go_enter Try.func16, Try.ntmps16
    go_wp2
    go_ret
    rw [HM.out]
    exact ⟨none, 0, rfl, World.ownsRow_nil _ _ _ _, (Below.refl _ _).alloc (Nat.le_refl _) _⟩
  have HM : Hid (t.missing = missG t.base t.high (fun k => t.seen.testBit k) 64) := Lib.hid (by unfold Trk.missing; rw [if_pos ho]; rfl)
  have g0 := ht.base0
  have g1 := ht.base1
  have g2 := ht.high0
  have g3 := ht.high1
  have CC := Lib.hid (fun (d : Nat) (hd : d < 64) w => came_any t d hd ht.seen w)
  obtain ⟨f, hf⟩ : ∃ f : Nat → Bool, (fun k => t.seen.testBit k) = f := ⟨_, rfl⟩
  have hfk : ∀ k, t.seen.testBit k = f k := fun k => congrFun hf k
  rw [hf] at HM
  simp only [hfk] at CC
  obtain ⟨on, base, high, got, seen⟩ := t
  dsimp only at ho
  subst ho
  dsimp only [Trk.cells] at *
  clear hf hfk ht
  obtain ⟨M, hM⟩ : ∃ M, missG base high f 64 = M := ⟨_, rfl⟩
  rw [HM.out, hM]
  have HM := Lib.hid hM
  clear hM
  have W0 := Lib.hid (Whole.new w 26 #[.bool true, .int .i64 base, .int .i64 high, .int .i64 got, .int .u64 (seen : Int)])
  have B0 := Lib.hid ((Below.refl w.heap.size w).alloc (Nat.le_refl _) (.cells #[.bool true, .int .i64 base, .int .i64 high, .int .i64 got, .int .u64 (seen : Int)] 26))
  go_enter Try.func16, Try.ntmps16
  go_wp2
  go_loopw [3, 10] (fun v i wr => ∃ (k N : Nat) (xs : List Int), k ≤ 64 ∧ i = .int .u64 (k : Int) ∧ N ≤ k ∧ wr.ownsRow (w.heap.size + 1) 32 1 v N (lows xs) ∧ Hid (missG base high f k = xs ∧ xs.length = N) ∧ Hid (Whole wr w.heap.size 26 #[.bool true, .int .i64 base, .int .i64 high, .int .i64 got, .int .u64 (seen : Int)]) ∧ Below w.heap.size w wr) (fun _ i _ => 64 - (intOf i).toNat)
  case atStart => exact ⟨0, 0, [], Nat.zero_le _, rfl, Nat.le_refl _, World.ownsRow_nil _ _ _ _, Lib.hid ⟨rfl, rfl⟩, W0, B0.out⟩
  case round =>
    clear W0 B0
    obtain ⟨k, N, xs, hk, rfl, hN, hown, HX, HW, hb⟩ := hrel
    obtain ⟨Av, cv, rfl⟩ := own_form hown
    by_cases hlt : k < 64
    · obtain ⟨d, hd⟩ : ∃ d : Nat, 63 - k = d := ⟨_, rfl⟩
      have hdi : 63 - (k : Int) = (d : Int) := by omega
      have hd64 : d < 64 := by omega
      have k0 := HW.out.cell 0
      have k1 := HW.out.cell 1
      have k2 := HW.out.cell 2
      have k3 := HW.out.cell 3
      have k4 := HW.out.cell 4
      have HO := Lib.hid hown
      have HB := Lib.hid hb
      have HD := Lib.hid hd
      have hi1 : (0 : Int) ≤ (k : Int) := by omega
      have hi2 : (k : Int) < 64 := by omega
      clear hown hb hd
      by_cases c1 : base ≤ high - (d : Int)
      · obtain ⟨b, hfd⟩ : ∃ b, f d = b := ⟨_, rfl⟩
        have C := Lib.hid (CC.out d hd64 wr)
        rw [hfd] at C
        cases b
        case true =>
          have HX2 : Hid (missG base high f (k + 1) = xs ∧ xs.length = N) := Lib.hid (by
            refine ⟨?_, HX.out.2⟩
            have := HD.out
            rw [missG, HX.out.1, missOne, this, hfd, if_neg (by simp)]
            simp)
          clear hfd HX
          go_wp2_with fail
          refine C.out.mono ?_
          rintro e w2 ⟨rfl, b2⟩
          have HW2 := Lib.hid (HW.out.below b2 HW.out.lt)
          have HO2 := Lib.hid (own_below HO.out b2 (Nat.le_refl _))
          have HB2 := Lib.hid (HB.out.trans (b2.mono HB.out.size))
          clear b2 HO HB C HW k0 k1 k2 k3 k4 HD hdi
          go_wp2
          go_roundw
          case rel => exact ⟨k + 1, N, xs, by omega, by go_num, by omega, HO2.out, HX2, HW2, HB2.out⟩
          case measure => simp [intOf]; omega
        case false =>
          obtain ⟨x, hx⟩ : ∃ x, high - (d : Int) = x := ⟨_, rfl⟩
          have HX2 : Hid (missG base high f (k + 1) = xs ++ [x] ∧ (xs ++ [x]).length = N + 1) := Lib.hid (by
            refine ⟨?_, by simp [HX.out.2]⟩
            have := HD.out
            rw [missG, HX.out.1, missOne, this, hfd, if_pos ⟨c1, rfl⟩, hx])
          clear hfd HX
          rw [hx] at c1
          have hx1 : -1000000063 ≤ x := by omega
          have hx2 : x ≤ 1000000000 := by omega
          go_wp2_with fail
          refine C.out.mono ?_
          rintro e w2 ⟨rfl, b2⟩
          have HW2 := Lib.hid (HW.out.below b2 HW.out.lt)
          have HO2 := Lib.hid (own_below HO.out b2 (Nat.le_refl _))
          have HB2 := Lib.hid (HB.out.trans (b2.mono HB.out.size))
          have hsz := HB2.out.size
          have hw0 := HW2.out.lt
          have hne : ∀ q, (Value.slice Av N cv).ownBlock = some q → w.heap.size + 1 ≤ q ∧ q < w2.heap.size := fun q hq => HO2.out.lt q hq
          have hrow : Row (w2.alloc (.cells #[.int .u16 (IntKind.u16.wrap x)] 32)) (w2.heap.size + 1) 1 (some ⟨w2.heap.size, 0, none⟩) 1 [.int .u16 (IntKind.u16.wrap x)] := Row.one _ _ _
          have HR := Lib.hid hrow
          have HNE := Lib.hid hne
          clear b2 HO HB C HW k0 k1 k2 k3 k4 HD hdi hrow hne hx
          go_wp2_with (at_builtin; refine wpl_append _ rfl (.tmp 30) (.tmp 33) 22 rfl (w.heap.size + 1) 32 (.int .u16 0) 1 2 Try.underlying22 info_u16 rfl (by decide) (.slice Av N cv) N (lows xs) rfl (HO2.out.alloc _) (w2.heap.size + 1) (some ⟨w2.heap.size, 0, none⟩) 1 1 [.int .u16 (IntKind.u16.wrap x)] rfl HR.out (by simp [Value.oneCell']) ?c1 ?c2 ?c3 ?_)
          case c1 => unfold maxLen; omega
          case c2 => omega
          case c3 => simp; omega
          intro v4 w4 hown4 hg4 _
          have HB4 := Lib.hid ((HB2.out.alloc (by omega) _).grown hg4 (by simp; omega) (fun q hq => by have := (HNE.out q hq).1; omega))
          have HW4 := Lib.hid ((HW2.out.alloc _).grown hg4 (fun e => by have := (HNE.out _ e.symm).1; omega))
          have HO4 : Hid (w4.ownsRow (w.heap.size + 1) 32 1 v4 (N + 1) (lows (xs ++ [x]))) := Lib.hid (by rw [lows_append]; rw [IntKind.wrap_u16] at hown4; exact hown4)
          clear hown4 hg4 HO2 HB2 HW2 HR HNE hsz hw0
          go_wp2
          go_roundw
          case rel => exact ⟨k + 1, N + 1, xs ++ [x], by omega, by go_num, by omega, HO4.out, HX2, HW4, HB4.out⟩
          case measure => simp [intOf]; omega
      · have HX2 : Hid (missG base high f (k + 1) = xs ∧ xs.length = N) := Lib.hid (by
          refine ⟨?_, HX.out.2⟩
          have := HD.out
          rw [missG, HX.out.1, missOne, this, if_neg (fun h => c1 h.1)]
          simp)
        clear HX HD CC
        go_wp2
        go_roundw
        case rel => exact ⟨k + 1, N, xs, by omega, by go_num, by omega, HO.out, HX2, HW, HB.out⟩
        case measure => simp [intOf]; omega
    · obtain rfl : k = 64 := by omega
      have HF : Hid (NewLows M w (.returned (.slice Av N cv)) wr) := Lib.hid (by
        obtain ⟨h1, rfl⟩ := HX.out
        rw [← HM.out, h1]
        exact ⟨Av, cv, rfl, own_base hown (by omega), hb⟩)
      clear hown hb HX HW
      go_wp2
      go_ret
      exact HF.out
end Go.Proofs.Ytphhhfgenhbmlaa
