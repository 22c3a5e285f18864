/-
  Contracts of the document's answers of layer 17 (louverref17): Route, Own, Source; of the law's down.
-/
import Derived.Test.YtgjhcnpegaemoaaTbL
import Derived.Test.YtgjhcnpegaemoaaOwnX
import Derived.Test.YtgjhcnpegaemoaaProg
import Derived.Laws.OwnMore
import Derived.Deep.CutBlock
import Derived.Deep.DeepCutAuto
import Derived.Deep.QuietTactic
import Derived.Deep.RegionHeld3
import Derived.RegionTactic
import Derived.BigQuiet
import Derived.IntWalk
namespace Go.Proofs.Ytgjhcnpegaemoaa
open Go.RowKit
set_option linter.unusedSimpArgs false
set_option linter.unusedVariables false
set_option maxRecDepth 100000

def rtOut (o : Option Rt) : Value := .tuple #[.agg (o.getD zeroR).cells.toArray, .bool o.isSome]
def dnOut (o : Option Dn) : Value := .tuple #[.agg (o.getD zeroD).cells.toArray, .bool o.isSome]
def srcOut (o : Option Rt) : Value := .tuple #[.int .u32 ((o.getD zeroR).ssrc), .bool o.isSome]

set_option maxHeartbeats 3200000 in
theorem rroute17 (A : Option Addr) (c : Nat) (l : List Rt) (s : Int) (w : World) (hr : Row w w.heap.size 5 A l.length (rtC l)) (hl : l.length ≤ 4096) :
    Calls Try.prog 13 #[.slice A l.length c, .int .u32 s] w fun e w' => e = .returned (rtOut (routeS l s)) ∧ Below w.heap.size w w' := by
  obtain ⟨w1, hw1⟩ : ∃ z, z = w.alloc (.cells #[.int .u32 0, .int .i64 0, .int .i64 0, .int .i64 0, .int .i64 0] 44) := ⟨_, rfl⟩
  have HB1 := Lib.hid (show Below w.heap.size w w1 by rw [hw1]; exact (Below.refl _ _).alloc (Nat.le_refl _) _)
  have HQ := Lib.hid (show Whole w1 w.heap.size 44 #[.int .u32 0, .int .i64 0, .int .i64 0, .int .i64 0, .int .i64 0] by rw [hw1]; exact Whole.new w _ _)
  have HR := Lib.hid (hr.below HB1.out (Nat.le_refl _))
  have hz1 : w1.heap.size = w.heap.size + 1 := by rw [hw1]; simp
  have r0 := HQ.out.cell 0
  have fr0 := HQ.out.free 0
  have r1 := HQ.out.cell 1
  have fr1 := HQ.out.free 1
  have r2 := HQ.out.cell 2
  have fr2 := HQ.out.free 2
  have r3 := HQ.out.cell 3
  have fr3 := HQ.out.free 3
  have r4 := HQ.out.cell 4
  have fr4 := HQ.out.free 4
  have lR := HQ.out.lt
  obtain ⟨n, hn⟩ : ∃ n, l.length = n := ⟨_, rfl⟩
  have HN := Lib.hid hn
  rw [hn] at hl HR ⊢
  clear hr hn
  go_enter Try.func13, Try.ntmps13
  go_upto_region 1 with fail
  rw [← hw1]
  clear hw1
  go_wp2_with fail
  go_loopw [6] (fun i wr => ∃ k : Nat, k ≤ n ∧ i = .int .i64 (k : Int) ∧ wr = w1 ∧ ∀ (j : Nat) (x : Rt), j < k → l[j]? = some x → ¬ x.ssrc = s) (fun i _ => n - (intOf i).toNat)
  case atStart => exact ⟨0, Nat.zero_le _, rfl, rfl, fun j x h => by omega⟩
  case round =>
    obtain ⟨k, hk, rfl, rfl, hno⟩ := hrel
    have HNO := Lib.hid hno
    clear hno
    by_cases hlt : k < n
    · obtain ⟨y, hy⟩ : ∃ y, l[k]? = some y := ⟨_, List.getElem?_eq_getElem (by rw [HN.out]; exact hlt)⟩
      obtain ⟨g, o, rfl, hg, hc⟩ := HR.out.2 (by omega)
      have c0 := hc _ _ ((rtC_get hy 0 (by decide)).trans rfl)
      have c1 := hc _ _ ((rtC_get hy 1 (by decide)).trans rfl)
      have c2 := hc _ _ ((rtC_get hy 2 (by decide)).trans rfl)
      have c3 := hc _ _ ((rtC_get hy 3 (by decide)).trans rfl)
      have c4 := hc _ _ ((rtC_get hy 4 (by decide)).trans rfl)
      rw [Nat.add_zero] at c0
      rw [← Nat.add_assoc] at c1
      rw [← Nat.add_assoc] at c2
      rw [← Nat.add_assoc] at c3
      rw [← Nat.add_assoc] at c4
      have i0 : (0 : Int) ≤ (k : Int) := by omega
      have i1 : (k : Int) < (n : Int) := by omega
      have lg : g < wr.heap.size := by omega
      have gq : g ≠ w.heap.size := by omega
      have HY := Lib.hid hy
      obtain ⟨xs, xt, xf, xl, xh⟩ := y
      dsimp only at c0 c1 c2 c3 c4
      clear hc hy
      by_cases hs : xs = s
      · have HX := Lib.hid (show routeS l s = some ⟨xs, xt, xf, xl, xh⟩ from find_take HY.out (fun j x hj hx => decide_eq_false (HNO.out j x hj hx)) (decide_eq_true hs))
        have HF := Lib.hid (show Below w.heap.size w (((((wr.setCell ⟨w.heap.size, 0, none⟩ (.int .u32 xs)).setCell ⟨w.heap.size, 1, none⟩ (.int .i64 xt)).setCell ⟨w.heap.size, 2, none⟩ (.int .i64 xf)).setCell ⟨w.heap.size, 3, none⟩ (.int .i64 xl)).setCell ⟨w.heap.size, 4, none⟩ (.int .i64 xh)) from (Below.setCell (p := ⟨w.heap.size, 4, none⟩) ((Below.setCell (p := ⟨w.heap.size, 3, none⟩) ((Below.setCell (p := ⟨w.heap.size, 2, none⟩) ((Below.setCell (p := ⟨w.heap.size, 1, none⟩) ((Below.setCell (p := ⟨w.heap.size, 0, none⟩) (HB1.out) (Nat.le_refl _) (.int .u32 xs))) (Nat.le_refl _) (.int .i64 xt))) (Nat.le_refl _) (.int .i64 xf))) (Nat.le_refl _) (.int .i64 xl))) (Nat.le_refl _) (.int .i64 xh)))
        subst hs
        clear HY HNO HR HN HB1 HQ
        go_wp2_with fail
        exact bodyPost_ret (v := .tuple #[.agg #[.int .u32 xs, .int .i64 xt, .int .i64 xf, .int .i64 xl, .int .i64 xh], .bool true]) (by simp [results, Try.results13, go_sem, r0, r1, r2, r3, r4, lR]) rfl ⟨by rw [HX.out]; rfl, HF.out⟩
      · clear c1 c2 c3 c4
        go_wp2_with fail
        go_roundw
        case rel => exact ⟨k + 1, by omega, by go_num, (by first | exact True.intro | rfl), fun j x hj hx => by
          rcases Nat.lt_or_ge j k with h | h
          · exact HNO.out j x h hx
          · obtain rfl : j = k := by omega
            rw [HY.out] at hx
            injection hx with hx
            rw [← hx]
            exact hs⟩
        case measure => simp [intOf]; omega
    · obtain rfl : k = n := by omega
      have HX := Lib.hid (show routeS l s = none from find_no (fun j x hx => decide_eq_false (HNO.out j x (by have := (List.getElem?_eq_some_iff.1 hx).1; rw [HN.out] at this; exact this) hx)))
      have HF := Lib.hid (show Below w.heap.size w (((((wr.setCell ⟨w.heap.size, 0, none⟩ (.int .u32 0)).setCell ⟨w.heap.size, 1, none⟩ (.int .i64 0)).setCell ⟨w.heap.size, 2, none⟩ (.int .i64 0)).setCell ⟨w.heap.size, 3, none⟩ (.int .i64 0)).setCell ⟨w.heap.size, 4, none⟩ (.int .i64 0)) from (Below.setCell (p := ⟨w.heap.size, 4, none⟩) ((Below.setCell (p := ⟨w.heap.size, 3, none⟩) ((Below.setCell (p := ⟨w.heap.size, 2, none⟩) ((Below.setCell (p := ⟨w.heap.size, 1, none⟩) ((Below.setCell (p := ⟨w.heap.size, 0, none⟩) (HB1.out) (Nat.le_refl _) (.int .u32 0))) (Nat.le_refl _) (.int .i64 0))) (Nat.le_refl _) (.int .i64 0))) (Nat.le_refl _) (.int .i64 0))) (Nat.le_refl _) (.int .i64 0)))
      clear HNO HR HN HB1 HQ
      go_wp2_with fail
      exact bodyPost_ret (v := .tuple #[.agg #[.int .u32 0, .int .i64 0, .int .i64 0, .int .i64 0, .int .i64 0], .bool false]) (by simp [results, Try.results13, go_sem, r0, r1, r2, r3, r4, lR]) rfl ⟨by rw [HX.out]; rfl, HF.out⟩

set_option maxHeartbeats 3200000 in
theorem rown17 (A : Option Addr) (c : Nat) (l : List Dn) (s : Int) (w : World) (hr : Row w w.heap.size 10 A l.length (dnC l)) (hl : l.length ≤ 4096) :
    Calls Try.prog 15 #[.slice A l.length c, .int .u32 s] w fun e w' => e = .returned (dnOut (ownS l s)) ∧ Below w.heap.size w w' := by
  obtain ⟨w1, hw1⟩ : ∃ z, z = w.alloc (.cells #[.int .u32 0, .int .i64 0, .int .u32 0, .int .i64 0, .int .i64 0, .int .i64 0, .int .i64 0, .int .i64 0, .int .i64 0, .bool false] 49) := ⟨_, rfl⟩
  have HB1 := Lib.hid (show Below w.heap.size w w1 by rw [hw1]; exact (Below.refl _ _).alloc (Nat.le_refl _) _)
  have HQ := Lib.hid (show Whole w1 w.heap.size 49 #[.int .u32 0, .int .i64 0, .int .u32 0, .int .i64 0, .int .i64 0, .int .i64 0, .int .i64 0, .int .i64 0, .int .i64 0, .bool false] by rw [hw1]; exact Whole.new w _ _)
  have HR := Lib.hid (hr.below HB1.out (Nat.le_refl _))
  have hz1 : w1.heap.size = w.heap.size + 1 := by rw [hw1]; simp
  have r0 := HQ.out.cell 0
  have fr0 := HQ.out.free 0
  have r1 := HQ.out.cell 1
  have fr1 := HQ.out.free 1
  have r2 := HQ.out.cell 2
  have fr2 := HQ.out.free 2
  have r3 := HQ.out.cell 3
  have fr3 := HQ.out.free 3
  have r4 := HQ.out.cell 4
  have fr4 := HQ.out.free 4
  have r5 := HQ.out.cell 5
  have fr5 := HQ.out.free 5
  have r6 := HQ.out.cell 6
  have fr6 := HQ.out.free 6
  have r7 := HQ.out.cell 7
  have fr7 := HQ.out.free 7
  have r8 := HQ.out.cell 8
  have fr8 := HQ.out.free 8
  have r9 := HQ.out.cell 9
  have fr9 := HQ.out.free 9
  have lR := HQ.out.lt
  obtain ⟨n, hn⟩ : ∃ n, l.length = n := ⟨_, rfl⟩
  have HN := Lib.hid hn
  rw [hn] at hl HR ⊢
  clear hr hn
  go_enter Try.func15, Try.ntmps15
  go_upto_region 1 with fail
  rw [← hw1]
  clear hw1
  go_wp2_with fail
  go_loopw [6] (fun i wr => ∃ k : Nat, k ≤ n ∧ i = .int .i64 (k : Int) ∧ wr = w1 ∧ ∀ (j : Nat) (x : Dn), j < k → l[j]? = some x → ¬ x.ssrc = s) (fun i _ => n - (intOf i).toNat)
  case atStart => exact ⟨0, Nat.zero_le _, rfl, rfl, fun j x h => by omega⟩
  case round =>
    obtain ⟨k, hk, rfl, rfl, hno⟩ := hrel
    have HNO := Lib.hid hno
    clear hno
    by_cases hlt : k < n
    · obtain ⟨y, hy⟩ : ∃ y, l[k]? = some y := ⟨_, List.getElem?_eq_getElem (by rw [HN.out]; exact hlt)⟩
      obtain ⟨g, o, rfl, hg, hc⟩ := HR.out.2 (by omega)
      have c0 := hc _ _ ((dnC_get hy 0 (by decide)).trans rfl)
      have c1 := hc _ _ ((dnC_get hy 1 (by decide)).trans rfl)
      have c2 := hc _ _ ((dnC_get hy 2 (by decide)).trans rfl)
      have c3 := hc _ _ ((dnC_get hy 3 (by decide)).trans rfl)
      have c4 := hc _ _ ((dnC_get hy 4 (by decide)).trans rfl)
      have c5 := hc _ _ ((dnC_get hy 5 (by decide)).trans rfl)
      have c6 := hc _ _ ((dnC_get hy 6 (by decide)).trans rfl)
      have c7 := hc _ _ ((dnC_get hy 7 (by decide)).trans rfl)
      have c8 := hc _ _ ((dnC_get hy 8 (by decide)).trans rfl)
      have c9 := hc _ _ ((dnC_get hy 9 (by decide)).trans rfl)
      rw [Nat.add_zero] at c0
      rw [← Nat.add_assoc] at c1
      rw [← Nat.add_assoc] at c2
      rw [← Nat.add_assoc] at c3
      rw [← Nat.add_assoc] at c4
      rw [← Nat.add_assoc] at c5
      rw [← Nat.add_assoc] at c6
      rw [← Nat.add_assoc] at c7
      rw [← Nat.add_assoc] at c8
      rw [← Nat.add_assoc] at c9
      have i0 : (0 : Int) ≤ (k : Int) := by omega
      have i1 : (k : Int) < (n : Int) := by omega
      have lg : g < wr.heap.size := by omega
      have gq : g ≠ w.heap.size := by omega
      have HY := Lib.hid hy
      obtain ⟨xs, xsl, xtu, xw, xt, xh, xf, xl, xd, xm⟩ := y
      dsimp only at c0 c1 c2 c3 c4 c5 c6 c7 c8 c9
      clear hc hy
      by_cases hs : xs = s
      · have HX := Lib.hid (show ownS l s = some ⟨xs, xsl, xtu, xw, xt, xh, xf, xl, xd, xm⟩ from find_take HY.out (fun j x hj hx => decide_eq_false (HNO.out j x hj hx)) (decide_eq_true hs))
        have HF := Lib.hid (show Below w.heap.size w ((((((((((wr.setCell ⟨w.heap.size, 0, none⟩ (.int .u32 xs)).setCell ⟨w.heap.size, 1, none⟩ (.int .i64 xsl)).setCell ⟨w.heap.size, 2, none⟩ (.int .u32 xtu)).setCell ⟨w.heap.size, 3, none⟩ (.int .i64 xw)).setCell ⟨w.heap.size, 4, none⟩ (.int .i64 xt)).setCell ⟨w.heap.size, 5, none⟩ (.int .i64 xh)).setCell ⟨w.heap.size, 6, none⟩ (.int .i64 xf)).setCell ⟨w.heap.size, 7, none⟩ (.int .i64 xl)).setCell ⟨w.heap.size, 8, none⟩ (.int .i64 xd)).setCell ⟨w.heap.size, 9, none⟩ (.bool xm)) from (Below.setCell (p := ⟨w.heap.size, 9, none⟩) ((Below.setCell (p := ⟨w.heap.size, 8, none⟩) ((Below.setCell (p := ⟨w.heap.size, 7, none⟩) ((Below.setCell (p := ⟨w.heap.size, 6, none⟩) ((Below.setCell (p := ⟨w.heap.size, 5, none⟩) ((Below.setCell (p := ⟨w.heap.size, 4, none⟩) ((Below.setCell (p := ⟨w.heap.size, 3, none⟩) ((Below.setCell (p := ⟨w.heap.size, 2, none⟩) ((Below.setCell (p := ⟨w.heap.size, 1, none⟩) ((Below.setCell (p := ⟨w.heap.size, 0, none⟩) (HB1.out) (Nat.le_refl _) (.int .u32 xs))) (Nat.le_refl _) (.int .i64 xsl))) (Nat.le_refl _) (.int .u32 xtu))) (Nat.le_refl _) (.int .i64 xw))) (Nat.le_refl _) (.int .i64 xt))) (Nat.le_refl _) (.int .i64 xh))) (Nat.le_refl _) (.int .i64 xf))) (Nat.le_refl _) (.int .i64 xl))) (Nat.le_refl _) (.int .i64 xd))) (Nat.le_refl _) (.bool xm)))
        subst hs
        clear HY HNO HR HN HB1 HQ
        go_wp2_with fail
        exact bodyPost_ret (v := .tuple #[.agg #[.int .u32 xs, .int .i64 xsl, .int .u32 xtu, .int .i64 xw, .int .i64 xt, .int .i64 xh, .int .i64 xf, .int .i64 xl, .int .i64 xd, .bool xm], .bool true]) (by simp [results, Try.results15, go_sem, r0, r1, r2, r3, r4, r5, r6, r7, r8, r9, lR]) rfl ⟨by rw [HX.out]; rfl, HF.out⟩
      · clear c1 c2 c3 c4 c5 c6 c7 c8 c9
        go_wp2_with fail
        go_roundw
        case rel => exact ⟨k + 1, by omega, by go_num, (by first | exact True.intro | rfl), fun j x hj hx => by
          rcases Nat.lt_or_ge j k with h | h
          · exact HNO.out j x h hx
          · obtain rfl : j = k := by omega
            rw [HY.out] at hx
            injection hx with hx
            rw [← hx]
            exact hs⟩
        case measure => simp [intOf]; omega
    · obtain rfl : k = n := by omega
      have HX := Lib.hid (show ownS l s = none from find_no (fun j x hx => decide_eq_false (HNO.out j x (by have := (List.getElem?_eq_some_iff.1 hx).1; rw [HN.out] at this; exact this) hx)))
      have HF := Lib.hid (show Below w.heap.size w ((((((((((wr.setCell ⟨w.heap.size, 0, none⟩ (.int .u32 0)).setCell ⟨w.heap.size, 1, none⟩ (.int .i64 0)).setCell ⟨w.heap.size, 2, none⟩ (.int .u32 0)).setCell ⟨w.heap.size, 3, none⟩ (.int .i64 0)).setCell ⟨w.heap.size, 4, none⟩ (.int .i64 0)).setCell ⟨w.heap.size, 5, none⟩ (.int .i64 0)).setCell ⟨w.heap.size, 6, none⟩ (.int .i64 0)).setCell ⟨w.heap.size, 7, none⟩ (.int .i64 0)).setCell ⟨w.heap.size, 8, none⟩ (.int .i64 0)).setCell ⟨w.heap.size, 9, none⟩ (.bool false)) from (Below.setCell (p := ⟨w.heap.size, 9, none⟩) ((Below.setCell (p := ⟨w.heap.size, 8, none⟩) ((Below.setCell (p := ⟨w.heap.size, 7, none⟩) ((Below.setCell (p := ⟨w.heap.size, 6, none⟩) ((Below.setCell (p := ⟨w.heap.size, 5, none⟩) ((Below.setCell (p := ⟨w.heap.size, 4, none⟩) ((Below.setCell (p := ⟨w.heap.size, 3, none⟩) ((Below.setCell (p := ⟨w.heap.size, 2, none⟩) ((Below.setCell (p := ⟨w.heap.size, 1, none⟩) ((Below.setCell (p := ⟨w.heap.size, 0, none⟩) (HB1.out) (Nat.le_refl _) (.int .u32 0))) (Nat.le_refl _) (.int .i64 0))) (Nat.le_refl _) (.int .u32 0))) (Nat.le_refl _) (.int .i64 0))) (Nat.le_refl _) (.int .i64 0))) (Nat.le_refl _) (.int .i64 0))) (Nat.le_refl _) (.int .i64 0))) (Nat.le_refl _) (.int .i64 0))) (Nat.le_refl _) (.int .i64 0))) (Nat.le_refl _) (.bool false)))
      clear HNO HR HN HB1 HQ
      go_wp2_with fail
      exact bodyPost_ret (v := .tuple #[.agg #[.int .u32 0, .int .i64 0, .int .u32 0, .int .i64 0, .int .i64 0, .int .i64 0, .int .i64 0, .int .i64 0, .int .i64 0, .bool false], .bool false]) (by simp [results, Try.results15, go_sem, r0, r1, r2, r3, r4, r5, r6, r7, r8, r9, lR]) rfl ⟨by rw [HX.out]; rfl, HF.out⟩

set_option maxHeartbeats 3200000 in
theorem rsource17 (A : Option Addr) (c : Nat) (l : List Rt) (t y : Int) (w : World) (hr : Row w w.heap.size 5 A l.length (rtC l)) (hl : l.length ≤ 4096) :
    Calls Try.prog 17 #[.slice A l.length c, .int .i64 t, .int .i64 y] w fun e w' => e = .returned (srcOut (sourceS l t y)) ∧ Below w.heap.size w w' := by
  have HB := Lib.hid (Below.refl w.heap.size w)
  have HR := Lib.hid hr
  obtain ⟨n, hn⟩ : ∃ n, l.length = n := ⟨_, rfl⟩
  have HN := Lib.hid hn
  rw [hn] at hl HR ⊢
  clear hr hn
  go_enter Try.func17, Try.ntmps17
  go_wp2_with fail
  go_loopw [8] (fun i wr => ∃ k : Nat, k ≤ n ∧ i = .int .i64 (k : Int) ∧ wr = w ∧ ∀ (j : Nat) (x : Rt), j < k → l[j]? = some x → ¬ (x.track = t ∧ x.layer = y)) (fun i _ => n - (intOf i).toNat)
  case atStart => exact ⟨0, Nat.zero_le _, rfl, rfl, fun j x h => by omega⟩
  case round =>
    obtain ⟨k, hk, rfl, rfl, hno⟩ := hrel
    have HNO := Lib.hid hno
    clear hno
    by_cases hlt : k < n
    · obtain ⟨z, hz⟩ : ∃ z, l[k]? = some z := ⟨_, List.getElem?_eq_getElem (by rw [HN.out]; exact hlt)⟩
      obtain ⟨g, o, rfl, hg, hc⟩ := HR.out.2 (by omega)
      have c0 := hc _ _ ((rtC_get hz 0 (by decide)).trans rfl)
      have c1 := hc _ _ ((rtC_get hz 1 (by decide)).trans rfl)
      have c3 := hc _ _ ((rtC_get hz 3 (by decide)).trans rfl)
      rw [Nat.add_zero] at c0
      rw [← Nat.add_assoc] at c1 c3
      have i0 : (0 : Int) ≤ (k : Int) := by omega
      have i1 : (k : Int) < (n : Int) := by omega
      have HZ := Lib.hid hz
      obtain ⟨xs, xt, xf, xl, xh⟩ := z
      dsimp only at c0 c1 c3
      clear hc hz
      by_cases h1 : xt = t
      · by_cases h2 : xl = y
        · have HX := Lib.hid (show sourceS l t y = some ⟨xs, xt, xf, xl, xh⟩ from find_take HZ.out (fun j x hj hx => decide_eq_false (HNO.out j x hj hx)) (decide_eq_true ⟨h1, h2⟩))
          subst h1
          subst h2
          clear HZ HNO HR HN
          go_wp2_with fail
          go_ret2
          exact ⟨by rw [HX.out]; rfl, HB.out⟩
        · go_wp2_with fail
          go_roundw
          case rel => exact ⟨k + 1, by omega, by go_num, (by first | exact True.intro | rfl), fun j x hj hx => by
            rcases Nat.lt_or_ge j k with h | h
            · exact HNO.out j x h hx
            · obtain rfl : j = k := by omega
              rw [HZ.out] at hx
              injection hx with hx
              rw [← hx]
              exact fun h => h2 h.2⟩
          case measure => simp [intOf]; omega
      · go_wp2_with fail
        go_roundw
        case rel => exact ⟨k + 1, by omega, by go_num, (by first | exact True.intro | rfl), fun j x hj hx => by
          rcases Nat.lt_or_ge j k with h | h
          · exact HNO.out j x h hx
          · obtain rfl : j = k := by omega
            rw [HZ.out] at hx
            injection hx with hx
            rw [← hx]
            exact fun h => h1 h.1⟩
        case measure => simp [intOf]; omega
    · obtain rfl : k = n := by omega
      have HX := Lib.hid (show sourceS l t y = none from find_no (fun j x hx => decide_eq_false (HNO.out j x (by have := (List.getElem?_eq_some_iff.1 hx).1; rw [HN.out] at this; exact this) hx)))
      clear HNO HR HN
      go_wp2_with fail
      go_ret2
      exact ⟨by rw [HX.out]; rfl, HB.out⟩

set_option maxHeartbeats 3200000 in
theorem down17 (x : Dn) (w : World) : Calls Try.prog 20 #[.agg x.cells.toArray] w fun e w' => e = .returned (.agg x.cells.toArray) ∧ Below w.heap.size w w' := by
  obtain ⟨xs, xsl, xtu, xw, xt, xh, xf, xl, xd, xm⟩ := x
  show Calls Try.prog 20 #[.agg #[.int .u32 xs, .int .i64 xsl, .int .u32 xtu, .int .i64 xw, .int .i64 xt, .int .i64 xh, .int .i64 xf, .int .i64 xl, .int .i64 xd, .bool xm]] w fun e w' => e = .returned (.agg #[.int .u32 xs, .int .i64 xsl, .int .u32 xtu, .int .i64 xw, .int .i64 xt, .int .i64 xh, .int .i64 xf, .int .i64 xl, .int .i64 xd, .bool xm]) ∧ Below w.heap.size w w'
  have HB := Lib.hid (((Below.refl w.heap.size w).alloc (Nat.le_refl _) (.cells #[.int .u32 xs, .int .i64 xsl, .int .u32 xtu, .int .i64 xw, .int .i64 xt, .int .i64 xh, .int .i64 xf, .int .i64 xl, .int .i64 xd, .bool xm] 41)).alloc (by simp) (.cells #[.int .u32 xs, .int .i64 xsl, .int .u32 xtu, .int .i64 xw, .int .i64 xt, .int .i64 xh, .int .i64 xf, .int .i64 xl, .int .i64 xd, .bool xm] 49))
  go_enter Try.func20, Try.ntmps20
  go_wp2_with fail
  exact bodyPost_ret (v := .agg #[.int .u32 xs, .int .i64 xsl, .int .u32 xtu, .int .i64 xw, .int .i64 xt, .int .i64 xh, .int .i64 xf, .int .i64 xl, .int .i64 xd, .bool xm]) (by simp [results, Try.results20, go_sem]) rfl ⟨rfl, HB.out⟩

end Go.Proofs.Ytgjhcnpegaemoaa
