/-
  The contract of Same (layer 9's reference).
-/
import Derived.Test.YtcjmiidnhbmclaaDoorRtE
import Derived.RegionTactic
import Derived.StillTailTactics
namespace Go.Proofs.YtcjmiidnhbmclaaDoor
set_option maxRecDepth 100000
set_option linter.unusedSimpArgs false
open Go.RowKit

theorem Whole.drewN {w : World} {g : Nat} {t : TypeId} {cs : Array Value} (h : Whole w g t cs) (q : Nat) : Whole (w.drewN q) g t cs := h
theorem dec_no {m1 m2 : Ms} (h : m1 ≠ m2) : false = decide (m1 = m2) := (decide_eq_false h).symm
theorem take_more {α : Type} {l m : List α} {k : Nat} {x : α} (h : l.take k = m.take k) (hx : l[k]? = some x) (hy : m[k]? = some x) : l.take (k + 1) = m.take (k + 1) := by rw [List.take_add_one, List.take_add_one, h, hx, hy]
theorem ne_at {α : Type} {l m : List α} {k : Nat} {x y : α} (hx : l[k]? = some x) (hy : m[k]? = some y) (h : x ≠ y) : l ≠ m := fun e => by subst e; rw [hx] at hy; injection hy with hy; exact h hy
theorem take_all {α : Type} {l m : List α} {k : Nat} (h : l.take k = m.take k) (h1 : l.length = k) (h2 : m.length = k) : l = m := by rwa [List.take_of_length_le (by omega), List.take_of_length_le (by omega)] at h

set_option maxRecDepth 1000000 in
set_option maxHeartbeats 6400000 in
theorem sameM_any (m1 m2 : Ms) (s1 s2 : Sl) (w : World) (h1 : MsAt w w.heap.size m1 s1) (h2 : MsAt w w.heap.size m2 s2) (f1 : m1.Mod) (f2 : m2.Mod) :
    Calls Tryd.prog 21 #[.agg (m1.cells s1).toArray, .agg (m2.cells s2).toArray] w fun e w' => e = .returned (.bool (decide (m1 = m2))) ∧ Below w.heap.size w w' := by
  obtain ⟨kind, ssrc, media, clock, time, packets, bytes, reps, who, pairs, asks, typ⟩ := m1
  obtain ⟨kind2, ssrc2, media2, clock2, time2, packets2, bytes2, reps2, who2, pairs2, asks2, typ2⟩ := m2
  obtain ⟨rA, rc, wA, wc, pA, pc, aA, ac⟩ := s1
  obtain ⟨rA2, rc2, wA2, wc2, pA2, pc2, aA2, ac2⟩ := s2
  obtain ⟨fr, fw, fp, fa⟩ := f1
  obtain ⟨fr2, fw2, fp2, fa2⟩ := f2
  dsimp only at fr fw fp fa fr2 fw2 fp2 fa2
  unfold Ms.cells
  dsimp only
  obtain ⟨ans, hans⟩ : ∃ b : Bool, b = decide ((⟨kind, ssrc, media, clock, time, packets, bytes, reps, who, pairs, asks, typ⟩ : Ms) = ⟨kind2, ssrc2, media2, clock2, time2, packets2, bytes2, reps2, who2, pairs2, asks2, typ2⟩) := ⟨_, rfl⟩
  rw [← hans]
  have HANS := Lib.hid hans
  clear hans
  by_cases hL : reps.length = reps2.length ∧ who.length = who2.length ∧ pairs.length = pairs2.length ∧ asks.length = asks2.length
  case neg =>
    have hno : false = ans := by
      rw [HANS.out]
      exact dec_no fun e => hL (by injection e with _ _ _ _ _ _ _ e1 e2 e3 e4 _; subst e1 e2 e3 e4; exact ⟨rfl, rfl, rfl, rfl⟩)
    have HNO := Lib.hid hno
    have HLL := Lib.hid hL
    clear hno h1 h2 HANS fr fw fp fa fr2 fw2 fp2 fa2 hL
    go_enter Tryd.func21, Tryd.ntmps21
    go_wp2_with fail
    all_goals try (exfalso; simp only [bne_eq_false_iff_eq] at *; exact HLL.out (by omega))
    all_goals (go_ret; exact ⟨ret_boolK HNO.out, by first | exact Below.refl _ _ | exact ((Below.refl _ _).alloc (Nat.le_refl _) _).alloc (by simp) _⟩)
  case pos =>
  obtain ⟨e1, e2, e3, e4⟩ := hL
  obtain ⟨nr, hnr⟩ : ∃ n, reps.length = n := ⟨_, rfl⟩
  obtain ⟨nw, hnw⟩ : ∃ n, who.length = n := ⟨_, rfl⟩
  obtain ⟨np, hnp⟩ : ∃ n, pairs.length = n := ⟨_, rfl⟩
  obtain ⟨na, hna⟩ : ∃ n, asks.length = n := ⟨_, rfl⟩
  rw [hnr] at e1 fr ⊢
  rw [hnw] at e2 fw ⊢
  rw [hnp] at e3 fp ⊢
  rw [hna] at e4 fa ⊢
  rw [← e1, ← e2, ← e3, ← e4]
  have H7 : Hid (Row w w.heap.size 7 rA reps.length (repC reps)) := Lib.hid h1.reps
  have H8 : Hid (Row w w.heap.size 1 wA who.length (u32s who)) := Lib.hid h1.who
  have H9 : Hid (Row w w.heap.size 2 pA pairs.length (dpC pairs)) := Lib.hid h1.pairs
  have H10 : Hid (Row w w.heap.size 2 aA asks.length (askC asks)) := Lib.hid h1.asks
  have I7 : Hid (Row w w.heap.size 7 rA2 reps2.length (repC reps2)) := Lib.hid h2.reps
  have I8 : Hid (Row w w.heap.size 1 wA2 who2.length (u32s who2)) := Lib.hid h2.who
  have I9 : Hid (Row w w.heap.size 2 pA2 pairs2.length (dpC pairs2)) := Lib.hid h2.pairs
  have I10 : Hid (Row w w.heap.size 2 aA2 asks2.length (askC asks2)) := Lib.hid h2.asks
  have HNR := Lib.hid hnr
  have HNW := Lib.hid hnw
  have HNP := Lib.hid hnp
  have HNA := Lib.hid hna
  have HNR2 := Lib.hid e1
  have HNW2 := Lib.hid e2
  have HNP2 := Lib.hid e3
  have HNA2 := Lib.hid e4
  clear h1 h2 hnr hnw hnp hna e1 e2 e3 e4 fr2 fw2 fp2 fa2
  go_enter Tryd.func21, Tryd.ntmps21
  go_wp2_with fail
  obtain ⟨g1, hg1⟩ : ∃ g1, g1 = w.heap.size := ⟨_, rfl⟩
  obtain ⟨w0, hw0⟩ : ∃ w0, w0 = (w.alloc (.cells #[.int .i64 kind, .int .u32 (ssrc : Int), .int .u32 (media : Int), .int .u64 (clock : Int), .int .u32 (time : Int), .int .u32 (packets : Int), .int .u32 (bytes : Int), .slice rA nr rc, .slice wA nw wc, .slice pA np pc, .slice aA na ac, .int .u8 (typ : Int)] 50)).alloc (.cells #[.int .i64 kind2, .int .u32 (ssrc2 : Int), .int .u32 (media2 : Int), .int .u64 (clock2 : Int), .int .u32 (time2 : Int), .int .u32 (packets2 : Int), .int .u32 (bytes2 : Int), .slice rA2 nr rc2, .slice wA2 nw wc2, .slice pA2 np pc2, .slice aA2 na ac2, .int .u8 (typ2 : Int)] 50) := ⟨_, rfl⟩
  rw [← hw0]
  have W1 : Whole w0 g1 50 #[.int .i64 kind, .int .u32 (ssrc : Int), .int .u32 (media : Int), .int .u64 (clock : Int), .int .u32 (time : Int), .int .u32 (packets : Int), .int .u32 (bytes : Int), .slice rA nr rc, .slice wA nw wc, .slice pA np pc, .slice aA na ac, .int .u8 (typ : Int)] := by rw [hw0, hg1]; exact (Whole.new w _ _).alloc _
  have W2 : Whole w0 (g1 + 1) 50 #[.int .i64 kind2, .int .u32 (ssrc2 : Int), .int .u32 (media2 : Int), .int .u64 (clock2 : Int), .int .u32 (time2 : Int), .int .u32 (packets2 : Int), .int .u32 (bytes2 : Int), .slice rA2 nr rc2, .slice wA2 nw wc2, .slice pA2 np pc2, .slice aA2 na ac2, .int .u8 (typ2 : Int)] := by rw [hw0, hg1]; exact Whole.new2 w _ _ _
  have hB0 : Below w.heap.size w w0 := by rw [hw0]; exact ((Below.refl _ _).alloc (Nat.le_refl _) _).alloc (by simp) _
  rw [← hg1]
  clear hw0 hg1
  go_loopw [5] (fun i wr => ∃ (k : Nat), k ≤ nr ∧ i = .int .i64 k ∧ Hid (reps.take k = reps2.take k) ∧ Whole wr g1 50 #[.int .i64 kind, .int .u32 (ssrc : Int), .int .u32 (media : Int), .int .u64 (clock : Int), .int .u32 (time : Int), .int .u32 (packets : Int), .int .u32 (bytes : Int), .slice rA nr rc, .slice wA nw wc, .slice pA np pc, .slice aA na ac, .int .u8 (typ : Int)] ∧ Whole wr (g1 + 1) 50 #[.int .i64 kind2, .int .u32 (ssrc2 : Int), .int .u32 (media2 : Int), .int .u64 (clock2 : Int), .int .u32 (time2 : Int), .int .u32 (packets2 : Int), .int .u32 (bytes2 : Int), .slice rA2 nr rc2, .slice wA2 nw wc2, .slice pA2 np pc2, .slice aA2 na ac2, .int .u8 (typ2 : Int)] ∧ Below w.heap.size w wr) (fun i _ => nr - (intOf i).toNat)
  case atStart => exact ⟨0, Nat.zero_le _, rfl, Lib.hid rfl, W1, W2, hB0⟩
  case round =>
    clear W1 W2 hB0
    obtain ⟨k, hk, rfl, HE, W1, W2, hB0⟩ := hrel
    have x7 := W1.cell 7
    have y7 := W2.cell 7
    simp at x7 y7
    by_cases hlt : k < nr
    · obtain ⟨r, hr⟩ : ∃ x, reps[k]? = some x := ⟨reps[k]'(by rw [HNR.out]; exact hlt), by simp⟩
      obtain ⟨r', hr'⟩ : ∃ x, reps2[k]? = some x := ⟨reps2[k]'(by rw [← HNR2.out]; exact hlt), by simp⟩
      obtain ⟨g, o, hA, hg, hcs⟩ := repC_at (H7.out.below hB0 (Nat.le_refl _)) k r hr
      obtain ⟨g', o', hA', hg', hcs'⟩ := repC_at (I7.out.below hB0 (Nat.le_refl _)) k r' hr'
      subst hA hA'
      obtain ⟨r0, r1, r2, r3, r4, r5, r6⟩ := r
      obtain ⟨s0, s1, s2, s3, s4, s5, s6⟩ := r'
      have c0 : wr.cell? ⟨g, o + k * 7, none⟩ = some (.int .u32 (r0 : Int)) := hcs 0 _ rfl
      have e0 : wr.cell? ⟨g', o' + k * 7, none⟩ = some (.int .u32 (s0 : Int)) := hcs' 0 _ rfl
      have c1 : wr.cell? ⟨g, o + k * 7 + 1, none⟩ = some (.int .u8 (r1 : Int)) := hcs 1 _ rfl
      have e1 : wr.cell? ⟨g', o' + k * 7 + 1, none⟩ = some (.int .u8 (s1 : Int)) := hcs' 1 _ rfl
      have c2 : wr.cell? ⟨g, o + k * 7 + 2, none⟩ = some (.int .u32 (r2 : Int)) := hcs 2 _ rfl
      have e2 : wr.cell? ⟨g', o' + k * 7 + 2, none⟩ = some (.int .u32 (s2 : Int)) := hcs' 2 _ rfl
      have c3 : wr.cell? ⟨g, o + k * 7 + 3, none⟩ = some (.int .u32 (r3 : Int)) := hcs 3 _ rfl
      have e3 : wr.cell? ⟨g', o' + k * 7 + 3, none⟩ = some (.int .u32 (s3 : Int)) := hcs' 3 _ rfl
      have c4 : wr.cell? ⟨g, o + k * 7 + 4, none⟩ = some (.int .u32 (r4 : Int)) := hcs 4 _ rfl
      have e4 : wr.cell? ⟨g', o' + k * 7 + 4, none⟩ = some (.int .u32 (s4 : Int)) := hcs' 4 _ rfl
      have c5 : wr.cell? ⟨g, o + k * 7 + 5, none⟩ = some (.int .u32 (r5 : Int)) := hcs 5 _ rfl
      have e5 : wr.cell? ⟨g', o' + k * 7 + 5, none⟩ = some (.int .u32 (s5 : Int)) := hcs' 5 _ rfl
      have c6 : wr.cell? ⟨g, o + k * 7 + 6, none⟩ = some (.int .u32 (r6 : Int)) := hcs 6 _ rfl
      have e6 : wr.cell? ⟨g', o' + k * 7 + 6, none⟩ = some (.int .u32 (s6 : Int)) := hcs' 6 _ rfl
      have hi1 : (0 : Int) ≤ (k : Int) := by omega
      have hi2 : (k : Int) < (nr : Int) := by omega
      have hz1 := W1.lt
      have hz2 := W2.lt
      by_cases he : (⟨r0, r1, r2, r3, r4, r5, r6⟩ : Rp) = ⟨s0, s1, s2, s3, s4, s5, s6⟩
      · have HT := Lib.hid (take_more HE.out hr (he ▸ hr'))
        injection he with i0 i1 i2 i3 i4 i5 i6
        subst i0 i1 i2 i3 i4 i5 i6
        have hne : ∀ wx, (binOp .neq 61 (.agg #[.int .u32 (r0 : Int), .int .u8 (r1 : Int), .int .u32 (r2 : Int), .int .u32 (r3 : Int), .int .u32 (r4 : Int), .int .u32 (r5 : Int), .int .u32 (r6 : Int)]) (.agg #[.int .u32 (r0 : Int), .int .u8 (r1 : Int), .int .u32 (r2 : Int), .int .u32 (r3 : Int), .int .u32 (r4 : Int), .int .u32 (r5 : Int), .int .u32 (r6 : Int)])).run Tryd.prog wx = .ok (.bool false) wx := fun wx => by rw [neq_R9]; simp
        clear hr hr' hcs hcs'
        have HW1 := Lib.hid W1
        have HW2 := Lib.hid W2
        have HB := Lib.hid hB0
        clear W1 W2 hB0
        go_wp2_with fail
        go_region
        go_wp2
        go_roundw
        case rel => exact ⟨k + 1, by omega, by go_num, HT, HW1.out.drewN _, HW2.out.drewN _, bdrewN HB.out _⟩
        case measure => simp [intOf]; omega
      · have HNO : Hid (false = ans) := Lib.hid (by rw [HANS.out]; exact dec_no fun e => by injection e with _ _ _ _ _ _ _ f1 f2 f3 f4 _; exact ne_at hr hr' he f1)
        have hbb : ((r0 : Int) == (s0 : Int) && ((r1 : Int) == (s1 : Int) && ((r2 : Int) == (s2 : Int) && ((r3 : Int) == (s3 : Int) && ((r4 : Int) == (s4 : Int) && ((r5 : Int) == (s5 : Int) && ((r6 : Int) == (s6 : Int) && true))))))) = false := by
          rw [Bool.eq_false_iff]
          intro h
          simp only [Bool.and_eq_true, beq_iff_eq, Int.natCast_inj] at h
          obtain ⟨i0, i1, i2, i3, i4, i5, i6, _⟩ := h
          subst i0 i1 i2 i3 i4 i5 i6
          exact he rfl
        have hne : ∀ wx, (binOp .neq 61 (.agg #[.int .u32 (r0 : Int), .int .u8 (r1 : Int), .int .u32 (r2 : Int), .int .u32 (r3 : Int), .int .u32 (r4 : Int), .int .u32 (r5 : Int), .int .u32 (r6 : Int)]) (.agg #[.int .u32 (s0 : Int), .int .u8 (s1 : Int), .int .u32 (s2 : Int), .int .u32 (s3 : Int), .int .u32 (s4 : Int), .int .u32 (s5 : Int), .int .u32 (s6 : Int)])).run Tryd.prog wx = .ok (.bool true) wx := fun wx => by rw [neq_R9, hbb]; rfl
        clear hbb
        clear hr hr' hcs hcs'
        have HW1 := Lib.hid W1
        have HW2 := Lib.hid W2
        have HB := Lib.hid hB0
        clear W1 W2 hB0
        go_wp2_with fail
        go_region
        go_wp2
        go_ret
        exact ⟨ret_boolK HNO.out, bdrewN HB.out _⟩
    · obtain rfl : nr = k := by omega
      have HE0 : Hid (reps = reps2) := Lib.hid (take_all HE.out HNR.out HNR2.out.symm)
      have hz0 := hB0.size
      clear HE
      go_wp2_with fail
      go_loopw [6] (fun i wr => ∃ (k : Nat), k ≤ nw ∧ i = .int .i64 k ∧ Hid (who.take k = who2.take k) ∧ Whole wr g1 50 #[.int .i64 kind, .int .u32 (ssrc : Int), .int .u32 (media : Int), .int .u64 (clock : Int), .int .u32 (time : Int), .int .u32 (packets : Int), .int .u32 (bytes : Int), .slice rA nr rc, .slice wA nw wc, .slice pA np pc, .slice aA na ac, .int .u8 (typ : Int)] ∧ Whole wr (g1 + 1) 50 #[.int .i64 kind2, .int .u32 (ssrc2 : Int), .int .u32 (media2 : Int), .int .u64 (clock2 : Int), .int .u32 (time2 : Int), .int .u32 (packets2 : Int), .int .u32 (bytes2 : Int), .slice rA2 nr rc2, .slice wA2 nw wc2, .slice pA2 np pc2, .slice aA2 na ac2, .int .u8 (typ2 : Int)] ∧ Below w.heap.size w wr) (fun i _ => nw - (intOf i).toNat)
      case atStart => exact ⟨0, Nat.zero_le _, rfl, Lib.hid rfl, W1, W2, hB0⟩
      case round =>
        clear W1 W2 hB0
        obtain ⟨k, hk, rfl, HE, W1, W2, hB0⟩ := hrel
        have x7 := W1.cell 8
        have y7 := W2.cell 8
        simp at x7 y7
        by_cases hlt : k < nw
        · obtain ⟨r, hr⟩ : ∃ x, who[k]? = some x := ⟨who[k]'(by rw [HNW.out]; exact hlt), by simp⟩
          obtain ⟨r', hr'⟩ : ∃ x, who2[k]? = some x := ⟨who2[k]'(by rw [← HNW2.out]; exact hlt), by simp⟩
          obtain ⟨g, o, hA, hg, hcs⟩ := (H8.out.below hB0 (Nat.le_refl _)).2 (by rw [HNW.out]; omega)
          obtain ⟨g', o', hA', hg', hcs'⟩ := (I8.out.below hB0 (Nat.le_refl _)).2 (by rw [← HNW2.out]; omega)
          subst hA hA'
          obtain ⟨r0, er0⟩ : ∃ r0, r0 = r := ⟨_, rfl⟩
          obtain ⟨s0, es0⟩ : ∃ s0, s0 = r' := ⟨_, rfl⟩
          subst er0 es0
          have c0 : wr.cell? ⟨g, o + k, none⟩ = some (.int .u32 (r0 : Int)) := hcs k _ (by rw [u32s, List.getElem?_map, hr]; rfl)
          have e0 : wr.cell? ⟨g', o' + k, none⟩ = some (.int .u32 (s0 : Int)) := hcs' k _ (by rw [u32s, List.getElem?_map, hr']; rfl)
          have hi1 : (0 : Int) ≤ (k : Int) := by omega
          have hi2 : (k : Int) < (nw : Int) := by omega
          have hz1 := W1.lt
          have hz2 := W2.lt
          by_cases he : r0 = s0
          · have HT := Lib.hid (take_more HE.out hr (he ▸ hr'))
            subst he
            clear hr hr' hcs hcs'
            have HW1 := Lib.hid W1
            have HW2 := Lib.hid W2
            have HB := Lib.hid hB0
            clear W1 W2 hB0
            go_wp2_with fail
            go_region
            go_wp2
            go_roundw
            case rel => exact ⟨k + 1, by omega, by go_num, HT, HW1.out.drewN _, HW2.out.drewN _, bdrewN HB.out _⟩
            case measure => simp [intOf]; omega
          · have HNO : Hid (false = ans) := Lib.hid (by rw [HANS.out]; exact dec_no fun e => by injection e with _ _ _ _ _ _ _ f1 f2 f3 f4 _; exact ne_at hr hr' he f2)
            clear hr hr' hcs hcs'
            have HW1 := Lib.hid W1
            have HW2 := Lib.hid W2
            have HB := Lib.hid hB0
            clear W1 W2 hB0
            go_wp2_with fail
            go_region
            go_wp2
            go_ret
            exact ⟨ret_boolK HNO.out, bdrewN HB.out _⟩
        · obtain rfl : nw = k := by omega
          have HE1 : Hid (who = who2) := Lib.hid (take_all HE.out HNW.out HNW2.out.symm)
          have hz0 := hB0.size
          clear HE
          go_wp2_with fail
          go_loopw [7] (fun i wr => ∃ (k : Nat), k ≤ np ∧ i = .int .i64 k ∧ Hid (pairs.take k = pairs2.take k) ∧ Whole wr g1 50 #[.int .i64 kind, .int .u32 (ssrc : Int), .int .u32 (media : Int), .int .u64 (clock : Int), .int .u32 (time : Int), .int .u32 (packets : Int), .int .u32 (bytes : Int), .slice rA nr rc, .slice wA nw wc, .slice pA np pc, .slice aA na ac, .int .u8 (typ : Int)] ∧ Whole wr (g1 + 1) 50 #[.int .i64 kind2, .int .u32 (ssrc2 : Int), .int .u32 (media2 : Int), .int .u64 (clock2 : Int), .int .u32 (time2 : Int), .int .u32 (packets2 : Int), .int .u32 (bytes2 : Int), .slice rA2 nr rc2, .slice wA2 nw wc2, .slice pA2 np pc2, .slice aA2 na ac2, .int .u8 (typ2 : Int)] ∧ Below w.heap.size w wr) (fun i _ => np - (intOf i).toNat)
          case atStart => exact ⟨0, Nat.zero_le _, rfl, Lib.hid rfl, W1, W2, hB0⟩
          case round =>
            clear W1 W2 hB0
            obtain ⟨k, hk, rfl, HE, W1, W2, hB0⟩ := hrel
            have x7 := W1.cell 9
            have y7 := W2.cell 9
            simp at x7 y7
            by_cases hlt : k < np
            · obtain ⟨r, hr⟩ : ∃ x, pairs[k]? = some x := ⟨pairs[k]'(by rw [HNP.out]; exact hlt), by simp⟩
              obtain ⟨r', hr'⟩ : ∃ x, pairs2[k]? = some x := ⟨pairs2[k]'(by rw [← HNP2.out]; exact hlt), by simp⟩
              obtain ⟨g, o, hA, hg, hcs⟩ := (H9.out.below hB0 (Nat.le_refl _)).2 (by rw [HNP.out]; omega)
              obtain ⟨g', o', hA', hg', hcs'⟩ := (I9.out.below hB0 (Nat.le_refl _)).2 (by rw [← HNP2.out]; omega)
              subst hA hA'
              obtain ⟨r0, r1⟩ := r
              obtain ⟨s0, s1⟩ := r'
              obtain ⟨d0, d1⟩ := two_get (fun p : Nat × Nat => Value.int .i64 (p.1 : Int)) (fun p => .int .i64 (p.2 : Int)) pairs k (r0, r1) hr
              obtain ⟨d0', d1'⟩ := two_get (fun p : Nat × Nat => Value.int .i64 (p.1 : Int)) (fun p => .int .i64 (p.2 : Int)) pairs2 k (s0, s1) hr'
              have c0 : wr.cell? ⟨g, o + k * 2, none⟩ = some (.int .i64 (r0 : Int)) := by have := hcs _ _ d0; simpa using this
              have e0 : wr.cell? ⟨g', o' + k * 2, none⟩ = some (.int .i64 (s0 : Int)) := by have := hcs' _ _ d0'; simpa using this
              have c1 : wr.cell? ⟨g, o + k * 2 + 1, none⟩ = some (.int .i64 (r1 : Int)) := by have := hcs _ _ d1; rw [← Nat.add_assoc] at this; simpa using this
              have e1 : wr.cell? ⟨g', o' + k * 2 + 1, none⟩ = some (.int .i64 (s1 : Int)) := by have := hcs' _ _ d1'; rw [← Nat.add_assoc] at this; simpa using this
              have hi1 : (0 : Int) ≤ (k : Int) := by omega
              have hi2 : (k : Int) < (np : Int) := by omega
              have hz1 := W1.lt
              have hz2 := W2.lt
              by_cases he : ((r0, r1) : Nat × Nat) = (s0, s1)
              · have HT := Lib.hid (take_more HE.out hr (he ▸ hr'))
                injection he with i0 i1
                subst i0 i1
                have hne : ∀ wx, (binOp .neq 84 (.agg #[.int .i64 (r0 : Int), .int .i64 (r1 : Int)]) (.agg #[.int .i64 (r0 : Int), .int .i64 (r1 : Int)])).run Tryd.prog wx = .ok (.bool false) wx := fun wx => by rw [neq_P9]; simp
                clear hr hr' d0 d1 d0' d1' hcs hcs'
                have HW1 := Lib.hid W1
                have HW2 := Lib.hid W2
                have HB := Lib.hid hB0
                clear W1 W2 hB0
                go_wp2_with fail
                go_region
                go_wp2
                go_roundw
                case rel => exact ⟨k + 1, by omega, by go_num, HT, HW1.out.drewN _, HW2.out.drewN _, bdrewN HB.out _⟩
                case measure => simp [intOf]; omega
              · have HNO : Hid (false = ans) := Lib.hid (by rw [HANS.out]; exact dec_no fun e => by injection e with _ _ _ _ _ _ _ f1 f2 f3 f4 _; exact ne_at hr hr' he f3)
                have hbb : ((r0 : Int) == (s0 : Int) && ((r1 : Int) == (s1 : Int) && true)) = false := by
                  rw [Bool.eq_false_iff]
                  intro h
                  simp only [Bool.and_eq_true, beq_iff_eq, Int.natCast_inj] at h
                  obtain ⟨i0, i1, _⟩ := h
                  subst i0 i1
                  exact he rfl
                have hne : ∀ wx, (binOp .neq 84 (.agg #[.int .i64 (r0 : Int), .int .i64 (r1 : Int)]) (.agg #[.int .i64 (s0 : Int), .int .i64 (s1 : Int)])).run Tryd.prog wx = .ok (.bool true) wx := fun wx => by rw [neq_P9, hbb]; rfl
                clear hbb
                clear hr hr' d0 d1 d0' d1' hcs hcs'
                have HW1 := Lib.hid W1
                have HW2 := Lib.hid W2
                have HB := Lib.hid hB0
                clear W1 W2 hB0
                go_wp2_with fail
                go_region
                go_wp2
                go_ret
                exact ⟨ret_boolK HNO.out, bdrewN HB.out _⟩
            · obtain rfl : np = k := by omega
              have HE2 : Hid (pairs = pairs2) := Lib.hid (take_all HE.out HNP.out HNP2.out.symm)
              have hz0 := hB0.size
              clear HE
              go_wp2_with fail
              go_loopw [8] (fun i wr => ∃ (k : Nat), k ≤ na ∧ i = .int .i64 k ∧ Hid (asks.take k = asks2.take k) ∧ Whole wr g1 50 #[.int .i64 kind, .int .u32 (ssrc : Int), .int .u32 (media : Int), .int .u64 (clock : Int), .int .u32 (time : Int), .int .u32 (packets : Int), .int .u32 (bytes : Int), .slice rA nr rc, .slice wA nw wc, .slice pA np pc, .slice aA na ac, .int .u8 (typ : Int)] ∧ Whole wr (g1 + 1) 50 #[.int .i64 kind2, .int .u32 (ssrc2 : Int), .int .u32 (media2 : Int), .int .u64 (clock2 : Int), .int .u32 (time2 : Int), .int .u32 (packets2 : Int), .int .u32 (bytes2 : Int), .slice rA2 nr rc2, .slice wA2 nw wc2, .slice pA2 np pc2, .slice aA2 na ac2, .int .u8 (typ2 : Int)] ∧ Below w.heap.size w wr) (fun i _ => na - (intOf i).toNat)
              case atStart => exact ⟨0, Nat.zero_le _, rfl, Lib.hid rfl, W1, W2, hB0⟩
              case round =>
                clear W1 W2 hB0
                obtain ⟨k, hk, rfl, HE, W1, W2, hB0⟩ := hrel
                have x7 := W1.cell 10
                have y7 := W2.cell 10
                simp at x7 y7
                by_cases hlt : k < na
                · obtain ⟨r, hr⟩ : ∃ x, asks[k]? = some x := ⟨asks[k]'(by rw [HNA.out]; exact hlt), by simp⟩
                  obtain ⟨r', hr'⟩ : ∃ x, asks2[k]? = some x := ⟨asks2[k]'(by rw [← HNA2.out]; exact hlt), by simp⟩
                  obtain ⟨g, o, hA, hg, hcs⟩ := (H10.out.below hB0 (Nat.le_refl _)).2 (by rw [HNA.out]; omega)
                  obtain ⟨g', o', hA', hg', hcs'⟩ := (I10.out.below hB0 (Nat.le_refl _)).2 (by rw [← HNA2.out]; omega)
                  subst hA hA'
                  obtain ⟨r0, r1⟩ := r
                  obtain ⟨s0, s1⟩ := r'
                  obtain ⟨d0, d1⟩ := two_get (fun p : Nat × Nat => Value.int .u32 (p.1 : Int)) (fun p => .int .u8 (p.2 : Int)) asks k (r0, r1) hr
                  obtain ⟨d0', d1'⟩ := two_get (fun p : Nat × Nat => Value.int .u32 (p.1 : Int)) (fun p => .int .u8 (p.2 : Int)) asks2 k (s0, s1) hr'
                  have c0 : wr.cell? ⟨g, o + k * 2, none⟩ = some (.int .u32 (r0 : Int)) := by have := hcs _ _ d0; simpa using this
                  have e0 : wr.cell? ⟨g', o' + k * 2, none⟩ = some (.int .u32 (s0 : Int)) := by have := hcs' _ _ d0'; simpa using this
                  have c1 : wr.cell? ⟨g, o + k * 2 + 1, none⟩ = some (.int .u8 (r1 : Int)) := by have := hcs _ _ d1; rw [← Nat.add_assoc] at this; simpa using this
                  have e1 : wr.cell? ⟨g', o' + k * 2 + 1, none⟩ = some (.int .u8 (s1 : Int)) := by have := hcs' _ _ d1'; rw [← Nat.add_assoc] at this; simpa using this
                  have hi1 : (0 : Int) ≤ (k : Int) := by omega
                  have hi2 : (k : Int) < (na : Int) := by omega
                  have hz1 := W1.lt
                  have hz2 := W2.lt
                  by_cases he : ((r0, r1) : Nat × Nat) = (s0, s1)
                  · have HT := Lib.hid (take_more HE.out hr (he ▸ hr'))
                    injection he with i0 i1
                    subst i0 i1
                    have hne : ∀ wx, (binOp .neq 87 (.agg #[.int .u32 (r0 : Int), .int .u8 (r1 : Int)]) (.agg #[.int .u32 (r0 : Int), .int .u8 (r1 : Int)])).run Tryd.prog wx = .ok (.bool false) wx := fun wx => by rw [neq_A9]; simp
                    clear hr hr' d0 d1 d0' d1' hcs hcs'
                    have HW1 := Lib.hid W1
                    have HW2 := Lib.hid W2
                    have HB := Lib.hid hB0
                    clear W1 W2 hB0
                    go_wp2_with fail
                    go_region
                    go_wp2
                    go_roundw
                    case rel => exact ⟨k + 1, by omega, by go_num, HT, HW1.out.drewN _, HW2.out.drewN _, bdrewN HB.out _⟩
                    case measure => simp [intOf]; omega
                  · have HNO : Hid (false = ans) := Lib.hid (by rw [HANS.out]; exact dec_no fun e => by injection e with _ _ _ _ _ _ _ f1 f2 f3 f4 _; exact ne_at hr hr' he f4)
                    have hbb : ((r0 : Int) == (s0 : Int) && ((r1 : Int) == (s1 : Int) && true)) = false := by
                      rw [Bool.eq_false_iff]
                      intro h
                      simp only [Bool.and_eq_true, beq_iff_eq, Int.natCast_inj] at h
                      obtain ⟨i0, i1, _⟩ := h
                      subst i0 i1
                      exact he rfl
                    have hne : ∀ wx, (binOp .neq 87 (.agg #[.int .u32 (r0 : Int), .int .u8 (r1 : Int)]) (.agg #[.int .u32 (s0 : Int), .int .u8 (s1 : Int)])).run Tryd.prog wx = .ok (.bool true) wx := fun wx => by rw [neq_A9, hbb]; rfl
                    clear hbb
                    clear hr hr' d0 d1 d0' d1' hcs hcs'
                    have HW1 := Lib.hid W1
                    have HW2 := Lib.hid W2
                    have HB := Lib.hid hB0
                    clear W1 W2 hB0
                    go_wp2_with fail
                    go_region
                    go_wp2
                    go_ret
                    exact ⟨ret_boolK HNO.out, bdrewN HB.out _⟩
                · obtain rfl : na = k := by omega
                  have HE3 : Hid (asks = asks2) := Lib.hid (take_all HE.out HNA.out HNA2.out.symm)
                  have hz0 := hB0.size
                  clear HE
                  have p0 : wr.cell? ⟨g1, 0, none⟩ = some (.int .i64 kind) := W1.cell 0
                  have q0 : wr.cell? ⟨g1 + 1, 0, none⟩ = some (.int .i64 kind2) := W2.cell 0
                  have p1 : wr.cell? ⟨g1, 1, none⟩ = some (.int .u32 (ssrc : Int)) := W1.cell 1
                  have q1 : wr.cell? ⟨g1 + 1, 1, none⟩ = some (.int .u32 (ssrc2 : Int)) := W2.cell 1
                  have p2 : wr.cell? ⟨g1, 2, none⟩ = some (.int .u32 (media : Int)) := W1.cell 2
                  have q2 : wr.cell? ⟨g1 + 1, 2, none⟩ = some (.int .u32 (media2 : Int)) := W2.cell 2
                  have p3 : wr.cell? ⟨g1, 3, none⟩ = some (.int .u64 (clock : Int)) := W1.cell 3
                  have q3 : wr.cell? ⟨g1 + 1, 3, none⟩ = some (.int .u64 (clock2 : Int)) := W2.cell 3
                  have p4 : wr.cell? ⟨g1, 4, none⟩ = some (.int .u32 (time : Int)) := W1.cell 4
                  have q4 : wr.cell? ⟨g1 + 1, 4, none⟩ = some (.int .u32 (time2 : Int)) := W2.cell 4
                  have p5 : wr.cell? ⟨g1, 5, none⟩ = some (.int .u32 (packets : Int)) := W1.cell 5
                  have q5 : wr.cell? ⟨g1 + 1, 5, none⟩ = some (.int .u32 (packets2 : Int)) := W2.cell 5
                  have p6 : wr.cell? ⟨g1, 6, none⟩ = some (.int .u32 (bytes : Int)) := W1.cell 6
                  have q6 : wr.cell? ⟨g1 + 1, 6, none⟩ = some (.int .u32 (bytes2 : Int)) := W2.cell 6
                  have p11 : wr.cell? ⟨g1, 11, none⟩ = some (.int .u8 (typ : Int)) := W1.cell 11
                  have q11 : wr.cell? ⟨g1 + 1, 11, none⟩ = some (.int .u8 (typ2 : Int)) := W2.cell 11
                  have HB := Lib.hid hB0
                  clear W1 W2 hB0
                  have HALL : Hid (ans = true ↔ kind = kind2 ∧ (ssrc : Int) = ssrc2 ∧ (media : Int) = media2 ∧ (clock : Int) = clock2 ∧ (time : Int) = time2 ∧ (packets : Int) = packets2 ∧ (bytes : Int) = bytes2 ∧ (typ : Int) = typ2) := Lib.hid (by
                    have a0 := HE0.out
                    have a1 := HE1.out
                    have a2 := HE2.out
                    have a3 := HE3.out
                    rw [HANS.out, decide_eq_true_eq, Ms.mk.injEq]
                    simp only [Int.natCast_inj]
                    constructor
                    · rintro ⟨b0, b1, b2, b3, b4, b5, b6, _, _, _, _, b7⟩
                      exact ⟨b0, b1, b2, b3, b4, b5, b6, b7⟩
                    · rintro ⟨b0, b1, b2, b3, b4, b5, b6, b7⟩
                      exact ⟨b0, b1, b2, b3, b4, b5, b6, a0, a1, a2, a3, b7⟩)
                  clear HANS HE0 HE1 HE2 HE3 H7 H8 H9 H10 I7 I8 I9 I10
                  go_wp2_with fail
                  all_goals go_ret
                  all_goals refine ⟨ret_boolK ?_, HB.out⟩
                  all_goals first | exact (Bool.eq_false_iff.2 fun h => by have := HALL.out.1 h; omega).symm | exact (HALL.out.2 (by omega)).symm | (rw [Bool.eq_iff_iff, HALL.out]; simp only [decide_eq_true_eq, beq_iff_eq]; omega)
end Go.Proofs.YtcjmiidnhbmclaaDoor
