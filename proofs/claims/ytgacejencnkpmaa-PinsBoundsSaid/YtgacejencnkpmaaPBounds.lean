/-
  Proved: PinsBounds returns true for every number of workers and every worker: only so many workers as may be are; no more than 64 things wait; of nothing there is nothing. Conditions: none.
-/
import Derived.Test.YtgacejencnkpmaaPnA
import Derived.Test.YtgacejencnkpmaaLift
import Derived.Deep.CutBlock
import Derived.Deep.DeepCutAuto
namespace Go.Proofs.Ytgacejencnkpmaa.PBounds
open Go.ChangeShapes Go.WideShapes Go.ChangeAt Go.RowKit
set_option linter.unusedSimpArgs false
set_option linter.unusedVariables false
set_option maxRecDepth 100000

set_option maxHeartbeats 3200000 in
theorem walk_bad (w : World) (a b : Int) (ha : a < 1 ∨ 4 < a) : Calls Try.prog 5 #[.int .i64 a, .int .i64 b] w fun e w' => e = .returned (.bool true) ∧ Below w.heap.size w w' := by
  have CN := Lib.hid (fun w => pnew_none w a ha)
  have C1 := Lib.hid (fun w => ppin_nil w 0)
  have C2 := Lib.hid (fun w => pinst_nil w 0 1)
  have C3 := Lib.hid (fun w => punpin_nil w 0)
  have C4 := Lib.hid (fun w => pret_nil w 0 0 1)
  have hd : a < 1 ∨ (¬ a < 1 ∧ 4 < a) := by omega
  clear ha
  rcases hd with hd | ⟨hd1, hd⟩
  all_goals
    go_enter Try.func5, Try.ntmps5
    go_wp2_with fail
    refine (awake16 w).mono ?_
    rintro e w1 ⟨rfl, b1⟩
    have HB1 := Lib.hid b1
    clear b1
    go_wp2_with fail
    refine (CN.out w1).mono ?_
    rintro e w2 ⟨rfl, b2⟩
    have HB2 := Lib.hid (bnext HB1.out b2)
    clear b2 HB1
    go_wp2_with fail
    refine (C1.out w2).mono ?_
    rintro e w3 ⟨rfl, b3⟩
    have HB3 := Lib.hid (bnext HB2.out b3)
    clear b3 HB2
    go_wp2_with fail
    refine (C2.out _).mono ?_
    rintro e w4 ⟨rfl, b4⟩
    have HB4 := Lib.hid (bnext HB3.out b4)
    clear b4 HB3
    go_wp2_with fail
    refine (C3.out _).mono ?_
    rintro e w5 ⟨rfl, b5⟩
    have HB5 := Lib.hid (bnext HB4.out b5)
    clear b5 HB4
    go_wp2_with fail
    refine (C4.out _).mono ?_
    rintro e w6 ⟨rfl, b6⟩
    have HB6 := Lib.hid (bnext HB5.out b6)
    clear b6 HB5
    go_wp2_with fail
    refine (pold_nil _).mono ?_
    rintro e w7 ⟨rfl, b7⟩
    have HB7 := Lib.hid (bnext HB6.out b7)
    clear b7 HB6
    go_wp2_with fail
    refine (psweep_nil _).mono ?_
    rintro e w8 ⟨A8, c8, rfl, b8⟩
    have HB8 := Lib.hid (bnext HB7.out b8)
    clear b8 HB7
    go_wp2_with fail
    refine (pwait_nil _).mono ?_
    rintro e w9 ⟨rfl, b9⟩
    have HB9 := Lib.hid (bnext HB8.out b9)
    clear b9 HB8
    go_wp2
    go_ret
    exact ⟨rfl, HB9.out⟩

/-- k things wait. -/
def fillQ (k : Nat) : List Wt := (List.range k).map fun i : Nat => ⟨(i : Int), 0, 1⟩
theorem fillQ_length (k : Nat) : (fillQ k).length = k := by simp [fillQ]
theorem fillQ_ret {k : Nat} (h : k < 64) : retE (fillQ k) = 0 ∧ retS (fillQ k) ⟨(k : Int), 0, 1⟩ = fillQ (k + 1) := by
  unfold retE retS
  rw [fillQ_length, if_neg (by omega), if_neg (by omega)]
  refine ⟨rfl, ?_⟩
  unfold fillQ
  rw [List.range_succ, List.map_append]
  rfl
theorem fillQ_full (t : Wt) : retE (fillQ 64) = 20 ∧ retS (fillQ 64) t = fillQ 64 := by
  unfold retE retS
  rw [fillQ_length, if_pos (by omega), if_pos (by omega)]
  exact ⟨rfl, rfl⟩

set_option maxHeartbeats 6400000 in
theorem walk_good (w : World) (n : Nat) (b : Int) (h1 : 1 ≤ n) (h2 : n ≤ 4) : Calls Try.prog 5 #[.int .i64 (n : Int), .int .i64 b] w fun e w' => e = .returned (.bool true) ∧ Below w.heap.size w w' := by
  have d1 : ¬ (n : Int) < 1 := by omega
  have d2 : ¬ 4 < (n : Int) := by omega
  have hp : (∃ x : Int, 0 ≤ b ∧ b < n ∧ pinX (freshK n) b = x ∧ pinE (freshK n) b = 0) ∨ (¬ (0 ≤ b ∧ b < n) ∧ pinX (freshK n) b = 0 ∧ pinE (freshK n) b = 1) := by
    by_cases h0 : b < 0
    · right
      unfold pinX pinE
      rw [wkAt_low h0]
      exact ⟨fun h => by omega, rfl, rfl⟩
    · obtain ⟨k, rfl⟩ : ∃ k : Nat, b = (k : Int) := ⟨b.toNat, by omega⟩
      by_cases h3 : k < n
      · left
        have hk : (freshK n)[k]? = some ⟨0, none⟩ := by unfold freshK; rw [List.getElem?_replicate, if_pos h3]
        unfold pinX pinE
        rw [wkAt_nat, hk]
        exact ⟨_, by omega, by omega, rfl, rfl⟩
      · right
        unfold pinX pinE
        rw [wkAt_high (by rw [freshK_length]; omega)]
        exact ⟨fun h => by omega, rfl, rfl⟩
  have CP := Lib.hid (fun g S w h => ppin_any (freshK n) [] g S w b h)
  obtain ⟨l2, hl2⟩ : ∃ z, pinS (freshK n) b = z := ⟨_, rfl⟩
  rw [hl2] at CP
  go_enter Try.func5, Try.ntmps5
  go_wp2_with fail
  refine (awake16 w).mono ?_
  rintro e w1 ⟨rfl, b1⟩
  have HB1 := Lib.hid b1
  clear b1 hl2
  go_wp2_with fail
  refine (pnew_any w1 n h1 h2).mono ?_
  rintro e w2 ⟨g, S2, rfl, a2, s2, b2⟩
  have HA2 := Lib.hid a2
  have HS2 := Lib.hid (fun k hk => Nat.le_trans HB1.out.size (s2 k hk))
  have HB2 := Lib.hid (bnext HB1.out b2)
  clear a2 s2 b2 HB1
  rcases hp with ⟨x, hb0, hb1, hx, he⟩ | ⟨hb, hx, he⟩
  · rw [hx, he] at CP
    clear hx he
    go_wp2_with fail
    refine (CP.out g S2 _ HA2.out).mono ?_
    rintro e w3 ⟨S3, rfl, a3, k3, m3⟩
    have HA3 := Lib.hid a3
    have HB3 := Lib.hid (HB2.out.trans (k3.below HB2.out.size (fun j hj h => Nat.not_le_of_lt hj (HS2.out j h))))
    have HS3 : Hid (∀ j, S3 j → w.heap.size ≤ j) := Lib.hid (fun j h => (Nat.lt_or_ge j w2.heap.size).elim (fun hj => HS2.out j (m3 j hj h)) (fun hj => Nat.le_trans HB2.out.size hj))
    clear a3 k3 m3 CP HA2 HB2 HS2
    go_wp2_with fail
    go_loopw [12] (fun i wr => ∃ k : Nat, k ≤ 64 ∧ i = .int .i64 (k : Int) ∧ ∃ S, PAt wr g S l2 (fillQ k) ∧ (∀ j, S j → w.heap.size ≤ j) ∧ Below w.heap.size w wr) (fun i _ => 64 - (intOf i).toNat)
    case atStart => exact ⟨0, Nat.zero_le _, rfl, S3, HA3.out, HS3.out, HB3.out⟩
    case round =>
      clear HA3 HS3 HB3
      obtain ⟨k, hk, rfl, S, hA, hS, hB⟩ := hrel
      have HA := Lib.hid hA
      have HS := Lib.hid hS
      have HB := Lib.hid hB
      clear hA hS hB
      by_cases hlt : k < 64
      · have CR := pret_any l2 (fillQ k) g S wr k 0 1 HA.out
        rw [(fillQ_ret hlt).1, (fillQ_ret hlt).2] at CR
        replace CR := Lib.hid CR
        have hlt' : (k : Int) < 64 := by omega
        go_wp2_with fail
        refine CR.out.mono ?_
        rintro e w4 ⟨S4, rfl, a4, k4, m4⟩
        have HA4 := Lib.hid a4
        have HB4 := Lib.hid (HB.out.trans (k4.below HB.out.size (fun j hj h => Nat.not_le_of_lt hj (HS.out j h))))
        have HS4 : Hid (∀ j, S4 j → w.heap.size ≤ j) := Lib.hid (fun j h => (Nat.lt_or_ge j wr.heap.size).elim (fun hj => HS.out j (m4 j hj h)) (fun hj => Nat.le_trans HB.out.size hj))
        clear a4 k4 m4 CR HA HS HB
        go_wp2_with fail
        go_roundw
        case rel => exact ⟨k + 1, by omega, by go_num, S4, HA4.out, HS4.out, HB4.out⟩
        case measure => simp [intOf]; omega
      · obtain rfl : k = 64 := by omega
        have CR := pret_any l2 (fillQ 64) g S wr 0 0 1 HA.out
        rw [(fillQ_full ⟨0, 0, 1⟩).1, (fillQ_full ⟨0, 0, 1⟩).2] at CR
        replace CR := Lib.hid CR
        have CW := Lib.hid (fun S w (h : PAt w g S l2 (fillQ 64)) => (show Calls Try.prog 22 #[.pointer (some ⟨g, 0, none⟩)] w (fun e w' => e = .returned (.int .i64 64) ∧ Below w.heap.size w w') by have h1 := pwait_any l2 (fillQ 64) g S w h; rw [fillQ_length] at h1; exact h1))
        go_wp2_with fail
        refine CR.out.mono ?_
        rintro e w4 ⟨S4, rfl, a4, k4, m4⟩
        have HA4 := Lib.hid a4
        have HB4 := Lib.hid (HB.out.trans (k4.below HB.out.size (fun j hj h => Nat.not_le_of_lt hj (HS.out j h))))
        clear a4 k4 m4 CR HA HS HB
        go_wp2_with fail
        refine (CW.out S4 _ HA4.out).mono ?_
        rintro e w5 ⟨rfl, b5⟩
        have HB5 := Lib.hid (bnext HB4.out b5)
        clear b5 HB4 CW HA4
        go_wp2
        go_ret
        exact ⟨rfl, HB5.out⟩
  · rw [hx, he] at CP
    clear hx he
    have hb' : b < 0 ∨ (0 ≤ b ∧ ¬ b < n) := by omega
    clear hb
    rcases hb' with hb0 | ⟨hb0, hb1⟩
    all_goals
      go_wp2_with fail
      refine (CP.out g S2 _ HA2.out).mono ?_
      rintro e w3 ⟨S3, rfl, a3, k3, m3⟩
      have HA3 := Lib.hid a3
      have HB3 := Lib.hid (HB2.out.trans (k3.below HB2.out.size (fun j hj h => Nat.not_le_of_lt hj (HS2.out j h))))
      have HS3 : Hid (∀ j, S3 j → w.heap.size ≤ j) := Lib.hid (fun j h => (Nat.lt_or_ge j w2.heap.size).elim (fun hj => HS2.out j (m3 j hj h)) (fun hj => Nat.le_trans HB2.out.size hj))
      clear a3 k3 m3 CP HA2 HB2 HS2
      go_wp2_with fail
      go_loopw [12] (fun i wr => ∃ k : Nat, k ≤ 64 ∧ i = .int .i64 (k : Int) ∧ ∃ S, PAt wr g S l2 (fillQ k) ∧ (∀ j, S j → w.heap.size ≤ j) ∧ Below w.heap.size w wr) (fun i _ => 64 - (intOf i).toNat)
      case atStart => exact ⟨0, Nat.zero_le _, rfl, S3, HA3.out, HS3.out, HB3.out⟩
      case round =>
        clear HA3 HS3 HB3
        obtain ⟨k, hk, rfl, S, hA, hS, hB⟩ := hrel
        have HA := Lib.hid hA
        have HS := Lib.hid hS
        have HB := Lib.hid hB
        clear hA hS hB
        by_cases hlt : k < 64
        · have CR := pret_any l2 (fillQ k) g S wr k 0 1 HA.out
          rw [(fillQ_ret hlt).1, (fillQ_ret hlt).2] at CR
          replace CR := Lib.hid CR
          have hlt' : (k : Int) < 64 := by omega
          go_wp2_with fail
          refine CR.out.mono ?_
          rintro e w4 ⟨S4, rfl, a4, k4, m4⟩
          have HA4 := Lib.hid a4
          have HB4 := Lib.hid (HB.out.trans (k4.below HB.out.size (fun j hj h => Nat.not_le_of_lt hj (HS.out j h))))
          have HS4 : Hid (∀ j, S4 j → w.heap.size ≤ j) := Lib.hid (fun j h => (Nat.lt_or_ge j wr.heap.size).elim (fun hj => HS.out j (m4 j hj h)) (fun hj => Nat.le_trans HB.out.size hj))
          clear a4 k4 m4 CR HA HS HB
          go_wp2_with fail
          go_roundw
          case rel => exact ⟨k + 1, by omega, by go_num, S4, HA4.out, HS4.out, HB4.out⟩
          case measure => simp [intOf]; omega
        · obtain rfl : k = 64 := by omega
          have CR := pret_any l2 (fillQ 64) g S wr 0 0 1 HA.out
          rw [(fillQ_full ⟨0, 0, 1⟩).1, (fillQ_full ⟨0, 0, 1⟩).2] at CR
          replace CR := Lib.hid CR
          have CW := Lib.hid (fun S w (h : PAt w g S l2 (fillQ 64)) => (show Calls Try.prog 22 #[.pointer (some ⟨g, 0, none⟩)] w (fun e w' => e = .returned (.int .i64 64) ∧ Below w.heap.size w w') by have h1 := pwait_any l2 (fillQ 64) g S w h; rw [fillQ_length] at h1; exact h1))
          go_wp2_with fail
          refine CR.out.mono ?_
          rintro e w4 ⟨S4, rfl, a4, k4, m4⟩
          have HA4 := Lib.hid a4
          have HB4 := Lib.hid (HB.out.trans (k4.below HB.out.size (fun j hj h => Nat.not_le_of_lt hj (HS.out j h))))
          clear a4 k4 m4 CR HA HS HB
          go_wp2_with fail
          refine (CW.out S4 _ HA4.out).mono ?_
          rintro e w5 ⟨rfl, b5⟩
          have HB5 := Lib.hid (bnext HB4.out b5)
          clear b5 HB4 CW HA4
          go_wp2
          go_ret
          exact ⟨rfl, HB5.out⟩


theorem walk (w : World) (a : Int) (ha : (Lit.int .i64 a).wf = true) (b : Int) (hb : (Lit.int .i64 b).wf = true) : Calls Try.prog 5 #[.int .i64 a, .int .i64 b] w fun e w' => e = .returned (.bool true) ∧ Below w.heap.size w w' := by
  by_cases h : a < 1 ∨ 4 < a
  · exact walk_bad w a b h
  · obtain ⟨n, rfl⟩ : ∃ n : Nat, a = (n : Int) := ⟨a.toNat, by omega⟩
    exact walk_good w n b (by omega) (by omega)

set_option maxRecDepth 100000 in
theorem lifted (os : Os) (started : os.Started) (H : Type) (enc : TypeId × Value → H) :
    ReturnsInHanded {} Try.checked os 5 .any (Rows.pinsBoundsSpec.pre6 enc Try.prog Try.f5 Rows.pinsBoundsRow.domain false) (Rows.pinsBoundsSpec.post enc Try.prog Try.f5 false true false false) := by
  refine returnsInHanded_of_change (C := Try.checked) own started (by kernel_rfl) Try.func5
    (ChangeSpec.witness6 (enc := enc) (C := Try.checked) false ⟨#[], #[.int .i64 0, .int .i64 0], []⟩ 8 (by kernel_rfl) (by kernel_rfl) (by kernel_rfl) (by kernel_rfl)) ?_
  intro W base args ds gs before hval0 hW _ _
  have hval : ∀ (j : Nat) t v, Try.f5.params[j]? = some t → args[j]? = some v → Value.okWide Try.prog W .any base t v := hval0
  have hW' := hW
  obtain ⟨p, q, hA0, hV, _, _, _⟩ := hW
  have hA : DataW.TrodAll enc Try.prog W 0 (fun _ => true) true Try.f5.params.toList args.toList ds p := hA0
  rw [Try.params5] at hA hval
  obtain ⟨v0, vs0, d0, ds0, p0, q0, hargs, rfl, _, h0, r0⟩ := trodAll_cons hA
  obtain ⟨v1, vs1, d1, ds1, p1, q1, rfl, rfl, _, h1, r1⟩ := trodAll_cons r0
  obtain ⟨rfl, rfl, _⟩ := trodAll_nil r1
  obtain rfl : args = #[v0, v1] := by cases args; simp_all
  obtain ⟨rfl, _⟩ := trodVars_none hV
  refine law_post (s := Rows.pinsBoundsSpec) rfl rfl (by rw [Try.params5]; intro t ht; simp at ht; rcases ht with rfl | rfl <;> exact ⟨by kernel_rfl, of_decide_eq_true (by kernel_rfl)⟩) rfl hW' ?_
  obtain ⟨a0, rfl, _, _, w0⟩ := open_int Try.underlying3 (hval 0 3 v0 rfl rfl) h0
  obtain ⟨a1, rfl, _, _, w1⟩ := open_int Try.underlying3 (hval 1 3 v1 rfl rfl) h1
  exact walk W a0 w0 a1 w1

theorem over : Rows.pinsBoundsRow.holds Try.pinned (OpenSpec.ofChange Rows.pinsBoundsSpec) :=
  OpenClaim.holds_of_wide 5 Try.f5 rfl rfl rfl rfl rfl rfl rfl ⟨rfl, rfl, rfl, rfl, rfl⟩ rfl rfl rfl rfl rfl (by kernel_rfl) Try.func5 (by kernel_rfl)
    (of_decide_eq_true (by kernel_rfl)) (by unfold Func.isWrapper; first | (rw [if_pos (by decide +kernel)]; kernel_rfl) | (rw [if_neg (by decide +kernel)]; exact ⟨rfl, rfl⟩))
    (fun os started H enc _ => lifted os started H enc)

/-- The statement. -/
theorem pinsBounds_holds : Rows.PinsBoundsSaid := over

end Go.Proofs.Ytgacejencnkpmaa.PBounds
