/-
  Proved: ArenaBounds returns true for every room: as many things stand in slots as there are; only rooms that may be are; of nothing there is nothing. Conditions: none.
-/
import Derived.Test.YtejfjjgcajdjmaaArA
import Derived.Test.YtejfjjgcajdjmaaLift
import Derived.Deep.CutBlock
import Derived.Deep.DeepCutAuto
namespace Go.Proofs.Ytejfjjgcajdjmaa.ABounds
open Go.ChangeShapes Go.WideShapes Go.ChangeAt Go.RowKit
set_option linter.unusedSimpArgs false
set_option linter.unusedVariables false
set_option maxRecDepth 100000

def xS : Value := .string { data := #[120] }
/-- n slots of which the first k are used. -/
def fillA (n k : Nat) : List Sl := List.replicate k ⟨xS, 1, true⟩ ++ List.replicate (n - k) ⟨zS, 0, false⟩
theorem fill_length {n k : Nat} (h : k ≤ n) : (fillA n k).length = n := by simp [fillA]; omega
theorem fill_zero (n : Nat) : freshA zS n = fillA n 0 := by simp [freshA, fillA]
theorem fill_get {n k j : Nat} (h : j < k) : (fillA n k)[j]? = some ⟨xS, 1, true⟩ := by
  unfold fillA
  rw [List.getElem?_append_left (by simpa using h)]
  simp [h]
theorem fill_at {n k : Nat} (h : k < n) : (fillA n k)[k]? = some ⟨zS, 0, false⟩ := by
  unfold fillA
  rw [List.getElem?_append_right (by simp)]
  simp only [List.length_replicate, Nat.sub_self]
  rw [List.getElem?_replicate, if_pos (by omega)]
theorem fill_low {n k : Nat} (h : k < n) : lowA (fillA n k) = k :=
  lowA_eq (fill_at h) rfl (fun j z hj hz => by rw [fill_get hj] at hz; injection hz with hz; subst hz; rfl)
theorem fill_full (n : Nat) : lowA (fillA n n) = n := by
  rw [lowA_none (fun j z hz => ?_), fill_length (Nat.le_refl n)]
  have : z ∈ fillA n n := List.mem_of_getElem? hz
  unfold fillA at this
  simp at this
  rw [this.2]
theorem fill_turns (n k : Nat) : Turns 1000000 (fillA n k) := by
  intro y hy
  unfold fillA at hy
  rw [List.mem_append] at hy
  rcases hy with h | h
  · rw [List.eq_of_mem_replicate h]; decide
  · rw [List.eq_of_mem_replicate h]; decide
theorem fill_turn {n k : Nat} (h : k < n) : turnA (fillA n k) = 1 := by unfold turnA; rw [fill_low h, fill_at h]
theorem fill_take {n k : Nat} (h : k < n) : takeA (fillA n k) xS = fillA n (k + 1) := by
  unfold takeA
  rw [fill_turn h, fill_low h, fill_length (by omega), if_pos h]
  unfold fillA
  rw [List.set_append_right _ _ (by simp)]
  simp only [List.length_replicate, Nat.sub_self]
  obtain ⟨m, hm⟩ : ∃ m, n - k = m + 1 := ⟨n - k - 1, by omega⟩
  rw [hm, show n - (k + 1) = m by omega, List.replicate_succ, List.set_cons_zero, List.replicate_succ' (n := k), List.append_assoc]
  rfl
theorem fill_err {n k : Nat} (h : k < n) : errA (fillA n k) = 0 ∧ slotA (fillA n k) = k ∧ turnT (fillA n k) = 1 := by
  have h1 : lowA (fillA n k) < (fillA n k).length := by rw [fill_low h, fill_length (by omega)]; exact h
  unfold errA slotA turnT
  rw [if_pos h1, if_pos h1, if_pos h1]
  exact ⟨rfl, fill_low h, fill_turn h⟩
theorem fill_errFull (n : Nat) : errA (fillA n n) = 20 ∧ slotA (fillA n n) = 0 ∧ turnT (fillA n n) = 0 ∧ liveA (fillA n n) = n := by
  have h1 : ¬ lowA (fillA n n) < (fillA n n).length := by rw [fill_full, fill_length (Nat.le_refl n)]; exact Nat.lt_irrefl n
  unfold errA slotA turnT
  rw [if_neg h1, if_neg h1, if_neg h1]
  refine ⟨rfl, rfl, rfl, ?_⟩
  unfold liveA fillA
  simp [List.countP_replicate]

set_option maxHeartbeats 3200000 in
theorem walk_bad (w : World) (a : Int) (ha : a < 1 ∨ 64 < a) : Calls Try.prog 5 #[.int .i64 a] w fun e w' => e = .returned (.bool true) ∧ Below w.heap.size w w' := by
  have CN := Lib.hid (fun w => anewS_none a ha w)
  have CR := Lib.hid (fun w => agetS_nil 0 1 w)
  have CF := Lib.hid (fun w => afreeS_nil 0 0 w)
  have hd : a < 1 ∨ (¬ a < 1 ∧ 64 < a) := by omega
  clear ha
  rcases hd with hd | ⟨hd1, hd⟩
  all_goals
    go_enter Try.func5, Try.ntmps5
    go_wp2_with fail
    refine (awake_any w).mono ?_
    rintro e w1 ⟨rfl, b1⟩
    have HB1 := Lib.hid b1
    clear b1
    go_wp2_with fail
    refine (CN.out w1).mono ?_
    rintro e w2 ⟨rfl, b2⟩
    have HB2 := Lib.hid (bnext HB1.out b2)
    clear b2 HB1
    go_wp2_with fail
    refine (atakeS_nil _ w2).mono ?_
    rintro e w3 ⟨rfl, b3⟩
    have HB3 := Lib.hid (bnext HB2.out b3)
    clear b3 HB2
    go_wp2_with fail
    refine (CR.out _).mono ?_
    rintro e w4 ⟨rfl, b4⟩
    have HB4 := Lib.hid (bnext (HB3.out.alloc HB3.out.size (.cells #[.int .i64 0, .int .u32 0] 30)) b4)
    clear b4 HB3
    go_wp2_with fail
    refine (CF.out _).mono ?_
    rintro e w5 ⟨rfl, b5⟩
    have HB5 := Lib.hid (bnext HB4.out b5)
    clear b5 HB4
    go_wp2_with fail
    refine (aliveS_nil _).mono ?_
    rintro e w6 ⟨rfl, b6⟩
    have HB6 := Lib.hid (bnext HB5.out b6)
    clear b6 HB5
    go_wp2_with fail
    refine (arefsS_nil _).mono ?_
    rintro e w7 ⟨rfl, b7⟩
    have HB7 := Lib.hid (bnext HB6.out b7)
    clear b7 HB6
    go_wp2
    go_ret
    exact ⟨rfl, HB7.out⟩

set_option maxHeartbeats 3200000 in
theorem walk_good (w : World) (n : Nat) (h1 : 1 ≤ n) (h2 : n ≤ 64) : Calls Try.prog 5 #[.int .i64 (n : Int)] w fun e w' => e = .returned (.bool true) ∧ Below w.heap.size w w' := by
  have d1 : ¬ (n : Int) < 1 := by omega
  have d2 : ¬ 64 < (n : Int) := by omega
  go_enter Try.func5, Try.ntmps5
  go_wp2_with fail
  refine (awake_any w).mono ?_
  rintro e w1 ⟨rfl, b1⟩
  have HB1 := Lib.hid b1
  clear b1
  go_wp2_with fail
  refine (anewS_any n h1 h2 w1).mono ?_
  rintro e w2 ⟨g, S2, rfl, a2, s2, b2⟩
  have HA2 := Lib.hid (fill_zero n ▸ a2)
  have HS2 := Lib.hid (fun k hk => Nat.le_trans HB1.out.size (s2 k hk))
  have HB2 := Lib.hid (bnext HB1.out b2)
  clear a2 s2 b2 HB1 d1 d2
  go_wp2_with fail
  go_loopw [9] (fun i wr => ∃ k : Nat, k ≤ n ∧ i = .int .i64 (k : Int) ∧ ∃ S, ArAt false wr g S (fillA n k) ∧ (∀ j, S j → w.heap.size ≤ j) ∧ Below w.heap.size w wr) (fun i _ => n - (intOf i).toNat)
  case atStart => exact ⟨0, Nat.zero_le _, rfl, S2, HA2.out, HS2.out, HB2.out⟩
  case round =>
    clear HA2 HS2 HB2
    obtain ⟨k, hk, rfl, S, hA, hS, hB⟩ := hrel
    have HA := Lib.hid hA
    have HS := Lib.hid hS
    have HB := Lib.hid hB
    clear hA hS hB
    by_cases hlt : k < n
    · have CT := atakeS_any (fillA n k) { data := #[120] } g S wr HA.out (fill_turns n k) (by rw [fill_length hk]; exact h2)
      rw [show takeA (fillA n k) (.string { data := #[120] }) = fillA n (k + 1) from fill_take hlt, (fill_err hlt).1, (fill_err hlt).2.1, (fill_err hlt).2.2] at CT
      unfold refV at CT
      replace CT := Lib.hid CT
      have hlt' : (k : Int) < (n : Int) := by omega
      have EQ := fun w : World => neq_ref w k 1 k 1 false (by simp)
      go_wp2_with fail
      refine CT.out.mono ?_
      rintro e w3 ⟨S3, rfl, a3, k3, m3⟩
      have HA3 := Lib.hid a3
      have HB3 := Lib.hid (HB.out.trans (k3.below HB.out.size (fun j hj h => Nat.not_le_of_lt hj (HS.out j h))))
      have HS3 : Hid (∀ j, S3 j → w.heap.size ≤ j) := Lib.hid (fun j h => (Nat.lt_or_ge j wr.heap.size).elim (fun hj => HS.out j (m3 j hj h)) (fun hj => Nat.le_trans HB.out.size hj))
      clear a3 k3 m3 CT HA HS HB
      go_wp2_with fail
      go_roundw
      case rel => exact ⟨k + 1, by omega, by go_num, S3, HA3.out.next ((Below.refl _ _).alloc (Nat.le_refl _) _), HS3.out, HB3.out.alloc HB3.out.size _⟩
      case measure => simp [intOf]; omega
    · obtain rfl : n = k := by omega
      have CT := atakeS_any (fillA n n) { data := #[121] } g S wr HA.out (fill_turns n n) (by rw [fill_length hk]; exact h2)
      rw [(fill_errFull n).1, (fill_errFull n).2.1, (fill_errFull n).2.2.1] at CT
      unfold refV at CT
      have hno : takeA (fillA n n) (.string { data := #[121] }) = fillA n n := by
        unfold takeA
        rw [fill_full, fill_length (Nat.le_refl n), if_neg (Nat.lt_irrefl n)]
      rw [hno] at CT
      clear hno
      replace CT := Lib.hid CT
      have CL := Lib.hid (fun S w (h : ArAt false w g S (fillA n n)) => aliveS_any (fillA n n) g S w h (by rw [fill_length (Nat.le_refl n)]; exact h2))
      go_wp2_with fail
      refine CT.out.mono ?_
      rintro e w3 ⟨S3, rfl, a3, k3, m3⟩
      have HA3 := Lib.hid a3
      have HB3 := Lib.hid (HB.out.trans (k3.below HB.out.size (fun j hj h => Nat.not_le_of_lt hj (HS.out j h))))
      clear a3 k3 m3 CT HA HS HB
      have CL2 := CL.out S3 _ (HA3.out.next ((Below.refl w3.heap.size w3).alloc (Nat.le_refl _) (.cells #[.int .i64 0, .int .u32 0] 30)))
      rw [(fill_errFull n).2.2.2] at CL2
      replace CL2 := Lib.hid CL2
      clear CL HA3
      go_wp2_with fail
      refine CL2.out.mono ?_
      rintro e w4 ⟨rfl, b4⟩
      have HB4 := Lib.hid (bnext (HB3.out.alloc HB3.out.size (.cells #[.int .i64 0, .int .u32 0] 30)) b4)
      clear b4 HB3 CL2
      go_wp2
      go_ret
      exact ⟨rfl, HB4.out⟩

theorem walk (w : World) (a : Int) (ha : (Lit.int .i64 a).wf = true) : Calls Try.prog 5 #[.int .i64 a] w fun e w' => e = .returned (.bool true) ∧ Below w.heap.size w w' := by
  by_cases h : a < 1 ∨ 64 < a
  · exact walk_bad w a h
  · obtain ⟨n, rfl⟩ : ∃ n : Nat, a = (n : Int) := ⟨a.toNat, by omega⟩
    exact walk_good w n (by omega) (by omega)

set_option maxRecDepth 100000 in
theorem lifted (os : Os) (started : os.Started) (H : Type) (enc : TypeId × Value → H) :
    ReturnsInHanded {} Try.checked os 5 .any (Rows.arenaBoundsSpec.pre6 enc Try.prog Try.f5 Rows.arenaBoundsRow.domain false) (Rows.arenaBoundsSpec.post enc Try.prog Try.f5 false true false false) := by
  refine returnsInHanded_of_change (C := Try.checked) own started (by kernel_rfl) Try.func5
    (ChangeSpec.witness6 (enc := enc) (C := Try.checked) false ⟨#[], #[.int .i64 0], []⟩ 8 (by kernel_rfl) (by kernel_rfl) (by kernel_rfl) (by kernel_rfl)) ?_
  intro W base args ds gs before hval0 hW _ _
  have hval : ∀ (j : Nat) t v, Try.f5.params[j]? = some t → args[j]? = some v → Value.okWide Try.prog W .any base t v := hval0
  have hW' := hW
  obtain ⟨p, q, hA0, hV, _, _, _⟩ := hW
  have hA : DataW.TrodAll enc Try.prog W 0 (fun _ => true) true Try.f5.params.toList args.toList ds p := hA0
  rw [Try.params5] at hA hval
  obtain ⟨v0, vs0, d0, ds0, p0, q0, hargs, rfl, _, h0, r0⟩ := trodAll_cons hA
  obtain ⟨rfl, rfl, _⟩ := trodAll_nil r0
  obtain rfl : args = #[v0] := by cases args; simp_all
  obtain ⟨rfl, _⟩ := trodVars_none hV
  refine law_post (s := Rows.arenaBoundsSpec) rfl rfl (by rw [Try.params5]; intro t ht; simp at ht; rcases ht with rfl <;> exact ⟨by kernel_rfl, of_decide_eq_true (by kernel_rfl)⟩) rfl hW' ?_
  obtain ⟨a0, rfl, _, _, w0⟩ := open_int Try.underlying3 (hval 0 3 v0 rfl rfl) h0
  exact walk W a0 w0

theorem over : Rows.arenaBoundsRow.holds Try.pinned (OpenSpec.ofChange Rows.arenaBoundsSpec) :=
  OpenClaim.holds_of_wide 5 Try.f5 rfl rfl rfl rfl rfl rfl rfl ⟨rfl, rfl, rfl, rfl, rfl⟩ rfl rfl rfl rfl rfl (by kernel_rfl) Try.func5 (by kernel_rfl)
    (of_decide_eq_true (by kernel_rfl)) (by unfold Func.isWrapper; first | (rw [if_pos (by decide +kernel)]; kernel_rfl) | (rw [if_neg (by decide +kernel)]; exact ⟨rfl, rfl⟩))
    (fun os started H enc _ => lifted os started H enc)

/-- The statement. -/
theorem arenaBounds_holds : Rows.ArenaBoundsSaid := over

end Go.Proofs.Ytejfjjgcajdjmaa.ABounds
