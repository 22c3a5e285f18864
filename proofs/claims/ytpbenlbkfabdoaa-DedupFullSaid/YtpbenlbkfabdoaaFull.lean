/-
  Proved: DedupFull returns true for every room and every number: without answers no more than room are started, and the one that was started first must be answered ahead of one more. Conditions: none.
-/
import Derived.Test.YtpbenlbkfabdoaaDedC
import Derived.Test.YtpbenlbkfabdoaaLift
import Derived.Deep.CutBlock
namespace Go.Proofs.Ytpbenlbkfabdoaa.Full
open Go.ChangeShapes Go.WideShapes Go.ChangeAt Go.RowKit

/-- The rows that are started one behind the other. -/
def rows (j : Nat) : List Ent := (List.range j).map fun i : Nat => fresh (i : Int)
theorem rows_len (j : Nat) : (rows j).length = j := by simp [rows]
theorem rows_succ (j : Nat) : rows (j + 1) = rows j ++ [fresh (j : Int)] := by simp [rows, List.range_succ]
theorem rows_none (j : Nat) (k : Int) (h : k < 0 ∨ (j : Int) ≤ k) : fnd (rows j) k = none := by
  rw [fnd_none]
  intro e he
  obtain ⟨i, hi, rfl⟩ := List.mem_map.1 he
  have := List.mem_range.1 hi
  simp only [fresh]
  omega
theorem rows_some (j i : Nat) (h : i < j) : fnd (rows j) (i : Int) = some (fresh i) := by
  induction j with
  | zero => omega
  | succ j ih =>
    rw [rows_succ, fnd_snoc]
    by_cases hi : i < j
    · rw [ih hi]; rfl
    · obtain rfl : i = j := by omega
      rw [rows_none i i (by omega)]
      simp
theorem rows_cons (j : Nat) : rows (j + 1) = fresh 0 :: (List.range j).map fun i : Nat => fresh ((i + 1 : Nat) : Int) := by
  simp [rows, List.range_succ_eq_map, List.map_map, Function.comp_def]

/-- What the round keeps. -/
def At (w0 : World) (g m r N j : Nat) (wx : World) : Prop := DAt wx g m r N (rows j) ∧ Below w0.heap.size w0 wx

set_option maxRecDepth 100000 in
set_option maxHeartbeats 1600000 in
theorem walk (w : World) (n : Int) (hn : (Lit.int .i64 n).wf = true) (b : Int) (hb : (Lit.int .u8 b).wf = true) :
    Calls Try.prog 5 #[.int .i64 n, .int .u8 b] w fun e w' => e = .returned (.bool true) ∧ Below w.heap.size w w' := by
  have hn' := wf_i64 hn
  have hb' := wf_u8 hb
  clear hn hb
  by_cases hbad : n < 1 ∨ 4096 < n
  · have HB := Lib.hid hbad
    have hor : (n < 1) ∨ (¬ n < 1 ∧ 4096 < n) := by omega
    clear hbad
    rcases hor with h | ⟨h0, h⟩
    all_goals
      go_enter Try.func5, Try.ntmps5
      go_wp2_with fail
      refine (awake_any w).mono ?_
      rintro e w1 ⟨rfl, b1⟩
      go_wp2_with fail
      refine (new_bad n _ HB.out).mono ?_
      rintro e w2 ⟨rfl, rfl⟩
      go_wp2_with fail
      refine (find_nil 1 _).mono ?_
      rintro e w2 ⟨rfl, rfl⟩
      go_wp2_with fail
      refine (start_nil 1 _).mono ?_
      rintro e w2 ⟨rfl, rfl⟩
      go_wp2_with fail
      refine (end_nil 1 _ _).mono ?_
      rintro e w2 ⟨rfl, rfl⟩
      go_wp2_with fail
      refine (len_nil _).mono ?_
      rintro e w2 ⟨rfl, rfl⟩
      go_wp2_with fail
      refine (waits_nil _).mono ?_
      rintro e w2 ⟨rfl, rfl⟩
      go_wp2
      go_ret
      exact ⟨rfl, b1⟩
  obtain ⟨N, rfl⟩ : ∃ N : Nat, n = (N : Int) := ⟨n.toNat, by omega⟩
  have h1 : ¬ (N : Int) < 1 := by omega
  have h2 : ¬ 4096 < (N : Int) := by omega
  clear hbad
  by_cases hbig : 100 < N
  · have h3 : 100 < (N : Int) := by omega
    go_enter Try.func5, Try.ntmps5
    go_wp2_with fail
    refine (awake_any w).mono ?_
    rintro e w1 ⟨rfl, b1⟩
    go_wp2_with fail
    refine (new_any N _ (by omega) (by omega)).mono ?_
    rintro e w2 ⟨g, m, r, rfl, d2, hg, hm, hr, b2⟩
    have B := bnext b1 b2
    have HB := Lib.hid B
    clear b1 b2 B d2 hg hm hr
    go_wp2
    go_ret
    exact ⟨rfl, HB.out⟩
  have h3 : ¬ 100 < (N : Int) := by omega
  go_enter Try.func5, Try.ntmps5
  go_wp2_with fail
  refine (awake_any w).mono ?_
  rintro e w1 ⟨rfl, b1⟩
  go_wp2_with fail
  refine (new_any N _ (by omega) (by omega)).mono ?_
  rintro e w2 ⟨g, m, r, rfl, d2, hg, hm, hr, b2⟩
  have hg' : w.heap.size ≤ g := Nat.le_trans b1.size hg
  have hm' : w.heap.size ≤ m := Nat.le_trans b1.size hm
  have hr' : w.heap.size ≤ r := Nat.le_trans b1.size hr
  have B2 := bnext b1 b2
  clear b1 b2 hg hm hr
  have hat : At w g m r N 0 w2 := ⟨d2, B2⟩
  have HS : ∀ k, k < w.heap.size → ¬ (k = g ∨ k = m ∨ k = r) := by intro k hk; omega
  have HS' := Lib.hid HS
  clear d2 B2 HS
  go_wp2_with fail
  go_loopw [10] (fun i wx => ∃ j : Nat, j ≤ N ∧ i = .int .i64 j ∧ At w g m r N j wx) (fun i _ => N - (intOf i).toNat)
  case atStart => exact ⟨0, Nat.zero_le _, rfl, hat⟩
  case round =>
    clear hat
    obtain ⟨j, hj, rfl, d, B⟩ := hrel
    have hz := B.size
    by_cases hjn : j < N
    · have HD := Lib.hid d
      have HB := Lib.hid B
      clear d B
      go_wp2_with fail
      refine (start_yes g m r N (rows j) j (WalkArith.wf_u64 (by omega)) _ HD.out (rows_none j j (by omega)) (by rw [rows_len]; exact hjn)).mono ?_
      rintro e w3 ⟨rfl, d3, b3⟩
      have h4 : At w g m r N (j + 1) w3 := ⟨by rw [rows_succ]; exact d3, HB.out.trans (b3.below hz HS'.out)⟩
      have H4 := Lib.hid h4
      clear h4 d3 b3 HD HB
      go_wp2
      go_roundw
      case rel => exact ⟨j + 1, by omega, by go_num, H4.out⟩
      case measure => simp [intOf]; omega
    · obtain rfl : j = N := by omega
      obtain ⟨tl, htl, hlen⟩ : ∃ tl, rows j = fresh 0 :: tl ∧ tl.length + 1 = j := by
        obtain ⟨t, rfl⟩ : ∃ t, j = t + 1 := ⟨j - 1, by omega⟩
        exact ⟨_, rows_cons t, by simp⟩
      obtain ⟨kk, hkk⟩ : ∃ kk : Nat, b % (j : Int) = kk := ⟨(b % (j : Int)).toNat, by have := Int.emod_nonneg b (b := (j : Int)) (by omega); omega⟩
      have hk2 : kk < j := by have := Int.emod_lt_of_pos b (b := (j : Int)) (by omega); omega
      have f9 := rows_none j 9999 (by omega)
      have f5 := rows_none j 5555 (by omega)
      have fk := rows_some j kk hk2
      rw [htl] at d f9 f5 fk
      have HD := Lib.hid d
      have HB := Lib.hid B
      have H9 := Lib.hid f9
      have H5 := Lib.hid f5
      have HK := Lib.hid fk
      have HL := Lib.hid hlen
      have HS0 := HS'
      clear d B f9 f5 fk htl hlen HS'
      go_wp2_with fail
      refine (start_full g m r j (fresh 0) tl 9999 (by decide) _ HD.out H9.out HL.out rfl).mono ?_
      rintro e w3 ⟨rfl, d3, b3⟩
      have HD3 := Lib.hid d3
      have B3 := HB.out.trans (b3.below hz HS0.out)
      have HB3 := Lib.hid B3
      have hz3 := B3.size
      clear d3 b3 HD HB hz B3
      go_wp2_with fail
      refine (end_yes g m r j (fresh 0 :: tl) kk (WalkArith.wf_u64 (by omega)) _ (fresh kk) _ HD3.out HK.out rfl).mono ?_
      rintro e w4 ⟨rfl, d4, b4⟩
      have B4 := HB3.out.trans (b4.below hz3 HS0.out)
      have HB4 := Lib.hid B4
      have hz4 := B4.size
      rw [upd_cons] at d4
      obtain ⟨U, hU⟩ : ∃ U, upd tl kk ⟨#[120]⟩ = U := ⟨_, rfl⟩
      have hUl : U.length + 1 = j := by rw [← hU, upd_length]; exact HL.out
      have hU9 : fnd ((if (fresh 0).id = (kk : Int) then ⟨kk, ⟨#[120]⟩, true⟩ else fresh 0) :: U) 9999 = none := by
        rw [← hU, ← upd_cons, fnd_upd, if_neg (by omega)]; exact H9.out
      have hU5 : fnd ((if (fresh 0).id = (kk : Int) then ⟨kk, ⟨#[120]⟩, true⟩ else fresh 0) :: U) 5555 = none := by
        rw [← hU, ← upd_cons, fnd_upd, if_neg (by omega)]; exact H5.out
      rw [hU] at d4
      have HU9 := Lib.hid hU9
      have HU5 := Lib.hid hU5
      have HUL := Lib.hid hUl
      by_cases hk0 : kk = 0
      · subst hk0
        have e0 : (fresh 0).id = ((0 : Nat) : Int) := rfl
        rw [if_pos e0] at d4 hU9 hU5
        clear e0
        have HD4 := Lib.hid d4
        have HU9 := Lib.hid hU9
        have hU5' : fnd (U ++ [fresh 9999]) 5555 = none := by
          rw [fnd_cons] at hU5
          rw [fnd_snoc]
          split at hU5
          · cases hU5
          · rw [hU5]; rfl
        have HU5 := Lib.hid hU5'
        have hlen5 : (U ++ [fresh 9999]).length = j := by simpa using hUl
        have HL5 := Lib.hid hlen5
        clear d4 b4 B4 hU hU9 hU5 hU5' hUl HD3 HB3 hz3 hlen5
        go_wp2_with fail
        refine (start_goes g m r j ⟨(0 : Nat), ⟨#[120]⟩, true⟩ U 9999 (by decide) _ HD4.out HU9.out HUL.out rfl).mono ?_
        rintro e w5 ⟨rfl, d5, b5⟩
        have B5 := HB4.out.trans (b5.below hz4 HS0.out)
        have HB5 := Lib.hid B5
        have hz5 := B5.size
        have HD5 := Lib.hid d5
        clear d5 b5 B5 HD4 HB4 hz4
        go_wp2_with fail
        refine (len_any g m r j _ _ HD5.out).mono ?_
        rintro e w6 ⟨rfl, rfl⟩
        rw [HL5.out]
        go_wp2_with fail
        refine (end_none g m r j _ 5555 (by decide) _ _ HD5.out HU5.out).mono ?_
        rintro e w6 ⟨rfl, d6, b6⟩
        have HB6 := Lib.hid (HB5.out.trans (b6.below hz5 HS0.out))
        clear d6 b6 HB5 HD5
        go_wp2
        go_ret
        exact ⟨rfl, HB6.out⟩
      · have hne : ((kk : Int) == 0) = false := by simpa using hk0
        have e0 : ¬ (fresh 0).id = (kk : Int) := by simp [fresh]; omega
        rw [if_neg e0] at d4 hU9 hU5
        clear e0
        have HD4 := Lib.hid d4
        have HU9 := Lib.hid hU9
        have HU5 := Lib.hid hU5
        have hlen5 : (fresh 0 :: U).length = j := by simpa using hUl
        have HL5 := Lib.hid hlen5
        clear d4 b4 B4 hU hU9 hU5 hUl HD3 HB3 hz3 hlen5
        go_wp2_with fail
        refine (start_full g m r j (fresh 0) U 9999 (by decide) _ HD4.out HU9.out HUL.out rfl).mono ?_
        rintro e w5 ⟨rfl, d5, b5⟩
        have B5 := HB4.out.trans (b5.below hz4 HS0.out)
        have HB5 := Lib.hid B5
        have hz5 := B5.size
        have HD5 := Lib.hid d5
        clear d5 b5 B5 HD4 HB4 hz4
        go_wp2_with fail
        refine (len_any g m r j _ _ HD5.out).mono ?_
        rintro e w6 ⟨rfl, rfl⟩
        rw [HL5.out]
        go_wp2_with fail
        refine (end_none g m r j _ 5555 (by decide) _ _ HD5.out HU5.out).mono ?_
        rintro e w6 ⟨rfl, d6, b6⟩
        have HB6 := Lib.hid (HB5.out.trans (b6.below hz5 HS0.out))
        clear d6 b6 HB5 HD5
        go_wp2
        go_ret
        exact ⟨rfl, HB6.out⟩

set_option maxRecDepth 100000 in
theorem lifted (os : Os) (started : os.Started) (H : Type) (enc : TypeId × Value → H) :
    ReturnsInHanded {} Try.checked os 5 .any (Rows.dedupFullSpec.pre6 enc Try.prog Try.f5 Rows.dedupFullRow.domain false) (Rows.dedupFullSpec.post enc Try.prog Try.f5 false true false false) := by
  refine returnsInHanded_of_change (C := Try.checked) own started (by kernel_rfl) Try.func5
    (ChangeSpec.witness6 (enc := enc) (C := Try.checked) false ⟨#[], #[.int .i64 0, .int .u8 0], []⟩ 8 (by kernel_rfl) (by kernel_rfl) (by kernel_rfl) (by kernel_rfl)) ?_
  intro W base args ds gs before hval0 hW _ _
  have hval : ∀ (j : Nat) t v, Try.f5.params[j]? = some t → args[j]? = some v → Value.okWide Try.prog W .any base t v := hval0
  have hW' := hW
  obtain ⟨p, q, hA0, hV, _, _, _⟩ := hW
  have hA : DataW.TrodAll enc Try.prog W 0 (fun _ => true) true Try.f5.params.toList args.toList ds p := hA0
  rw [Try.params5] at hA hval
  obtain ⟨v0, vs0, d0, ds0, p0, q0, hargs, rfl, _, h0, r0⟩ := trodAll_cons hA
  obtain ⟨v1, vs1, d1, ds1, p1, q1, rfl, rfl, _, h1, r1⟩ := trodAll_cons r0
  obtain ⟨rfl, rfl, _⟩ := trodAll_nil r1
  obtain rfl : args = #[v0, v1] := by cases args; simp_all
  obtain ⟨rfl, _⟩ := trodVars_none hV
  refine law_post (s := Rows.dedupFullSpec) rfl rfl (by rw [Try.params5]; intro t ht; simp at ht; rcases ht with rfl | rfl <;> exact ⟨by kernel_rfl, of_decide_eq_true (by kernel_rfl)⟩) rfl hW' ?_
  obtain ⟨a0, rfl, _, _, w0⟩ := open_int Try.underlying3 (hval 0 3 v0 rfl rfl) h0
  obtain ⟨a1, rfl, _, _, w1⟩ := open_int Try.underlying5 (hval 1 5 v1 rfl rfl) h1
  exact walk W a0 w0 a1 w1

theorem over : Rows.dedupFullRow.holds Try.pinned (OpenSpec.ofChange Rows.dedupFullSpec) :=
  OpenClaim.holds_of_wide 5 Try.f5 rfl rfl rfl rfl rfl rfl rfl ⟨rfl, rfl, rfl, rfl, rfl⟩ rfl rfl rfl rfl rfl (by kernel_rfl) Try.func5 (by kernel_rfl)
    (of_decide_eq_true (by kernel_rfl)) (by unfold Func.isWrapper; first | (rw [if_pos (by decide +kernel)]; kernel_rfl) | (rw [if_neg (by decide +kernel)]; exact ⟨rfl, rfl⟩))
    (fun os started H enc _ => lifted os started H enc)

/-- The statement. -/
theorem dedupFull_holds : Rows.DedupFullSaid := over
end Go.Proofs.Ytpbenlbkfabdoaa.Full
