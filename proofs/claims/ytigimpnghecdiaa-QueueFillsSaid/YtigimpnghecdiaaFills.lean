/-
  Proved: QueueFills returns true for every room and every list of acts: wherever a queue has come to, as many go in as there is room for, and all come out. Conditions: none.
-/
import Derived.Test.YtigimpnghecdiaaQueP
namespace Go.Proofs.Ytigimpnghecdiaa.Fills
open Go.ChangeShapes Go.WideShapes Go.ChangeAt Go.RowKit

set_option maxRecDepth 100000 in
set_option maxHeartbeats 1600000 in
theorem walk (w : World) (a : Int) (ha : (Lit.int .u8 a).wf = true) (A : Option Addr) (c : Nat) (l : List (Int × Int)) (hl : l.length ≤ maxLen) (hr : Row w w.heap.size 2 A l.length (actC l)) :
    Calls Try.prog 7 #[.int .u8 a, .slice A l.length c] w fun e w' => e = .returned (.bool true) ∧ Below w.heap.size w w' := by
  unfold maxLen at hl
  have ha' := wf_u8 ha
  clear ha
  by_cases hlong : 200 < l.length
  · go_enter Try.func7, Try.ntmps7
    go_wp2_with (go_at_call 8; refine (awake_any w).mono ?_; rintro e w1 ⟨rfl, b1⟩)
    go_ret
    exact ⟨rfl, b1⟩
  obtain ⟨N, hN⟩ : ∃ N : Nat, a % 9 + 1 = (N : Int) := ⟨(a % 9 + 1).toNat, by omega⟩
  have hN1 : 1 ≤ N := by omega
  have hN2 : N ≤ 9 := by omega
  go_enter Try.func7, Try.ntmps7
  go_wp2_with fail
  refine (awake_any w).mono ?_
  rintro e w1 ⟨rfl, b1⟩
  go_wp2_with fail
  refine (newI_any N _ hN1 (by omega)).mono ?_
  rintro e w2 ⟨g, r, rfl, q2, hg, hr2, b2⟩
  have hg' : w.heap.size ≤ g := Nat.le_trans b1.size hg
  have hr' : w.heap.size ≤ r := Nat.le_trans b1.size hr2
  have B2 := bnext b1 b2
  clear b1 b2 hg hr2
  go_wp2_with fail
  go_loopw [8] (fun i wx => ∃ (k : Nat) (s : List Int), k ≤ l.length ∧ i = .int .i64 k ∧ QI wx g r N s ∧ Below w.heap.size w wx) (fun i _ => l.length - (intOf i).toNat)
  case atStart => exact ⟨0, [], Nat.zero_le _, rfl, q2, B2⟩
  case round =>
    clear q2 B2
    obtain ⟨k, s, hk, rfl, q, B⟩ := hrel
    by_cases hlt : k < l.length
    · obtain ⟨gs, o, hA, hgs, hc0, hc1⟩ := act_cells hr B k hlt
      subst hA
      generalize l[k] = p at hc0 hc1
      obtain ⟨kind, x⟩ := p
      dsimp only at hc0 hc1
      by_cases hkind : kind < 2
      · go_wp2_with fail
        refine (pushI_some g r N s x _ q).mono ?_
        rintro e w3 ⟨b, s3, rfl, q3, t3⟩
        have B3 := B.trans (t3.below hg' hr')
        clear hc0 hc1 B q t3 hN
        go_wp2_with fail
        go_roundw
        case rel => exact ⟨k + 1, s3, by omega, by go_num, q3, B3⟩
        case measure => simp [intOf]; omega
      · go_wp2_with fail
        refine (popI_some g r N s _ q).mono ?_
        rintro e w3 ⟨v, b, s3, rfl, q3, t3⟩
        have B3 := B.trans (t3.below hg' hr')
        clear hc0 hc1 B q t3 hN
        go_wp2_with fail
        go_roundw
        case rel => exact ⟨k + 1, s3, by omega, by go_num, q3, B3⟩
        case measure => simp [intOf]; omega
    · have hs := q.len.1
      rw [List.length_map] at hs
      clear hr hN
      go_wp2_with fail
      refine (roomI_any g r N s _ q).mono ?_
      rintro e w3 ⟨rfl, q3, t3⟩
      have B3 := B.trans (t3.below hg' hr')
      clear B q t3
      obtain ⟨m, hm⟩ : ∃ m, N - s.length = m := ⟨_, rfl⟩
      have HM := Lib.hid hm
      have hm9 : m ≤ 9 := by omega
      rw [hm]
      clear hm
      go_wp2_with fail
      go_loopw [10] (fun i wx => ∃ (j : Nat) (t : List Int), j ≤ m ∧ i = .int .i64 j ∧ t.length = s.length + j ∧ QI wx g r N t ∧ Below w.heap.size w wx) (fun i _ => m - (intOf i).toNat)
      case atStart => exact ⟨0, s, Nat.zero_le _, rfl, rfl, q3, B3⟩
      case round =>
        clear q3 B3
        obtain ⟨j, t, hj, rfl, ht, q, B⟩ := hrel
        have hmm := HM.out
        by_cases hjm : j < m
        · have htN : t.length < N := by omega
          have HT := Lib.hid ht
          clear hmm ht
          go_wp2_with fail
          refine (pushI_yes g r N t j _ q htN).mono ?_
          rintro e w4 ⟨rfl, q4, t4⟩
          have B4 := B.trans (t4.below hg' hr')
          clear B q t4
          go_wp2_with fail
          go_roundw
          case rel => exact ⟨j + 1, t ++ [(j : Int)], by omega, by go_num, by have := HT.out; simp; omega, q4, B4⟩
          case measure => simp [intOf]; omega
        · have htN : t.length = N := by omega
          clear hmm ht
          have HT := Lib.hid htN
          clear htN
          go_wp2_with fail
          refine (pushI_no g r N t 5 _ q HT.out).mono ?_
          rintro e w4 ⟨rfl, q4, t4⟩
          have B4 := B.trans (t4.below hg' hr')
          clear B q t4
          go_wp2_with fail
          refine (lenI_any g r N t _ q4).mono ?_
          rintro e w5 ⟨rfl, rfl⟩
          rw [HT.out]
          go_wp2_with fail
          go_loopw [11] (fun i wx => ∃ (j : Nat) (t : List Int), j ≤ N ∧ i = .int .i64 j ∧ t.length + j = N ∧ QI wx g r N t ∧ Below w.heap.size w wx) (fun i _ => N - (intOf i).toNat)
          case atStart => exact ⟨0, t, Nat.zero_le _, rfl, HT.out, q4, B4⟩
          case round =>
            clear q4 B4
            obtain ⟨j, t, hj, rfl, ht, q, B⟩ := hrel
            by_cases hjn : j < N
            · match t, ht, q with
              | [], ht, _ => simp at ht; omega
              | x :: t, ht, q =>
                have HT := Lib.hid ht
                clear ht
                go_wp2_with fail
                refine (popI_yes g r N t x _ q).mono ?_
                rintro e w5 ⟨rfl, q5, t5⟩
                have B5 := B.trans (t5.below hg' hr')
                clear B q t5
                go_wp2_with fail
                go_roundw
                case rel => exact ⟨j + 1, t, by omega, by go_num, by have := HT.out; simp at this; omega, q5, B5⟩
                case measure => simp [intOf]; omega
            · obtain rfl : t = [] := List.eq_nil_of_length_eq_zero (by omega)
              clear ht
              go_wp2_with fail
              refine (popI_no g r N _ q).mono ?_
              rintro e w5 ⟨rfl, q5, t5⟩
              have B5 := B.trans (t5.below hg' hr')
              clear B q t5
              go_wp2_with fail
              refine (roomI_any g r N [] _ q5).mono ?_
              rintro e w6 ⟨rfl, q6, t6⟩
              have B6 := B5.trans (t6.below hg' hr')
              clear B5 q5 t6
              rw [show ((N - ([] : List Int).length : Nat) : Int) = (N : Int) from by simp]
              go_wp2
              go_ret
              exact ⟨ret_bool (by simp), B6⟩

set_option maxRecDepth 100000 in
theorem lifted (os : Os) (started : os.Started) (H : Type) (enc : TypeId × Value → H) :
    ReturnsInHanded {} Try.checked os 7 .any (Rows.queueFillsSpec.pre6 enc Try.prog Try.f7 Rows.queueFillsRow.domain false) (Rows.queueFillsSpec.post enc Try.prog Try.f7 false true false false) := by
  refine returnsInHanded_of_change (C := Try.checked) own started (by kernel_rfl) Try.func7
    (ChangeSpec.witness6 (enc := enc) (C := Try.checked) false ⟨#[], #[.int .u8 0, .slice none 0 0], []⟩ 8 (by kernel_rfl) (by kernel_rfl) (by kernel_rfl) (by kernel_rfl)) ?_
  intro W base args ds gs before hval0 hW _ _
  have hval : ∀ (j : Nat) t v, Try.f7.params[j]? = some t → args[j]? = some v → Value.okWide Try.prog W .any base t v := hval0
  have hW' := hW
  obtain ⟨p, q, hA0, hV, _, _, _⟩ := hW
  have hA : DataW.TrodAll enc Try.prog W 0 (fun _ => true) true Try.f7.params.toList args.toList ds p := hA0
  rw [Try.params7] at hA hval
  obtain ⟨v0, vs0, d0, ds0, p0, q0, hargs, rfl, _, h0, r0⟩ := trodAll_cons hA
  obtain ⟨v1, vs1, d1, ds1, p1, q1, rfl, rfl, _, h1, r1⟩ := trodAll_cons r0
  obtain ⟨rfl, rfl, _⟩ := trodAll_nil r1
  obtain rfl : args = #[v0, v1] := by cases args; simp_all
  obtain ⟨rfl, _⟩ := trodVars_none hV
  refine law_post (s := Rows.queueFillsSpec) rfl rfl (by rw [Try.params7]; intro t ht; simp at ht; rcases ht with rfl | rfl <;> exact ⟨by kernel_rfl, of_decide_eq_true (by kernel_rfl)⟩) rfl hW' ?_
  obtain ⟨a0, rfl, _, _, w0⟩ := open_int Try.underlying5 (hval 0 5 v0 rfl rfl) h0
  obtain ⟨A1, c1, l1, rfl, hl1, hr1⟩ := open_acts (hval 1 22 v1 rfl rfl) h1
  exact walk W a0 w0 A1 c1 l1 hl1 hr1

theorem over : Rows.queueFillsRow.holds Try.pinned (OpenSpec.ofChange Rows.queueFillsSpec) :=
  OpenClaim.holds_of_wide 7 Try.f7 rfl rfl rfl rfl rfl rfl rfl ⟨rfl, rfl, rfl, rfl, rfl⟩ rfl rfl rfl rfl rfl (by kernel_rfl) Try.func7 (by kernel_rfl)
    (of_decide_eq_true (by kernel_rfl)) (by unfold Func.isWrapper; first | (rw [if_pos (by decide +kernel)]; kernel_rfl) | (rw [if_neg (by decide +kernel)]; exact ⟨rfl, rfl⟩))
    (fun os started H enc _ => lifted os started H enc)

/-- The statement. -/
theorem queueFills_holds : Rows.QueueFillsSaid := over
end Go.Proofs.Ytigimpnghecdiaa.Fills
