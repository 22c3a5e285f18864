/-
  Proved: ChooseLeaves returns true for every state, whatever is wanted, and every row of packets: those that are neither of the stream nor wanted play no part. Conditions: none.
-/
import Derived.Test.YtoajbaimjkhegaaChD
import Derived.Test.YtoajbaimjkhegaaChO
import Derived.Test.YtoajbaimjkhegaaLift
import Derived.Deep.CutBlock
namespace Go.Proofs.Ytoajbaimjkhegaa.HLeaves
open Go.ChangeShapes Go.WideShapes Go.ChangeAt Go.RowKit
set_option linter.unusedSimpArgs false
set_option linter.unusedVariables false

set_option maxRecDepth 100000 in
set_option maxHeartbeats 6400000 in
theorem walk (w : World) (s : Cs) (u : Cw) (A : Option Addr) (c : Nat) (l : List Cx) (hl : l.length ≤ maxLen) (hr : Row w w.heap.size 7 A l.length (rowC inCs l)) :
    Calls Try.prog 7 #[.agg s.cells, .agg u.cells, .slice A l.length c] w fun e w' => e = .returned (.bool true) ∧ Below w.heap.size w w' := by
  unfold maxLen at hl
  obtain ⟨n, hn⟩ : ∃ n, l.length = n := ⟨_, rfl⟩
  rw [hn] at hl hr ⊢
  have CA := Lib.hid (fun w => awake_any w)
  have HE := fun w => neq_state w s
  have CT := Lib.hid (fun x (h1 : s.own x = false) (h2 : x.wanted u = false) w => by
    have h := ctake_any s x u w
    unfold ChOut at h
    rw [Cs.next_leave h1 (fun h => by rw [Cx.fit_not h2] at h; cases h.1), Cs.kind_leave h1 (fun h => by rw [Cx.fit_not h2] at h; cases h.1)] at h
    exact h)
  obtain ⟨s, hs⟩ : ∃ s', s' = s := ⟨s, rfl⟩
  subst hs
  have HR := Lib.hid hr
  have HN := Lib.hid hn
  clear hr hn
  obtain ⟨on, ss, sl, st⟩ := s
  obtain ⟨ws, wl, wt⟩ := u
  dsimp only [Cs.cells, Cw.cells] at HE CT ⊢
  have S0 := Lib.hid ((Whole.new w 23 #[.bool on, .int .i64 ss, .int .i64 sl, .int .i64 st]).alloc (.cells #[.int .i64 ws, .int .i64 wl, .int .i64 wt] 27))
  have U0 := Lib.hid (Whole.new2 w (.cells #[.bool on, .int .i64 ss, .int .i64 sl, .int .i64 st] 23) 27 #[.int .i64 ws, .int .i64 wl, .int .i64 wt])
  have B0 := Lib.hid (((Below.refl w.heap.size w).alloc (Nat.le_refl _) (.cells #[.bool on, .int .i64 ss, .int .i64 sl, .int .i64 st] 23)).alloc (by simp) (.cells #[.int .i64 ws, .int .i64 wl, .int .i64 wt] 27))
  go_enter Try.func7, Try.ntmps7
  go_wp2_with fail
  refine (CA.out _).mono ?_
  rintro e w1 ⟨rfl, b1⟩
  have HS := Lib.hid (S0.out.below b1 S0.out.lt)
  have HU := Lib.hid (U0.out.below b1 U0.out.lt)
  have HB := Lib.hid (B0.out.trans (b1.mono B0.out.size))
  clear b1 S0 U0 B0 CA
  by_cases h1 : 100 < n
  · go_wp2
    go_ret
    exact ⟨rfl, HB.out⟩
  go_wp2_with fail
  go_loopw [8] (fun i wr => ∃ k : Nat, k ≤ n ∧ i = .int .i64 (k : Int) ∧ Hid (Below w1.heap.size w1 wr)) (fun i _ => n - (intOf i).toNat)
  case atStart => exact ⟨0, Nat.zero_le _, rfl, Lib.hid (Below.refl _ _)⟩
  case round =>
    obtain ⟨k, hk, rfl, HK⟩ := hrel
    obtain ⟨wo, rfl⟩ : ∃ wo : World, wo = wr := ⟨_, rfl⟩
    have HBo := Lib.hid (HB.out.trans (HK.out.mono HB.out.size))
    by_cases hlt : k < n
    · obtain ⟨x, hx⟩ : ∃ x, l[k]? = some x := ⟨l[k]'(by rw [HN.out]; exact hlt), by simp⟩
      obtain ⟨g, o, rfl, hg0, hat⟩ := row_at inCs_length HR.out (by omega)
      have hat := hat _ HBo.out k x
      have r0 := hat 0 _ hx rfl
      have r1 := hat 1 _ hx rfl
      have r2 := hat 2 _ hx rfl
      have r3 := hat 3 _ hx rfl
      have r4 := hat 4 _ hx rfl
      have r5 := hat 5 _ hx rfl
      have r6 := hat 6 _ hx rfl
      clear hat hx
      obtain ⟨ow, how⟩ : ∃ b, Cs.own ⟨on, ss, sl, st⟩ x = b := ⟨_, rfl⟩
      obtain ⟨wn, hwn⟩ : ∃ b, x.wanted ⟨ws, wl, wt⟩ = b := ⟨_, rfl⟩
      obtain ⟨xs, xl, beg, who, has, xt, syn⟩ := x
      dsimp only at r0 r1 r2 r3 r4 r5 r6
      rw [Nat.add_zero] at r0
      have HOW := Lib.hid how
      have HWN := Lib.hid hwn
      clear how hwn
      have S1 := HS.out.below HK.out HS.out.lt
      have U1 := HU.out.below HK.out HU.out.lt
      have hl1 := S1.lt
      have hl2 := U1.lt
      have hi1 : (0 : Int) ≤ (k : Int) := by omega
      have hi2 : (k : Int) < (n : Int) := by omega
      have k0 := S1.cell 0
      have k1 := S1.cell 1
      have k2 := S1.cell 2
      have k3 := S1.cell 3
      have u0 := U1.cell 0
      have u1 := U1.cell 1
      have u2 := U1.cell 2
      clear S1 U1
      go_upto_region 10 with fail
      go_cut [57] (fun v wx => v = .bool (wn || ow) ∧ wx = wo.alloc (.cells #[.int .i64 xs, .int .i64 xl, .bool beg, .bool who, .bool has, .int .i64 xt, .bool syn] 25))
      case first =>
        by_cases ca : xs = ws
        · have da : (xs == ws) = true := by simp [ca]
          have ea : (xs != ws) = false := by simp [ca]
          by_cases cb : xl = wl
          · have db : (xl == wl) = true := by simp [cb]
            have eb : (xl != wl) = false := by simp [cb]
            obtain rfl : true = wn := by rw [← HWN.out]; simp [Cx.wanted, ca, cb]
            clear ca cb HOW HWN
            go_wp2_with fail
            go_meet
            exact ⟨rfl, rfl⟩
          · have db : (xl == wl) = false := by simp [cb]
            have eb : (xl != wl) = true := by simp [cb]
            obtain rfl : false = wn := by rw [← HWN.out]; simp [Cx.wanted, ca, cb]
            cases on with
            | false =>
              obtain rfl : false = ow := by rw [← HOW.out]; rfl
              clear ca cb HOW HWN
              go_wp2_with fail
              go_meet
              exact ⟨rfl, rfl⟩
            | true =>
              by_cases cs : xs = ss
              · have ds : (xs == ss) = true := by simp [cs]
                have es : (xs != ss) = false := by simp [cs]
                by_cases cl : xl = sl
                · have dl : (xl == sl) = true := by simp [cl]
                  have el : (xl != sl) = false := by simp [cl]
                  obtain rfl : true = ow := by rw [← HOW.out]; simp [Cs.own, cs, cl]
                  clear ca cb cs cl HOW HWN
                  go_wp2_with fail
                  go_meet
                  exact ⟨rfl, rfl⟩
                · have dl : (xl == sl) = false := by simp [cl]
                  have el : (xl != sl) = true := by simp [cl]
                  obtain rfl : false = ow := by rw [← HOW.out]; simp [Cs.own, cs, cl]
                  clear ca cb cs cl HOW HWN
                  go_wp2_with fail
                  go_meet
                  exact ⟨rfl, rfl⟩
              · have ds : (xs == ss) = false := by simp [cs]
                have es : (xs != ss) = true := by simp [cs]
                obtain rfl : false = ow := by rw [← HOW.out]; simp [Cs.own, cs]
                clear ca cb cs HOW HWN
                go_wp2_with fail
                go_meet
                exact ⟨rfl, rfl⟩
        · have da : (xs == ws) = false := by simp [ca]
          have ea : (xs != ws) = true := by simp [ca]
          obtain rfl : false = wn := by rw [← HWN.out]; simp [Cx.wanted, ca]
          cases on with
          | false =>
            obtain rfl : false = ow := by rw [← HOW.out]; rfl
            clear ca HOW HWN
            go_wp2_with fail
            go_meet
            exact ⟨rfl, rfl⟩
          | true =>
            by_cases cs : xs = ss
            · have ds : (xs == ss) = true := by simp [cs]
              have es : (xs != ss) = false := by simp [cs]
              by_cases cl : xl = sl
              · have dl : (xl == sl) = true := by simp [cl]
                have el : (xl != sl) = false := by simp [cl]
                obtain rfl : true = ow := by rw [← HOW.out]; simp [Cs.own, cs, cl]
                clear ca cs cl HOW HWN
                go_wp2_with fail
                go_meet
                exact ⟨rfl, rfl⟩
              · have dl : (xl == sl) = false := by simp [cl]
                have el : (xl != sl) = true := by simp [cl]
                obtain rfl : false = ow := by rw [← HOW.out]; simp [Cs.own, cs, cl]
                clear ca cs cl HOW HWN
                go_wp2_with fail
                go_meet
                exact ⟨rfl, rfl⟩
            · have ds : (xs == ss) = false := by simp [cs]
              have es : (xs != ss) = true := by simp [cs]
              obtain rfl : false = ow := by rw [← HOW.out]; simp [Cs.own, cs]
              clear ca cs HOW HWN
              go_wp2_with fail
              go_meet
              exact ⟨rfl, rfl⟩
      case rest =>
        have HBa := Lib.hid (HBo.out.alloc HBo.out.size (.cells #[.int .i64 xs, .int .i64 xl, .bool beg, .bool who, .bool has, .int .i64 xt, .bool syn] 25))
        have HKa := Lib.hid (HK.out.alloc HK.out.size (.cells #[.int .i64 xs, .int .i64 xl, .bool beg, .bool who, .bool has, .int .i64 xt, .bool syn] 25))
        cases wn with
        | true =>
          rw [Bool.true_or] at hcut
          obtain ⟨rfl, rfl⟩ := hcut
          clear HOW HWN CT HE
          go_wp2
          go_roundw
          case rel => exact ⟨k + 1, by omega, by go_num, HKa⟩
          case measure => simp [intOf]; omega
        | false =>
          cases ow with
          | true =>
            obtain ⟨rfl, rfl⟩ := hcut
            clear HOW HWN CT HE
            go_wp2
            go_roundw
            case rel => exact ⟨k + 1, by omega, by go_num, HKa⟩
            case measure => simp [intOf]; omega
          | false =>
            obtain ⟨rfl, rfl⟩ := hcut
            have C := Lib.hid (CT.out ⟨xs, xl, beg, who, has, xt, syn⟩ HOW.out HWN.out)
            clear HOW HWN CT
            go_wp2_with fail
            refine (C.out _).mono ?_
            rintro e w2 ⟨rfl, b2⟩
            have B2 := Lib.hid (HKa.out.trans (b2.mono HKa.out.size))
            have S2 := HS.out.below B2.out HS.out.lt
            have hl3 := S2.lt
            clear k0 k1 k2 k3 u0 u1 u2 r0 r1 r2 r3 r4 r5 r6 C b2
            have k0 := S2.cell 0
            have k1 := S2.cell 1
            have k2 := S2.cell 2
            have k3 := S2.cell 3
            clear S2
            go_wp2
            go_roundw
            case rel => exact ⟨k + 1, by omega, by go_num, Lib.hid (B2.out.alloc B2.out.size _)⟩
            case measure => simp [intOf]; omega
    · obtain rfl : k = n := by omega
      go_wp2
      go_ret
      exact ⟨rfl, HBo.out⟩

set_option maxRecDepth 100000 in
theorem lifted (os : Os) (started : os.Started) (H : Type) (enc : TypeId × Value → H) :
    ReturnsInHanded {} Try.checked os 7 .any (Rows.chooseLeavesSpec.pre6 enc Try.prog Try.f7 Rows.chooseLeavesRow.domain false) (Rows.chooseLeavesSpec.post enc Try.prog Try.f7 false true false false) := by
  refine returnsInHanded_of_change (C := Try.checked) own started (by kernel_rfl) Try.func7
    (ChangeSpec.witness6 (enc := enc) (C := Try.checked) false ⟨#[], #[.agg #[.bool false, .int .i64 0, .int .i64 0, .int .i64 0], .agg #[.int .i64 0, .int .i64 0, .int .i64 0], .slice none 0 0], []⟩ 8 (by kernel_rfl) (by kernel_rfl) (by kernel_rfl) (by kernel_rfl)) ?_
  intro W base args ds gs before hval0 hW _ _
  have hval : ∀ (j : Nat) t v, Try.f7.params[j]? = some t → args[j]? = some v → Value.okWide Try.prog W .any base t v := hval0
  have hW' := hW
  obtain ⟨p, q, hA0, hV, _, _, _⟩ := hW
  have hA : DataW.TrodAll enc Try.prog W 0 (fun _ => true) true Try.f7.params.toList args.toList ds p := hA0
  rw [Try.params7] at hA hval
  obtain ⟨v0, vs0, d0, ds0, p0, q0, hargs, rfl, _, h0, r0⟩ := trodAll_cons hA
  obtain ⟨v1, vs1, d1, ds1, p1, q1, rfl, rfl, _, h1, r1⟩ := trodAll_cons r0
  obtain ⟨v2, vs2, d2, ds2, p2, q2, rfl, rfl, _, h2, r2⟩ := trodAll_cons r1
  obtain ⟨rfl, rfl, _⟩ := trodAll_nil r2
  obtain rfl : args = #[v0, v1, v2] := by cases args; simp_all
  obtain ⟨rfl, _⟩ := trodVars_none hV
  refine law_post (s := Rows.chooseLeavesSpec) rfl rfl (by rw [Try.params7]; intro t ht; simp at ht; rcases ht with rfl | rfl | rfl <;> exact ⟨by kernel_rfl, of_decide_eq_true (by kernel_rfl)⟩) rfl hW' ?_
  obtain ⟨s0, rfl⟩ := open_state (hval 0 23 v0 rfl rfl) h0
  obtain ⟨u1, rfl⟩ := open_want (hval 1 27 v1 rfl rfl) h1
  obtain ⟨A2, c2, l2, rfl, hl2, hr2⟩ := open_ins (hval 2 48 v2 rfl rfl) h2
  exact walk W s0 u1 A2 c2 l2 hl2 hr2

theorem over : Rows.chooseLeavesRow.holds Try.pinned (OpenSpec.ofChange Rows.chooseLeavesSpec) :=
  OpenClaim.holds_of_wide 7 Try.f7 rfl rfl rfl rfl rfl rfl rfl ⟨rfl, rfl, rfl, rfl, rfl⟩ rfl rfl rfl rfl rfl (by kernel_rfl) Try.func7 (by kernel_rfl)
    (of_decide_eq_true (by kernel_rfl)) (by unfold Func.isWrapper; first | (rw [if_pos (by decide +kernel)]; kernel_rfl) | (rw [if_neg (by decide +kernel)]; exact ⟨rfl, rfl⟩))
    (fun os started H enc _ => lifted os started H enc)

/-- The statement. -/
theorem chooseLeaves_holds : Rows.ChooseLeavesSaid := over

end Go.Proofs.Ytoajbaimjkhegaa.HLeaves
