/-
  Proved: ArenaOnce returns true for every room and every row of acts: no Ref is told twice; what was freed is stale, for good; what wasn't is as it was put there. Conditions: none.
-/
import Derived.Test.YtejfjjgcajdjmaaArA
import Derived.Test.YtejfjjgcajdjmaaArH
import Derived.Test.YtejfjjgcajdjmaaArO
import Derived.Test.YtejfjjgcajdjmaaLift
import Derived.Deep.CutBlock
import Derived.Deep.DeepCutAuto
import Derived.Deep.QuietTactic
import Derived.BigQuiet
import Derived.IntWalk
import Derived.RegionTactic
namespace Go.Proofs.Ytejfjjgcajdjmaa.AOnce
open Go.ChangeShapes Go.WideShapes Go.ChangeAt Go.RowKit
set_option linter.unusedSimpArgs false
set_option linter.unusedVariables false
set_option maxRecDepth 100000

theorem info_n : (Try.prog.info? 3).map (fun i => (i.zero, i.size, i.bytes)) = some (some (.int .i64 0), 1, 8) := by kernel_rfl
theorem info_b : (Try.prog.info? 4).map (fun i => (i.zero, i.size, i.bytes)) = some (some (.bool false), 1, 1) := by kernel_rfl

theorem list_same {α : Type} {l : List α} {k : Nat} {v : α} (h : l[k]? = some v) : l.set k v = l := by
  apply List.ext_getElem?
  intro j
  by_cases e : k = j
  · subst e
    rw [List.getElem?_set_self (List.getElem?_eq_some_iff.1 h).1, h]
  · rw [List.getElem?_set_ne e]
/-- What a round keeps. -/
def Keeps (w0 : World) (g n k : Nat) (v7 v8 v9 : Value) (wr : World) : Prop :=
  ∃ (l : List Sl) (S : Nat → Prop) (T : List En), Tri w0 g l S (T.map En.pr) (T.map En.x) (T.map En.g) v7 v8 v9 wr ∧ Hist l T ∧ Turns k l ∧ l.length = n ∧ T.length ≤ k

set_option maxHeartbeats 6400000 in
theorem walk (w : World) (a : Int) (ha : (Lit.int .u8 a).wf = true) (A : Option Addr) (c : Nat) (ps : List Ac) (hl : ps.length ≤ maxLen) (hr : Row w w.heap.size 5 A ps.length (rowC Ac.cells ps)) (ho : ∀ x ∈ ps, x.Fit) :
    Calls Try.prog 4 #[.int .u8 a, .slice A ps.length c] w fun e w' => e = .returned (.bool true) ∧ Below w.heap.size w w' := by
  unfold maxLen at hl
  have ha' := wf_u8 ha
  clear ha
  obtain ⟨m, hm⟩ : ∃ m, ps.length = m := ⟨_, rfl⟩
  have HM := Lib.hid hm
  rw [hm] at hr hl ⊢
  have HR := Lib.hid (fun (h0 : 0 < m) => row_at Ac.cells_length hr h0)
  have HO := Lib.hid ho
  clear hr ho hm
  by_cases hlong : 150 < m
  · go_enter Try.func4, Try.ntmps4
    go_wp2_with (go_at_call 7; refine (awake_any w).mono ?_; rintro e w1 ⟨rfl, b1⟩)
    go_ret
    exact ⟨rfl, b1⟩
  obtain ⟨n, hn⟩ : ∃ n : Nat, a % 9 + 1 = (n : Int) := ⟨(a % 9 + 1).toNat, by omega⟩
  have hn1 : 1 ≤ n := by omega
  have hn2 : n ≤ 9 := by omega
  go_enter Try.func4, Try.ntmps4
  go_wp2_with fail
  refine (awake_any w).mono ?_
  rintro e w1 ⟨rfl, b1⟩
  have HB1 := Lib.hid b1
  clear b1
  go_wp2_with fail
  refine (anewI_any n hn1 (by omega) w1).mono ?_
  rintro e w2 ⟨g, S, rfl, d2, s2, b2⟩
  have H3 : Hid (Keeps w g n 0 (.slice none 0 0) (.slice none 0 0) (.slice none 0 0) w2) := Lib.hid ⟨freshA zI n, S, [], ⟨d2, fun k hk => Nat.le_trans HB1.out.size (s2 k hk), World.ownsRow_nil _ _ _ _, World.ownsRow_nil _ _ _ _, World.ownsRow_nil _ _ _ _, fun b hb => by simp [Value.ownBlock] at hb, fun b hb => by simp [Value.ownBlock] at hb, fun b hb => by simp [Value.ownBlock] at hb, bnext HB1.out b2⟩, Hist.nil _, Turns.fresh _ _, freshA_length _ _, Nat.le_refl _⟩
  clear d2 s2 b2 HB1
  go_wp2_with fail
  go_loopw [7, 8, 9, 10] (fun v7 v8 v9 i wr => ∃ k : Nat, k ≤ m ∧ i = .int .i64 (k : Int) ∧ Keeps w g n k v7 v8 v9 wr) (fun _ _ _ i _ => m - (intOf i).toNat)
  case atStart => exact ⟨0, Nat.zero_le _, rfl, H3.out⟩
  case round =>
    clear H3
    obtain ⟨k, hk, rfl, hK⟩ := hrel
    have HK := Lib.hid hK
    clear hK
    by_cases hlt : k < m
    · obtain ⟨ga, oa, rfl, hga, hca⟩ := HR.out (by omega)
      obtain ⟨x, hx⟩ : ∃ x, ps[k]? = some x := ⟨_, List.getElem?_eq_getElem (by rw [HM.out]; exact hlt)⟩
      have hfit := HO.out x (List.mem_of_getElem? hx)
      have HC := Lib.hid (fun w' b => And.intro (hca w' b k x 0 _ hx rfl) (And.intro (hca w' b k x 1 _ hx rfl) (hca w' b k x 2 _ hx rfl)))
      clear hca hx
      have i0 : (0 : Int) ≤ (k : Int) := by omega
      have i1 : (k : Int) < (m : Int) := by omega
      obtain ⟨kind, xx, wh, ⟨rs, rt⟩⟩ := x
      obtain ⟨_, hw1, hw2⟩ := hfit
      dsimp only at HC hw1 hw2
      obtain ⟨l, S, T, htr, hhi, htu, hll, htl⟩ := HK.out
      obtain ⟨A7, c7, rfl⟩ := own_form htr.o7
      obtain ⟨A8, c8, rfl⟩ := own_form htr.o8
      obtain ⟨A9, c9, rfl⟩ := own_form htr.o9
      have HTR := Lib.hid htr
      have HHI := Lib.hid hhi
      have HTU := Lib.hid htu
      have HLN := Lib.hid hll
      obtain ⟨q, hq⟩ : ∃ q, T.length = q := ⟨_, rfl⟩
      have HTL := Lib.hid hq
      simp only [List.length_map] at HTR ⊢
      rw [hq] at htl HTR ⊢
      obtain ⟨b0, b1, b2⟩ := HC.out wr htr.below
      rw [Nat.add_zero] at b0
      have hz := htr.below.size
      have hgo : ga < wr.heap.size := by omega
      clear HK htr hhi htu hll hq
      go_upto_region 13 with fail
      go_cut [46] (fun s46 wx => wx = wr ∧ ∃ bb, s46 = .bool bb ∧ (bb = false → ¬ kind < 2 ∧ 0 < q))
      case first =>
        clear HC HTR HHI HTU HTL b1 b2
        by_cases hk2 : kind < 2
        · go_wp2_with fail
          go_meet
          exact ⟨rfl, true, rfl, fun h => by cases h⟩
        · by_cases hq0 : q = 0
          · subst hq0
            go_wp2_with fail
            go_meet
            exact ⟨rfl, true, rfl, fun h => by cases h⟩
          · have hq0' : ((q : Int) == 0) = false := by simp; omega
            go_wp2_with fail
            go_meet
            exact ⟨rfl, false, rfl, fun _ => ⟨hk2, by omega⟩⟩
      case rest =>
      obtain ⟨hwx, bb, rfl, hbb⟩ := hcut
      subst hwx
      have HBB := Lib.hid hbb
      clear hbb b0
      cases bb with
      | true =>
        clear HBB b2
        have HAT := Lib.hid (atakeI_any l xx g S wc HTR.out.ar (HTU.out.more (by omega)) (by rw [HLN.out]; omega))
        by_cases hlow : lowA l < l.length
        · have htold := told_yes hlow
          rw [htold.1, htold.2.1, htold.2.2] at HAT
          have hfr := hist_fresh HHI.out hlow
          have hh2 := hist_take HHI.out hlow xx
          have htu2 := HTU.out.take (.int .i64 xx)
          have hln2 := takeA_length l (.int .i64 xx)
          rw [HLN.out] at hln2
          obtain ⟨l2, hl2⟩ : ∃ z, takeA l (.int .i64 xx) = z := ⟨_, rfl⟩
          obtain ⟨sl, hsl⟩ : ∃ z, lowA l = z := ⟨_, rfl⟩
          obtain ⟨tn, htn⟩ : ∃ z, turnA l = z := ⟨_, rfl⟩
          unfold refV at HAT
          rw [hl2, hsl, htn] at HAT
          rw [hsl, htn] at hfr
          rw [hsl, htn, hl2] at hh2
          rw [hl2] at htu2 hln2
          obtain ⟨T2, hT2⟩ : ∃ z, T ++ [⟨sl, tn, xx, false⟩] = z := ⟨_, rfl⟩
          have htl2 : T2.length = q + 1 := by rw [← hT2, List.length_append, HTL.out]; rfl
          have HT2 := Lib.hid hT2
          rw [hT2] at hh2
          have HFR := Lib.hid hfr
          have HHI2 := Lib.hid hh2
          have HKE := Lib.hid (show Turns (k + 1) l2 ∧ T2.length ≤ k + 1 from ⟨htu2, by omega⟩)
          have HLN2 := Lib.hid hln2
          have HTL2 := Lib.hid htl2
          clear hlow htold hfr hh2 htu2 hln2 hl2 hsl htn hT2 htl2 HTU HHI HLN
          go_wp2_with fail
          refine HAT.out.mono ?_
          rintro e w5 ⟨S5, rfl, d5, k5, m5⟩
          have H5 := Lib.hid (HTR.out.arena d5 k5 m5)
          clear d5 k5 m5 HAT HTR b1
          have c1 := (HC.out w5 H5.out.below).2.1
          have hg5 : ga < w5.heap.size := by have := H5.out.below.size; omega
          go_wp2_with fail
          obtain ⟨w6, hw6⟩ : ∃ z, z = w5.alloc (.cells #[.int .i64 (sl : Int), .int .u32 (tn : Int)] 30) := ⟨_, rfl⟩
          have b6 : Below w5.heap.size w5 w6 := by rw [hw6]; exact (Below.refl _ _).alloc (Nat.le_refl _) _
          have H6 := Lib.hid (H5.out.next b6)
          have HR6 := Lib.hid (show Whole w6 w5.heap.size 30 #[.int .i64 (sl : Int), .int .u32 (tn : Int)] by rw [hw6]; exact Whole.new w5 _ _)
          have hRN : (Value.slice A7 q c7).ownBlock ≠ some w5.heap.size := fun h => Nat.lt_irrefl _ (H5.out.o7.lt _ h).2
          have hRS : ¬ S5 w5.heap.size := fun h => Nat.lt_irrefl _ (H5.out.ar.lt _ h)
          obtain ⟨R, hR⟩ : ∃ z, w5.heap.size = z := ⟨_, rfl⟩
          rw [hR] at HR6 hRN hg5
          rw [← hw6, hR]
          have HRN := Lib.hid hRN
          clear hw6 b6 H5 hRN hRS hR c1
          go_loopw [13] (fun v13 wq => ∃ j : Nat, j ≤ q ∧ v13 = .int .i64 (j : Int) ∧ Below w6.heap.size w6 wq) (fun v13 _ => q - (intOf v13).toNat)
          case atStart => exact ⟨0, Nat.zero_le _, rfl, Below.refl _ _⟩
          case round =>
            obtain ⟨j, hj, rfl, hb⟩ := hrel
            have HB := Lib.hid hb
            have hz6 := hb.size
            clear hb
            by_cases hjn : j < q
            · obtain ⟨d, hd⟩ : ∃ d, T[j]? = some d := ⟨_, List.getElem?_eq_getElem (by rw [HTL.out]; exact hjn)⟩
              have HT := H6.out.next HB.out
              have o7 := HT.o7
              rw [List.length_map, HTL.out] at o7
              replace o7 := Row.of_own o7
              obtain ⟨g7, p7, rfl, l7, r7⟩ := o7.2 (by omega)
              obtain ⟨f0, f1⟩ := refC_get (show (T.map En.pr)[j]? = some d.pr by rw [List.getElem?_map, hd]; rfl)
              have c0 := r7 _ _ f0
              have c1 := r7 _ _ f1
              rw [← Nat.add_assoc] at c1
              have hne := HFR.out d (List.mem_of_getElem? hd)
              obtain ⟨ds, dt, dx, dg⟩ := d
              dsimp only [En.pr] at c0 c1 hne
              have EQ := fun w : World => eql_ref w ds dt sl tn false (by
                have h1 : ¬ ((ds : Int) = sl ∧ (dt : Int) = tn) := fun h => hne ⟨by omega, by omega⟩
                by_cases h2 : (ds : Int) = sl
                · have h3 : ¬ (dt : Int) = tn := fun h => h1 ⟨h2, h⟩
                  simp [h2, h3]
                · simp [h2])
              have HR7 := HR6.out.below HB.out HR6.out.lt
              have e0 := HR7.cell 0
              have e1 := HR7.cell 1
              have hRl := HR7.lt
              have i2 : (0 : Int) ≤ (j : Int) := by omega
              have i3 : (j : Int) < (q : Int) := by omega
              clear hd HT o7 f0 f1 r7 hne HR7
              go_wp2_with fail
              go_region
              go_wp2_with fail
              go_roundw
              case rel => exact ⟨j + 1, by omega, by go_num, HB.out.drew⟩
              case measure => simp [intOf]; omega
            · have hjq : j = q := by omega
              subst hjq
              have H7 := Lib.hid (H6.out.next HB.out)
              have HR7 := Lib.hid (HR6.out.below HB.out HR6.out.lt)
              have e0 := HR7.out.cell 0
              have e1 := HR7.out.cell 1
              have hRl := HR7.out.lt
              clear HB HR6 H6 hz6
              obtain ⟨w7, hw7⟩ : ∃ z, z = wr := ⟨_, rfl⟩
              rw [← hw7] at H7 HR7 e0 e1 hRl ⊢
              clear hw7
              have H8 := Lib.hid (H7.out.next ((Below.refl _ _).alloc (Nat.le_refl _) (.cells #[.int .i64 (sl : Int), .int .u32 (tn : Int)] 30)))
              have HO8 := Lib.hid (show (w7.alloc (.cells #[.int .i64 (sl : Int), .int .u32 (tn : Int)] 30)).ownsRow w.heap.size 30 2 (.slice A7 j c7) j (refC (T.map En.pr)) by have h := H8.out.o7; rw [List.length_map, HTL.out] at h; exact h)
              have HW8 := Lib.hid (Row.fresh w7 30 #[.int .i64 (sl : Int), .int .u32 (tn : Int)] 2 1 [.int .i64 (sl : Int), .int .u32 (tn : Int)] rfl rfl)
              have hz7 := H7.out.below.size
              clear HR7
              go_wp2_with (at_builtin; refine wpl_append _ rfl (.tmp 71) (.tmp 73) 27 rfl w.heap.size 30 (.agg #[.int .i64 0, .int .u32 0]) 2 16 Try.underlying27 info_ref rfl (by decide) _ j (refC (T.map En.pr)) rfl HO8.out _ _ 1 1 [.int .i64 (sl : Int), .int .u32 (tn : Int)] rfl HW8.out (by simp [Value.oneCell']) ?c1 ?c2 ?c3 ?_)
              case c1 => unfold maxLen; omega
              case c2 => omega
              case c3 => simp; omega
              intro v9 w9 hown9 hg9 hv9
              have H9 := Lib.hid (H8.out.add7 (v' := v9) (p := (sl, tn)) (by rw [List.length_map, HTL.out]; exact hown9) hg9 (by simpa using hv9))
              obtain ⟨A9', c9', rfl⟩ := own_form hown9
              clear hown9 hg9 hv9 H8 HO8 HW8 H7 e0 e1 hRl
              have d1 := (HC.out w9 H9.out.below).2.1
              have hg9 : ga < w9.heap.size := by have := H9.out.below.size; omega
              have H10 := Lib.hid (H9.out.next ((Below.refl _ _).alloc (Nat.le_refl _) (.cells #[.int .i64 xx] 3)))
              have HO10 := Lib.hid (show (w9.alloc (.cells #[.int .i64 xx] 3)).ownsRow w.heap.size 3 1 (.slice A8 j c8) j ((T.map En.x).map (Value.int .i64)) by have h := H10.out.o8; rw [List.length_map, HTL.out] at h; exact h)
              have HW10 := Lib.hid (Row.fresh w9 3 #[.int .i64 xx] 1 1 [.int .i64 xx] rfl rfl)
              have hz9 := H9.out.below.size
              clear H9
              go_wp2_with (at_builtin; refine wpl_append _ rfl (.tmp 75) (.tmp 81) 49 rfl w.heap.size 3 (.int .i64 0) 1 8 Try.underlying49 info_n rfl (by decide) _ j ((T.map En.x).map (Value.int .i64)) rfl HO10.out _ _ 1 1 [.int .i64 xx] rfl HW10.out (by simp [Value.oneCell']) ?d1 ?d2 ?d3 ?_)
              case d1 => unfold maxLen; omega
              case d2 => omega
              case d3 => simp; omega
              intro v11 w11 hown11 hg11 hv11
              have H11 := Lib.hid (H10.out.add8 (v' := v11) (x := xx) (by rw [List.length_map, HTL.out, List.map_map]; exact hown11) hg11 (by simpa using hv11))
              obtain ⟨A8', c8', rfl⟩ := own_form hown11
              clear hown11 hg11 hv11 H10 HO10 HW10 d1 hg9 hz9
              have H12 := Lib.hid (H11.out.next ((Below.refl _ _).alloc (Nat.le_refl _) (.cells #[.bool false] 4)))
              have HO12 := Lib.hid (show (w11.alloc (.cells #[.bool false] 4)).ownsRow w.heap.size 4 1 (.slice A9 j c9) j ((T.map En.g).map Value.bool) by have h := H12.out.o9; rw [List.length_map, HTL.out] at h; exact h)
              have HW12 := Lib.hid (Row.fresh w11 4 #[.bool false] 1 1 [.bool false] rfl rfl)
              have hz11 := H11.out.below.size
              clear H11
              go_wp2_with (at_builtin; refine wpl_append _ rfl (.tmp 83) (.tmp 84) 50 rfl w.heap.size 4 (.bool false) 1 1 Try.underlying50 info_b rfl (by decide) _ j ((T.map En.g).map Value.bool) rfl HO12.out _ _ 1 1 [.bool false] rfl HW12.out (by simp [Value.oneCell']) ?f1 ?f2 ?f3 ?_)
              case f1 => unfold maxLen; omega
              case f2 => omega
              case f3 => simp; omega
              intro v13 w13 hown13 hg13 hv13
              have HTR := Lib.hid (show Tri w g l2 S5 (T2.map En.pr) (T2.map En.x) (T2.map En.g) (.slice A9' (j + 1) c9') (.slice A8' (j + 1) c8') v13 w13 by
                have h := H12.out.add9 (v' := v13) (x := false) (by rw [List.length_map, HTL.out, List.map_map]; exact hown13) hg13 (by simpa using hv13)
                rw [← HT2.out]
                simpa [En.pr] using h)
              obtain ⟨A9'', c9'', rfl⟩ := own_form hown13
              clear hown13 hg13 hv13 H12 HO12 HW12 hz11 HC HFR HT2 HTL
              have HTL := HTL2
              have HLN := HLN2
              have HHI := HHI2
              clear HTL2 HLN2 HHI2
              obtain ⟨q2, hq2⟩ : ∃ z, j + 1 = z := ⟨_, rfl⟩
              rw [hq2] at HTR HTL ⊢
              have hq200 : q2 ≤ 200 := by omega
              clear hjn hj hq2
              go_wp2_with fail
              obtain ⟨wX, hwX⟩ : ∃ z, z = w13 := ⟨_, rfl⟩
              rw [← hwX] at HTR ⊢
              clear hwX
              go_loopw [16] (fun v16 wr => ∃ jj : Nat, jj ≤ q2 ∧ v16 = .int .i64 (jj : Int) ∧ Below wX.heap.size wX wr) (fun v16 _ => q2 - (intOf v16).toNat)
              case atStart => exact ⟨0, Nat.zero_le _, rfl, Below.refl _ _⟩
              case round =>
                obtain ⟨jj, hjj, rfl, hb⟩ := hrel
                have HB := Lib.hid hb
                have hz5 := hb.size
                clear hb
                by_cases hjjn : jj < q2
                · obtain ⟨d, hd⟩ : ∃ d, T2[jj]? = some d := ⟨_, List.getElem?_eq_getElem (by rw [HTL.out]; exact hjjn)⟩
                  have HT := HTR.out.next HB.out
                  have o7 := HT.o7
                  have o8 := HT.o8
                  have o9 := HT.o9
                  rw [List.length_map, HTL.out] at o7 o8 o9
                  replace o7 := Row.of_own o7
                  replace o8 := Row.of_own o8
                  replace o9 := Row.of_own o9
                  obtain ⟨g7, p7, e7, l7, r7⟩ := o7.2 (by omega)
                  cases e7
                  obtain ⟨g8, p8, e8, l8, r8⟩ := o8.2 (by omega)
                  cases e8
                  obtain ⟨g9, p9, e9, l9, r9⟩ := o9.2 (by omega)
                  cases e9
                  obtain ⟨f0, f1⟩ := refC_get (show (T2.map En.pr)[jj]? = some d.pr by rw [List.getElem?_map, hd]; rfl)
                  have c0 := r7 _ _ f0
                  have c1 := r7 _ _ f1
                  rw [← Nat.add_assoc] at c1
                  have KX := Lib.hid (fun w' (b : Below wr.heap.size wr w') => And.intro ((b.cell (p := ⟨g8, p8 + jj, none⟩) l8).trans (r8 jj (.int .i64 d.x) (by rw [List.getElem?_map, List.getElem?_map, hd]; rfl))) ((b.cell (p := ⟨g9, p9 + jj, none⟩) l9).trans (r9 jj (.bool d.g) (by rw [List.getElem?_map, List.getElem?_map, hd]; rfl))))
                  have i2 : (0 : Int) ≤ (jj : Int) := by omega
                  have i3 : (jj : Int) < (q2 : Int) := by omega
                  have CG := agetI_any l2 (d.s : Int) (d.t : Int) g S5 wr HT.ar (by rw [HLN.out]; omega)
                  unfold gotA at CG
                  rw [(HHI.out.ok d (List.mem_of_getElem? hd)).get] at CG
                  obtain ⟨ds, dt, dx, dg⟩ := d
                  dsimp only [En.pr] at c0 c1 CG
                  dsimp only at KX
                  clear hd HT o7 o8 o9 f0 f1 r7 r8 r9
                  cases dg with
                  | true =>
                    rw [if_pos rfl] at CG
                    dsimp only [Option.getD, Option.isSome] at CG
                    rw [if_neg Bool.false_ne_true] at CG
                    unfold zI at CG
                    replace CG := Lib.hid CG
                    go_wp2_with fail
                    refine CG.out.mono ?_
                    rintro e w9 ⟨rfl, b9⟩
                    obtain ⟨k0, k1⟩ := KX.out w9 b9
                    have HB9 := Lib.hid (HB.out.trans (b9.mono HB.out.size))
                    have l8' : g8 < w9.heap.size := Nat.lt_of_lt_of_le l8 b9.size
                    have l9' : g9 < w9.heap.size := Nat.lt_of_lt_of_le l9 b9.size
                    clear b9 CG KX HB c0 c1
                    go_wp2_with fail
                    go_roundw
                    case rel => exact ⟨jj + 1, by omega, by go_num, HB9.out⟩
                    case measure => simp [intOf]; omega
                  | false =>
                    rw [if_neg Bool.false_ne_true] at CG
                    dsimp only [Option.getD, Option.isSome] at CG
                    rw [if_pos rfl] at CG
                    replace CG := Lib.hid CG
                    go_wp2_with fail
                    refine CG.out.mono ?_
                    rintro e w9 ⟨rfl, b9⟩
                    obtain ⟨k0, k1⟩ := KX.out w9 b9
                    have HB9 := Lib.hid (HB.out.trans (b9.mono HB.out.size))
                    have l8' : g8 < w9.heap.size := Nat.lt_of_lt_of_le l8 b9.size
                    have l9' : g9 < w9.heap.size := Nat.lt_of_lt_of_le l9 b9.size
                    clear b9 CG KX HB c0 c1
                    go_wp2_with fail
                    go_roundw
                    case rel => exact ⟨jj + 1, by omega, by go_num, HB9.out⟩
                    case measure => simp [intOf]; omega
                · obtain rfl : jj = q2 := by omega
                  have HF := Lib.hid (show Keeps w g n (k + 1) _ _ _ wr from ⟨l2, S5, T2, HTR.out.next HB.out, HHI.out, HKE.out.1, HLN.out, HKE.out.2⟩)
                  clear HB HTR HHI HKE
                  go_wp2_with fail
                  go_roundw
                  case rel => exact ⟨k + 1, by omega, by go_num, HF.out⟩
                  case measure => simp [intOf]; omega
        · have htold := told_no hlow
          rw [htold.1, htold.2.1, htold.2.2, take_no hlow] at HAT
          unfold refV at HAT
          clear htold hlow HC
          go_wp2_with fail
          refine HAT.out.mono ?_
          rintro e w5 ⟨S5, rfl, d5, k5, m5⟩
          have HF := Lib.hid (show Keeps w g n (k + 1) (.slice A7 q c7) (.slice A8 q c8) (.slice A9 q c9) (w5.alloc (.cells #[.int .i64 0, .int .u32 0] 30)) from ⟨l, S5, T, (HTR.out.arena d5 k5 m5).next ((Below.refl _ _).alloc (Nat.le_refl _) _), HHI.out, HTU.out.more (by omega), HLN.out, by rw [HTL.out]; omega⟩)
          clear d5 k5 m5 HTR HAT b1
          go_wp2_with fail
          go_roundw
          case rel => exact ⟨k + 1, by omega, by go_num, HF.out⟩
          case measure => simp [intOf]; omega
      | false =>
        obtain ⟨_, hq0⟩ := HBB.out rfl
        clear HBB b1
        by_cases hw0 : 0 ≤ wh
        · obtain ⟨wn, rfl⟩ : ∃ z : Nat, wh = (z : Int) := ⟨wh.toNat, by omega⟩
          obtain ⟨kk, hkk⟩ : ∃ z : Nat, (wn : Int) % (q : Int) = (z : Int) := ⟨wn % q, by simp⟩
          have hkq : kk < q := by
            have h1 : wn % q < q := Nat.mod_lt _ hq0
            have h2 : ((wn % q : Nat) : Int) = (kk : Int) := by rw [← hkk]; simp
            omega
          have hqn : ¬ (q : Int) = 0 := by omega
          obtain ⟨d, hd⟩ : ∃ d, T[kk]? = some d := ⟨_, List.getElem?_eq_getElem (by rw [HTL.out]; exact hkq)⟩
          have o7 := HTR.out.o7
          rw [List.length_map, HTL.out] at o7
          replace o7 := Row.of_own o7
          obtain ⟨g7, p7, rfl, l7, r7⟩ := o7.2 (by omega)
          obtain ⟨f0, f1⟩ := refC_get (show (T.map En.pr)[kk]? = some d.pr by rw [List.getElem?_map, hd]; rfl)
          have c0 := r7 _ _ f0
          have c1 := r7 _ _ f1
          rw [← Nat.add_assoc] at c1
          have i2 : (0 : Int) ≤ (kk : Int) := by omega
          have i3 : (kk : Int) < (q : Int) := by omega
          have HAF := afreeI_any l (d.s : Int) (d.t : Int) g S wc HTR.out.ar (by rw [HLN.out]; omega)
          rw [hist_some HHI.out hd] at HAF
          have hh2 := hist_free HHI.out hd
          have htu2 := (HTU.out.more (Nat.le_succ k)).free zI (d.s : Int) (d.t : Int)
          have hln2 := freeA_length zI l (d.s : Int) (d.t : Int)
          rw [HLN.out] at hln2
          obtain ⟨l2, hl2⟩ : ∃ z, freeA zI l (d.s : Int) (d.t : Int) = z := ⟨_, rfl⟩
          rw [hl2] at HAF hh2 htu2 hln2
          obtain ⟨T2, hT2⟩ : ∃ z, T.set kk ⟨d.s, d.t, d.x, true⟩ = z := ⟨_, rfl⟩
          have htl2 : T2.length = q := by rw [← hT2, List.length_set, HTL.out]
          have hp2 : T2.map En.pr = T.map En.pr := by rw [← hT2]; exact pr_set hd
          have hx2 : T2.map En.x = T.map En.x := by
            rw [← hT2, List.map_set]
            exact list_same (by rw [List.getElem?_map, hd]; rfl)
          have hg2 : T2.map En.g = (T.map En.g).set kk true := by rw [← hT2, List.map_set]
          rw [hT2] at hh2
          have hkg : (T.map En.g)[kk]? = some d.g := by rw [List.getElem?_map, hd]; rfl
          have HP2 := Lib.hid (And.intro hp2 (And.intro hx2 (And.intro hg2 hkg)))
          have HHI2 := Lib.hid hh2
          have HKE := Lib.hid (show Turns (k + 1) l2 ∧ T2.length ≤ k + 1 from ⟨htu2, by omega⟩)
          have HLN2 := Lib.hid hln2
          have HTL2 := Lib.hid htl2
          obtain ⟨ds, dt, dx, dg⟩ := d
          dsimp only [En.pr] at c0 c1 HAF HP2
          clear hh2 htu2 hln2 hl2 hT2 htl2 hp2 hx2 hg2 hkg HTU HHI HLN hd o7 f0 f1 r7
          replace HAF := Lib.hid HAF
          go_wp2_with fail
          refine HAF.out.mono ?_
          rintro e w5 ⟨S5, rfl, d5, k5, m5⟩
          have H5 := Lib.hid (HTR.out.arena d5 k5 m5)
          clear d5 k5 m5 HAF HTR c0 c1 b2
          obtain ⟨g9, rfl, z9⟩ : ∃ g9, A9 = some ⟨g9, 0, none⟩ ∧ w5.cell? ⟨g9, kk, none⟩ = some (.bool dg) ∧ w5.frozen? ⟨g9, kk, none⟩ = false ∧ g9 < w5.heap.size := by
            have o9 := H5.out.o9
            rw [List.length_map, HTL.out] at o9
            rcases o9.2 with ⟨_, h0⟩ | ⟨g9, cap, cur, h1, h2, h3, h4⟩
            · omega
            · injection h1 with h1 _ _
              subst h1
              refine ⟨g9, rfl, ?_, ?_, (Array.getElem?_eq_some_iff.1 h3).1⟩
              · obtain ⟨gx, ox, ex, _, hcx⟩ := (Row.of_own o9).2 hq0
                injection ex with ex
                injection ex with e1 e2
                subst e1
                subst e2
                have := hcx kk (.bool dg) (by rw [List.getElem?_map, HP2.out.2.2.2]; rfl)
                rw [Nat.zero_add] at this
                exact this
              · exact Whole.free (show Whole w5 g9 4 cur from h3) kk
          obtain ⟨z0, z1, z2⟩ := z9
          have HTR := Lib.hid (show Tri w g l2 S5 (T2.map En.pr) (T2.map En.x) (T2.map En.g) (.slice (some ⟨g7, p7, none⟩) q c7) (.slice A8 q c8) (.slice (some ⟨g9, 0, none⟩) q c9) (w5.setCell ⟨g9, kk, none⟩ (.bool true)) by
            rw [HP2.out.1, HP2.out.2.1, HP2.out.2.2.1]
            exact H5.out.set9 (by rw [List.length_map, HTL.out]) kk true)
          clear H5 HC HP2 HTL
          have HTL := HTL2
          have HLN := HLN2
          have HHI := HHI2
          clear HTL2 HLN2 HHI2
          have y1 : (true == !dg) = !dg := by cases dg <;> rfl
          cases dg
          all_goals
            go_wp2_with fail
            obtain ⟨A9, hA9⟩ : ∃ z, (some ⟨g9, 0, none⟩ : Option Addr) = z := ⟨_, rfl⟩
            rw [hA9] at HTR ⊢
            clear hA9
            obtain ⟨wX, hwX⟩ : ∃ z, z = (w5.setCell ⟨g9, kk, none⟩ (.bool true)) := ⟨_, rfl⟩
            rw [← hwX] at HTR ⊢
            clear hwX
            go_loopw [16] (fun v16 wr => ∃ jj : Nat, jj ≤ q ∧ v16 = .int .i64 (jj : Int) ∧ Below wX.heap.size wX wr) (fun v16 _ => q - (intOf v16).toNat)
            case atStart => exact ⟨0, Nat.zero_le _, rfl, Below.refl _ _⟩
            case round =>
              obtain ⟨jj, hjj, rfl, hb⟩ := hrel
              have HB := Lib.hid hb
              have hz5 := hb.size
              clear hb
              by_cases hjjn : jj < q
              · obtain ⟨d, hd⟩ : ∃ d, T2[jj]? = some d := ⟨_, List.getElem?_eq_getElem (by rw [HTL.out]; exact hjjn)⟩
                have HT := HTR.out.next HB.out
                have o7 := HT.o7
                have o8 := HT.o8
                have o9 := HT.o9
                rw [List.length_map, HTL.out] at o7 o8 o9
                replace o7 := Row.of_own o7
                replace o8 := Row.of_own o8
                replace o9 := Row.of_own o9
                obtain ⟨g7, p7, e7, l7, r7⟩ := o7.2 (by omega)
                cases e7
                obtain ⟨g8, p8, e8, l8, r8⟩ := o8.2 (by omega)
                cases e8
                obtain ⟨g9, p9, e9, l9, r9⟩ := o9.2 (by omega)
                cases e9
                obtain ⟨f0, f1⟩ := refC_get (show (T2.map En.pr)[jj]? = some d.pr by rw [List.getElem?_map, hd]; rfl)
                have c0 := r7 _ _ f0
                have c1 := r7 _ _ f1
                rw [← Nat.add_assoc] at c1
                have KX := Lib.hid (fun w' (b : Below wr.heap.size wr w') => And.intro ((b.cell (p := ⟨g8, p8 + jj, none⟩) l8).trans (r8 jj (.int .i64 d.x) (by rw [List.getElem?_map, List.getElem?_map, hd]; rfl))) ((b.cell (p := ⟨g9, p9 + jj, none⟩) l9).trans (r9 jj (.bool d.g) (by rw [List.getElem?_map, List.getElem?_map, hd]; rfl))))
                have i2 : (0 : Int) ≤ (jj : Int) := by omega
                have i3 : (jj : Int) < (q : Int) := by omega
                have CG := agetI_any l2 (d.s : Int) (d.t : Int) g S5 wr HT.ar (by rw [HLN.out]; omega)
                unfold gotA at CG
                rw [(HHI.out.ok d (List.mem_of_getElem? hd)).get] at CG
                obtain ⟨ds, dt, dx, dg⟩ := d
                dsimp only [En.pr] at c0 c1 CG
                dsimp only at KX
                clear hd HT o7 o8 o9 f0 f1 r7 r8 r9
                cases dg with
                | true =>
                  rw [if_pos rfl] at CG
                  dsimp only [Option.getD, Option.isSome] at CG
                  rw [if_neg Bool.false_ne_true] at CG
                  unfold zI at CG
                  replace CG := Lib.hid CG
                  go_wp2_with fail
                  refine CG.out.mono ?_
                  rintro e w9 ⟨rfl, b9⟩
                  obtain ⟨k0, k1⟩ := KX.out w9 b9
                  have HB9 := Lib.hid (HB.out.trans (b9.mono HB.out.size))
                  have l8' : g8 < w9.heap.size := Nat.lt_of_lt_of_le l8 b9.size
                  have l9' : g9 < w9.heap.size := Nat.lt_of_lt_of_le l9 b9.size
                  clear b9 CG KX HB c0 c1
                  go_wp2_with fail
                  go_roundw
                  case rel => exact ⟨jj + 1, by omega, by go_num, HB9.out⟩
                  case measure => simp [intOf]; omega
                | false =>
                  rw [if_neg Bool.false_ne_true] at CG
                  dsimp only [Option.getD, Option.isSome] at CG
                  rw [if_pos rfl] at CG
                  replace CG := Lib.hid CG
                  go_wp2_with fail
                  refine CG.out.mono ?_
                  rintro e w9 ⟨rfl, b9⟩
                  obtain ⟨k0, k1⟩ := KX.out w9 b9
                  have HB9 := Lib.hid (HB.out.trans (b9.mono HB.out.size))
                  have l8' : g8 < w9.heap.size := Nat.lt_of_lt_of_le l8 b9.size
                  have l9' : g9 < w9.heap.size := Nat.lt_of_lt_of_le l9 b9.size
                  clear b9 CG KX HB c0 c1
                  go_wp2_with fail
                  go_roundw
                  case rel => exact ⟨jj + 1, by omega, by go_num, HB9.out⟩
                  case measure => simp [intOf]; omega
              · obtain rfl : jj = q := by omega
                have HF := Lib.hid (show Keeps w g n (k + 1) _ _ _ wr from ⟨l2, S5, T2, HTR.out.next HB.out, HHI.out, HKE.out.1, HLN.out, HKE.out.2⟩)
                clear HB HTR HHI HKE
                go_wp2_with fail
                go_roundw
                case rel => exact ⟨k + 1, by omega, by go_num, HF.out⟩
                case measure => simp [intOf]; omega
        · have HKE := Lib.hid (show Turns (k + 1) l ∧ T.length ≤ k + 1 from ⟨HTU.out.more (by omega), by rw [HTL.out]; omega⟩)
          clear HC HTU
          go_wp2_with fail
          obtain ⟨wX, hwX⟩ : ∃ z, z = wc := ⟨_, rfl⟩
          rw [← hwX] at HTR ⊢
          clear hwX
          go_loopw [16] (fun v16 wr => ∃ jj : Nat, jj ≤ q ∧ v16 = .int .i64 (jj : Int) ∧ Below wX.heap.size wX wr) (fun v16 _ => q - (intOf v16).toNat)
          case atStart => exact ⟨0, Nat.zero_le _, rfl, Below.refl _ _⟩
          case round =>
            obtain ⟨jj, hjj, rfl, hb⟩ := hrel
            have HB := Lib.hid hb
            have hz5 := hb.size
            clear hb
            by_cases hjjn : jj < q
            · obtain ⟨d, hd⟩ : ∃ d, T[jj]? = some d := ⟨_, List.getElem?_eq_getElem (by rw [HTL.out]; exact hjjn)⟩
              have HT := HTR.out.next HB.out
              have o7 := HT.o7
              have o8 := HT.o8
              have o9 := HT.o9
              rw [List.length_map, HTL.out] at o7 o8 o9
              replace o7 := Row.of_own o7
              replace o8 := Row.of_own o8
              replace o9 := Row.of_own o9
              obtain ⟨g7, p7, e7, l7, r7⟩ := o7.2 (by omega)
              cases e7
              obtain ⟨g8, p8, e8, l8, r8⟩ := o8.2 (by omega)
              cases e8
              obtain ⟨g9, p9, e9, l9, r9⟩ := o9.2 (by omega)
              cases e9
              obtain ⟨f0, f1⟩ := refC_get (show (T.map En.pr)[jj]? = some d.pr by rw [List.getElem?_map, hd]; rfl)
              have c0 := r7 _ _ f0
              have c1 := r7 _ _ f1
              rw [← Nat.add_assoc] at c1
              have KX := Lib.hid (fun w' (b : Below wr.heap.size wr w') => And.intro ((b.cell (p := ⟨g8, p8 + jj, none⟩) l8).trans (r8 jj (.int .i64 d.x) (by rw [List.getElem?_map, List.getElem?_map, hd]; rfl))) ((b.cell (p := ⟨g9, p9 + jj, none⟩) l9).trans (r9 jj (.bool d.g) (by rw [List.getElem?_map, List.getElem?_map, hd]; rfl))))
              have i2 : (0 : Int) ≤ (jj : Int) := by omega
              have i3 : (jj : Int) < (q : Int) := by omega
              have CG := agetI_any l (d.s : Int) (d.t : Int) g S wr HT.ar (by rw [HLN.out]; omega)
              unfold gotA at CG
              rw [(HHI.out.ok d (List.mem_of_getElem? hd)).get] at CG
              obtain ⟨ds, dt, dx, dg⟩ := d
              dsimp only [En.pr] at c0 c1 CG
              dsimp only at KX
              clear hd HT o7 o8 o9 f0 f1 r7 r8 r9
              cases dg with
              | true =>
                rw [if_pos rfl] at CG
                dsimp only [Option.getD, Option.isSome] at CG
                rw [if_neg Bool.false_ne_true] at CG
                unfold zI at CG
                replace CG := Lib.hid CG
                go_wp2_with fail
                refine CG.out.mono ?_
                rintro e w9 ⟨rfl, b9⟩
                obtain ⟨k0, k1⟩ := KX.out w9 b9
                have HB9 := Lib.hid (HB.out.trans (b9.mono HB.out.size))
                have l8' : g8 < w9.heap.size := Nat.lt_of_lt_of_le l8 b9.size
                have l9' : g9 < w9.heap.size := Nat.lt_of_lt_of_le l9 b9.size
                clear b9 CG KX HB c0 c1
                go_wp2_with fail
                go_roundw
                case rel => exact ⟨jj + 1, by omega, by go_num, HB9.out⟩
                case measure => simp [intOf]; omega
              | false =>
                rw [if_neg Bool.false_ne_true] at CG
                dsimp only [Option.getD, Option.isSome] at CG
                rw [if_pos rfl] at CG
                replace CG := Lib.hid CG
                go_wp2_with fail
                refine CG.out.mono ?_
                rintro e w9 ⟨rfl, b9⟩
                obtain ⟨k0, k1⟩ := KX.out w9 b9
                have HB9 := Lib.hid (HB.out.trans (b9.mono HB.out.size))
                have l8' : g8 < w9.heap.size := Nat.lt_of_lt_of_le l8 b9.size
                have l9' : g9 < w9.heap.size := Nat.lt_of_lt_of_le l9 b9.size
                clear b9 CG KX HB c0 c1
                go_wp2_with fail
                go_roundw
                case rel => exact ⟨jj + 1, by omega, by go_num, HB9.out⟩
                case measure => simp [intOf]; omega
            · obtain rfl : jj = q := by omega
              have HF := Lib.hid (show Keeps w g n (k + 1) _ _ _ wr from ⟨l, S, T, HTR.out.next HB.out, HHI.out, HKE.out.1, HLN.out, HKE.out.2⟩)
              clear HB HTR HHI HKE
              go_wp2_with fail
              go_roundw
              case rel => exact ⟨k + 1, by omega, by go_num, HF.out⟩
              case measure => simp [intOf]; omega
    · obtain rfl : k = m := by omega
      have HF : Hid (Below w.heap.size w wr) := Lib.hid (by obtain ⟨_, _, _, h, _⟩ := HK.out; exact h.below)
      clear HK
      go_wp2_with fail
      go_ret
      exact ⟨rfl, HF.out⟩

set_option maxRecDepth 100000 in
theorem lifted (os : Os) (started : os.Started) (H : Type) (enc : TypeId × Value → H) :
    ReturnsInHanded {} Try.checked os 4 .any (Rows.arenaOnceSpec.pre6 enc Try.prog Try.f4 Rows.arenaOnceRow.domain false) (Rows.arenaOnceSpec.post enc Try.prog Try.f4 false true false false) := by
  refine returnsInHanded_of_change (C := Try.checked) own started (by kernel_rfl) Try.func4
    (ChangeSpec.witness6 (enc := enc) (C := Try.checked) false ⟨#[], #[.int .u8 0, .slice none 0 0], []⟩ 8 (by kernel_rfl) (by kernel_rfl) (by kernel_rfl) (by kernel_rfl)) ?_
  intro W base args ds gs before hval0 hW _ _
  have hval : ∀ (j : Nat) t v, Try.f4.params[j]? = some t → args[j]? = some v → Value.okWide Try.prog W .any base t v := hval0
  have hW' := hW
  obtain ⟨p, q, hA0, hV, _, _, _⟩ := hW
  have hA : DataW.TrodAll enc Try.prog W 0 (fun _ => true) true Try.f4.params.toList args.toList ds p := hA0
  rw [Try.params4] at hA hval
  obtain ⟨v0, vs0, d0, ds0, p0, q0, hargs, rfl, _, h0, r0⟩ := trodAll_cons hA
  obtain ⟨v1, vs1, d1, ds1, p1, q1, rfl, rfl, _, h1, r1⟩ := trodAll_cons r0
  obtain ⟨rfl, rfl, _⟩ := trodAll_nil r1
  obtain rfl : args = #[v0, v1] := by cases args; simp_all
  obtain ⟨rfl, _⟩ := trodVars_none hV
  refine law_post (s := Rows.arenaOnceSpec) rfl rfl (by rw [Try.params4]; intro t ht; simp at ht; rcases ht with rfl | rfl <;> exact ⟨by kernel_rfl, of_decide_eq_true (by kernel_rfl)⟩) rfl hW' ?_
  obtain ⟨a0, rfl, _, _, w0⟩ := open_int Try.underlying5 (hval 0 5 v0 rfl rfl) h0
  obtain ⟨A1, c1, l1, rfl, hl1, hr1, ho1⟩ := open_acts (hval 1 22 v1 rfl rfl) h1
  exact walk W a0 w0 A1 c1 l1 hl1 hr1 ho1

theorem over : Rows.arenaOnceRow.holds Try.pinned (OpenSpec.ofChange Rows.arenaOnceSpec) :=
  OpenClaim.holds_of_wide 4 Try.f4 rfl rfl rfl rfl rfl rfl rfl ⟨rfl, rfl, rfl, rfl, rfl⟩ rfl rfl rfl rfl rfl (by kernel_rfl) Try.func4 (by kernel_rfl)
    (of_decide_eq_true (by kernel_rfl)) (by unfold Func.isWrapper; first | (rw [if_pos (by decide +kernel)]; kernel_rfl) | (rw [if_neg (by decide +kernel)]; exact ⟨rfl, rfl⟩))
    (fun os started H enc _ => lifted os started H enc)

/-- The statement. -/
theorem arenaOnce_holds : Rows.ArenaOnceSaid := over

end Go.Proofs.Ytejfjjgcajdjmaa.AOnce
