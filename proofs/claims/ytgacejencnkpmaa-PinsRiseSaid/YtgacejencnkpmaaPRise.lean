/-
  Proved: PinsRise returns true for every number of workers and every row of acts: the oldest epoch never goes down; what is retired at it, or ahead, goes at once. Conditions: none.
-/
import Derived.Test.YtgacejencnkpmaaPnA
import Derived.Test.YtgacejencnkpmaaPnM
import Derived.Test.YtgacejencnkpmaaPnO
import Derived.Test.YtgacejencnkpmaaLift
import Derived.Deep.CutBlock
import Derived.Deep.DeepCutAuto
import Derived.RegionTactic
import Derived.IntWalk
namespace Go.Proofs.Ytgacejencnkpmaa.PRise
open Go.ChangeShapes Go.WideShapes Go.ChangeAt Go.RowKit
set_option linter.unusedSimpArgs false
set_option linter.unusedVariables false
set_option maxRecDepth 100000

/-- What a round keeps. -/
def Keeps (w0 : World) (g : Nat) (v7 : Value) (wr : World) : Prop :=
  ∃ (l : List Wk) (q : List Wt) (S : Nat → Prop), PAt wr g S l q ∧ (∀ j, S j → w0.heap.size ≤ j) ∧ Below w0.heap.size w0 wr ∧ v7 = .int .u64 (oldS l)

set_option maxHeartbeats 6400000 in
theorem walk (w : World) (a : Int) (ha : (Lit.int .u8 a).wf = true) (A : Option Addr) (c : Nat) (ps : List Pc) (hl : ps.length ≤ maxLen) (hr : Row w w.heap.size 5 A ps.length (rowC Pc.cells ps)) (ho : ∀ x ∈ ps, x.Fit) :
    Calls Try.prog 6 #[.int .u8 a, .slice A ps.length c] w fun e w' => e = .returned (.bool true) ∧ Below w.heap.size w w' := by
  unfold maxLen at hl
  have ha' := wf_u8 ha
  clear ha
  obtain ⟨m, hm⟩ : ∃ m, ps.length = m := ⟨_, rfl⟩
  have HM := Lib.hid hm
  rw [hm] at hr hl ⊢
  have HR := Lib.hid (fun (h0 : 0 < m) => row_at Pc.cells_length hr h0)
  clear hr ho hm
  by_cases hlong : 200 < m
  · go_enter Try.func6, Try.ntmps6
    go_wp2_with (go_at_call 8; refine (awake16 w).mono ?_; rintro e w1 ⟨rfl, b1⟩)
    go_ret
    exact ⟨rfl, b1⟩
  obtain ⟨n, hn⟩ : ∃ n : Nat, a % 4 + 1 = (n : Int) := ⟨(a % 4 + 1).toNat, by omega⟩
  have hn1 : 1 ≤ n := by omega
  have hn2 : n ≤ 4 := by omega
  go_enter Try.func6, Try.ntmps6
  go_wp2_with fail
  refine (awake16 w).mono ?_
  rintro e w1 ⟨rfl, b1⟩
  have HB1 := Lib.hid b1
  clear b1
  go_wp2_with fail
  refine (pnew_any w1 n hn1 hn2).mono ?_
  rintro e w2 ⟨g, S, rfl, d2, s2, b2⟩
  have H3 := Lib.hid (show Keeps w g (.int .u64 0) w2 from ⟨freshK n, [], S, d2, fun k hk => Nat.le_trans HB1.out.size (s2 k hk), bnext HB1.out b2, by rw [old_fresh hn1]⟩)
  clear d2 s2 b2 HB1
  go_wp2_with fail
  go_loopw [7, 8] (fun v7 i wr => ∃ k : Nat, k ≤ m ∧ i = .int .i64 (k : Int) ∧ Keeps w g v7 wr) (fun _ i _ => m - (intOf i).toNat)
  case atStart => exact ⟨0, Nat.zero_le _, rfl, H3.out⟩
  case round =>
    clear H3
    obtain ⟨k, hk, rfl, hK⟩ := hrel
    have HK := Lib.hid hK
    clear hK
    by_cases hlt : k < m
    · obtain ⟨ga, oa, rfl, hga, hca⟩ := HR.out (by omega)
      obtain ⟨x, hx⟩ : ∃ x, ps[k]? = some x := ⟨_, List.getElem?_eq_getElem (by rw [HM.out]; exact hlt)⟩
      have HC := Lib.hid (fun w' b => And.intro (hca w' b k x 0 _ hx rfl) (And.intro (hca w' b k x 1 _ hx rfl) (And.intro (hca w' b k x 2 _ hx rfl) (And.intro (hca w' b k x 3 _ hx rfl) (hca w' b k x 4 _ hx rfl)))))
      clear hca hx
      have i0 : (0 : Int) ≤ (k : Int) := by omega
      have i1 : (k : Int) < (m : Int) := by omega
      obtain ⟨kind, who, ep, rs, rt⟩ := x
      dsimp only at HC
      obtain ⟨l, q, S, hd, hs, hb, rfl⟩ := HK.out
      obtain ⟨a0, a1, a2, a3, a4⟩ := HC.out wr hb
      rw [Nat.add_zero] at a0
      have hz := hb.size
      have hgo : ga < wr.heap.size := by omega
      have hne := ne_of_len hd.len.1
      obtain ⟨last, hlast⟩ : ∃ z, oldS l = z := ⟨_, rfl⟩
      have HLA := Lib.hid hlast
      rw [hlast]
      go_upto_region 12 with fail
      obtain ⟨wo, hwo⟩ : ∃ z, z = wr.alloc (.cells #[.int .i64 kind, .int .i64 who, .int .u64 ep, .int .i64 rs, .int .u32 rt] 35) := ⟨_, rfl⟩
      have HD := Lib.hid (show PAt wo g S l q by rw [hwo]; exact hd.next ((Below.refl _ _).alloc (Nat.le_refl _) _))
      have HB := Lib.hid (show Below w.heap.size w wo by rw [hwo]; exact hb.alloc hb.size _)
      have HS := Lib.hid hs
      have HX := Lib.hid (show Whole wo wr.heap.size 35 #[.int .i64 kind, .int .i64 who, .int .u64 ep, .int .i64 rs, .int .u32 rt] by rw [hwo]; exact Whole.new wr _ _)
      have hnX : ¬ S wr.heap.size := fun h => Nat.lt_irrefl _ (hd.lt _ h)
      obtain ⟨X, hX⟩ : ∃ z, wr.heap.size = z := ⟨_, rfl⟩
      rw [hX] at HX hnX
      rw [← hwo, hX]
      have HNX := Lib.hid hnX
      have HNE := Lib.hid hne
      clear hwo hd hb hs HK a0 a1 a2 a3 a4 hX hz hgo hlast hnX hne HC
      have x0 := HX.out.cell 0
      have x1 := HX.out.cell 1
      have x2 := HX.out.cell 2
      have x3 := HX.out.cell 3
      have x4 := HX.out.cell 4
      have lX := HX.out.lt
      go_upto_block 2 with fail
      go_cut [] (fun wx => ∃ S' l' q', PAt wx g S' l' q' ∧ (∀ j, S' j → w.heap.size ≤ j) ∧ Below w.heap.size w wx ∧ last ≤ oldS l')
      case first =>
        by_cases h01 : kind = 0 ∨ kind = 1
        · rcases h01 with rfl | rfl
          all_goals
            go_wp2_with fail
            refine (pinst_any l q g S wo who ep HD.out).mono ?_
            rintro e w5 ⟨S5, rfl, d5, k5, m5⟩
            have HF := Lib.hid (show ∃ S' l' q', PAt w5 g S' l' q' ∧ (∀ j, S' j → w.heap.size ≤ j) ∧ Below w.heap.size w w5 ∧ last ≤ oldS l' from ⟨S5, _, _, d5, fun j h => (Nat.lt_or_ge j wo.heap.size).elim (fun hj => HS.out j (m5 j hj h)) (fun hj => Nat.le_trans HB.out.size hj), HB.out.trans (k5.below HB.out.size (fun j hj h => Nat.not_le_of_lt hj (HS.out j h))), by rw [← HLA.out]; exact rise_inst HNE.out _ _⟩)
            clear d5 k5 m5 HD HS HB
            go_wp2_with fail
            go_meet
            exact HF.out
        · have z0 : ¬ kind = 0 := fun h => h01 (.inl h)
          have z1 : ¬ kind = 1 := fun h => h01 (.inr h)
          clear h01
          by_cases h2 : kind = 2
          · subst h2
            go_wp2_with fail
            refine (ppin_any l q g S wo who HD.out).mono ?_
            rintro e w5 ⟨S5, rfl, d5, k5, m5⟩
            have HF := Lib.hid (show ∃ S' l' q', PAt w5 g S' l' q' ∧ (∀ j, S' j → w.heap.size ≤ j) ∧ Below w.heap.size w w5 ∧ last ≤ oldS l' from ⟨S5, _, _, d5, fun j h => (Nat.lt_or_ge j wo.heap.size).elim (fun hj => HS.out j (m5 j hj h)) (fun hj => Nat.le_trans HB.out.size hj), HB.out.trans (k5.below HB.out.size (fun j hj h => Nat.not_le_of_lt hj (HS.out j h))), by rw [← HLA.out]; exact rise_pin HNE.out _⟩)
            clear d5 k5 m5 HD HS HB
            go_wp2_with fail
            go_meet
            exact HF.out
          · by_cases h3 : kind = 3
            · subst h3
              go_wp2_with fail
              refine (punpin_any l q g S wo who HD.out).mono ?_
              rintro e w5 ⟨S5, rfl, d5, k5, m5⟩
              have HF := Lib.hid (show ∃ S' l' q', PAt w5 g S' l' q' ∧ (∀ j, S' j → w.heap.size ≤ j) ∧ Below w.heap.size w w5 ∧ last ≤ oldS l' from ⟨S5, _, _, d5, fun j h => (Nat.lt_or_ge j wo.heap.size).elim (fun hj => HS.out j (m5 j hj h)) (fun hj => Nat.le_trans HB.out.size hj), HB.out.trans (k5.below HB.out.size (fun j hj h => Nat.not_le_of_lt hj (HS.out j h))), by rw [← HLA.out]; exact rise_unp HNE.out _⟩)
              clear d5 k5 m5 HD HS HB
              go_wp2_with fail
              go_meet
              exact HF.out
            · go_wp2_with fail
              refine (pret_any l q g S wo rs rt ep HD.out).mono ?_
              rintro e w5 ⟨S5, rfl, d5, k5, m5⟩
              have X5 := HX.out.but k5 HNX.out
              have HX5 := Lib.hid X5
              have nX5 : ¬ S5 X := fun h => HNX.out (m5 _ HX.out.lt h)
              have HB5 := Lib.hid (HB.out.trans (k5.below HB.out.size (fun j hj h => Nat.not_le_of_lt hj (HS.out j h))))
              have HS5 : Hid (∀ j, S5 j → w.heap.size ≤ j) := Lib.hid (fun j h => (Nat.lt_or_ge j wo.heap.size).elim (fun hj => HS.out j (m5 j hj h)) (fun hj => Nat.le_trans HB.out.size hj))
              have CS := Lib.hid (psweep_any l (retS q ⟨rs, rt, ep⟩) g S5 w5 d5)
              unfold PSwept at CS
              rw [HLA.out] at CS
              clear d5 k5 m5 HD HS HB HX HNX X5 x0 x1 x2 x3 x4 lX
              go_wp2_with fail
              refine CS.out.mono ?_
              rintro e w6 ⟨A6, c6, S6, rfl, hrow6, d6, k6, m6⟩
              have X6 := HX5.out.but k6 nX5
              have x0 := X6.cell 0
              have x1 := X6.cell 1
              have x2 := X6.cell 2
              have x3 := X6.cell 3
              have x4 := X6.cell 4
              have lX := X6.lt
              have HF := Lib.hid (fun w' (b : Below w6.heap.size w6 w') => show ∃ S' l' q', PAt w' g S' l' q' ∧ (∀ j, S' j → w.heap.size ≤ j) ∧ Below w.heap.size w w' ∧ last ≤ oldS l' from
                ⟨S6, l, _, d6.next b, fun j h => (Nat.lt_or_ge j w5.heap.size).elim (fun hj => HS5.out j (m6 j hj h)) (fun hj => Nat.le_trans HB5.out.size hj), (HB5.out.trans (k6.below HB5.out.size (fun j hj h => Nat.not_le_of_lt hj (HS5.out j h)))).trans (b.mono (by have := HB5.out.size; have := k6.size; omega)), by rw [HLA.out]; exact Int.le_refl _⟩)
              clear X6 d6 k6 m6 HX5 nX5 HB5 HS5 CS
              by_cases hf : 64 ≤ q.length
              · have he : retE q = 20 := by unfold retE; rw [if_pos hf]
                rw [he]
                clear he hrow6
                go_wp2_with fail
                go_region
                go_wp2_with fail
                go_meet
                exact HF.out _ (by first | exact Below.refl _ _ | exact (Below.refl _ _).drew)
              · have he : retE q = 0 := by unfold retE; rw [if_neg hf]
                have hrs : retS q ⟨rs, rt, ep⟩ = q ++ [⟨rs, rt, ep⟩] := by unfold retS; rw [if_neg hf]
                rw [he]
                rw [hrs] at hrow6 ⊢
                by_cases hle : ep ≤ last
                · rw [goes_add hle] at hrow6 ⊢
                  obtain ⟨N, hN⟩ : ∃ z, (goes last q).length = z := ⟨_, rfl⟩
                  have hN64 : N ≤ 64 := by have := goes_le last q; omega
                  have g7 : IntKind.i64.wrap (N : Int) = (N : Int) := IntWalk.i64_in _ (by omega)
                  rw [List.length_append, hN, List.length_cons, List.length_nil] at hrow6 ⊢
                  obtain ⟨g6, o6, rfl, hg6, hc6⟩ := hrow6.2 (by omega)
                  rw [rfC_add] at hc6
                  have hlr : (rfC (goes last q)).length = N * 2 := by rw [rfC_length, hN]
                  have y0 := hc6 (N * 2) (.int .i64 rs) (by rw [List.getElem?_append_right (by omega), hlr, Nat.sub_self]; rfl)
                  have y1 := hc6 (N * 2 + 1) (.int .u32 rt) (by rw [List.getElem?_append_right (by omega), hlr, Nat.add_sub_cancel_left]; rfl)
                  rw [← Nat.add_assoc] at y1
                  have EQ := fun w : World => neq_ref16 w rs rt rs rt false (by simp)
                  clear hc6 hlr hrow6 hN he hrs
                  have hle' : decide (ep ≤ last) = true := decide_eq_true hle
                  have g1 : ((N : Int) + 1 == 0) = false := by simp; omega
                  have g2 : (((N + 1 : Nat) : Int) == 0) = false := by simp; omega
                  have g3 : (N : Int) + 1 - 1 = (N : Int) := by omega
                  have g4 : (0 : Int) ≤ (N : Int) := by omega
                  have g5 : (N : Int) < (N : Int) + 1 := by omega
                  have lg6 : g6 < w6.heap.size := hg6
                  clear hle
                  go_wp2_with fail
                  go_region
                  go_wp2_with fail
                  go_meet
                  exact HF.out _ (by first | exact Below.refl _ _ | exact (Below.refl _ _).drew)
                · have hle' : decide (ep ≤ last) = false := decide_eq_false hle
                  clear hrow6 he hrs hle
                  go_wp2_with fail
                  go_region
                  go_wp2_with fail
                  go_meet
                  exact HF.out _ (by first | exact Below.refl _ _ | exact (Below.refl _ _).drew)
      case rest =>
      obtain ⟨S2, l2, q2, hd, hs, hb, hle⟩ := hcut
      have CO := Lib.hid (pold_any l2 q2 g S2 wc hd)
      have HF := Lib.hid (fun w' (b : Below wc.heap.size wc w') => show Keeps w g (.int .u64 (oldS l2)) w' from ⟨l2, q2, S2, hd.next b, hs, hb.trans (b.mono hb.size), rfl⟩)
      clear hd hs hb HD HS HB HX x0 x1 x2 x3 x4 lX
      have hnl : ¬ oldS l2 < last := by omega
      go_wp2_with fail
      refine CO.out.mono ?_
      rintro e w7 ⟨rfl, b7⟩
      have HE := Lib.hid (HF.out w7 b7)
      clear b7 HF CO
      go_wp2_with fail
      go_roundw
      case rel => exact ⟨k + 1, by omega, by go_num, HE.out⟩
      case measure => simp [intOf]; omega
    · obtain rfl : k = m := by omega
      have HF : Hid (Below w.heap.size w wr) := Lib.hid (by obtain ⟨_, _, _, _, _, h, _⟩ := HK.out; exact h)
      clear HK
      go_wp2_with fail
      go_ret
      exact ⟨rfl, HF.out⟩

set_option maxRecDepth 100000 in
theorem lifted (os : Os) (started : os.Started) (H : Type) (enc : TypeId × Value → H) :
    ReturnsInHanded {} Try.checked os 6 .any (Rows.pinsRiseSpec.pre6 enc Try.prog Try.f6 Rows.pinsRiseRow.domain false) (Rows.pinsRiseSpec.post enc Try.prog Try.f6 false true false false) := by
  refine returnsInHanded_of_change (C := Try.checked) own started (by kernel_rfl) Try.func6
    (ChangeSpec.witness6 (enc := enc) (C := Try.checked) false ⟨#[], #[.int .u8 0, .slice none 0 0], []⟩ 8 (by kernel_rfl) (by kernel_rfl) (by kernel_rfl) (by kernel_rfl)) ?_
  intro W base args ds gs before hval0 hW _ _
  have hval : ∀ (j : Nat) t v, Try.f6.params[j]? = some t → args[j]? = some v → Value.okWide Try.prog W .any base t v := hval0
  have hW' := hW
  obtain ⟨p, q, hA0, hV, _, _, _⟩ := hW
  have hA : DataW.TrodAll enc Try.prog W 0 (fun _ => true) true Try.f6.params.toList args.toList ds p := hA0
  rw [Try.params6] at hA hval
  obtain ⟨v0, vs0, d0, ds0, p0, q0, hargs, rfl, _, h0, r0⟩ := trodAll_cons hA
  obtain ⟨v1, vs1, d1, ds1, p1, q1, rfl, rfl, _, h1, r1⟩ := trodAll_cons r0
  obtain ⟨rfl, rfl, _⟩ := trodAll_nil r1
  obtain rfl : args = #[v0, v1] := by cases args; simp_all
  obtain ⟨rfl, _⟩ := trodVars_none hV
  refine law_post (s := Rows.pinsRiseSpec) rfl rfl (by rw [Try.params6]; intro t ht; simp at ht; rcases ht with rfl | rfl <;> exact ⟨by kernel_rfl, of_decide_eq_true (by kernel_rfl)⟩) rfl hW' ?_
  obtain ⟨a0, rfl, _, _, w0⟩ := open_int Try.underlying5 (hval 0 5 v0 rfl rfl) h0
  obtain ⟨A1, c1, l1, rfl, hl1, hr1, ho1⟩ := open_acts16 (hval 1 22 v1 rfl rfl) h1
  exact walk W a0 w0 A1 c1 l1 hl1 hr1 ho1

theorem over : Rows.pinsRiseRow.holds Try.pinned (OpenSpec.ofChange Rows.pinsRiseSpec) :=
  OpenClaim.holds_of_wide 6 Try.f6 rfl rfl rfl rfl rfl rfl rfl ⟨rfl, rfl, rfl, rfl, rfl⟩ rfl rfl rfl rfl rfl (by kernel_rfl) Try.func6 (by kernel_rfl)
    (of_decide_eq_true (by kernel_rfl)) (by unfold Func.isWrapper; first | (rw [if_pos (by decide +kernel)]; kernel_rfl) | (rw [if_neg (by decide +kernel)]; exact ⟨rfl, rfl⟩))
    (fun os started H enc _ => lifted os started H enc)

/-- The statement. -/
theorem pinsRise_holds : Rows.PinsRiseSaid := over

end Go.Proofs.Ytgacejencnkpmaa.PRise
