/-
  Proved: PinsHeld returns true for every two epochs and every row of acts: as long as one worker looks at an epoch nothing goes that was retired behind it, whatever all others do. Conditions: none.
-/
import Derived.Test.YtgacejencnkpmaaPnA
import Derived.Test.YtgacejencnkpmaaPnM
import Derived.Test.YtgacejencnkpmaaPnO
import Derived.Test.YtgacejencnkpmaaLift
import Derived.Deep.CutBlock
import Derived.Deep.DeepCutAuto
import Derived.RegionTactic
import Derived.IntWalk
namespace Go.Proofs.Ytgacejencnkpmaa.PHeld
open Go.ChangeShapes Go.WideShapes Go.ChangeAt Go.RowKit
set_option linter.unusedSimpArgs false
set_option linter.unusedVariables false
set_option maxRecDepth 100000

theorem inst_zero {l : List Wk} {i : Int} (h : i ≠ 0) (e : Int) : (instS l i e)[0]? = l[0]? := by
  unfold instS
  cases hk : wkAt l i with
  | none => rfl
  | some k =>
    have h0 : ¬ i < 0 := fun h0 => by rw [wkAt_low h0] at hk; cases hk
    dsimp only
    split
    · rfl
    · rw [List.getElem?_set_ne (by omega)]
theorem pin_zero {l : List Wk} {i : Int} (h : i ≠ 0) : (pinS l i)[0]? = l[0]? := by
  unfold pinS
  cases hk : wkAt l i with
  | none => rfl
  | some k =>
    have h0 : ¬ i < 0 := fun h0 => by rw [wkAt_low h0] at hk; cases hk
    dsimp only
    split
    · rfl
    · rw [List.getElem?_set_ne (by omega)]
theorem unp_zero {l : List Wk} {i : Int} (h : i ≠ 0) : (unpS l i)[0]? = l[0]? := by
  unfold unpS
  cases hk : wkAt l i with
  | none => rfl
  | some k =>
    have h0 : ¬ i < 0 := fun h0 => by rw [wkAt_low h0] at hk; cases hk
    dsimp only
    split
    · rw [List.getElem?_set_ne (by omega)]
    · rfl
/-- Let go, and gone on: it looks at none, and is far ahead. -/
theorem freed {l : List Wk} {i : Nat} {y : Wk} (h : l[i]? = some y) (M : Int) : ∃ z, (instS (unpS l (i : Int)) (i : Int) M)[i]? = some z ∧ z.sees = none ∧ M ≤ z.at' := by
  have hi : i < l.length := (List.getElem?_eq_some_iff.1 h).1
  have h1 : (unpS l (i : Int))[i]? = some ⟨y.at', none⟩ := by
    unfold unpS
    rw [wkAt_nat, h]
    dsimp only
    by_cases hs : y.sees.isSome = true
    · rw [if_pos hs, Int.toNat_natCast, List.getElem?_set_self hi]
    · rw [if_neg hs, h]
      obtain ⟨ya, ys⟩ := y
      cases ys with
      | none => rfl
      | some s => simp at hs
  have hi1 : i < (unpS l (i : Int)).length := (List.getElem?_eq_some_iff.1 h1).1
  unfold instS
  rw [wkAt_nat, h1]
  dsimp only
  by_cases hM : M < y.at'
  · rw [if_pos hM]; exact ⟨_, h1, rfl, by show M ≤ y.at'; omega⟩
  · rw [if_neg hM, Int.toNat_natCast]; exact ⟨_, List.getElem?_set_self hi1, rfl, Int.le_refl _⟩
theorem unp_other {l : List Wk} {i j : Nat} (h : i ≠ j) : (unpS l (i : Int))[j]? = l[j]? := by
  unfold unpS
  split
  · rfl
  · split
    · rw [Int.toNat_natCast, List.getElem?_set_ne h]
    · rfl
theorem inst_other {l : List Wk} {i j : Nat} (h : i ≠ j) (e : Int) : (instS l (i : Int) e)[j]? = l[j]? := by
  unfold instS
  split
  · rfl
  · split
    · rfl
    · rw [Int.toNat_natCast, List.getElem?_set_ne h]
/-- What waits. -/
def oneQ (a : Int) : List Wt := [⟨5, 77, a + 1⟩]
theorem held {l : List Wk} {b a : Int} (h : l[0]? = some ⟨b, some a⟩) : goes (oldS l) (oneQ a) = [] ∧ stays (oldS l) (oneQ a) = oneQ a := by
  have h1 := (oldS_le (List.mem_of_getElem? h)).2 a rfl
  have h2 : ¬ a + 1 ≤ oldS l := by omega
  have h3 : oldS l < a + 1 := by omega
  unfold goes stays oneQ
  simp [h2, h3]
theorem gone {l : List Wk} {a M : Int} (hne : l ≠ []) (h : ∀ k ∈ l, k.sees = none ∧ M ≤ k.at') (ha : a + 1 ≤ M) : goes (oldS l) (oneQ a) = oneQ a := by
  obtain ⟨k, hk, h1⟩ := oldS_one hne
  obtain ⟨h2, h3⟩ := h k hk
  have h4 : a + 1 ≤ oldS l := by
    rcases h1 with h1 | h1
    · omega
    · rw [h2] at h1; cases h1
  unfold goes oneQ
  simp [h4]

/-- What a round keeps: the first worker looks at the epoch. -/
def Keeps (w0 : World) (g R : Nat) (b a : Int) (wr : World) : Prop :=
  ∃ (l : List Wk) (S : Nat → Prop), PAt wr g S l (oneQ a) ∧ l.length = 3 ∧ l[0]? = some ⟨b, some a⟩ ∧ (∀ j, S j → w0.heap.size ≤ j) ∧ Below w0.heap.size w0 wr ∧ Whole wr R 33 #[.int .i64 5, .int .u32 77] ∧ ¬ S R

set_option maxHeartbeats 6400000 in
theorem walk (w : World) (a0 : Int) (ha : (Lit.int .u64 a0).wf = true) (on : Int) (hb : (Lit.int .u64 on).wf = true) (A : Option Addr) (c : Nat) (ps : List Pc) (hl : ps.length ≤ maxLen) (hr : Row w w.heap.size 5 A ps.length (rowC Pc.cells ps)) (ho : ∀ x ∈ ps, x.Fit) :
    Calls Try.prog 7 #[.int .u64 a0, .int .u64 on, .slice A ps.length c] w fun e w' => e = .returned (.bool true) ∧ Below w.heap.size w w' := by
  unfold maxLen at hl
  have ha' := wf_u64 ha
  have hb' := wf_u64 hb
  clear ha hb
  obtain ⟨m, hm⟩ : ∃ m, ps.length = m := ⟨_, rfl⟩
  have HM := Lib.hid hm
  rw [hm] at hr hl ⊢
  have HR := Lib.hid (fun (h0 : 0 < m) => row_at Pc.cells_length hr h0)
  clear hr ho hm
  have hc : (100 : Int) < (m : Int) ∨ (¬ (100 : Int) < (m : Int) ∧ (1152921504606846976 < a0 ∨ (¬ 1152921504606846976 < a0 ∧ (1152921504606846976 < on ∨ ¬ 1152921504606846976 < on)))) := by omega
  rcases hc with hc | ⟨hc, hc2 | ⟨hc2, hc3 | hc3⟩⟩
  iterate 3
    · go_enter Try.func7, Try.ntmps7
      go_wp2_with (go_at_call 8; refine (awake16 w).mono ?_; rintro e w1 ⟨rfl, b1⟩)
      go_ret
      exact ⟨rfl, b1⟩
  go_enter Try.func7, Try.ntmps7
  go_wp2_with fail
  refine (awake16 w).mono ?_
  rintro e w1 ⟨rfl, b1⟩
  have HB1 := Lib.hid b1
  clear b1
  go_wp2_with fail
  refine (pnew_any w1 3 (by decide) (by decide)).mono ?_
  rintro e w2 ⟨g, S, rfl, d2, s2, b2⟩
  have H3 := Lib.hid (show ∃ l S, PAt w2 g S l [] ∧ l.length = 3 ∧ (0 = 0 ∧ l = freshK 3 ∨ l[0]? = some ⟨a0, none⟩) ∧ (∀ j, S j → w.heap.size ≤ j) ∧ Below w.heap.size w w2 from ⟨_, S, d2, rfl, .inl ⟨rfl, rfl⟩, fun k hk => Nat.le_trans HB1.out.size (s2 k hk), bnext HB1.out b2⟩)
  clear d2 s2 b2 HB1
  go_wp2_with fail
  go_loopw [9] (fun i wr => ∃ k : Nat, k ≤ 3 ∧ i = .int .i64 (k : Int) ∧ ∃ l S, PAt wr g S l [] ∧ l.length = 3 ∧ (k = 0 ∧ l = freshK 3 ∨ l[0]? = some ⟨a0, none⟩) ∧ (∀ j, S j → w.heap.size ≤ j) ∧ Below w.heap.size w wr) (fun i _ => 3 - (intOf i).toNat)
  case atStart =>
    obtain ⟨l, S, q1, q2, q3, q4⟩ := H3.out
    exact ⟨0, Nat.zero_le _, rfl, l, S, q1, q2, by simpa using q3, q4⟩
  case round =>
    clear H3
    obtain ⟨k, hk, rfl, l, S, hd, hlen, hz, hs, hbl⟩ := hrel
    have HD := Lib.hid hd
    have HS := Lib.hid hs
    have HB := Lib.hid hbl
    have HZ := Lib.hid hz
    clear hd hs hbl hz
    by_cases hlt : k < 3
    · have hlt' : (k : Int) < 3 := by omega
      go_wp2_with fail
      refine (pinst_any l [] g S wr k a0 HD.out).mono ?_
      rintro e w5 ⟨S5, rfl, d5, k5, m5⟩
      have HF := Lib.hid (show ∃ l S, PAt w5 g S l [] ∧ l.length = 3 ∧ (k + 1 = 0 ∧ l = freshK 3 ∨ l[0]? = some ⟨a0, none⟩) ∧ (∀ j, S j → w.heap.size ≤ j) ∧ Below w.heap.size w w5 from
        ⟨_, S5, d5, by rw [instS_length]; exact hlen, .inr (by
          rcases HZ.out with ⟨rfl, rfl⟩ | hz
          · unfold instS
            rw [wkAt_nat, show (freshK 3)[0]? = some ⟨0, none⟩ from rfl]
            dsimp only
            rw [if_neg (by omega)]
            rfl
          · by_cases hk0 : k = 0
            · subst hk0
              unfold instS
              rw [wkAt_nat, hz]
              dsimp only
              rw [if_neg (by omega), Int.toNat_natCast, List.getElem?_set_self (by omega)]
            · rw [inst_zero (by omega), hz]), fun j h => (Nat.lt_or_ge j wr.heap.size).elim (fun hj => HS.out j (m5 j hj h)) (fun hj => Nat.le_trans HB.out.size hj), HB.out.trans (k5.below HB.out.size (fun j hj h => Nat.not_le_of_lt hj (HS.out j h)))⟩)
      clear d5 k5 m5 HD HS HB HZ
      go_wp2_with fail
      go_roundw
      case rel => exact ⟨k + 1, by omega, by go_num, HF.out⟩
      case measure => simp [intOf]; omega
    · obtain rfl : k = 3 := by omega
      have hz0 : l[0]? = some ⟨a0, none⟩ := HZ.out.elim (fun h => by omega) id
      obtain ⟨b, hb1⟩ : ∃ b, a0 + on + 1 = b := ⟨_, rfl⟩
      have hw1 : IntKind.u64.wrap (a0 + on) = a0 + on := IntWalk.u64_in _ (by omega)
      have hw2 : IntKind.u64.wrap (a0 + on + 1) = a0 + on + 1 := IntWalk.u64_in _ (by omega)
      have hw3 : IntKind.u64.wrap (a0 + 1) = a0 + 1 := IntWalk.u64_in _ (by omega)
      go_wp2_with fail
      refine (ppin_any l [] g S wr 0 HD.out).mono ?_
      rintro e w5 ⟨S5, rfl, d5, k5, m5⟩
      have h5 : (pinS l 0)[0]? = some ⟨a0, some a0⟩ := by
        unfold pinS
        rw [show (0 : Int) = ((0 : Nat) : Int) from rfl, wkAt_nat, hz0]
        dsimp only
        rw [if_neg (by simp), Int.toNat_natCast, List.getElem?_set_self (by omega)]
      have hlen5 : (pinS l 0).length = 3 := by rw [pinS_length]; exact hlen
      obtain ⟨l5, hl5⟩ : ∃ z, pinS l 0 = z := ⟨_, rfl⟩
      rw [hl5] at d5 h5 hlen5
      have HB5 := Lib.hid (HB.out.trans (k5.below HB.out.size (fun j hj h => Nat.not_le_of_lt hj (HS.out j h))))
      have HS5 : Hid (∀ j, S5 j → w.heap.size ≤ j) := Lib.hid (fun j h => (Nat.lt_or_ge j wr.heap.size).elim (fun hj => HS.out j (m5 j hj h)) (fun hj => Nat.le_trans HB.out.size hj))
      have HD5 := Lib.hid d5
      have he5 : instE l5 0 (a0 + on + 1) = 0 ∧ (instS l5 0 (a0 + on + 1))[0]? = some ⟨b, some a0⟩ := by
        unfold instE instS
        rw [show (0 : Int) = ((0 : Nat) : Int) from rfl, wkAt_nat, h5]
        dsimp only
        rw [if_neg (by omega), if_neg (by omega), Int.toNat_natCast, List.getElem?_set_self (by omega), hb1]
        exact ⟨rfl, rfl⟩
      have hlen6 : (instS l5 0 (a0 + on + 1)).length = 3 := by rw [instS_length]; exact hlen5
      have CI := Lib.hid (fun S' w' (h : PAt w' g S' l5 []) => (show Calls Try.prog 11 #[.pointer (some ⟨g, 0, none⟩), .int .i64 0, .int .u64 (a0 + on + 1)] w' (PDone g S' (.int .i64 0) (instS l5 0 (a0 + on + 1)) [] w') by have h1 := pinst_any l5 [] g S' w' 0 (a0 + on + 1) h; rw [he5.1] at h1; exact h1))
      obtain ⟨l6, hl6⟩ : ∃ z, instS l5 0 (a0 + on + 1) = z := ⟨_, rfl⟩
      rw [hl6] at CI hlen6
      have hz6 : l6[0]? = some ⟨b, some a0⟩ := by rw [← hl6]; exact he5.2
      have CR := Lib.hid (fun S' w' (h : PAt w' g S' l6 []) => (show Calls Try.prog 17 #[.pointer (some ⟨g, 0, none⟩), .agg #[.int .i64 5, .int .u32 77], .int .u64 (a0 + 1)] w' (PDone g S' (.int .i64 0) l6 (oneQ a0) w') from pret_any l6 [] g S' w' 5 77 (a0 + 1) h))
      have HZ6 := Lib.hid hz6
      clear hl5 hl6 he5 d5 k5 m5 HD HS HB HZ hz0 h5 hz6 hb1
      go_wp2_with fail
      obtain ⟨w6, hw6⟩ : ∃ z, z = w5.alloc (.cells #[.int .i64 5, .int .u32 77] 33) := ⟨_, rfl⟩
      have b6 : Below w5.heap.size w5 w6 := by rw [hw6]; exact (Below.refl _ _).alloc (Nat.le_refl _) _
      have HR6 := Lib.hid (show Whole w6 w5.heap.size 33 #[.int .i64 5, .int .u32 77] by rw [hw6]; exact Whole.new w5 _ _)
      have hnR : ¬ S5 w5.heap.size := fun h => Nat.lt_irrefl _ (HD5.out.lt _ h)
      have HD6 := Lib.hid (HD5.out.next b6)
      have HB6 := Lib.hid (HB5.out.trans (b6.mono HB5.out.size))
      obtain ⟨R, hR⟩ : ∃ z, w5.heap.size = z := ⟨_, rfl⟩
      rw [hR] at HR6 hnR
      rw [← hw6, hR]
      clear hw6 b6 HD5 HB5 hR
      refine (CI.out S5 w6 HD6.out).mono ?_
      rintro e w7 ⟨S7, rfl, d7, k7, m7⟩
      have R7 := HR6.out.but k7 hnR
      have HR7 := Lib.hid R7
      have hnR7 : ¬ S7 R := fun h => hnR (m7 _ HR6.out.lt h)
      have HB7 := Lib.hid (HB6.out.trans (k7.below HB6.out.size (fun j hj h => Nat.not_le_of_lt hj (HS5.out j h))))
      have HS7 : Hid (∀ j, S7 j → w.heap.size ≤ j) := Lib.hid (fun j h => (Nat.lt_or_ge j w6.heap.size).elim (fun hj => HS5.out j (m7 j hj h)) (fun hj => Nat.le_trans HB6.out.size hj))
      have HD7 := Lib.hid d7
      have r0 := R7.cell 0
      have r1 := R7.cell 1
      have lR := R7.lt
      clear d7 k7 m7 HR6 hnR HD6 HB6 HS5 CI R7
      go_wp2_with fail
      refine (CR.out S7 w7 HD7.out).mono ?_
      rintro e w8 ⟨S8, rfl, d8, k8, m8⟩
      have H8 := Lib.hid (show Keeps w g R b a0 w8 from ⟨l6, S8, d8, hlen6, HZ6.out, fun j h => (Nat.lt_or_ge j w7.heap.size).elim (fun hj => HS7.out j (m8 j hj h)) (fun hj => Nat.le_trans HB7.out.size hj), HB7.out.trans (k8.below HB7.out.size (fun j hj h => Nat.not_le_of_lt hj (HS7.out j h))), HR7.out.but k8 hnR7, fun h => hnR7 (m8 _ HR7.out.lt h)⟩)
      clear d8 k8 m8 HR7 hnR7 HD7 HB7 HS7 CR r0 r1 lR HZ6 hlen hlen5 hlen6
      go_wp2_with fail
      go_loopw [11] (fun i wr => ∃ k : Nat, k ≤ m ∧ i = .int .i64 (k : Int) ∧ Keeps w g R b a0 wr) (fun i _ => m - (intOf i).toNat)
      case atStart => exact ⟨0, Nat.zero_le _, rfl, H8.out⟩
      case round =>
        clear H8
        obtain ⟨k, hk, rfl, hK⟩ := hrel
        have HK := Lib.hid hK
        clear hK
        by_cases hlt : k < m
        · obtain ⟨ga, oa, rfl, hga, hca⟩ := HR.out (by omega)
          obtain ⟨x, hx⟩ : ∃ x, ps[k]? = some x := ⟨_, List.getElem?_eq_getElem (by rw [HM.out]; exact hlt)⟩
          have HC := Lib.hid (fun w' b => And.intro (hca w' b k x 0 _ hx rfl) (And.intro (hca w' b k x 1 _ hx rfl) (And.intro (hca w' b k x 2 _ hx rfl) (And.intro (hca w' b k x 3 _ hx rfl) (hca w' b k x 4 _ hx rfl)))))
          clear hca hx
          have i0 : (0 : Int) ≤ (k : Int) := by omega
          have i1 : (k : Int) < (m : Int) := by omega
          obtain ⟨kind, who, ep, rs, rt⟩ := x
          dsimp only at HC
          obtain ⟨l, S, hd, hln, hz, hs, hbl, hrw, hnr⟩ := HK.out
          obtain ⟨a0c, a1, a2, a3, a4⟩ := HC.out wr hbl
          rw [Nat.add_zero] at a0c
          have hgz := hbl.size
          have hgo : ga < wr.heap.size := by omega
          go_upto_region 19 with fail
          obtain ⟨wo, hwo⟩ : ∃ z, z = wr.alloc (.cells #[.int .i64 kind, .int .i64 who, .int .u64 ep, .int .i64 rs, .int .u32 rt] 35) := ⟨_, rfl⟩
          have hbo : Below wr.heap.size wr wo := by rw [hwo]; exact (Below.refl _ _).alloc (Nat.le_refl _) _
          have HD := Lib.hid (hd.next hbo)
          have HB := Lib.hid (hbl.trans (hbo.mono hbl.size))
          have HS := Lib.hid hs
          have HRW := Lib.hid (hrw.below hbo hrw.lt)
          have HNR := Lib.hid hnr
          have HX := show Whole wo wr.heap.size 35 #[.int .i64 kind, .int .i64 who, .int .u64 ep, .int .i64 rs, .int .u32 rt] by rw [hwo]; exact Whole.new wr _ _
          have HZL := Lib.hid (And.intro hln hz)
          have HF0 := Lib.hid (show Keeps w g R b a0 wo from ⟨l, S, HD.out, hln, hz, hs, HB.out, HRW.out, hnr⟩)
          rw [← hwo]
          obtain ⟨X, hX⟩ : ∃ z, wr.heap.size = z := ⟨_, rfl⟩
          rw [hX] at HX ⊢
          clear hwo hd hbl hs hrw hnr hbo HK a0c a1 a2 a3 a4 hX hgz hgo hln hz HC
          have x0 := HX.cell 0
          have x1 := HX.cell 1
          have x2 := HX.cell 2
          have x3 := HX.cell 3
          have x4 := HX.cell 4
          have lX := HX.lt
          clear HX
          by_cases hw0 : who = 0
          · subst hw0
            clear HD HB HS HRW HNR HZL
            go_wp2_with fail
            go_roundw
            case rel => exact ⟨k + 1, by omega, by go_num, HF0.out⟩
            case measure => simp [intOf]; omega
          · clear HF0
            by_cases h01 : kind = 0 ∨ kind = 1
            · rcases h01 with rfl | rfl
              all_goals
                go_wp2_with fail
                refine (pinst_any l (oneQ a0) g S wo who _ HD.out).mono ?_
                rintro e w5 ⟨S5, rfl, d5, k5, m5⟩
                have HF := Lib.hid (show Keeps w g R b a0 w5 from ⟨_, S5, d5, by rw [instS_length]; exact HZL.out.1, by rw [inst_zero hw0]; exact HZL.out.2, fun j h => (Nat.lt_or_ge j wo.heap.size).elim (fun hj => HS.out j (m5 j hj h)) (fun hj => Nat.le_trans HB.out.size hj), HB.out.trans (k5.below HB.out.size (fun j hj h => Nat.not_le_of_lt hj (HS.out j h))), HRW.out.but k5 HNR.out, fun h => HNR.out (m5 _ HRW.out.lt h)⟩)
                clear d5 k5 m5 HD HS HB HRW HNR
                go_wp2_with fail
                go_roundw
                case rel => exact ⟨k + 1, by omega, by go_num, HF.out⟩
                case measure => simp [intOf]; omega
            · have z0 : ¬ kind = 0 := fun h => h01 (.inl h)
              have z1 : ¬ kind = 1 := fun h => h01 (.inr h)
              clear h01
              by_cases h2 : kind = 2
              · subst h2
                go_wp2_with fail
                refine (ppin_any l (oneQ a0) g S wo who HD.out).mono ?_
                rintro e w5 ⟨S5, rfl, d5, k5, m5⟩
                have HF := Lib.hid (show Keeps w g R b a0 w5 from ⟨_, S5, d5, by rw [pinS_length]; exact HZL.out.1, by rw [pin_zero hw0]; exact HZL.out.2, fun j h => (Nat.lt_or_ge j wo.heap.size).elim (fun hj => HS.out j (m5 j hj h)) (fun hj => Nat.le_trans HB.out.size hj), HB.out.trans (k5.below HB.out.size (fun j hj h => Nat.not_le_of_lt hj (HS.out j h))), HRW.out.but k5 HNR.out, fun h => HNR.out (m5 _ HRW.out.lt h)⟩)
                clear d5 k5 m5 HD HS HB HRW HNR
                go_wp2_with fail
                go_roundw
                case rel => exact ⟨k + 1, by omega, by go_num, HF.out⟩
                case measure => simp [intOf]; omega
              · by_cases h3 : kind = 3
                · subst h3
                  go_wp2_with fail
                  refine (punpin_any l (oneQ a0) g S wo who HD.out).mono ?_
                  rintro e w5 ⟨S5, rfl, d5, k5, m5⟩
                  have HF := Lib.hid (show Keeps w g R b a0 w5 from ⟨_, S5, d5, by rw [unpS_length]; exact HZL.out.1, by rw [unp_zero hw0]; exact HZL.out.2, fun j h => (Nat.lt_or_ge j wo.heap.size).elim (fun hj => HS.out j (m5 j hj h)) (fun hj => Nat.le_trans HB.out.size hj), HB.out.trans (k5.below HB.out.size (fun j hj h => Nat.not_le_of_lt hj (HS.out j h))), HRW.out.but k5 HNR.out, fun h => HNR.out (m5 _ HRW.out.lt h)⟩)
                  clear d5 k5 m5 HD HS HB HRW HNR
                  go_wp2_with fail
                  go_roundw
                  case rel => exact ⟨k + 1, by omega, by go_num, HF.out⟩
                  case measure => simp [intOf]; omega
                · have CS := Lib.hid (psweep_any l (oneQ a0) g S wo HD.out)
                  unfold PSwept at CS
                  rw [(held HZL.out.2).1, (held HZL.out.2).2] at CS
                  go_wp2_with fail
                  refine CS.out.mono ?_
                  rintro e w5 ⟨A5, c5, S5, rfl, row5, d5, k5, m5⟩
                  have CW := Lib.hid (show Calls Try.prog 22 #[.pointer (some ⟨g, 0, none⟩)] w5 (fun e w' => e = .returned (.int .i64 1) ∧ Below w5.heap.size w5 w') from pwait_any l (oneQ a0) g S5 w5 d5)
                  have HF := Lib.hid (fun w' (bb : Below w5.heap.size w5 w') => show Keeps w g R b a0 w' from ⟨l, S5, d5.next bb, HZL.out.1, HZL.out.2, fun j h => (Nat.lt_or_ge j wo.heap.size).elim (fun hj => HS.out j (m5 j hj h)) (fun hj => Nat.le_trans HB.out.size hj), (HB.out.trans (k5.below HB.out.size (fun j hj h => Nat.not_le_of_lt hj (HS.out j h)))).trans (bb.mono (by have := HB.out.size; have := k5.size; omega)), (HRW.out.but k5 HNR.out).below bb (HRW.out.but k5 HNR.out).lt, fun h => HNR.out (m5 _ HRW.out.lt h)⟩)
                  clear d5 k5 m5 row5 HD HS HB HRW HNR CS x0 x1 x2 x3 x4 lX
                  go_wp2_with fail
                  refine CW.out.mono ?_
                  rintro e w6 ⟨rfl, b6⟩
                  have HE := Lib.hid (HF.out w6 b6)
                  clear b6 HF CW
                  go_wp2_with fail
                  go_roundw
                  case rel => exact ⟨k + 1, by omega, by go_num, HE.out⟩
                  case measure => simp [intOf]; omega
        · obtain rfl : k = m := by omega
          obtain ⟨l, S, hd, hln, hz, hs, hbl, hrw, hnr⟩ := HK.out
          have H9 := Lib.hid (show ∃ l S, PAt wr g S l (oneQ a0) ∧ l.length = 3 ∧ (∀ (j : Nat) (z : Wk), j < 0 → l[j]? = some z → z.sees = none ∧ 4611686018427387904 ≤ z.at') ∧ (∀ j, S j → w.heap.size ≤ j) ∧ Below w.heap.size w wr ∧ Whole wr R 33 #[.int .i64 5, .int .u32 77] ∧ ¬ S R from ⟨l, S, hd, hln, fun j z h => by omega, hs, hbl, hrw, hnr⟩)
          clear hd hs hbl hrw hnr HK hz hln
          go_wp2_with fail
          go_loopw [13] (fun i wr => ∃ k : Nat, k ≤ 3 ∧ i = .int .i64 (k : Int) ∧ ∃ l S, PAt wr g S l (oneQ a0) ∧ l.length = 3 ∧ (∀ (j : Nat) (z : Wk), j < k → l[j]? = some z → z.sees = none ∧ 4611686018427387904 ≤ z.at') ∧ (∀ j, S j → w.heap.size ≤ j) ∧ Below w.heap.size w wr ∧ Whole wr R 33 #[.int .i64 5, .int .u32 77] ∧ ¬ S R) (fun i _ => 3 - (intOf i).toNat)
          case atStart => exact ⟨0, Nat.zero_le _, rfl, H9.out⟩
          case round =>
            clear H9
            obtain ⟨i, hi, rfl, l, S, hd, hln, hz, hs, hbl, hrw, hnr⟩ := hrel
            have HD := Lib.hid hd
            have HB := Lib.hid hbl
            have HS := Lib.hid hs
            have HRW := Lib.hid hrw
            have HNR := Lib.hid hnr
            have HZ := Lib.hid hz
            clear hd hbl hs hrw hnr hz
            by_cases hi3 : i < 3
            · have hi3' : (i : Int) < 3 := by omega
              obtain ⟨y, hy⟩ : ∃ y, l[i]? = some y := ⟨_, List.getElem?_eq_getElem (by omega)⟩
              have HFR := Lib.hid (freed hy 4611686018427387904)
              have HLZ := Lib.hid hln
              clear hy hln
              go_wp2_with fail
              refine (punpin_any l (oneQ a0) g S wr i HD.out).mono ?_
              rintro e w5 ⟨S5, rfl, d5, k5, m5⟩
              have HD5 := Lib.hid d5
              have HR5 := Lib.hid (HRW.out.but k5 HNR.out)
              have HN5 := Lib.hid (show ¬ S5 R from fun h => HNR.out (m5 _ HRW.out.lt h))
              have HB5 := Lib.hid (HB.out.trans (k5.below HB.out.size (fun j hj h => Nat.not_le_of_lt hj (HS.out j h))))
              have HS5 : Hid (∀ j, S5 j → w.heap.size ≤ j) := Lib.hid (fun j h => (Nat.lt_or_ge j wr.heap.size).elim (fun hj => HS.out j (m5 j hj h)) (fun hj => Nat.le_trans HB.out.size hj))
              clear d5 k5 m5 HD HB HS HRW HNR
              go_wp2_with fail
              refine (pinst_any (unpS l i) (oneQ a0) g S5 w5 i 4611686018427387904 HD5.out).mono ?_
              rintro e w6 ⟨S6, rfl, d6, k6, m6⟩
              have HF := Lib.hid (show ∃ l S, PAt w6 g S l (oneQ a0) ∧ l.length = 3 ∧ (∀ (j : Nat) (z : Wk), j < i + 1 → l[j]? = some z → z.sees = none ∧ 4611686018427387904 ≤ z.at') ∧ (∀ j, S j → w.heap.size ≤ j) ∧ Below w.heap.size w w6 ∧ Whole w6 R 33 #[.int .i64 5, .int .u32 77] ∧ ¬ S R from
                ⟨_, S6, d6, by rw [instS_length, unpS_length]; exact HLZ.out, fun j z hj hjz => by
                  by_cases hji : i = j
                  · subst hji
                    obtain ⟨z2, e2, e3, e4⟩ := HFR.out
                    rw [e2] at hjz
                    injection hjz with hjz
                    rw [← hjz]
                    exact ⟨e3, e4⟩
                  · rw [inst_other hji, unp_other hji] at hjz
                    exact HZ.out j z (by omega) hjz, fun j h => (Nat.lt_or_ge j w5.heap.size).elim (fun hj => HS5.out j (m6 j hj h)) (fun hj => Nat.le_trans HB5.out.size hj), HB5.out.trans (k6.below HB5.out.size (fun j hj h => Nat.not_le_of_lt hj (HS5.out j h))), HR5.out.but k6 HN5.out, fun h => HN5.out (m6 _ HR5.out.lt h)⟩)
              clear d6 k6 m6 HD5 HR5 HN5 HB5 HS5 HFR HZ HLZ
              go_wp2_with fail
              go_roundw
              case rel => exact ⟨i + 1, by omega, by go_num, HF.out⟩
              case measure => simp [intOf]; omega
            · obtain rfl : i = 3 := by omega
              have hgone := gone (l := l) (a := a0) (M := 4611686018427387904) (ne_of_len (by omega)) (fun k hk => by
                obtain ⟨j, hj⟩ := List.mem_iff_getElem?.1 hk
                exact HZ.out j k (by have := (List.getElem?_eq_some_iff.1 hj).1; omega) hj) (by omega)
              have CS := Lib.hid (psweep_any l (oneQ a0) g S wr HD.out)
              unfold PSwept at CS
              rw [hgone] at CS
              clear hgone HZ
              go_wp2_with fail
              refine CS.out.mono ?_
              rintro e w5 ⟨A5, c5, S5, rfl, row5, d5, k5, m5⟩
              obtain ⟨gm, om, rfl, hgm, hcm⟩ := row5.2 (by show 0 < 1; decide)
              have u0 : w5.cell? ⟨gm, om + 0, none⟩ = some (.int .i64 5) := hcm 0 _ rfl
              have u1 : w5.cell? ⟨gm, om + 1, none⟩ = some (.int .u32 77) := hcm 1 _ rfl
              rw [Nat.add_zero] at u0
              have R5 := HRW.out.but k5 HNR.out
              have r0 := R5.cell 0
              have r1 := R5.cell 1
              have lR := R5.lt
              have EQ := fun w : World => eql_ref16 w 5 77 5 77 true rfl
              have HF := Lib.hid (HB.out.trans (k5.below HB.out.size (fun j hj h => Nat.not_le_of_lt hj (HS.out j h))))
              have hone : (oneQ a0).length = 1 := rfl
              rw [hone]
              clear d5 k5 m5 row5 hcm R5 HD HB HS HRW HNR CS hone
              go_wp2_with fail
              go_region
              go_wp2_with fail
              go_ret
              exact ⟨rfl, HF.out.drew⟩

set_option maxRecDepth 100000 in
theorem lifted (os : Os) (started : os.Started) (H : Type) (enc : TypeId × Value → H) :
    ReturnsInHanded {} Try.checked os 7 .any (Rows.pinsHeldSpec.pre6 enc Try.prog Try.f7 Rows.pinsHeldRow.domain false) (Rows.pinsHeldSpec.post enc Try.prog Try.f7 false true false false) := by
  refine returnsInHanded_of_change (C := Try.checked) own started (by kernel_rfl) Try.func7
    (ChangeSpec.witness6 (enc := enc) (C := Try.checked) false ⟨#[], #[.int .u64 0, .int .u64 0, .slice none 0 0], []⟩ 8 (by kernel_rfl) (by kernel_rfl) (by kernel_rfl) (by kernel_rfl)) ?_
  intro W base args ds gs before hval0 hW _ _
  have hval : ∀ (j : Nat) t v, Try.f7.params[j]? = some t → args[j]? = some v → Value.okWide Try.prog W .any base t v := hval0
  have hW' := hW
  obtain ⟨p, q, hA0, hV, _, _, _⟩ := hW
  have hA : DataW.TrodAll enc Try.prog W 0 (fun _ => true) true Try.f7.params.toList args.toList ds p := hA0
  rw [Try.params7] at hA hval
  obtain ⟨v0, vs0, d0, ds0, p0, q0, hargs, rfl, _, h0, r0⟩ := trodAll_cons hA
  obtain ⟨v1, vs1, d1, ds1, p1, q1, rfl, rfl, _, h1, r1⟩ := trodAll_cons r0
  obtain ⟨v2, vs2, d2, ds2, p2, q2, rfl, rfl, _, h2, r2⟩ := trodAll_cons r1
  obtain ⟨rfl, rfl, _⟩ := trodAll_nil r2
  obtain rfl : args = #[v0, v1, v2] := by cases args; simp_all
  obtain ⟨rfl, _⟩ := trodVars_none hV
  refine law_post (s := Rows.pinsHeldSpec) rfl rfl (by rw [Try.params7]; intro t ht; simp at ht; rcases ht with rfl | rfl | rfl <;> exact ⟨by kernel_rfl, of_decide_eq_true (by kernel_rfl)⟩) rfl hW' ?_
  obtain ⟨a0, rfl, _, _, w0⟩ := open_int Try.underlying30 (hval 0 30 v0 rfl rfl) h0
  obtain ⟨a1, rfl, _, _, w1⟩ := open_int Try.underlying30 (hval 1 30 v1 rfl rfl) h1
  obtain ⟨A2, c2, l2, rfl, hl2, hr2, ho2⟩ := open_acts16 (hval 2 22 v2 rfl rfl) h2
  exact walk W a0 w0 a1 w1 A2 c2 l2 hl2 hr2 ho2

theorem over : Rows.pinsHeldRow.holds Try.pinned (OpenSpec.ofChange Rows.pinsHeldSpec) :=
  OpenClaim.holds_of_wide 7 Try.f7 rfl rfl rfl rfl rfl rfl rfl ⟨rfl, rfl, rfl, rfl, rfl⟩ rfl rfl rfl rfl rfl (by kernel_rfl) Try.func7 (by kernel_rfl)
    (of_decide_eq_true (by kernel_rfl)) (by unfold Func.isWrapper; first | (rw [if_pos (by decide +kernel)]; kernel_rfl) | (rw [if_neg (by decide +kernel)]; exact ⟨rfl, rfl⟩))
    (fun os started H enc _ => lifted os started H enc)

/-- The statement. -/
theorem pinsHeld_holds : Rows.PinsHeldSaid := over

end Go.Proofs.Ytgacejencnkpmaa.PHeld
