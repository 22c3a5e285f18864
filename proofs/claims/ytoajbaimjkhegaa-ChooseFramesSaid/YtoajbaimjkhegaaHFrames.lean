/-
  Proved: ChooseFrames returns true for every state, every packet, and whatever is wanted meanwhile: all packets of a frame of one temporal layer are sent, or none, where the first one alone tells that it begins. Conditions: none.
-/
import Derived.Test.YtoajbaimjkhegaaChD
import Derived.Test.YtoajbaimjkhegaaChO
import Derived.Test.YtoajbaimjkhegaaLift
import Derived.Test.YtoajbaimjkhegaaHang
import Derived.Deep.CutBlock
namespace Go.Proofs.Ytoajbaimjkhegaa.HFrames
open Go.ChangeShapes Go.WideShapes Go.ChangeAt Go.RowKit
set_option linter.unusedSimpArgs false
set_option linter.unusedVariables false

set_option maxRecDepth 100000 in
set_option maxHeartbeats 6400000 in
theorem walk (w : World) (s : Cs) (x : Cx) (A : Option Addr) (c : Nat) (l : List Cw) (hl : l.length ≤ maxLen) (hr : Row w w.heap.size 3 A l.length (rowC wantCs l)) :
    Calls Try.prog 6 #[.agg s.cells, .agg x.cells, .slice A l.length c] w fun e w' => e = .returned (.bool true) ∧ Below w.heap.size w w' := by
  unfold maxLen at hl
  obtain ⟨n, hn⟩ : ∃ n, l.length = n := ⟨_, rfl⟩
  rw [hn] at hl hr ⊢
  have CA := Lib.hid (fun w => awake_any w)
  have HR := Lib.hid hr
  have HN := Lib.hid hn
  clear hr hn
  obtain ⟨on, ss, sl, st⟩ := s
  obtain ⟨xs, xl, beg, who, has, xt, syn⟩ := x
  dsimp only [Cs.cells, Cx.cells]
  have S0 := Lib.hid ((Whole.new w 23 #[.bool on, .int .i64 ss, .int .i64 sl, .int .i64 st]).alloc (.cells #[.int .i64 xs, .int .i64 xl, .bool beg, .bool who, .bool has, .int .i64 xt, .bool syn] 25))
  have X0 := Lib.hid (Whole.new2 w (.cells #[.bool on, .int .i64 ss, .int .i64 sl, .int .i64 st] 23) 25 #[.int .i64 xs, .int .i64 xl, .bool beg, .bool who, .bool has, .int .i64 xt, .bool syn])
  have B0 := Lib.hid (((Below.refl w.heap.size w).alloc (Nat.le_refl _) (.cells #[.bool on, .int .i64 ss, .int .i64 sl, .int .i64 st] 23)).alloc (by simp) (.cells #[.int .i64 xs, .int .i64 xl, .bool beg, .bool who, .bool has, .int .i64 xt, .bool syn] 25))
  go_enter Try.func6, Try.ntmps6
  go_wp2_with fail
  refine (CA.out _).mono ?_
  rintro e w1 ⟨rfl, b1⟩
  have S1 := S0.out.below b1 S0.out.lt
  have X1 := X0.out.below b1 X0.out.lt
  have HB := Lib.hid (B0.out.trans (b1.mono B0.out.size))
  have k0 := S1.cell 0
  have k1 := S1.cell 1
  have k2 := S1.cell 2
  have k3 := S1.cell 3
  have x0 := X1.cell 0
  have x1 := X1.cell 1
  have x2 := X1.cell 2
  have x3 := X1.cell 3
  have x4 := X1.cell 4
  have x5 := X1.cell 5
  have x6 := X1.cell 6
  have HS := Lib.hid S1
  have HX := Lib.hid X1
  have hl1 := X1.lt
  clear b1 S0 X0 B0 CA S1 X1
  by_cases h1 : 60 < n
  · go_wp2
    go_ret
    exact ⟨rfl, HB.out⟩
  by_cases h2 : n = 0
  · have h3 : ((n : Int) == 0) = true := by simp [h2]
    clear h2
    go_wp2
    go_ret
    exact ⟨rfl, HB.out⟩
  have h3 : ((n : Int) == 0) = false := by simp [h2]
  have h4 : 0 < n := by omega
  cases on with
  | false =>
    go_wp2
    go_ret
    exact ⟨rfl, HB.out⟩
  | true =>
    by_cases c1 : xs = ss
    case neg =>
      have d1 : (xs != ss) = true := by simpa using c1
      clear c1
      go_wp2
      go_ret
      exact ⟨rfl, HB.out⟩
    by_cases c2 : xl = sl
    case neg =>
      have d1 : (xs != ss) = false := by simp [c1]
      have d2 : (xl != sl) = true := by simpa using c2
      clear c1 c2
      go_wp2
      go_ret
      exact ⟨rfl, HB.out⟩
    have d1 : (xs != ss) = false := by simp [c1]
    have d2 : (xl != sl) = false := by simp [c2]
    obtain ⟨u, hu⟩ : ∃ u, l[0]? = some u := ⟨l[0]'(by rw [HN.out]; omega), by simp⟩
    obtain ⟨g, o, rfl, hg0, hat⟩ := row_at wantCs_length HR.out (by omega)
    have how : Cs.own ⟨true, ss, sl, st⟩ ⟨xs, xl, true, who, has, xt, syn⟩ = true := Cs.own_iff.2 ⟨rfl, c1, c2⟩
    obtain ⟨td, htd⟩ : ∃ d, Cs.tidS ⟨true, ss, sl, st⟩ ⟨xs, xl, true, who, has, xt, syn⟩ u = d := ⟨_, rfl⟩
    have hnx := Cs.next_own (w := u) how
    have hkd := Cs.kind_own (w := u) how
    rw [htd] at hnx hkd
    obtain ⟨kd, hkk⟩ : ∃ k : Int, (if has = true ∧ td < xt then 2 else 1) = k := ⟨_, rfl⟩
    dsimp only at hnx hkd
    rw [hkk] at hkd
    have C := fun w => ct_lit _ _ _ true ss sl td kd hnx hkd w
    have D : Hid (∀ (v : Cw) w, Calls Try.prog 10 #[.agg #[.bool true, .int .i64 ss, .int .i64 sl, .int .i64 td], .agg #[.int .i64 xs, .int .i64 xl, .bool false, .bool who, .bool has, .int .i64 xt, .bool syn], .agg v.cells] w fun e w' => e = .returned (.tuple #[.agg #[.bool true, .int .i64 ss, .int .i64 sl, .int .i64 td], .int .i64 kd]) ∧ Below w.heap.size w w') := Lib.hid (fun v w => by
      have how2 : Cs.own ⟨true, ss, sl, td⟩ ⟨xs, xl, false, who, has, xt, syn⟩ = true := Cs.own_iff.2 ⟨rfl, c1, c2⟩
      have n2 := Cs.next_own (w := v) how2
      have k2 := Cs.kind_own (w := v) how2
      rw [Cs.tidS_still rfl] at n2 k2
      exact ct_lit _ _ _ true ss sl td kd n2 (k2.trans hkk) w)
    have hk12 : kd = 1 ∨ kd = 2 := by rw [← hkk]; split <;> simp
    have HE := fun w => neq_state w ⟨true, ss, sl, td⟩
    dsimp only [Cs.cells, Cx.cells, Cw.cells] at C HE
    have C := Lib.hid C
    have HAT := Lib.hid hat
    have HU := Lib.hid hu
    clear c1 c2 how htd hnx hkd hkk hat hu
    obtain ⟨ws, wl, wt⟩ := u
    dsimp only at C HU
    have hgx := HX.out.free 2
    have HS6 := Lib.hid (HS.out.far (p := ⟨w.heap.size + 1, 2, none⟩) (show w.heap.size ≠ w.heap.size + 1 by omega) (.bool true))
    have HX6 := Lib.hid (HX.out.set 2 (.bool true))
    have HB6 := Lib.hid (HB.out.setCell (p := ⟨w.heap.size + 1, 2, none⟩) (Nat.le_succ _) (.bool true))
    go_upto_region 7 with fail
    obtain ⟨wo, hwo⟩ : ∃ wo, wo = w1.setCell ⟨w.heap.size + 1, 2, none⟩ (.bool true) := ⟨_, rfl⟩
    rw [← hwo] at HS6 HX6 HB6 ⊢
    clear hwo k0 k1 k2 k3 x0 x1 x2 x3 x4 x5 x6 hgx HS HX HB hl1 d1 d2
    have hR1 := Lib.hid (fun w' (b' : Below wo.heap.size wo w') => show w'.cell? ⟨g, o, none⟩ = some (.int .i64 ws) ∧ w'.cell? ⟨g, o + 1, none⟩ = some (.int .i64 wl) ∧ w'.cell? ⟨g, o + 2, none⟩ = some (.int .i64 wt) from by
      have hb := HB6.out.trans (b'.mono HB6.out.size)
      have r0 := HAT.out w' hb 0 _ 0 _ HU.out rfl
      have r1 := HAT.out w' hb 0 _ 1 _ HU.out rfl
      have r2 := HAT.out w' hb 0 _ 2 _ HU.out rfl
      rw [Nat.zero_mul, Nat.add_zero] at r0 r1 r2
      exact ⟨r0, r1, r2⟩)
    have K6 := Lib.hid (fun w' (b' : Below wo.heap.size wo w') => show (fun w' => w'.cell? ⟨w.heap.size, 0, none⟩ = some (.bool true) ∧ w'.cell? ⟨w.heap.size, 1, none⟩ = some (.int .i64 ss) ∧ w'.cell? ⟨w.heap.size, 2, none⟩ = some (.int .i64 sl) ∧ w'.cell? ⟨w.heap.size, 3, none⟩ = some (.int .i64 st) ∧ w'.cell? ⟨(w.heap.size + 1), 0, none⟩ = some (.int .i64 xs) ∧ w'.cell? ⟨(w.heap.size + 1), 1, none⟩ = some (.int .i64 xl) ∧ w'.cell? ⟨(w.heap.size + 1), 2, none⟩ = some (.bool true) ∧ w'.cell? ⟨(w.heap.size + 1), 3, none⟩ = some (.bool who) ∧ w'.cell? ⟨(w.heap.size + 1), 4, none⟩ = some (.bool has) ∧ w'.cell? ⟨(w.heap.size + 1), 5, none⟩ = some (.int .i64 xt) ∧ w'.cell? ⟨(w.heap.size + 1), 6, none⟩ = some (.bool syn) ∧ w'.cell? ⟨g, o, none⟩ = some (.int .i64 ws) ∧ w'.cell? ⟨g, o + 1, none⟩ = some (.int .i64 wl) ∧ w'.cell? ⟨g, o + 2, none⟩ = some (.int .i64 wt)) w' from ⟨(HS6.out.below b' HS6.out.lt).cell 0, (HS6.out.below b' HS6.out.lt).cell 1, (HS6.out.below b' HS6.out.lt).cell 2, (HS6.out.below b' HS6.out.lt).cell 3, (HX6.out.below b' HX6.out.lt).cell 0, (HX6.out.below b' HX6.out.lt).cell 1, (HX6.out.below b' HX6.out.lt).cell 2, (HX6.out.below b' HX6.out.lt).cell 3, (HX6.out.below b' HX6.out.lt).cell 4, (HX6.out.below b' HX6.out.lt).cell 5, (HX6.out.below b' HX6.out.lt).cell 6, (hR1.out _ b').1, (hR1.out _ b').2.1, (hR1.out _ b').2.2⟩)
    go_cut [8, 9] (fun p v wx => ∃ gq : Nat, p = .pointer (some ⟨gq, 0, none⟩) ∧ wo.heap.size ≤ gq ∧ v = .int .i64 kd ∧ Whole wx gq 23 #[.bool true, .int .i64 ss, .int .i64 sl, .int .i64 td] ∧ Below wo.heap.size wo wx)
    case first =>
      refine wp_region_X (S := fun w' => w'.cell? ⟨w.heap.size, 0, none⟩ = some (.bool true) ∧ w'.cell? ⟨w.heap.size, 1, none⟩ = some (.int .i64 ss) ∧ w'.cell? ⟨w.heap.size, 2, none⟩ = some (.int .i64 sl) ∧ w'.cell? ⟨w.heap.size, 3, none⟩ = some (.int .i64 st) ∧ w'.cell? ⟨(w.heap.size + 1), 0, none⟩ = some (.int .i64 xs) ∧ w'.cell? ⟨(w.heap.size + 1), 1, none⟩ = some (.int .i64 xl) ∧ w'.cell? ⟨(w.heap.size + 1), 2, none⟩ = some (.bool true) ∧ w'.cell? ⟨(w.heap.size + 1), 3, none⟩ = some (.bool who) ∧ w'.cell? ⟨(w.heap.size + 1), 4, none⟩ = some (.bool has) ∧ w'.cell? ⟨(w.heap.size + 1), 5, none⟩ = some (.int .i64 xt) ∧ w'.cell? ⟨(w.heap.size + 1), 6, none⟩ = some (.bool syn) ∧ w'.cell? ⟨g, o, none⟩ = some (.int .i64 ws) ∧ w'.cell? ⟨g, o + 1, none⟩ = some (.int .i64 wl) ∧ w'.cell? ⟨g, o + 2, none⟩ = some (.int .i64 wt)) [] (by kernel_rfl) (K6.out _ (Below.refl _ _).drew) (fun hHeld0 => ?_)
      refine wpAnyX_take (i := 0) [] (v := ?_) rfl (by kernel_rfl) (by kernel_rfl) (by kernel_rfl) (by kernel_rfl) (fun _ _ _ h => h) (Or.inl ⟨by kernel_rfl, ?_⟩) (by assumption) ?_
      rotate_left 1
      · (intro w hSw; obtain ⟨m0, m1, m2, m3, m4, m5, m6, m7, m8, m9, m10, m11, m12, m13⟩ := hSw; go_simp; try (with_reducible rfl))
      (try simp only [Act.put, List.getElem_toArray, List.getElem_cons_succ, List.getElem_cons_zero, List.setIfInBounds_toArray, List.set_cons_zero, List.set_cons_succ])
      refine wpAnyX_take (i := 1) [] (v := ?_) rfl (by kernel_rfl) (by kernel_rfl) (by kernel_rfl) (by kernel_rfl) (fun _ _ _ h => h) (Or.inl ⟨by kernel_rfl, ?_⟩) (by assumption) ?_
      rotate_left 1
      · (intro w hSw; obtain ⟨m0, m1, m2, m3, m4, m5, m6, m7, m8, m9, m10, m11, m12, m13⟩ := hSw; go_simp; try (with_reducible rfl))
      (try simp only [Act.put, List.getElem_toArray, List.getElem_cons_succ, List.getElem_cons_zero, List.setIfInBounds_toArray, List.set_cons_zero, List.set_cons_succ])
      refine wpAnyX_take (i := 2) [] (v := ?_) rfl (by kernel_rfl) (by kernel_rfl) (by kernel_rfl) (by kernel_rfl) (fun _ _ _ h => h) (Or.inl ⟨by kernel_rfl, ?_⟩) (by assumption) ?_
      rotate_left 1
      · (intro w hSw; obtain ⟨m0, m1, m2, m3, m4, m5, m6, m7, m8, m9, m10, m11, m12, m13⟩ := hSw; go_simp; try (with_reducible rfl))
      (try simp only [Act.put, List.getElem_toArray, List.getElem_cons_succ, List.getElem_cons_zero, List.setIfInBounds_toArray, List.set_cons_zero, List.set_cons_succ])
      refine wpAnyX_take (i := 3) [] (v := ?_) rfl (by kernel_rfl) (by kernel_rfl) (by kernel_rfl) (by kernel_rfl) (fun _ _ _ h => h) (Or.inl ⟨by kernel_rfl, ?_⟩) (by assumption) ?_
      rotate_left 1
      · (intro w hSw; obtain ⟨m0, m1, m2, m3, m4, m5, m6, m7, m8, m9, m10, m11, m12, m13⟩ := hSw; go_simp; try (with_reducible rfl))
      (try simp only [Act.put, List.getElem_toArray, List.getElem_cons_succ, List.getElem_cons_zero, List.setIfInBounds_toArray, List.set_cons_zero, List.set_cons_succ])
      refine wpAnyX_take (i := 4) [] (v := ?_) rfl (by kernel_rfl) (by kernel_rfl) (by kernel_rfl) (by kernel_rfl) (fun _ _ _ h => h) (Or.inl ⟨by kernel_rfl, ?_⟩) (by assumption) ?_
      rotate_left 1
      · (intro w hSw; obtain ⟨m0, m1, m2, m3, m4, m5, m6, m7, m8, m9, m10, m11, m12, m13⟩ := hSw; go_simp; try (with_reducible rfl))
      (try simp only [Act.put, List.getElem_toArray, List.getElem_cons_succ, List.getElem_cons_zero, List.setIfInBounds_toArray, List.set_cons_zero, List.set_cons_succ])
      refine wpAnyX_two 5 9 (by kernel_rfl) rfl rfl (fun K hK => ?_) (fun K hK => ?_)
      · go_simp
        go_wp2_with (refine (C.out _).mono ?_; rintro e v1 ⟨rfl, b1⟩)
        have B1 := ((Below.refl wo.heap.size wo).drew).trans (b1.mono ((Below.refl wo.heap.size wo).drew).size)
        refine hK.out _ _ (.inr (K6.out _ B1)) ?_
        have hHeld := K6.out _ B1
        clear hK K
        (try simp only [Act.put, List.getElem_toArray, List.getElem_cons_succ, List.getElem_cons_zero, List.setIfInBounds_toArray, List.set_cons_zero, List.set_cons_succ])
        refine wpAnyX_take (i := 6) [] (v := ?_) rfl (by kernel_rfl) (by kernel_rfl) (by kernel_rfl) (by kernel_rfl) (fun _ _ _ h => h) (Or.inl ⟨by kernel_rfl, ?_⟩) (by assumption) ?_
        rotate_left 1
        · (intro w hSw; obtain ⟨m0, m1, m2, m3, m4, m5, m6, m7, m8, m9, m10, m11, m12, m13⟩ := hSw; go_simp; try (with_reducible rfl))
        (try simp only [Act.put, List.getElem_toArray, List.getElem_cons_succ, List.getElem_cons_zero, List.setIfInBounds_toArray, List.set_cons_zero, List.set_cons_succ])
        refine wpAnyX_take (i := 7) [] (v := ?_) rfl (by kernel_rfl) (by kernel_rfl) (by kernel_rfl) (by kernel_rfl) (fun _ _ _ h => h) (Or.inl ⟨by kernel_rfl, ?_⟩) (by assumption) ?_
        rotate_left 1
        · (intro w hSw; obtain ⟨m0, m1, m2, m3, m4, m5, m6, m7, m8, m9, m10, m11, m12, m13⟩ := hSw; go_simp; try (with_reducible rfl))
        (try simp only [Act.put, List.getElem_toArray, List.getElem_cons_succ, List.getElem_cons_zero, List.setIfInBounds_toArray, List.set_cons_zero, List.set_cons_succ])
        refine wpAnyX_take (i := 8) [] (v := ?_) rfl (by kernel_rfl) (by kernel_rfl) (by kernel_rfl) (by kernel_rfl) (fun _ _ _ h => h) (Or.inl ⟨by kernel_rfl, ?_⟩) (by assumption) ?_
        rotate_left 1
        · (intro w hSw; obtain ⟨m0, m1, m2, m3, m4, m5, m6, m7, m8, m9, m10, m11, m12, m13⟩ := hSw; go_simp; try (with_reducible rfl))
        (try simp only [Act.put, List.getElem_toArray, List.getElem_cons_succ, List.getElem_cons_zero, List.setIfInBounds_toArray, List.set_cons_zero, List.set_cons_succ])
        refine wpAnyX_one 9 (by kernel_rfl) rfl (fun K hK => ?_)
        go_simp
        have q2 : Whole (v1.alloc (.cells #[.bool false, .int .i64 0, .int .i64 0, .int .i64 0] 23)) (v1.heap.size) 23 #[.bool false, .int .i64 0, .int .i64 0, .int .i64 0] := Whole.new v1 23 #[.bool false, .int .i64 0, .int .i64 0, .int .i64 0]
        have B2 := (B1).alloc (B1).size (.cells #[.bool false, .int .i64 0, .int .i64 0, .int .i64 0] 23)
        refine hK.out _ _ (.inr (K6.out _ B2)) ?_
        have hHeld := K6.out _ B2
        clear hK K
        (try simp only [Act.put, List.getElem_toArray, List.getElem_cons_succ, List.getElem_cons_zero, List.setIfInBounds_toArray, List.set_cons_zero, List.set_cons_succ])
        refine wpAnyX_one 10 (by kernel_rfl) rfl (fun K hK => ?_)
        have z0 := (q2).cell 0
        have z1 := (q2).cell 1
        have z2 := (q2).cell 2
        have z3 := (q2).cell 3
        have y0 := (q2).free 0
        have y1 := (q2).free 1
        have y2 := (q2).free 2
        have y3 := (q2).free 3
        go_simp
        have B3 := (B1).alloc (B1).size (.cells #[.bool true, .int .i64 ss, .int .i64 sl, .int .i64 td] 23)
        refine hK.out _ _ (.inr (K6.out _ B3)) ?_
        have hHeld := K6.out _ B3
        clear hK K
        (try simp only [Act.put, List.getElem_toArray, List.getElem_cons_succ, List.getElem_cons_zero, List.setIfInBounds_toArray, List.set_cons_zero, List.set_cons_succ])
        refine wpAnyX_take (i := 11) [] (v := ?_) rfl (by kernel_rfl) (by kernel_rfl) (by kernel_rfl) (by kernel_rfl) (fun _ _ _ h => h) (Or.inl ⟨by kernel_rfl, ?_⟩) (by assumption) ?_
        rotate_left 1
        · (intro w hSw; obtain ⟨m0, m1, m2, m3, m4, m5, m6, m7, m8, m9, m10, m11, m12, m13⟩ := hSw; go_simp; try (with_reducible rfl))
        (try simp only [Act.put, List.getElem_toArray, List.getElem_cons_succ, List.getElem_cons_zero, List.setIfInBounds_toArray, List.set_cons_zero, List.set_cons_succ])
        refine wpAnyX_done (by kernel_rfl) ?_ _
        go_wp2_with fail
        go_meet
        exact ⟨_, rfl, by have := (B1).size; simpa using this, rfl, Whole.new _ _ _, B3⟩
      · go_simp
        have q4 : Whole (wo.drew.alloc (.cells #[.bool false, .int .i64 0, .int .i64 0, .int .i64 0] 23)) (wo.heap.size) 23 #[.bool false, .int .i64 0, .int .i64 0, .int .i64 0] := Whole.new wo.drew 23 #[.bool false, .int .i64 0, .int .i64 0, .int .i64 0]
        have B4 := ((Below.refl wo.heap.size wo).drew).alloc ((Below.refl wo.heap.size wo).drew).size (.cells #[.bool false, .int .i64 0, .int .i64 0, .int .i64 0] 23)
        refine hK.out _ _ (.inr (K6.out _ B4)) ?_
        have hHeld := K6.out _ B4
        clear hK K
        (try simp only [Act.put, List.getElem_toArray, List.getElem_cons_succ, List.getElem_cons_zero, List.setIfInBounds_toArray, List.set_cons_zero, List.set_cons_succ])
        refine wpAnyX_one 5 (by kernel_rfl) rfl (fun K hK => ?_)
        go_simp
        go_wp2_with (refine (C.out _).mono ?_; rintro e v5 ⟨rfl, b5⟩)
        have B5 := (B4).trans (b5.mono (B4).size)
        have q5 : Whole v5 (wo.heap.size) 23 #[.bool false, .int .i64 0, .int .i64 0, .int .i64 0] := (q4).below b5 (q4).lt
        refine hK.out _ _ (.inr (K6.out _ B5)) ?_
        have hHeld := K6.out _ B5
        clear hK K
        (try simp only [Act.put, List.getElem_toArray, List.getElem_cons_succ, List.getElem_cons_zero, List.setIfInBounds_toArray, List.set_cons_zero, List.set_cons_succ])
        refine wpAnyX_take (i := 6) [] (v := ?_) rfl (by kernel_rfl) (by kernel_rfl) (by kernel_rfl) (by kernel_rfl) (fun _ _ _ h => h) (Or.inl ⟨by kernel_rfl, ?_⟩) (by assumption) ?_
        rotate_left 1
        · (intro w hSw; obtain ⟨m0, m1, m2, m3, m4, m5, m6, m7, m8, m9, m10, m11, m12, m13⟩ := hSw; go_simp; try (with_reducible rfl))
        (try simp only [Act.put, List.getElem_toArray, List.getElem_cons_succ, List.getElem_cons_zero, List.setIfInBounds_toArray, List.set_cons_zero, List.set_cons_succ])
        refine wpAnyX_take (i := 7) [] (v := ?_) rfl (by kernel_rfl) (by kernel_rfl) (by kernel_rfl) (by kernel_rfl) (fun _ _ _ h => h) (Or.inl ⟨by kernel_rfl, ?_⟩) (by assumption) ?_
        rotate_left 1
        · (intro w hSw; obtain ⟨m0, m1, m2, m3, m4, m5, m6, m7, m8, m9, m10, m11, m12, m13⟩ := hSw; go_simp; try (with_reducible rfl))
        (try simp only [Act.put, List.getElem_toArray, List.getElem_cons_succ, List.getElem_cons_zero, List.setIfInBounds_toArray, List.set_cons_zero, List.set_cons_succ])
        refine wpAnyX_take (i := 8) [] (v := ?_) rfl (by kernel_rfl) (by kernel_rfl) (by kernel_rfl) (by kernel_rfl) (fun _ _ _ h => h) (Or.inl ⟨by kernel_rfl, ?_⟩) (by assumption) ?_
        rotate_left 1
        · (intro w hSw; obtain ⟨m0, m1, m2, m3, m4, m5, m6, m7, m8, m9, m10, m11, m12, m13⟩ := hSw; go_simp; try (with_reducible rfl))
        (try simp only [Act.put, List.getElem_toArray, List.getElem_cons_succ, List.getElem_cons_zero, List.setIfInBounds_toArray, List.set_cons_zero, List.set_cons_succ])
        refine wpAnyX_one 10 (by kernel_rfl) rfl (fun K hK => ?_)
        have z0 := (q5).cell 0
        have z1 := (q5).cell 1
        have z2 := (q5).cell 2
        have z3 := (q5).cell 3
        have y0 := (q5).free 0
        have y1 := (q5).free 1
        have y2 := (q5).free 2
        have y3 := (q5).free 3
        go_simp
        have B6 := ((((B5).setCell (p := ⟨wo.heap.size, 0, none⟩) (by first | exact Nat.le_refl _ | (have := ((Below.refl wo.heap.size wo).drew).size; simpa using this)) (.bool true)).setCell (p := ⟨wo.heap.size, 1, none⟩) (by first | exact Nat.le_refl _ | (have := ((Below.refl wo.heap.size wo).drew).size; simpa using this)) (.int .i64 ss)).setCell (p := ⟨wo.heap.size, 2, none⟩) (by first | exact Nat.le_refl _ | (have := ((Below.refl wo.heap.size wo).drew).size; simpa using this)) (.int .i64 sl)).setCell (p := ⟨wo.heap.size, 3, none⟩) (by first | exact Nat.le_refl _ | (have := ((Below.refl wo.heap.size wo).drew).size; simpa using this)) (.int .i64 td)
        refine hK.out _ _ (.inr (K6.out _ B6)) ?_
        have hHeld := K6.out _ B6
        clear hK K
        (try simp only [Act.put, List.getElem_toArray, List.getElem_cons_succ, List.getElem_cons_zero, List.setIfInBounds_toArray, List.set_cons_zero, List.set_cons_succ])
        refine wpAnyX_take (i := 11) [] (v := ?_) rfl (by kernel_rfl) (by kernel_rfl) (by kernel_rfl) (by kernel_rfl) (fun _ _ _ h => h) (Or.inl ⟨by kernel_rfl, ?_⟩) (by assumption) ?_
        rotate_left 1
        · (intro w hSw; obtain ⟨m0, m1, m2, m3, m4, m5, m6, m7, m8, m9, m10, m11, m12, m13⟩ := hSw; go_simp; try (with_reducible rfl))
        (try simp only [Act.put, List.getElem_toArray, List.getElem_cons_succ, List.getElem_cons_zero, List.setIfInBounds_toArray, List.set_cons_zero, List.set_cons_succ])
        refine wpAnyX_done (by kernel_rfl) ?_ _
        go_wp2_with fail
        go_meet
        exact ⟨_, rfl, by first | exact Nat.le_refl _ | (have := ((Below.refl wo.heap.size wo).drew).size; simpa using this), rfl, (q5).four _ _ _ _, B6⟩
    case rest =>
      obtain ⟨gq, rfl, hgq, rfl, hq, bq⟩ := hcut
      clear K6 hR1 C
      have X8 := HX6.out.below bq HX6.out.lt
      have HB8 := Lib.hid (HB6.out.trans (bq.mono HB6.out.size))
      have hx2 := X8.cell 2
      have fx2 := X8.free 2
      have hne : gq ≠ w.heap.size + 1 := by have := HX6.out.lt; omega
      have HXL : Hid (Whole (wc.setCell ⟨w.heap.size + 1, 2, none⟩ (.bool false)) (w.heap.size + 1) 25 #[.int .i64 xs, .int .i64 xl, .bool false, .bool who, .bool has, .int .i64 xt, .bool syn]) := Lib.hid (X8.set 2 (.bool false))
      have HQL := Lib.hid (hq.far (p := ⟨w.heap.size + 1, 2, none⟩) hne (.bool false))
      have HBL := Lib.hid (HB8.out.setCell (p := ⟨w.heap.size + 1, 2, none⟩) (Nat.le_succ _) (.bool false))
      clear X8 hq bq HS6 HX6 HB6 HB8 hgq
      go_wp2_with fail
      obtain ⟨wl8, hwl⟩ : ∃ wl8, wl8 = wc.setCell ⟨w.heap.size + 1, 2, none⟩ (.bool false) := ⟨_, rfl⟩
      rw [← hwl] at HXL HQL HBL ⊢
      clear hwl hx2 fx2
      go_loopw [10] (fun i wr => ∃ k : Nat, 1 ≤ k ∧ k ≤ n ∧ i = .int .i64 (k : Int) ∧ Hid (Below wl8.heap.size wl8 wr)) (fun i _ => n - (intOf i).toNat)
      case atStart => exact ⟨1, Nat.le_refl _, by omega, rfl, Lib.hid (Below.refl _ _)⟩
      case round =>
        obtain ⟨k, hk1, hk, rfl, HK⟩ := hrel
        obtain ⟨wp, rfl⟩ : ∃ wp : World, wp = wo := ⟨_, rfl⟩
        obtain ⟨wo, rfl⟩ : ∃ wo : World, wo = wr := ⟨_, rfl⟩
        have HBo := Lib.hid (HBL.out.trans (HK.out.mono HBL.out.size))
        by_cases hlt : k < n
        · obtain ⟨⟨vs, vl, vt⟩, hv⟩ : ∃ v, l[k]? = some v := ⟨l[k]'(by rw [HN.out]; exact hlt), by simp⟩
          have HV := Lib.hid hv
          have D1 := fun w => D.out ⟨vs, vl, vt⟩ w
          dsimp only [Cw.cells] at D1
          have HD1 := Lib.hid D1
          have HX1 := Lib.hid (HXL.out.below HK.out HXL.out.lt)
          have HQ1 := Lib.hid (HQL.out.below HK.out HQL.out.lt)
          have hR2 := Lib.hid (fun w' (b' : Below wo.heap.size wo w') => show w'.cell? ⟨g, o + k * 3, none⟩ = some (.int .i64 vs) ∧ w'.cell? ⟨g, o + k * 3 + 1, none⟩ = some (.int .i64 vl) ∧ w'.cell? ⟨g, o + k * 3 + 2, none⟩ = some (.int .i64 vt) from by
            have hb := HBo.out.trans (b'.mono HBo.out.size)
            have r0 := HAT.out w' hb k _ 0 _ HV.out rfl
            have r1 := HAT.out w' hb k _ 1 _ HV.out rfl
            have r2 := HAT.out w' hb k _ 2 _ HV.out rfl
            rw [Nat.add_zero] at r0
            exact ⟨r0, r1, r2⟩)
          have hi1 : (0 : Int) ≤ (k : Int) := by omega
          have hi2 : (k : Int) < (n : Int) := by omega
          clear hv D1
          have K6 := Lib.hid (fun w' (b' : Below wo.heap.size wo w') => show (fun w' => w'.cell? ⟨gq, 0, none⟩ = some (.bool true) ∧ w'.cell? ⟨gq, 1, none⟩ = some (.int .i64 ss) ∧ w'.cell? ⟨gq, 2, none⟩ = some (.int .i64 sl) ∧ w'.cell? ⟨gq, 3, none⟩ = some (.int .i64 td) ∧ w'.cell? ⟨(w.heap.size + 1), 0, none⟩ = some (.int .i64 xs) ∧ w'.cell? ⟨(w.heap.size + 1), 1, none⟩ = some (.int .i64 xl) ∧ w'.cell? ⟨(w.heap.size + 1), 2, none⟩ = some (.bool false) ∧ w'.cell? ⟨(w.heap.size + 1), 3, none⟩ = some (.bool who) ∧ w'.cell? ⟨(w.heap.size + 1), 4, none⟩ = some (.bool has) ∧ w'.cell? ⟨(w.heap.size + 1), 5, none⟩ = some (.int .i64 xt) ∧ w'.cell? ⟨(w.heap.size + 1), 6, none⟩ = some (.bool syn) ∧ w'.cell? ⟨g, o + k * 3, none⟩ = some (.int .i64 vs) ∧ w'.cell? ⟨g, o + k * 3 + 1, none⟩ = some (.int .i64 vl) ∧ w'.cell? ⟨g, o + k * 3 + 2, none⟩ = some (.int .i64 vt)) w' from ⟨(HQ1.out.below b' HQ1.out.lt).cell 0, (HQ1.out.below b' HQ1.out.lt).cell 1, (HQ1.out.below b' HQ1.out.lt).cell 2, (HQ1.out.below b' HQ1.out.lt).cell 3, (HX1.out.below b' HX1.out.lt).cell 0, (HX1.out.below b' HX1.out.lt).cell 1, (HX1.out.below b' HX1.out.lt).cell 2, (HX1.out.below b' HX1.out.lt).cell 3, (HX1.out.below b' HX1.out.lt).cell 4, (HX1.out.below b' HX1.out.lt).cell 5, (HX1.out.below b' HX1.out.lt).cell 6, (hR2.out _ b').1, (hR2.out _ b').2.1, (hR2.out _ b').2.2⟩)
          go_upto_region 12 with fail
          go_cut [11, 12] (fun p v wx => ∃ gq : Nat, p = .pointer (some ⟨gq, 0, none⟩) ∧ wo.heap.size ≤ gq ∧ v = .int .i64 kd ∧ Whole wx gq 23 #[.bool true, .int .i64 ss, .int .i64 sl, .int .i64 td] ∧ Below wo.heap.size wo wx)
          case first =>
            refine wp_region_X (S := fun w' => w'.cell? ⟨gq, 0, none⟩ = some (.bool true) ∧ w'.cell? ⟨gq, 1, none⟩ = some (.int .i64 ss) ∧ w'.cell? ⟨gq, 2, none⟩ = some (.int .i64 sl) ∧ w'.cell? ⟨gq, 3, none⟩ = some (.int .i64 td) ∧ w'.cell? ⟨(w.heap.size + 1), 0, none⟩ = some (.int .i64 xs) ∧ w'.cell? ⟨(w.heap.size + 1), 1, none⟩ = some (.int .i64 xl) ∧ w'.cell? ⟨(w.heap.size + 1), 2, none⟩ = some (.bool false) ∧ w'.cell? ⟨(w.heap.size + 1), 3, none⟩ = some (.bool who) ∧ w'.cell? ⟨(w.heap.size + 1), 4, none⟩ = some (.bool has) ∧ w'.cell? ⟨(w.heap.size + 1), 5, none⟩ = some (.int .i64 xt) ∧ w'.cell? ⟨(w.heap.size + 1), 6, none⟩ = some (.bool syn) ∧ w'.cell? ⟨g, o + k * 3, none⟩ = some (.int .i64 vs) ∧ w'.cell? ⟨g, o + k * 3 + 1, none⟩ = some (.int .i64 vl) ∧ w'.cell? ⟨g, o + k * 3 + 2, none⟩ = some (.int .i64 vt)) [] (by kernel_rfl) (K6.out _ (Below.refl _ _).drew) (fun hHeld0 => ?_)
            refine wpAnyX_take (i := 0) [] (v := ?_) rfl (by kernel_rfl) (by kernel_rfl) (by kernel_rfl) (by kernel_rfl) (fun _ _ _ h => h) (Or.inl ⟨by kernel_rfl, ?_⟩) (by assumption) ?_
            rotate_left 1
            · (intro w hSw; obtain ⟨m0, m1, m2, m3, m4, m5, m6, m7, m8, m9, m10, m11, m12, m13⟩ := hSw; go_simp; try (with_reducible rfl))
            (try simp only [Act.put, List.getElem_toArray, List.getElem_cons_succ, List.getElem_cons_zero, List.setIfInBounds_toArray, List.set_cons_zero, List.set_cons_succ])
            refine wpAnyX_take (i := 1) [] (v := ?_) rfl (by kernel_rfl) (by kernel_rfl) (by kernel_rfl) (by kernel_rfl) (fun _ _ _ h => h) (Or.inl ⟨by kernel_rfl, ?_⟩) (by assumption) ?_
            rotate_left 1
            · (intro w hSw; obtain ⟨m0, m1, m2, m3, m4, m5, m6, m7, m8, m9, m10, m11, m12, m13⟩ := hSw; go_simp; try (with_reducible rfl))
            (try simp only [Act.put, List.getElem_toArray, List.getElem_cons_succ, List.getElem_cons_zero, List.setIfInBounds_toArray, List.set_cons_zero, List.set_cons_succ])
            refine wpAnyX_take (i := 2) [] (v := ?_) rfl (by kernel_rfl) (by kernel_rfl) (by kernel_rfl) (by kernel_rfl) (fun _ _ _ h => h) (Or.inl ⟨by kernel_rfl, ?_⟩) (by assumption) ?_
            rotate_left 1
            · (intro w hSw; obtain ⟨m0, m1, m2, m3, m4, m5, m6, m7, m8, m9, m10, m11, m12, m13⟩ := hSw; go_simp; try (with_reducible rfl))
            (try simp only [Act.put, List.getElem_toArray, List.getElem_cons_succ, List.getElem_cons_zero, List.setIfInBounds_toArray, List.set_cons_zero, List.set_cons_succ])
            refine wpAnyX_take (i := 3) [] (v := ?_) rfl (by kernel_rfl) (by kernel_rfl) (by kernel_rfl) (by kernel_rfl) (fun _ _ _ h => h) (Or.inl ⟨by kernel_rfl, ?_⟩) (by assumption) ?_
            rotate_left 1
            · (intro w hSw; obtain ⟨m0, m1, m2, m3, m4, m5, m6, m7, m8, m9, m10, m11, m12, m13⟩ := hSw; go_simp; try (with_reducible rfl))
            (try simp only [Act.put, List.getElem_toArray, List.getElem_cons_succ, List.getElem_cons_zero, List.setIfInBounds_toArray, List.set_cons_zero, List.set_cons_succ])
            refine wpAnyX_take (i := 4) [] (v := ?_) rfl (by kernel_rfl) (by kernel_rfl) (by kernel_rfl) (by kernel_rfl) (fun _ _ _ h => h) (Or.inl ⟨by kernel_rfl, ?_⟩) (by assumption) ?_
            rotate_left 1
            · (intro w hSw; obtain ⟨m0, m1, m2, m3, m4, m5, m6, m7, m8, m9, m10, m11, m12, m13⟩ := hSw; go_simp; try (with_reducible rfl))
            (try simp only [Act.put, List.getElem_toArray, List.getElem_cons_succ, List.getElem_cons_zero, List.setIfInBounds_toArray, List.set_cons_zero, List.set_cons_succ])
            refine wpAnyX_take (i := 5) [] (v := ?_) rfl (by kernel_rfl) (by kernel_rfl) (by kernel_rfl) (by kernel_rfl) (fun _ _ _ h => h) (Or.inl ⟨by kernel_rfl, ?_⟩) (by assumption) ?_
            rotate_left 1
            · (intro w hSw; obtain ⟨m0, m1, m2, m3, m4, m5, m6, m7, m8, m9, m10, m11, m12, m13⟩ := hSw; go_simp; try (with_reducible rfl))
            (try simp only [Act.put, List.getElem_toArray, List.getElem_cons_succ, List.getElem_cons_zero, List.setIfInBounds_toArray, List.set_cons_zero, List.set_cons_succ])
            refine wpAnyX_two 6 10 (by kernel_rfl) rfl rfl (fun K hK => ?_) (fun K hK => ?_)
            · go_simp
              go_wp2_with (refine (HD1.out _).mono ?_; rintro e v1 ⟨rfl, b1⟩)
              have B1 := ((Below.refl wo.heap.size wo).drew).trans (b1.mono ((Below.refl wo.heap.size wo).drew).size)
              refine hK.out _ _ (.inr (K6.out _ B1)) ?_
              have hHeld := K6.out _ B1
              clear hK K
              (try simp only [Act.put, List.getElem_toArray, List.getElem_cons_succ, List.getElem_cons_zero, List.setIfInBounds_toArray, List.set_cons_zero, List.set_cons_succ])
              refine wpAnyX_take (i := 7) [] (v := ?_) rfl (by kernel_rfl) (by kernel_rfl) (by kernel_rfl) (by kernel_rfl) (fun _ _ _ h => h) (Or.inl ⟨by kernel_rfl, ?_⟩) (by assumption) ?_
              rotate_left 1
              · (intro w hSw; obtain ⟨m0, m1, m2, m3, m4, m5, m6, m7, m8, m9, m10, m11, m12, m13⟩ := hSw; go_simp; try (with_reducible rfl))
              (try simp only [Act.put, List.getElem_toArray, List.getElem_cons_succ, List.getElem_cons_zero, List.setIfInBounds_toArray, List.set_cons_zero, List.set_cons_succ])
              refine wpAnyX_take (i := 8) [] (v := ?_) rfl (by kernel_rfl) (by kernel_rfl) (by kernel_rfl) (by kernel_rfl) (fun _ _ _ h => h) (Or.inl ⟨by kernel_rfl, ?_⟩) (by assumption) ?_
              rotate_left 1
              · (intro w hSw; obtain ⟨m0, m1, m2, m3, m4, m5, m6, m7, m8, m9, m10, m11, m12, m13⟩ := hSw; go_simp; try (with_reducible rfl))
              (try simp only [Act.put, List.getElem_toArray, List.getElem_cons_succ, List.getElem_cons_zero, List.setIfInBounds_toArray, List.set_cons_zero, List.set_cons_succ])
              refine wpAnyX_take (i := 9) [] (v := ?_) rfl (by kernel_rfl) (by kernel_rfl) (by kernel_rfl) (by kernel_rfl) (fun _ _ _ h => h) (Or.inl ⟨by kernel_rfl, ?_⟩) (by assumption) ?_
              rotate_left 1
              · (intro w hSw; obtain ⟨m0, m1, m2, m3, m4, m5, m6, m7, m8, m9, m10, m11, m12, m13⟩ := hSw; go_simp; try (with_reducible rfl))
              (try simp only [Act.put, List.getElem_toArray, List.getElem_cons_succ, List.getElem_cons_zero, List.setIfInBounds_toArray, List.set_cons_zero, List.set_cons_succ])
              refine wpAnyX_one 10 (by kernel_rfl) rfl (fun K hK => ?_)
              go_simp
              have q2 : Whole (v1.alloc (.cells #[.bool false, .int .i64 0, .int .i64 0, .int .i64 0] 23)) (v1.heap.size) 23 #[.bool false, .int .i64 0, .int .i64 0, .int .i64 0] := Whole.new v1 23 #[.bool false, .int .i64 0, .int .i64 0, .int .i64 0]
              have B2 := (B1).alloc (B1).size (.cells #[.bool false, .int .i64 0, .int .i64 0, .int .i64 0] 23)
              refine hK.out _ _ (.inr (K6.out _ B2)) ?_
              have hHeld := K6.out _ B2
              clear hK K
              (try simp only [Act.put, List.getElem_toArray, List.getElem_cons_succ, List.getElem_cons_zero, List.setIfInBounds_toArray, List.set_cons_zero, List.set_cons_succ])
              refine wpAnyX_one 11 (by kernel_rfl) rfl (fun K hK => ?_)
              have z0 := (q2).cell 0
              have z1 := (q2).cell 1
              have z2 := (q2).cell 2
              have z3 := (q2).cell 3
              have y0 := (q2).free 0
              have y1 := (q2).free 1
              have y2 := (q2).free 2
              have y3 := (q2).free 3
              go_simp
              have B3 := (B1).alloc (B1).size (.cells #[.bool true, .int .i64 ss, .int .i64 sl, .int .i64 td] 23)
              refine hK.out _ _ (.inr (K6.out _ B3)) ?_
              have hHeld := K6.out _ B3
              clear hK K
              (try simp only [Act.put, List.getElem_toArray, List.getElem_cons_succ, List.getElem_cons_zero, List.setIfInBounds_toArray, List.set_cons_zero, List.set_cons_succ])
              refine wpAnyX_take (i := 12) [] (v := ?_) rfl (by kernel_rfl) (by kernel_rfl) (by kernel_rfl) (by kernel_rfl) (fun _ _ _ h => h) (Or.inl ⟨by kernel_rfl, ?_⟩) (by assumption) ?_
              rotate_left 1
              · (intro w hSw; obtain ⟨m0, m1, m2, m3, m4, m5, m6, m7, m8, m9, m10, m11, m12, m13⟩ := hSw; go_simp; try (with_reducible rfl))
              (try simp only [Act.put, List.getElem_toArray, List.getElem_cons_succ, List.getElem_cons_zero, List.setIfInBounds_toArray, List.set_cons_zero, List.set_cons_succ])
              refine wpAnyX_done (by kernel_rfl) ?_ _
              go_wp2_with fail
              go_meet
              exact ⟨_, rfl, by have := (B1).size; simpa using this, rfl, Whole.new _ _ _, B3⟩
            · go_simp
              have q4 : Whole (wo.drew.alloc (.cells #[.bool false, .int .i64 0, .int .i64 0, .int .i64 0] 23)) (wo.heap.size) 23 #[.bool false, .int .i64 0, .int .i64 0, .int .i64 0] := Whole.new wo.drew 23 #[.bool false, .int .i64 0, .int .i64 0, .int .i64 0]
              have B4 := ((Below.refl wo.heap.size wo).drew).alloc ((Below.refl wo.heap.size wo).drew).size (.cells #[.bool false, .int .i64 0, .int .i64 0, .int .i64 0] 23)
              refine hK.out _ _ (.inr (K6.out _ B4)) ?_
              have hHeld := K6.out _ B4
              clear hK K
              (try simp only [Act.put, List.getElem_toArray, List.getElem_cons_succ, List.getElem_cons_zero, List.setIfInBounds_toArray, List.set_cons_zero, List.set_cons_succ])
              refine wpAnyX_one 6 (by kernel_rfl) rfl (fun K hK => ?_)
              go_simp
              go_wp2_with (refine (HD1.out _).mono ?_; rintro e v5 ⟨rfl, b5⟩)
              have B5 := (B4).trans (b5.mono (B4).size)
              have q5 : Whole v5 (wo.heap.size) 23 #[.bool false, .int .i64 0, .int .i64 0, .int .i64 0] := (q4).below b5 (q4).lt
              refine hK.out _ _ (.inr (K6.out _ B5)) ?_
              have hHeld := K6.out _ B5
              clear hK K
              (try simp only [Act.put, List.getElem_toArray, List.getElem_cons_succ, List.getElem_cons_zero, List.setIfInBounds_toArray, List.set_cons_zero, List.set_cons_succ])
              refine wpAnyX_take (i := 7) [] (v := ?_) rfl (by kernel_rfl) (by kernel_rfl) (by kernel_rfl) (by kernel_rfl) (fun _ _ _ h => h) (Or.inl ⟨by kernel_rfl, ?_⟩) (by assumption) ?_
              rotate_left 1
              · (intro w hSw; obtain ⟨m0, m1, m2, m3, m4, m5, m6, m7, m8, m9, m10, m11, m12, m13⟩ := hSw; go_simp; try (with_reducible rfl))
              (try simp only [Act.put, List.getElem_toArray, List.getElem_cons_succ, List.getElem_cons_zero, List.setIfInBounds_toArray, List.set_cons_zero, List.set_cons_succ])
              refine wpAnyX_take (i := 8) [] (v := ?_) rfl (by kernel_rfl) (by kernel_rfl) (by kernel_rfl) (by kernel_rfl) (fun _ _ _ h => h) (Or.inl ⟨by kernel_rfl, ?_⟩) (by assumption) ?_
              rotate_left 1
              · (intro w hSw; obtain ⟨m0, m1, m2, m3, m4, m5, m6, m7, m8, m9, m10, m11, m12, m13⟩ := hSw; go_simp; try (with_reducible rfl))
              (try simp only [Act.put, List.getElem_toArray, List.getElem_cons_succ, List.getElem_cons_zero, List.setIfInBounds_toArray, List.set_cons_zero, List.set_cons_succ])
              refine wpAnyX_take (i := 9) [] (v := ?_) rfl (by kernel_rfl) (by kernel_rfl) (by kernel_rfl) (by kernel_rfl) (fun _ _ _ h => h) (Or.inl ⟨by kernel_rfl, ?_⟩) (by assumption) ?_
              rotate_left 1
              · (intro w hSw; obtain ⟨m0, m1, m2, m3, m4, m5, m6, m7, m8, m9, m10, m11, m12, m13⟩ := hSw; go_simp; try (with_reducible rfl))
              (try simp only [Act.put, List.getElem_toArray, List.getElem_cons_succ, List.getElem_cons_zero, List.setIfInBounds_toArray, List.set_cons_zero, List.set_cons_succ])
              refine wpAnyX_one 11 (by kernel_rfl) rfl (fun K hK => ?_)
              have z0 := (q5).cell 0
              have z1 := (q5).cell 1
              have z2 := (q5).cell 2
              have z3 := (q5).cell 3
              have y0 := (q5).free 0
              have y1 := (q5).free 1
              have y2 := (q5).free 2
              have y3 := (q5).free 3
              go_simp
              have B6 := ((((B5).setCell (p := ⟨wo.heap.size, 0, none⟩) (by first | exact Nat.le_refl _ | (have := ((Below.refl wo.heap.size wo).drew).size; simpa using this)) (.bool true)).setCell (p := ⟨wo.heap.size, 1, none⟩) (by first | exact Nat.le_refl _ | (have := ((Below.refl wo.heap.size wo).drew).size; simpa using this)) (.int .i64 ss)).setCell (p := ⟨wo.heap.size, 2, none⟩) (by first | exact Nat.le_refl _ | (have := ((Below.refl wo.heap.size wo).drew).size; simpa using this)) (.int .i64 sl)).setCell (p := ⟨wo.heap.size, 3, none⟩) (by first | exact Nat.le_refl _ | (have := ((Below.refl wo.heap.size wo).drew).size; simpa using this)) (.int .i64 td)
              refine hK.out _ _ (.inr (K6.out _ B6)) ?_
              have hHeld := K6.out _ B6
              clear hK K
              (try simp only [Act.put, List.getElem_toArray, List.getElem_cons_succ, List.getElem_cons_zero, List.setIfInBounds_toArray, List.set_cons_zero, List.set_cons_succ])
              refine wpAnyX_take (i := 12) [] (v := ?_) rfl (by kernel_rfl) (by kernel_rfl) (by kernel_rfl) (by kernel_rfl) (fun _ _ _ h => h) (Or.inl ⟨by kernel_rfl, ?_⟩) (by assumption) ?_
              rotate_left 1
              · (intro w hSw; obtain ⟨m0, m1, m2, m3, m4, m5, m6, m7, m8, m9, m10, m11, m12, m13⟩ := hSw; go_simp; try (with_reducible rfl))
              (try simp only [Act.put, List.getElem_toArray, List.getElem_cons_succ, List.getElem_cons_zero, List.setIfInBounds_toArray, List.set_cons_zero, List.set_cons_succ])
              refine wpAnyX_done (by kernel_rfl) ?_ _
              go_wp2_with fail
              go_meet
              exact ⟨_, rfl, by first | exact Nat.le_refl _ | (have := ((Below.refl wo.heap.size wo).drew).size; simpa using this), rfl, (q5).four _ _ _ _, B6⟩
          case rest =>
            obtain ⟨gv, rfl, hgv, rfl, hq, bq⟩ := hcut
            clear K6
            have Q2 := HQ1.out.below bq HQ1.out.lt
            have HK2 := Lib.hid (HK.out.trans (bq.mono HK.out.size))
            clear bq hR2 HX1 HQ1 HK
            have t0 := Q2.cell 0
            have t1 := Q2.cell 1
            have t2 := Q2.cell 2
            have t3 := Q2.cell 3
            have v0 := hq.cell 0
            have v1 := hq.cell 1
            have v2 := hq.cell 2
            have v3 := hq.cell 3
            clear Q2 hq
            go_wp2
            go_roundw
            case rel => exact ⟨k + 1, by omega, by omega, by go_num, HK2⟩
            case measure => simp [intOf]; omega
        · obtain rfl : k = n := by omega
          rcases hk12 with rfl | rfl
          all_goals
            go_wp2
            go_ret
            exact ⟨ret_bool rfl, HBo.out⟩

set_option maxRecDepth 100000 in
theorem lifted (os : Os) (started : os.Started) (H : Type) (enc : TypeId × Value → H) :
    ReturnsInHanded {} Try.checked os 6 .any (Rows.chooseFramesSpec.pre6 enc Try.prog Try.f6 Rows.chooseFramesRow.domain false) (Rows.chooseFramesSpec.post enc Try.prog Try.f6 false true false false) := by
  refine returnsInHanded_of_change (C := Try.checked) own started (by kernel_rfl) Try.func6
    (ChangeSpec.witness6 (enc := enc) (C := Try.checked) false ⟨#[], #[.agg #[.bool false, .int .i64 0, .int .i64 0, .int .i64 0], .agg #[.int .i64 0, .int .i64 0, .bool false, .bool false, .bool false, .int .i64 0, .bool false], .slice none 0 0], []⟩ 8 (by kernel_rfl) (by kernel_rfl) (by kernel_rfl) (by kernel_rfl)) ?_
  intro W base args ds gs before hval0 hW _ _
  have hval : ∀ (j : Nat) t v, Try.f6.params[j]? = some t → args[j]? = some v → Value.okWide Try.prog W .any base t v := hval0
  have hW' := hW
  obtain ⟨p, q, hA0, hV, _, _, _⟩ := hW
  have hA : DataW.TrodAll enc Try.prog W 0 (fun _ => true) true Try.f6.params.toList args.toList ds p := hA0
  rw [Try.params6] at hA hval
  obtain ⟨v0, vs0, d0, ds0, p0, q0, hargs, rfl, _, h0, r0⟩ := trodAll_cons hA
  obtain ⟨v1, vs1, d1, ds1, p1, q1, rfl, rfl, _, h1, r1⟩ := trodAll_cons r0
  obtain ⟨v2, vs2, d2, ds2, p2, q2, rfl, rfl, _, h2, r2⟩ := trodAll_cons r1
  obtain ⟨rfl, rfl, _⟩ := trodAll_nil r2
  obtain rfl : args = #[v0, v1, v2] := by cases args; simp_all
  obtain ⟨rfl, _⟩ := trodVars_none hV
  refine law_post (s := Rows.chooseFramesSpec) rfl rfl (by rw [Try.params6]; intro t ht; simp at ht; rcases ht with rfl | rfl | rfl <;> exact ⟨by kernel_rfl, of_decide_eq_true (by kernel_rfl)⟩) rfl hW' ?_
  obtain ⟨s0, rfl⟩ := open_state (hval 0 23 v0 rfl rfl) h0
  obtain ⟨x1, rfl⟩ := open_in (hval 1 25 v1 rfl rfl) h1
  obtain ⟨A2, c2, l2, rfl, hl2, hr2⟩ := open_wants (hval 2 46 v2 rfl rfl) h2
  exact walk W s0 x1 A2 c2 l2 hl2 hr2

theorem over : Rows.chooseFramesRow.holds Try.pinned (OpenSpec.ofChange Rows.chooseFramesSpec) :=
  OpenClaim.holds_of_wide 6 Try.f6 rfl rfl rfl rfl rfl rfl rfl ⟨rfl, rfl, rfl, rfl, rfl⟩ rfl rfl rfl rfl rfl (by kernel_rfl) Try.func6 (by kernel_rfl)
    (of_decide_eq_true (by kernel_rfl)) (by unfold Func.isWrapper; first | (rw [if_pos (by decide +kernel)]; kernel_rfl) | (rw [if_neg (by decide +kernel)]; exact ⟨rfl, rfl⟩))
    (fun os started H enc _ => lifted os started H enc)

/-- The statement. -/
theorem chooseFrames_holds : Rows.ChooseFramesSaid := over

end Go.Proofs.Ytoajbaimjkhegaa.HFrames
