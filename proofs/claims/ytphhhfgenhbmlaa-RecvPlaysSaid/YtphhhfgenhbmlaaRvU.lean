/-
  Contract of the document's answers of layer 11: Take.
-/
import Derived.Test.YtphhhfgenhbmlaaRvT
namespace Go.Proofs.Ytphhhfgenhbmlaa
open Go.RowKit

theorem i64r_one (l : List Int) : ∀ u ∈ i64r l, u.oneCell' = true := by
  intro u hu
  obtain ⟨_, _, rfl⟩ := List.mem_map.1 hu
  rfl
/-- What the document's Take answers. -/
def DocTake (A0 : Option Addr) (L : List Int) (x k : Int) (w : World) (e : Ending) (w' : World) : Prop :=
  ∃ A c, e = .returned (.tuple #[.agg #[.slice A L.length c], .int .i64 x, .int .i64 k]) ∧ Row w' w'.heap.size 1 A L.length (i64r L) ∧ (∀ a, A = some a → A0 = some a ∨ (w.heap.size ≤ a.block ∧ a.block < w'.heap.size)) ∧ Below w.heap.size w w'
/-- None came yet, or these did. -/
def RowO (L : List Int) (w : World) (A : Option Addr) (n : Nat) : Prop := L.length = n ∧ ∀ w', Below w.heap.size w w' → Row w' w.heap.size 1 A n (i64r L)
set_option maxRecDepth 100000 in
set_option maxHeartbeats 1600000 in
theorem docTake_none (s : Int) (A : Option Addr) (c : Nat) (h0 : 0 ≤ s) (h1 : s < 65536) (w : World) :
    Calls Try.prog 11 #[.agg #[.slice A (0 : Nat) c], .int .u16 s] w (DocTake A [s] s 0 w) := by
  obtain ⟨L, hL⟩ : ∃ L : List Int, L = [] := ⟨_, rfl⟩
  have hn : L.length = 0 := by rw [hL]; rfl
  have hr : Row w w.heap.size 1 A 0 (i64r L) := by rw [hL]; exact Row.nil
  have hLs : [s] = L ++ [s] := by rw [hL]; rfl
  rw [hLs]
  obtain ⟨n, hnn⟩ : ∃ n : Nat, n = 0 := ⟨_, rfl⟩
  rw [← hnn] at hn hr ⊢
  have hnz : (n : Int) = 0 := by omega
  have hw : wrap64 s = s := IntWalk.wrap64_in _ (by omega)
  have hcl : n ≤ 4096 := by omega
  clear hL hLs hnn
  have HR := Lib.hid (fun w' (b : Below w.heap.size w w') => hr.below b (Nat.le_refl _))
  have HN := Lib.hid hn
  have W0 := Lib.hid ((Whole.new w 29 #[.slice A n c]).alloc (.cells #[.slice none 0 0] 29))
  have V0 := Lib.hid (Whole.new2 w (.cells #[.slice A n c] 29) 29 #[.slice none 0 0])
  have B0 := Lib.hid (((Below.refl w.heap.size w).alloc (Nat.le_refl _) (.cells #[.slice A n c] 29)).alloc (by simp) (.cells #[.slice none 0 0] 29))
  clear hr hn
  go_enter Try.func11, Try.ntmps11
  go_upto_region 13 with fail
  obtain ⟨wo, hwo⟩ : ∃ wo, wo = ((w.alloc (.cells #[.slice A n c] 29)).alloc (.cells #[.slice none 0 0] 29)) := ⟨_, rfl⟩
  rw [← hwo]
  rw [← hwo] at W0 V0 B0
  have HW := W0
  have HV := V0
  have HB := B0
  clear hwo W0 V0 B0 hnz hw
  have k0 := HW.out.cell 0
  go_wp2_with (at_builtin; refine wpl_append _ rfl (.tmp 40) (.tmp 42) 27 rfl (w.heap.size + 2) 2 (.int .i64 0) 1 8 Try.underlying27 info_i64 rfl (by decide) (.slice none 0 0) 0 [] rfl (World.ownsRow_nil _ _ _ _) w.heap.size A n c (i64r L) rfl (HR.out _ HB.out) (i64r_one L) ?c1 ?c2 ?c3 ?_)
  case c1 => unfold maxLen; omega
  case c2 => omega
  case c3 => have := HB.out.size; have := HV.out.lt; omega
  intro v2 w2 hown2 hg2 _
  obtain ⟨A2, c2, rfl⟩ := own_form hown2
  have HB2 := Lib.hid (HB.out.grown hg2 HB.out.size (fun q hq => by cases hq))
  have HW2 := Lib.hid (HW.out.grown hg2 (fun e => by cases e))
  have HV2 := Lib.hid (HV.out.grown hg2 (fun e => by cases e))
  have HO2 := Lib.hid hown2
  have hv2 := HV2.out.lt
  have hne : ∀ q, (Value.slice A2 n c2).ownBlock = some q → w.heap.size + 2 ≤ q ∧ q < w2.heap.size := fun q hq => HO2.out.lt q hq
  have HNE := Lib.hid hne
  have HRW := Lib.hid (show Row (w2.alloc (.cells #[.int .i64 s] 2)) (w2.heap.size + 1) 1 (some ⟨w2.heap.size, 0, none⟩) 1 [.int .i64 s] from Row.one _ _ _)
  clear hown2 hg2 hne HB HW HV k0
  have k0 := HW2.out.cell 0
  go_wp2_with (at_builtin; refine wpl_append _ rfl (.tmp 44) (.tmp 46) 27 rfl (w.heap.size + 2) 2 (.int .i64 0) 1 8 Try.underlying27 info_i64 rfl (by decide) (.slice A2 n c2) n (i64r L) rfl (HO2.out.alloc _) (w2.heap.size + 1) (some ⟨w2.heap.size, 0, none⟩) 1 1 [.int .i64 s] rfl HRW.out (by simp [Value.oneCell']) ?d1 ?d2 ?d3 ?_)
  case d1 => unfold maxLen; omega
  case d2 => omega
  case d3 => simp; omega
  intro v3 w3 hown3 hg3 _
  obtain ⟨A3, c3, rfl⟩ := own_form hown3
  have HB3 := Lib.hid ((HB2.out.alloc HB2.out.size _).grown hg3 (by have := HB2.out.size; simp; omega) (fun q hq => by have := (HNE.out q hq).1; omega))
  have W3 := (HW2.out.alloc _).grown hg3 (fun e => by have := (HNE.out _ e.symm).1; omega)
  have V3 := (HV2.out.alloc _).grown hg3 (fun e => by have := (HNE.out _ e.symm).1; omega)
  have HR3 : Hid (Row w3 w3.heap.size 1 A3 (n + 1) (i64r (L ++ [s]))) := Lib.hid (by rw [i64r_append]; exact Row.of_own hown3)
  have HA3 := Lib.hid (fun q (hq : (Value.slice A3 (n + 1) c3).ownBlock = some q) => hown3.lt q hq)
  have HOW := Lib.hid hown3
  have hL1 : (L ++ [s]).length = n + 1 := by simp [HN.out]
  have k0 := W3.cell 0
  have f0 := W3.free 0
  have v0 := V3.cell 0
  have g0 := V3.free 0
  have hw3 := W3.lt
  have hv3 := V3.lt
  clear hown3 hg3 W3 V3 HB2 HW2 HV2 HO2 HRW HNE
  have HFIN : Hid (∀ u, DocTake A (L ++ [s]) s 0 w (.returned (.tuple #[.agg #[.slice A3 (n + 1) c3], .int .i64 s, .int .i64 0])) ((w3.setCell ⟨w.heap.size, 0, none⟩ u).setCell ⟨w.heap.size + 1, 0, none⟩ u)) := Lib.hid (fun u => ⟨A3, c3, by rw [hL1], by
    rw [hL1, i64r_append]
    exact Row.of_own (ownsRow_setCell_below (ownsRow_setCell_below HOW.out (a := ⟨w.heap.size, 0, none⟩) (show w.heap.size < w.heap.size + 2 by omega) u) (a := ⟨w.heap.size + 1, 0, none⟩) (show w.heap.size + 1 < w.heap.size + 2 by omega) u),
    (fun a ha => .inr (by subst ha; have := HA3.out a.block rfl; simp; omega)),
    (HB3.out.setCell (p := ⟨w.heap.size, 0, none⟩) (Nat.le_refl _) _).setCell (p := ⟨w.heap.size + 1, 0, none⟩) (Nat.le_succ _) _⟩)
  clear hL1 HOW HA3 HR3 HB3
  go_wp2
  exact bodyPost_ret (v := .tuple #[.agg #[.slice A3 (n + 1) c3], .int .i64 s, .int .i64 0]) (by simp [results, Try.results11, go_sem, v0]) rfl (HFIN.out _)

set_option maxRecDepth 100000 in
set_option maxHeartbeats 3200000 in
theorem docTake_some (t : Trk) (L : List Int) (n : Nat) (A : Option Addr) (c : Nat) (s x k : Int) (ht : t.Fit) (hR : Rep t L) (hn : L.length = n) (hcl : n ≤ 4095) (h0 : 0 ≤ s) (h1 : s < 65536) (hx : t.num s = x) (hk : t.kind x = k) (w : World) (hr : Row w w.heap.size 1 A n (i64r L)) :
    Calls Try.prog 11 #[.agg #[.slice A n c], .int .u16 s] w (DocTake A (if k = 0 ∨ k = 1 then L ++ [x] else L) x k w) := by
  have hn0 : 0 < n := by rw [← hn]; exact List.length_pos_of_mem hR.high_mem
  have hxx : x = nearS t.high s := by rw [← hx]; unfold Trk.num; rw [if_pos hR.on]
  have hkk := hR.kind x
  rw [hk] at hkk
  have e2 := ht.high0
  have e3 := ht.high1
  obtain ⟨hi, hhi⟩ : ∃ y, t.high = y := ⟨_, rfl⟩
  rw [hhi] at hxx hkk e2 e3
  have hb1 := nearS_bd hi s
  rw [← hxx] at hb1
  have b0 := ((Below.refl w.heap.size w).alloc (Nat.le_refl _) (.cells #[.slice A n c] 29)).alloc (by simp) (.cells #[.slice none 0 0] 29)
  have CH := Lib.hid (fun w' (b : Below w.heap.size w w') => refHigh_any L n A c hi (hhi ▸ hR.high_mem) (hhi ▸ hR.high_ge) hn (by omega) w.heap.size w' (hr.below b (Nat.le_refl _)) b.size)
  have CS := Lib.hid (fun w' (b : Below w.heap.size w w') => refHas_any L n A c x hn (by omega) hn0 w.heap.size w' (hr.below b (Nat.le_refl _)) b.size)
  have CN := fun w => refNear_any hi s 65536 32768 (by decide) (by decide) (by decide) (by omega) (by omega) ⟨h0, h1⟩ w
  rw [refNear_16 _ _ ⟨h0, h1⟩, show hi + d16 hi s = x from hxx.symm] at CN
  have CN := Lib.hid CN
  have hw : wrap64 s = s := IntWalk.wrap64_in _ (by omega)
  have hn1 : (0 : Int) < (n : Int) := by omega
  clear hxx hx hk hR ht hhi
  have HR := Lib.hid (fun w' (b : Below w.heap.size w w') => hr.below b (Nat.le_refl _))
  have HN := Lib.hid hn
  have W0 := Lib.hid ((Whole.new w 29 #[.slice A n c]).alloc (.cells #[.slice none 0 0] 29))
  have V0 := Lib.hid (Whole.new2 w (.cells #[.slice A n c] 29) 29 #[.slice none 0 0])
  have B0 := Lib.hid (((Below.refl w.heap.size w).alloc (Nat.le_refl _) (.cells #[.slice A n c] 29)).alloc (by simp) (.cells #[.slice none 0 0] 29))
  clear hr hn b0
  obtain ⟨wo, hwo⟩ : ∃ wo, wo = ((w.alloc (.cells #[.slice A n c] 29)).alloc (.cells #[.slice none 0 0] 29)) := ⟨_, rfl⟩
  rw [← hwo] at W0 V0 B0
  by_cases c1 : hi < x
  · obtain rfl : k = 0 := by rw [hkk]; unfold kindL; rw [if_pos c1]
    rw [if_pos (.inl rfl)]
    clear hkk
    go_enter Try.func11, Try.ntmps11
    go_wp2_with fail
    rw [← hwo]
    clear hwo
    refine (CH.out _ B0.out).mono ?_
    rintro e w1 ⟨rfl, b1⟩
    have HW := Lib.hid (W0.out.below b1 W0.out.lt)
    have HV := Lib.hid (V0.out.below b1 V0.out.lt)
    have HB := Lib.hid (B0.out.trans (b1.mono B0.out.size))
    clear b1 W0 V0 B0 CH
    have k0 := HW.out.cell 0
    go_wp2_with fail
    refine (CN.out _).mono ?_
    rintro e w2 ⟨rfl, rfl⟩
    clear CN
    go_upto_region 13 with fail
    clear CS hw hb1 e2 e3 c1
    go_wp2_with (at_builtin; refine wpl_append _ rfl (.tmp 40) (.tmp 42) 27 rfl (w.heap.size + 2) 2 (.int .i64 0) 1 8 Try.underlying27 info_i64 rfl (by decide) (.slice none 0 0) 0 [] rfl (World.ownsRow_nil _ _ _ _) w.heap.size A n c (i64r L) rfl (HR.out _ HB.out) (i64r_one L) ?c1 ?c2 ?c3 ?_)
    case c1 => unfold maxLen; omega
    case c2 => omega
    case c3 => have := HB.out.size; have := HV.out.lt; omega
    intro v2 w2 hown2 hg2 _
    obtain ⟨A2, c2, rfl⟩ := own_form hown2
    have HB2 := Lib.hid (HB.out.grown hg2 HB.out.size (fun q hq => by cases hq))
    have HW2 := Lib.hid (HW.out.grown hg2 (fun e => by cases e))
    have HV2 := Lib.hid (HV.out.grown hg2 (fun e => by cases e))
    have HO2 := Lib.hid hown2
    have hv2 := HV2.out.lt
    have hne : ∀ q, (Value.slice A2 n c2).ownBlock = some q → w.heap.size + 2 ≤ q ∧ q < w2.heap.size := fun q hq => HO2.out.lt q hq
    have HNE := Lib.hid hne
    have HRW := Lib.hid (show Row (w2.alloc (.cells #[.int .i64 x] 2)) (w2.heap.size + 1) 1 (some ⟨w2.heap.size, 0, none⟩) 1 [.int .i64 x] from Row.one _ _ _)
    clear hown2 hg2 hne HB HW HV k0
    have k0 := HW2.out.cell 0
    go_wp2_with (at_builtin; refine wpl_append _ rfl (.tmp 44) (.tmp 46) 27 rfl (w.heap.size + 2) 2 (.int .i64 0) 1 8 Try.underlying27 info_i64 rfl (by decide) (.slice A2 n c2) n (i64r L) rfl (HO2.out.alloc _) (w2.heap.size + 1) (some ⟨w2.heap.size, 0, none⟩) 1 1 [.int .i64 x] rfl HRW.out (by simp [Value.oneCell']) ?d1 ?d2 ?d3 ?_)
    case d1 => unfold maxLen; omega
    case d2 => omega
    case d3 => simp; omega
    intro v3 w3 hown3 hg3 _
    obtain ⟨A3, c3, rfl⟩ := own_form hown3
    have HB3 := Lib.hid ((HB2.out.alloc HB2.out.size _).grown hg3 (by have := HB2.out.size; simp; omega) (fun q hq => by have := (HNE.out q hq).1; omega))
    have W3 := (HW2.out.alloc _).grown hg3 (fun e => by have := (HNE.out _ e.symm).1; omega)
    have V3 := (HV2.out.alloc _).grown hg3 (fun e => by have := (HNE.out _ e.symm).1; omega)
    have HR3 : Hid (Row w3 w3.heap.size 1 A3 (n + 1) (i64r (L ++ [x]))) := Lib.hid (by rw [i64r_append]; exact Row.of_own hown3)
    have HA3 := Lib.hid (fun q (hq : (Value.slice A3 (n + 1) c3).ownBlock = some q) => hown3.lt q hq)
    have HOW := Lib.hid hown3
    have hL1 : (L ++ [x]).length = n + 1 := by simp [HN.out]
    have k0 := W3.cell 0
    have f0 := W3.free 0
    have v0 := V3.cell 0
    have g0 := V3.free 0
    have hw3 := W3.lt
    have hv3 := V3.lt
    clear hown3 hg3 W3 V3 HB2 HW2 HV2 HO2 HRW HNE
    have HFIN : Hid (∀ u, DocTake A (L ++ [x]) x 0 w (.returned (.tuple #[.agg #[.slice A3 (n + 1) c3], .int .i64 x, .int .i64 0])) ((w3.setCell ⟨w.heap.size, 0, none⟩ u).setCell ⟨w.heap.size + 1, 0, none⟩ u)) := Lib.hid (fun u => ⟨A3, c3, by rw [hL1], by
      rw [hL1, i64r_append]
      exact Row.of_own (ownsRow_setCell_below (ownsRow_setCell_below HOW.out (a := ⟨w.heap.size, 0, none⟩) (show w.heap.size < w.heap.size + 2 by omega) u) (a := ⟨w.heap.size + 1, 0, none⟩) (show w.heap.size + 1 < w.heap.size + 2 by omega) u),
      (fun a ha => .inr (by subst ha; have := HA3.out a.block rfl; simp; omega)),
      (HB3.out.setCell (p := ⟨w.heap.size, 0, none⟩) (Nat.le_refl _) _).setCell (p := ⟨w.heap.size + 1, 0, none⟩) (Nat.le_succ _) _⟩)
    clear hL1 HOW HA3 HR3 HB3
    go_wp2
    exact bodyPost_ret (v := .tuple #[.agg #[.slice A3 (n + 1) c3], .int .i64 x, .int .i64 0]) (by simp [results, Try.results11, go_sem, v0]) rfl (HFIN.out _)
  by_cases c2 : x < hi - 63
  · obtain rfl : k = 3 := by rw [hkk]; unfold kindL; rw [if_neg c1, if_pos c2]
    rw [if_neg (by omega)]
    clear hkk
    go_enter Try.func11, Try.ntmps11
    go_wp2_with fail
    rw [← hwo]
    clear hwo
    refine (CH.out _ B0.out).mono ?_
    rintro e w1 ⟨rfl, b1⟩
    have HW := Lib.hid (W0.out.below b1 W0.out.lt)
    have HV := Lib.hid (V0.out.below b1 V0.out.lt)
    have HB := Lib.hid (B0.out.trans (b1.mono B0.out.size))
    clear b1 W0 V0 B0 CH
    have k0 := HW.out.cell 0
    go_wp2_with fail
    refine (CN.out _).mono ?_
    rintro e w2 ⟨rfl, rfl⟩
    clear CN
    clear CS
    have v0 := HV.out.cell 0
    have g0 := HV.out.free 0
    have hw3 := HW.out.lt
    have hv3 := HV.out.lt
    have HFIN : Hid (∀ u, DocTake A L x 3 w (.returned (.tuple #[.agg #[.slice A n c], .int .i64 x, .int .i64 3])) ((w1).setCell ⟨w.heap.size + 1, 0, none⟩ u)) := Lib.hid (fun u => ⟨A, c, by rw [HN.out], by rw [HN.out]; exact (HR.out _ (HB.out.setCell (p := ⟨w.heap.size + 1, 0, none⟩) (Nat.le_succ _) u)).more (HB.out.setCell (p := ⟨w.heap.size + 1, 0, none⟩) (Nat.le_succ _) u).size, fun a ha => .inl ha, HB.out.setCell (p := ⟨w.heap.size + 1, 0, none⟩) (Nat.le_succ _) u⟩)
    clear HW HV HB
    go_wp2
    exact bodyPost_ret (v := .tuple #[.agg #[.slice A n c], .int .i64 x, .int .i64 3]) (by simp [results, Try.results11, go_sem, v0]) rfl (HFIN.out _)
  by_cases c3 : x ∈ L
  · obtain rfl : k = 2 := by rw [hkk]; unfold kindL; rw [if_neg c1, if_neg c2, if_pos c3]
    rw [if_neg (by omega)]
    rw [decide_eq_true c3] at CS
    clear hkk c3
    go_enter Try.func11, Try.ntmps11
    go_wp2_with fail
    rw [← hwo]
    clear hwo
    refine (CH.out _ B0.out).mono ?_
    rintro e w1 ⟨rfl, b1⟩
    have HW := Lib.hid (W0.out.below b1 W0.out.lt)
    have HV := Lib.hid (V0.out.below b1 V0.out.lt)
    have HB := Lib.hid (B0.out.trans (b1.mono B0.out.size))
    clear b1 W0 V0 B0 CH
    have k0 := HW.out.cell 0
    go_wp2_with fail
    refine (CN.out _).mono ?_
    rintro e w2 ⟨rfl, rfl⟩
    clear CN
    go_wp2_with fail
    refine (CS.out _ HB.out).mono ?_
    rintro e w2 ⟨rfl, b2⟩
    have HW2 := Lib.hid (HW.out.below b2 HW.out.lt)
    have HV2 := Lib.hid (HV.out.below b2 HV.out.lt)
    have HB2 := Lib.hid (HB.out.trans (b2.mono HB.out.size))
    clear b2 HW HV HB CS k0
    have HW := HW2
    have HV := HV2
    have HB := HB2
    clear HW2 HV2 HB2
    have k0 := HW.out.cell 0
    have v0 := HV.out.cell 0
    have g0 := HV.out.free 0
    have hw3 := HW.out.lt
    have hv3 := HV.out.lt
    have HFIN : Hid (∀ u, DocTake A L x 2 w (.returned (.tuple #[.agg #[.slice A n c], .int .i64 x, .int .i64 2])) ((w2).setCell ⟨w.heap.size + 1, 0, none⟩ u)) := Lib.hid (fun u => ⟨A, c, by rw [HN.out], by rw [HN.out]; exact (HR.out _ (HB.out.setCell (p := ⟨w.heap.size + 1, 0, none⟩) (Nat.le_succ _) u)).more (HB.out.setCell (p := ⟨w.heap.size + 1, 0, none⟩) (Nat.le_succ _) u).size, fun a ha => .inl ha, HB.out.setCell (p := ⟨w.heap.size + 1, 0, none⟩) (Nat.le_succ _) u⟩)
    clear HW HV HB
    go_wp2
    exact bodyPost_ret (v := .tuple #[.agg #[.slice A n c], .int .i64 x, .int .i64 2]) (by simp [results, Try.results11, go_sem, v0]) rfl (HFIN.out _)
  · obtain rfl : k = 1 := by rw [hkk]; unfold kindL; rw [if_neg c1, if_neg c2, if_neg c3]
    rw [if_pos (.inr rfl)]
    rw [decide_eq_false c3] at CS
    clear hkk c3
    go_enter Try.func11, Try.ntmps11
    go_wp2_with fail
    rw [← hwo]
    clear hwo
    refine (CH.out _ B0.out).mono ?_
    rintro e w1 ⟨rfl, b1⟩
    have HW := Lib.hid (W0.out.below b1 W0.out.lt)
    have HV := Lib.hid (V0.out.below b1 V0.out.lt)
    have HB := Lib.hid (B0.out.trans (b1.mono B0.out.size))
    clear b1 W0 V0 B0 CH
    have k0 := HW.out.cell 0
    go_wp2_with fail
    refine (CN.out _).mono ?_
    rintro e w2 ⟨rfl, rfl⟩
    clear CN
    go_wp2_with fail
    refine (CS.out _ HB.out).mono ?_
    rintro e w2 ⟨rfl, b2⟩
    have HW2 := Lib.hid (HW.out.below b2 HW.out.lt)
    have HV2 := Lib.hid (HV.out.below b2 HV.out.lt)
    have HB2 := Lib.hid (HB.out.trans (b2.mono HB.out.size))
    clear b2 HW HV HB CS k0
    have HW := HW2
    have HV := HV2
    have HB := HB2
    clear HW2 HV2 HB2
    have k0 := HW.out.cell 0
    go_upto_region 13 with fail
    clear hw hb1 e2 e3 c1 c2
    go_wp2_with (at_builtin; refine wpl_append _ rfl (.tmp 40) (.tmp 42) 27 rfl (w.heap.size + 2) 2 (.int .i64 0) 1 8 Try.underlying27 info_i64 rfl (by decide) (.slice none 0 0) 0 [] rfl (World.ownsRow_nil _ _ _ _) w.heap.size A n c (i64r L) rfl (HR.out _ HB.out) (i64r_one L) ?c1 ?c2 ?c3 ?_)
    case c1 => unfold maxLen; omega
    case c2 => omega
    case c3 => have := HB.out.size; have := HV.out.lt; omega
    intro v2 w2 hown2 hg2 _
    obtain ⟨A2, c2, rfl⟩ := own_form hown2
    have HB2 := Lib.hid (HB.out.grown hg2 HB.out.size (fun q hq => by cases hq))
    have HW2 := Lib.hid (HW.out.grown hg2 (fun e => by cases e))
    have HV2 := Lib.hid (HV.out.grown hg2 (fun e => by cases e))
    have HO2 := Lib.hid hown2
    have hv2 := HV2.out.lt
    have hne : ∀ q, (Value.slice A2 n c2).ownBlock = some q → w.heap.size + 2 ≤ q ∧ q < w2.heap.size := fun q hq => HO2.out.lt q hq
    have HNE := Lib.hid hne
    have HRW := Lib.hid (show Row (w2.alloc (.cells #[.int .i64 x] 2)) (w2.heap.size + 1) 1 (some ⟨w2.heap.size, 0, none⟩) 1 [.int .i64 x] from Row.one _ _ _)
    clear hown2 hg2 hne HB HW HV k0
    have k0 := HW2.out.cell 0
    go_wp2_with (at_builtin; refine wpl_append _ rfl (.tmp 44) (.tmp 46) 27 rfl (w.heap.size + 2) 2 (.int .i64 0) 1 8 Try.underlying27 info_i64 rfl (by decide) (.slice A2 n c2) n (i64r L) rfl (HO2.out.alloc _) (w2.heap.size + 1) (some ⟨w2.heap.size, 0, none⟩) 1 1 [.int .i64 x] rfl HRW.out (by simp [Value.oneCell']) ?d1 ?d2 ?d3 ?_)
    case d1 => unfold maxLen; omega
    case d2 => omega
    case d3 => simp; omega
    intro v3 w3 hown3 hg3 _
    obtain ⟨A3, c3, rfl⟩ := own_form hown3
    have HB3 := Lib.hid ((HB2.out.alloc HB2.out.size _).grown hg3 (by have := HB2.out.size; simp; omega) (fun q hq => by have := (HNE.out q hq).1; omega))
    have W3 := (HW2.out.alloc _).grown hg3 (fun e => by have := (HNE.out _ e.symm).1; omega)
    have V3 := (HV2.out.alloc _).grown hg3 (fun e => by have := (HNE.out _ e.symm).1; omega)
    have HR3 : Hid (Row w3 w3.heap.size 1 A3 (n + 1) (i64r (L ++ [x]))) := Lib.hid (by rw [i64r_append]; exact Row.of_own hown3)
    have HA3 := Lib.hid (fun q (hq : (Value.slice A3 (n + 1) c3).ownBlock = some q) => hown3.lt q hq)
    have HOW := Lib.hid hown3
    have hL1 : (L ++ [x]).length = n + 1 := by simp [HN.out]
    have k0 := W3.cell 0
    have f0 := W3.free 0
    have v0 := V3.cell 0
    have g0 := V3.free 0
    have hw3 := W3.lt
    have hv3 := V3.lt
    clear hown3 hg3 W3 V3 HB2 HW2 HV2 HO2 HRW HNE
    have HFIN : Hid (∀ u, DocTake A (L ++ [x]) x 1 w (.returned (.tuple #[.agg #[.slice A3 (n + 1) c3], .int .i64 x, .int .i64 1])) ((w3.setCell ⟨w.heap.size, 0, none⟩ u).setCell ⟨w.heap.size + 1, 0, none⟩ u)) := Lib.hid (fun u => ⟨A3, c3, by rw [hL1], by
      rw [hL1, i64r_append]
      exact Row.of_own (ownsRow_setCell_below (ownsRow_setCell_below HOW.out (a := ⟨w.heap.size, 0, none⟩) (show w.heap.size < w.heap.size + 2 by omega) u) (a := ⟨w.heap.size + 1, 0, none⟩) (show w.heap.size + 1 < w.heap.size + 2 by omega) u),
      (fun a ha => .inr (by subst ha; have := HA3.out a.block rfl; simp; omega)),
      (HB3.out.setCell (p := ⟨w.heap.size, 0, none⟩) (Nat.le_refl _) _).setCell (p := ⟨w.heap.size + 1, 0, none⟩) (Nat.le_succ _) _⟩)
    clear hL1 HOW HA3 HR3 HB3
    go_wp2
    exact bodyPost_ret (v := .tuple #[.agg #[.slice A3 (n + 1) c3], .int .i64 x, .int .i64 1]) (by simp [results, Try.results11, go_sem, v0]) rfl (HFIN.out _)
end Go.Proofs.Ytphhhfgenhbmlaa
