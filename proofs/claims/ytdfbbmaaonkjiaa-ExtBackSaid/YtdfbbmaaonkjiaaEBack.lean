/-
  Proved: ExtBack returns true for all items, every number of noughts and all bytes: what is put is parsed as it was, also with noughts ahead and behind, and, of short ones, with anything behind a stop. Conditions: none.
-/
import Derived.Test.YtdfbbmaaonkjiaaExtK
import Derived.Test.YtdfbbmaaonkjiaaExtH
import Derived.Test.YtdfbbmaaonkjiaaExtM
import Derived.Test.YtdfbbmaaonkjiaaExtN
import Derived.Test.YtdfbbmaaonkjiaaExtP
namespace Go.Proofs.Ytdfbbmaaonkjiaa.EBack
open Go.ChangeShapes Go.WideShapes Go.ChangeAt Go.RowKit

set_option maxRecDepth 100000 in
theorem walk_not (w : World) (A : Option Addr) (c : Nat) (ps : List Ip) (hl : ps.length ≤ maxLen) (h : Its w A ps) (n : Int) (_hn : 0 ≤ n ∧ n < 256) (A1 : Option Addr) (c1 : Nat) (more : List UInt8) (hl1 : more.length ≤ maxLen) (hf : fewB (ps.map Ip.it) = false ∨ 100 < more.length) :
    Calls Try.prog 5 #[.slice A ps.length c, .int .u8 n, .slice A1 more.length c1] w fun e w' => e = .returned (.bool true) ∧ Below w.heap.size w w' := by
  unfold maxLen at hl1
  cases hff : fewB (ps.map Ip.it) with
  | false =>
    have C := Lib.hid (few_not A c ps w h hl hff)
    clear h hf hff
    go_enter Try.func5, Try.ntmps5
    go_wp2_with fail
    refine (awake_any w).mono ?_
    rintro e w1 ⟨rfl, b1⟩
    go_wp2_with fail
    refine (C.out w1 b1).mono ?_
    rintro e w2 ⟨rfl, rfl⟩
    go_wp2
    go_ret
    exact ⟨rfl, b1⟩
  | true =>
    have C := Lib.hid (few_yes A c ps w h hl hff)
    have hlong : (100 : Int) < (more.length : Int) := by
      rcases hf with hf | hf
      · rw [hff] at hf; cases hf
      · omega
    clear h hf hff
    go_enter Try.func5, Try.ntmps5
    go_wp2_with fail
    refine (awake_any w).mono ?_
    rintro e w1 ⟨rfl, b1⟩
    go_wp2_with fail
    refine (C.out w1 b1).mono ?_
    rintro e w2 ⟨rfl, rfl⟩
    go_wp2
    go_ret
    exact ⟨rfl, b1⟩

set_option maxRecDepth 100000 in
theorem walk_err (w : World) (A : Option Addr) (c : Nat) (ps : List Ip) (hl : ps.length ≤ maxLen) (h : Its w A ps) (n : Int) (_hn : 0 ≤ n ∧ n < 256) (A1 : Option Addr) (c1 : Nat) (more : List UInt8) (hf : fewB (ps.map Ip.it) = true) (hmore : more.length ≤ 100) (he : ¬ putE (ps.map Ip.it) = 0) :
    Calls Try.prog 5 #[.slice A ps.length c, .int .u8 n, .slice A1 more.length c1] w fun e w' => e = .returned (.bool true) ∧ Below w.heap.size w w' := by
  have C := Lib.hid (few_yes A c ps w h hl hf)
  have HC := Lib.hid (fun w' (b' : Below w.heap.size w w') => extPut_any A c ps w' (h.next b') hl)
  have e1 := putB_no he
  have e2 := putP_no he
  generalize ps.map Ip.it = l at *
  generalize hE : putE l = E at *
  have HE := Lib.hid hE
  have E1 := Lib.hid e1
  have E2 := Lib.hid e2
  clear h hf hE e1 e2
  go_enter Try.func5, Try.ntmps5
  go_wp2_with fail
  refine (awake_any w).mono ?_
  rintro e w1 ⟨rfl, b1⟩
  go_wp2_with fail
  refine (C.out w1 b1).mono ?_
  rintro e w2 ⟨rfl, rfl⟩
  go_wp2_with fail
  refine (HC.out w1 b1).mono ?_
  rintro e w3 ⟨A3, c3, rfl, r3, b3⟩
  rw [HE.out, E1.out, E2.out]
  have B3 := Lib.hid (bnext b1 b3)
  clear b1 b3 r3 HC C
  go_wp2
  go_ret
  exact ⟨rfl, B3.out⟩

set_option maxRecDepth 100000 in
set_option maxHeartbeats 3200000 in
theorem walk_small (w : World) (A : Option Addr) (c : Nat) (ps : List Ip) (hl : ps.length ≤ maxLen) (h : Its w A ps) (n : Int) (hn : 0 ≤ n ∧ n < 256) (A1 : Option Addr) (c1 : Nat) (more : List UInt8) (hr1 : Row w w.heap.size 1 A1 more.length (u8s more)) (hf : fewB (ps.map Ip.it) = true) (hmore : more.length ≤ 100) (he : putE (ps.map Ip.it) = 0) (hbig : (ps.map Ip.it).any It.big = false) :
    Calls Try.prog 5 #[.slice A ps.length c, .int .u8 n, .slice A1 more.length c1] w fun e w' => e = .returned (.bool true) ∧ Below w.heap.size w w' := by
  obtain ⟨z, hz⟩ : ∃ z : Nat, n % 9 = (z : Int) := ⟨(n % 9).toNat, by omega⟩
  have hz9 : z ≤ 8 := by omega
  obtain ⟨hdd, h20⟩ := few_facts hf
  have C := Lib.hid (few_yes A c ps w h hl hf)
  have HC := Lib.hid (fun w' (b' : Below w.heap.size w w') => extPut_any A c ps w' (h.next b') hl)
  have hnl : (ps.map Ip.it).length = ps.length := by simp
  have HPL := Lib.hid (fun w' (b' : Below w.heap.size w w') => plain_any A c ps w' (h.next b') (by omega))
  have hbl := putB_le hdd h20
  have hbm : ((putB (ps.map Ip.it)).length : Int) % 4 = 0 := by have := putB_mod (ps.map Ip.it); omega
  have f1 := parse_back he z
  have f2 := parse_stop he hbig z more
  have hP := putP_small he hbig
  rw [hP] at f1
  rw [hnl] at h20
  generalize ps.map Ip.it = l at *
  have HNL := Lib.hid hnl
  have HE := Lib.hid he
  have HP := Lib.hid hP
  obtain ⟨bs, hbs⟩ : ∃ bs, bs = putB l := ⟨_, rfl⟩
  rw [← hbs] at hbl hbm f1 f2
  have HBS := Lib.hid hbs
  have hZl : (List.replicate z (0 : UInt8)).length = z := by simp
  generalize hZ : List.replicate z (0 : UInt8) = Z at *
  have HZ := Lib.hid hZ
  have HZL := Lib.hid hZl
  have F1 := Lib.hid f1
  have F2 := Lib.hid f2
  have HR1 := Lib.hid hr1
  clear h hf he hbig hdd hnl hP hbs f1 f2 hZ hZl hr1
  go_enter Try.func5, Try.ntmps5
  go_wp2_with fail
  refine (awake_any w).mono ?_
  rintro e w1 ⟨rfl, b1⟩
  go_wp2_with fail
  refine (C.out w1 b1).mono ?_
  rintro e w2 ⟨rfl, rfl⟩
  go_wp2_with fail
  refine (HC.out w1 b1).mono ?_
  rintro e w3 ⟨A3, c3, rfl, r3, b3⟩
  rw [← HBS.out] at r3
  rw [HE.out, ← HBS.out, HP.out]
  have B3 := bnext b1 b3
  obtain ⟨cs, hc1, hc2, hmk⟩ := make_noughts z (by omega) w3
  have rz := noughts_row w3 z cs hc1 hc2
  rw [HZ.out, HZL.out] at rz
  have B4 := B3.alloc B3.size (.cells cs 5)
  have r4 := (r3.alloc (Nat.le_refl _) (.cells cs 5)).more (B' := (w3.alloc (.cells cs 5)).heap.size) (by simp)
  have HMK := Lib.hid hmk
  obtain ⟨w4, hw4⟩ : ∃ w4, w4 = w3.alloc (.cells cs 5) := ⟨_, rfl⟩
  rw [← hw4] at rz B4 r4 hmk
  clear b1 b3 r3 B3 hc1 hc2 HC C hw4 HMK
  go_wp2_with (at_builtin; go_loud (refine wpl_append _ rfl (.tmp 51) (.tmp 52) 26 rfl w4.heap.size 5 (.int .u8 0) 1 1 Try.underlying26 info_u8 rfl (by decide) _ 0 [] rfl (World.ownsRow_nil _ _ _ _) _ _ _ _ _ rfl rz (u8s_one _) ?c1 ?c2 ?c3 ?_))
  case c1 => unfold maxLen; omega
  case c2 => omega
  case c3 => exact Nat.le_refl _
  intro v5 w5 own5 g5 _
  have X5 : Below w4.heap.size w4 w5 := (Below.refl _ w4).grown g5 (Nat.le_refl _) (fun q hq => by simp [Value.ownBlock] at hq)
  have r5 := r4.below X5 (Nat.le_refl _)
  have z5 := X5.size
  replace own5 : w5.ownsRow w4.heap.size 5 1 v5 z (u8s Z) := by simpa using own5
  clear g5
  go_wp2_with (at_builtin; go_loud (refine wpl_append _ rfl (.tmp 54) (.tmp 55) 26 rfl w4.heap.size 5 (.int .u8 0) 1 1 Try.underlying26 info_u8 rfl (by decide) _ _ _ rfl own5 _ _ _ _ _ rfl r5 (u8s_one _) ?d1 ?d2 ?d3 ?_))
  case d1 => unfold maxLen; omega
  case d2 => omega
  case d3 => exact z5
  intro v6 w6 own6 g6 _
  have X6 := X5.grown g6 z5 (fun q hq => (own5.lt q hq).1)
  have r6 := rz.below X6 (Nat.le_refl _)
  have z6 := X6.size
  clear g6 own5 X5 r5 z5
  go_wp2_with (at_builtin; go_loud (refine wpl_append _ rfl (.tmp 57) (.tmp 58) 26 rfl w4.heap.size 5 (.int .u8 0) 1 1 Try.underlying26 info_u8 rfl (by decide) _ _ _ rfl own6 _ _ _ _ _ rfl r6 (u8s_one _) ?e1 ?e2 ?e3 ?_))
  case e1 => unfold maxLen; omega
  case e2 => omega
  case e3 => exact z6
  intro v7 w7 own7 g7 _
  have X7 := X6.grown g7 z6 (fun q hq => (own6.lt q hq).1)
  obtain ⟨L, hL⟩ : ∃ L, L = z + bs.length + z := ⟨_, rfl⟩
  replace own7 : w7.ownsRow w4.heap.size 5 1 v7 L (u8s (Z ++ (bs ++ Z))) := by
    rw [hL, u8s_append, u8s_append]
    simpa only [List.append_assoc] using own7
  have hLl : (Z ++ (bs ++ Z)).length = L := by simp only [List.length_append]; rw [HZL.out, hL]; omega
  have hL61 : L ≤ 6116 := by omega
  obtain ⟨A7, c7, rfl⟩ := own_form own7
  have CP := parse_any 48862 A7 c7 (Z ++ (bs ++ Z)) w7 (by rw [hLl]; exact Row.of_own own7) (by omega)
  rw [hLl, F1.out] at CP
  have HO := Lib.hid own7
  have HX := Lib.hid X7
  have HB4 := Lib.hid B4
  have HLL := Lib.hid hLl
  clear g7 own6 X6 r6 z6 own7 X7 hLl hL r4 rz B4
  go_wp2_with fail
  refine CP.mono ?_
  rintro e w8 ⟨A8, c8, ps8, rfl, hps8, its8, b8⟩
  have hps8n : ps8.length = ps.length := by have := congrArg List.length hps8; simp only [List.length_map] at this; rw [this, HNL.out]
  have B8 := (HB4.out.trans (HX.out.mono HB4.out.size)).trans (b8.mono (by have := HB4.out.size; have := HX.out.size; omega))
  have CP8 := plain_any A8 c8 ps8 w8 its8 (by omega)
  rw [hps8, hps8n] at CP8
  have HO8 := Lib.hid (own_below HO.out b8 (Nat.le_refl _))
  have HX8 := Lib.hid (HX.out.trans (b8.mono HX.out.size))
  clear CP HO HX b8 its8
  go_wp2_with fail
  refine CP8.mono ?_
  rintro e w9 ⟨A9, c9, rfl, r9, b9⟩
  have B9 := bnext B8 b9
  rw [HNL.out] at r9 ⊢
  clear CP8 hps8
  go_wp2_with fail
  refine (HPL.out w9 B9).mono ?_
  rintro e w10 ⟨A10, c10, rfl, r10, b10⟩
  have B10 := bnext B9 b10
  have b910 := b9.trans (b10.mono b9.size)
  have r910 := (r9.below b10 (Nat.le_refl _)).more b10.size
  rw [HNL.out] at r10 ⊢
  have CS := same_yes A9 A10 c9 c10 l w10 (by rw [HNL.out]; exact r910) (by rw [HNL.out]; exact r10) (by rw [HNL.out]; omega)
  rw [HNL.out] at CS
  clear r9 b9 b10 B9 B8
  go_wp2_with fail
  refine CS.mono ?_
  rintro e w11 ⟨rfl, mm, rfl⟩
  have HO11 := Lib.hid (show (w10.drewN mm).ownsRow w4.heap.size 5 1 (.slice A7 L c7) L (u8s (Z ++ (bs ++ Z))) from own_below HO8.out (bdrewN b910 mm) (Nat.le_refl _))
  have HX11 := Lib.hid (bdrewN (HX8.out.trans (b910.mono HX8.out.size)) mm)
  have HB11 := Lib.hid (bdrewN B10 mm)
  clear CS HO8 HX8 b910 r910 r10 B10
  generalize w10.drewN mm = w11 at *
  have r11 := HR1.out.below HB11.out (Nat.le_refl _)
  have z11 := HX11.out.size
  go_wp2_with (at_builtin; go_loud (refine wpl_append _ rfl (.tmp 84) (.tmp 85) 26 rfl w4.heap.size 5 (.int .u8 0) 1 1 Try.underlying26 info_u8 rfl (by decide) _ _ _ rfl (HO11.out.alloc _) _ _ 1 1 [.int .u8 240] rfl (Row.one _ _ _) ?f0 ?f1 ?f2 ?f3 ?_))
  case f0 => intro u hu; simp at hu; subst hu; rfl
  case f1 => unfold maxLen; omega
  case f2 => omega
  case f3 => simp; omega
  intro v12 w12 own12 g12 _
  have X12 := (HX11.out.alloc HX11.out.size _).grown g12 (by have := HX11.out.size; simp; omega) (fun q hq => (HO11.out.lt q hq).1)
  have r12 := HR1.out.below (HB4.out.trans (X12.mono HB4.out.size)) (Nat.le_refl _)
  have z12 := X12.size
  clear g12 r11
  go_wp2_with (at_builtin; go_loud (refine wpl_append _ rfl (.tmp 87) (.tmp 88) 26 rfl w4.heap.size 5 (.int .u8 0) 1 1 Try.underlying26 info_u8 rfl (by decide) _ _ _ rfl own12 _ _ _ _ _ rfl r12 (u8s_one _) ?g1 ?g2 ?g3 ?_))
  case g1 => unfold maxLen; omega
  case g2 => omega
  case g3 => exact z12
  intro v13 w13 own13 g13 _
  have X13 := X12.grown g13 z12 (fun q hq => (own12.lt q hq).1)
  obtain ⟨L2, hL2⟩ : ∃ L2, L2 = L + 1 + more.length := ⟨_, rfl⟩
  replace own13 : w13.ownsRow w4.heap.size 5 1 v13 L2 (u8s (Z ++ (bs ++ (Z ++ (240 :: more))))) := by
    rw [hL2, show u8s (Z ++ (bs ++ (Z ++ (240 :: more)))) = u8s (Z ++ (bs ++ Z)) ++ ([.int .u8 240] ++ u8s more) by simp only [u8s_append, List.append_assoc]; rfl]
    simpa only [List.append_assoc, List.cons_append, List.nil_append] using own13
  have hLl2 : (Z ++ (bs ++ (Z ++ (240 :: more)))).length = L2 := by
    have := HLL.out
    simp only [List.length_append, List.length_cons] at this ⊢
    omega
  obtain ⟨A13, c13, rfl⟩ := own_form own13
  have CP2 := parse_any 48862 A13 c13 _ w13 (by rw [hLl2]; exact Row.of_own own13) (by rw [hLl2]; omega)
  rw [hLl2, F2.out] at CP2
  have B13 := HB4.out.trans (X13.mono HB4.out.size)
  clear g13 own12 X12 r12 z12 own13 X13 hLl2 hL2 HO11
  go_wp2_with fail
  refine CP2.mono ?_
  rintro e w14 ⟨A14, c14, ps14, rfl, hps14, its14, b14⟩
  have hps14n : ps14.length = ps.length := by have := congrArg List.length hps14; simp only [List.length_map] at this; rw [this, HNL.out]
  have B14 := bnext B13 b14
  have CP14 := plain_any A14 c14 ps14 w14 its14 (by omega)
  rw [hps14, hps14n] at CP14
  clear CP2 b14 its14
  go_wp2_with fail
  refine CP14.mono ?_
  rintro e w15 ⟨A15, c15, rfl, r15, b15⟩
  have B15 := bnext B14 b15
  rw [HNL.out] at r15 ⊢
  clear CP14 hps14
  go_wp2_with fail
  refine (HPL.out w15 B15).mono ?_
  rintro e w16 ⟨A16, c16, rfl, r16, b16⟩
  have B16 := bnext B15 b16
  have r1516 := (r15.below b16 (Nat.le_refl _)).more b16.size
  rw [HNL.out] at r16 ⊢
  have CS2 := same_yes A15 A16 c15 c16 l w16 (by rw [HNL.out]; exact r1516) (by rw [HNL.out]; exact r16) (by rw [HNL.out]; omega)
  rw [HNL.out] at CS2
  clear r15 b15 b16 B15 B14
  go_wp2_with fail
  refine CS2.mono ?_
  rintro e w17 ⟨rfl, mm2, rfl⟩
  have HB17 := Lib.hid (bdrewN B16 mm2)
  clear CS2 r16 r1516 B16
  go_wp2
  go_ret
  exact ⟨rfl, HB17.out⟩

set_option maxRecDepth 100000 in
set_option maxHeartbeats 3200000 in
theorem walk_big (w : World) (A : Option Addr) (c : Nat) (ps : List Ip) (hl : ps.length ≤ maxLen) (h : Its w A ps) (n : Int) (hn : 0 ≤ n ∧ n < 256) (A1 : Option Addr) (c1 : Nat) (more : List UInt8) (hr1 : Row w w.heap.size 1 A1 more.length (u8s more)) (hf : fewB (ps.map Ip.it) = true) (hmore : more.length ≤ 100) (he : putE (ps.map Ip.it) = 0) (hbig : (ps.map Ip.it).any It.big = true) :
    Calls Try.prog 5 #[.slice A ps.length c, .int .u8 n, .slice A1 more.length c1] w fun e w' => e = .returned (.bool true) ∧ Below w.heap.size w w' := by
  obtain ⟨z, hz⟩ : ∃ z : Nat, n % 9 = (z : Int) := ⟨(n % 9).toNat, by omega⟩
  have hz9 : z ≤ 8 := by omega
  obtain ⟨hdd, h20⟩ := few_facts hf
  have C := Lib.hid (few_yes A c ps w h hl hf)
  have HC := Lib.hid (fun w' (b' : Below w.heap.size w w') => extPut_any A c ps w' (h.next b') hl)
  have hnl : (ps.map Ip.it).length = ps.length := by simp
  have HPL := Lib.hid (fun w' (b' : Below w.heap.size w w') => plain_any A c ps w' (h.next b') (by omega))
  have hbl := putB_le hdd h20
  have hbm : ((putB (ps.map Ip.it)).length : Int) % 4 = 0 := by have := putB_mod (ps.map Ip.it); omega
  have f1 := parse_back he z
  have f2 := parse_back2 he hbig z
  have hP := putP_big he hbig
  rw [hP] at f1
  rw [hnl] at h20
  generalize ps.map Ip.it = l at *
  have HNL := Lib.hid hnl
  have HE := Lib.hid he
  have HP := Lib.hid hP
  obtain ⟨bs, hbs⟩ : ∃ bs, bs = putB l := ⟨_, rfl⟩
  rw [← hbs] at hbl hbm f1 f2
  have HBS := Lib.hid hbs
  have hZl : (List.replicate z (0 : UInt8)).length = z := by simp
  generalize hZ : List.replicate z (0 : UInt8) = Z at *
  have HZ := Lib.hid hZ
  have HZL := Lib.hid hZl
  have F1 := Lib.hid f1
  have F2 := Lib.hid f2
  have HR1 := Lib.hid hr1
  clear h hf he hbig hdd hnl hP hbs f1 f2 hZ hZl hr1
  go_enter Try.func5, Try.ntmps5
  go_wp2_with fail
  refine (awake_any w).mono ?_
  rintro e w1 ⟨rfl, b1⟩
  go_wp2_with fail
  refine (C.out w1 b1).mono ?_
  rintro e w2 ⟨rfl, rfl⟩
  go_wp2_with fail
  refine (HC.out w1 b1).mono ?_
  rintro e w3 ⟨A3, c3, rfl, r3, b3⟩
  rw [← HBS.out] at r3
  rw [HE.out, ← HBS.out, HP.out]
  have B3 := bnext b1 b3
  obtain ⟨cs, hc1, hc2, hmk⟩ := make_noughts z (by omega) w3
  have rz := noughts_row w3 z cs hc1 hc2
  rw [HZ.out, HZL.out] at rz
  have B4 := B3.alloc B3.size (.cells cs 5)
  have r4 := (r3.alloc (Nat.le_refl _) (.cells cs 5)).more (B' := (w3.alloc (.cells cs 5)).heap.size) (by simp)
  have HMK := Lib.hid hmk
  obtain ⟨w4, hw4⟩ : ∃ w4, w4 = w3.alloc (.cells cs 5) := ⟨_, rfl⟩
  rw [← hw4] at rz B4 r4 hmk
  clear b1 b3 r3 B3 hc1 hc2 HC C hw4 HMK
  go_wp2_with (at_builtin; go_loud (refine wpl_append _ rfl (.tmp 51) (.tmp 52) 26 rfl w4.heap.size 5 (.int .u8 0) 1 1 Try.underlying26 info_u8 rfl (by decide) _ 0 [] rfl (World.ownsRow_nil _ _ _ _) _ _ _ _ _ rfl rz (u8s_one _) ?c1 ?c2 ?c3 ?_))
  case c1 => unfold maxLen; omega
  case c2 => omega
  case c3 => exact Nat.le_refl _
  intro v5 w5 own5 g5 _
  have X5 : Below w4.heap.size w4 w5 := (Below.refl _ w4).grown g5 (Nat.le_refl _) (fun q hq => by simp [Value.ownBlock] at hq)
  have r5 := r4.below X5 (Nat.le_refl _)
  have z5 := X5.size
  replace own5 : w5.ownsRow w4.heap.size 5 1 v5 z (u8s Z) := by simpa using own5
  clear g5
  go_wp2_with (at_builtin; go_loud (refine wpl_append _ rfl (.tmp 54) (.tmp 55) 26 rfl w4.heap.size 5 (.int .u8 0) 1 1 Try.underlying26 info_u8 rfl (by decide) _ _ _ rfl own5 _ _ _ _ _ rfl r5 (u8s_one _) ?d1 ?d2 ?d3 ?_))
  case d1 => unfold maxLen; omega
  case d2 => omega
  case d3 => exact z5
  intro v6 w6 own6 g6 _
  have X6 := X5.grown g6 z5 (fun q hq => (own5.lt q hq).1)
  have r6 := rz.below X6 (Nat.le_refl _)
  have z6 := X6.size
  clear g6 own5 X5 r5 z5
  go_wp2_with (at_builtin; go_loud (refine wpl_append _ rfl (.tmp 57) (.tmp 58) 26 rfl w4.heap.size 5 (.int .u8 0) 1 1 Try.underlying26 info_u8 rfl (by decide) _ _ _ rfl own6 _ _ _ _ _ rfl r6 (u8s_one _) ?e1 ?e2 ?e3 ?_))
  case e1 => unfold maxLen; omega
  case e2 => omega
  case e3 => exact z6
  intro v7 w7 own7 g7 _
  have X7 := X6.grown g7 z6 (fun q hq => (own6.lt q hq).1)
  obtain ⟨L, hL⟩ : ∃ L, L = z + bs.length + z := ⟨_, rfl⟩
  replace own7 : w7.ownsRow w4.heap.size 5 1 v7 L (u8s (Z ++ (bs ++ Z))) := by
    rw [hL, u8s_append, u8s_append]
    simpa only [List.append_assoc] using own7
  have hLl : (Z ++ (bs ++ Z)).length = L := by simp only [List.length_append]; rw [HZL.out, hL]; omega
  have hL61 : L ≤ 6116 := by omega
  obtain ⟨A7, c7, rfl⟩ := own_form own7
  have CP := parse_any 4096 A7 c7 (Z ++ (bs ++ Z)) w7 (by rw [hLl]; exact Row.of_own own7) (by omega)
  rw [hLl, F1.out] at CP
  have HO := Lib.hid own7
  have HX := Lib.hid X7
  have HB4 := Lib.hid B4
  have HLL := Lib.hid hLl
  clear g7 own6 X6 r6 z6 own7 X7 hLl hL r4 rz B4
  go_wp2_with fail
  refine CP.mono ?_
  rintro e w8 ⟨A8, c8, ps8, rfl, hps8, its8, b8⟩
  have hps8n : ps8.length = ps.length := by have := congrArg List.length hps8; simp only [List.length_map] at this; rw [this, HNL.out]
  have B8 := (HB4.out.trans (HX.out.mono HB4.out.size)).trans (b8.mono (by have := HB4.out.size; have := HX.out.size; omega))
  have CP8 := plain_any A8 c8 ps8 w8 its8 (by omega)
  rw [hps8, hps8n] at CP8
  have HO8 := Lib.hid (own_below HO.out b8 (Nat.le_refl _))
  have HX8 := Lib.hid (HX.out.trans (b8.mono HX.out.size))
  clear CP HO HX b8 its8
  go_wp2_with fail
  refine CP8.mono ?_
  rintro e w9 ⟨A9, c9, rfl, r9, b9⟩
  have B9 := bnext B8 b9
  rw [HNL.out] at r9 ⊢
  clear CP8 hps8
  go_wp2_with fail
  refine (HPL.out w9 B9).mono ?_
  rintro e w10 ⟨A10, c10, rfl, r10, b10⟩
  have B10 := bnext B9 b10
  have b910 := b9.trans (b10.mono b9.size)
  have r910 := (r9.below b10 (Nat.le_refl _)).more b10.size
  rw [HNL.out] at r10 ⊢
  have CS := same_yes A9 A10 c9 c10 l w10 (by rw [HNL.out]; exact r910) (by rw [HNL.out]; exact r10) (by rw [HNL.out]; omega)
  rw [HNL.out] at CS
  clear r9 b9 b10 B9 B8
  go_wp2_with fail
  refine CS.mono ?_
  rintro e w11 ⟨rfl, mm, rfl⟩
  have HO11 := Lib.hid (show (w10.drewN mm).ownsRow w4.heap.size 5 1 (.slice A7 L c7) L (u8s (Z ++ (bs ++ Z))) from own_below HO8.out (bdrewN b910 mm) (Nat.le_refl _))
  have HX11 := Lib.hid (bdrewN (HX8.out.trans (b910.mono HX8.out.size)) mm)
  have HB11 := Lib.hid (bdrewN B10 mm)
  clear CS HO8 HX8 b910 r910 r10 B10
  generalize w10.drewN mm = w11 at *
  have CP2 := parse_any 4111 A7 c7 (Z ++ (bs ++ Z)) w11 (by rw [HLL.out]; exact Row.of_own HO11.out) (by rw [HLL.out]; omega)
  rw [HLL.out, F2.out] at CP2
  have B13 := HB11.out
  clear HO11
  go_wp2_with fail
  refine CP2.mono ?_
  rintro e w14 ⟨A14, c14, ps14, rfl, hps14, its14, b14⟩
  have hps14n : ps14.length = ps.length := by have := congrArg List.length hps14; simp only [List.length_map] at this; rw [this, HNL.out]
  have B14 := bnext B13 b14
  have CP14 := plain_any A14 c14 ps14 w14 its14 (by omega)
  rw [hps14, hps14n] at CP14
  clear CP2 b14 its14
  go_wp2_with fail
  refine CP14.mono ?_
  rintro e w15 ⟨A15, c15, rfl, r15, b15⟩
  have B15 := bnext B14 b15
  rw [HNL.out] at r15 ⊢
  clear CP14 hps14
  go_wp2_with fail
  refine (HPL.out w15 B15).mono ?_
  rintro e w16 ⟨A16, c16, rfl, r16, b16⟩
  have B16 := bnext B15 b16
  have r1516 := (r15.below b16 (Nat.le_refl _)).more b16.size
  rw [HNL.out] at r16 ⊢
  have CS2 := same_yes A15 A16 c15 c16 l w16 (by rw [HNL.out]; exact r1516) (by rw [HNL.out]; exact r16) (by rw [HNL.out]; omega)
  rw [HNL.out] at CS2
  clear r15 b15 b16 B15 B14
  go_wp2_with fail
  refine CS2.mono ?_
  rintro e w17 ⟨rfl, mm2, rfl⟩
  have HB17 := Lib.hid (bdrewN B16 mm2)
  clear CS2 r16 r1516 B16
  go_wp2
  go_ret
  exact ⟨rfl, HB17.out⟩

theorem walk (w : World) (A : Option Addr) (c : Nat) (ps : List Ip) (hl : ps.length ≤ maxLen) (h : Its w A ps) (n : Int) (hn : (Lit.int .u8 n).wf = true) (A1 : Option Addr) (c1 : Nat) (more : List UInt8) (hl1 : more.length ≤ maxLen) (hr1 : Row w w.heap.size 1 A1 more.length (u8s more)) :
    Calls Try.prog 5 #[.slice A ps.length c, .int .u8 n, .slice A1 more.length c1] w fun e w' => e = .returned (.bool true) ∧ Below w.heap.size w w' := by
  have gn := wf_u8 hn
  cases hf : fewB (ps.map Ip.it) with
  | false => exact walk_not w A c ps hl h n gn A1 c1 more hl1 (.inl hf)
  | true =>
    by_cases hm : 100 < more.length
    · exact walk_not w A c ps hl h n gn A1 c1 more hl1 (.inr hm)
    by_cases he : putE (ps.map Ip.it) = 0
    · cases hb : (ps.map Ip.it).any It.big with
      | true => exact walk_big w A c ps hl h n gn A1 c1 more hr1 hf (by omega) he hb
      | false => exact walk_small w A c ps hl h n gn A1 c1 more hr1 hf (by omega) he hb
    · exact walk_err w A c ps hl h n gn A1 c1 more hf (by omega) he

set_option maxRecDepth 100000 in
theorem lifted (os : Os) (started : os.Started) (H : Type) (enc : TypeId × Value → H) :
    ReturnsInHanded {} Try.checked os 5 .any (Rows.extBackSpec.pre6 enc Try.prog Try.f5 Rows.extBackRow.domain false) (Rows.extBackSpec.post enc Try.prog Try.f5 false true false false) := by
  refine returnsInHanded_of_change (C := Try.checked) own started (by kernel_rfl) Try.func5
    (ChangeSpec.witness6 (enc := enc) (C := Try.checked) false ⟨#[], #[.slice none 0 0, .int .u8 0, .slice none 0 0], []⟩ 8 (by kernel_rfl) (by kernel_rfl) (by kernel_rfl) (by kernel_rfl)) ?_
  intro W base args ds gs before hval0 hW _ _
  have hval : ∀ (j : Nat) t v, Try.f5.params[j]? = some t → args[j]? = some v → Value.okWide Try.prog W .any base t v := hval0
  have hW' := hW
  obtain ⟨p, q, hA0, hV, _, _, _⟩ := hW
  have hA : DataW.TrodAll enc Try.prog W 0 (fun _ => true) true Try.f5.params.toList args.toList ds p := hA0
  rw [Try.params5] at hA hval
  obtain ⟨v0, vs0, d0, ds0, p0, q0, hargs, rfl, _, h0, r0⟩ := trodAll_cons hA
  obtain ⟨v1, vs1, d1, ds1, p1, q1, rfl, rfl, _, h1, r1⟩ := trodAll_cons r0
  obtain ⟨v2, vs2, d2, ds2, p2, q2, rfl, rfl, _, h2, r2⟩ := trodAll_cons r1
  obtain ⟨rfl, rfl, _⟩ := trodAll_nil r2
  obtain rfl : args = #[v0, v1, v2] := by cases args; simp_all
  obtain ⟨rfl, _⟩ := trodVars_none hV
  refine law_post (s := Rows.extBackSpec) rfl rfl (by rw [Try.params5]; intro t ht; simp at ht; rcases ht with rfl | rfl | rfl <;> exact ⟨by kernel_rfl, of_decide_eq_true (by kernel_rfl)⟩) rfl hW' ?_
  obtain ⟨A0, c0, ps0, rfl, hl0, hi0⟩ := open_items (hval 0 22 v0 rfl rfl) h0
  obtain ⟨a1, rfl, _, _, w1⟩ := open_int Try.underlying5 (hval 1 5 v1 rfl rfl) h1
  obtain ⟨A2, c2, l2, rfl, hl2, hr2, _⟩ := open_bytes (hval 2 26 v2 rfl rfl) h2
  exact walk W A0 c0 ps0 hl0 hi0 a1 w1 A2 c2 l2 hl2 hr2

theorem over : Rows.extBackRow.holds Try.pinned (OpenSpec.ofChange Rows.extBackSpec) :=
  OpenClaim.holds_of_wide 5 Try.f5 rfl rfl rfl rfl rfl rfl rfl ⟨rfl, rfl, rfl, rfl, rfl⟩ rfl rfl rfl rfl rfl (by kernel_rfl) Try.func5 (by kernel_rfl)
    (of_decide_eq_true (by kernel_rfl)) (by unfold Func.isWrapper; first | (rw [if_pos (by decide +kernel)]; kernel_rfl) | (rw [if_neg (by decide +kernel)]; exact ⟨rfl, rfl⟩))
    (fun os started H enc _ => lifted os started H enc)

/-- The statement. -/
theorem extBack_holds : Rows.ExtBackSaid := over
end Go.Proofs.Ytdfbbmaaonkjiaa.EBack
