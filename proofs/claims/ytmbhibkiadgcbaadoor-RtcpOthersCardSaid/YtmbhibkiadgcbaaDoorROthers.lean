/-
  RtcpOthers: of a type that is of no other kind all of the body plays no part. Conditions: the package's table of kinds reads as the program's text lays it (the tied card).
-/
import Derived.Test.YtmbhibkiadgcbaaDoorRtS
import Derived.Test.YtmbhibkiadgcbaaDoorRtV
import Derived.Test.YtmbhibkiadgcbaaDoorRtF
import Derived.Test.YtmbhibkiadgcbaaDoorRtH
namespace Go.Proofs.YtmbhibkiadgcbaaDoor.ROthers
open Go.ChangeShapes Go.WideShapes Go.ChangeAt Go.RowKit

theorem one_msg {l : List (Ms × Sl)} {m : Ms} (h : l.map Prod.fst = [m]) : ∃ s, l = [(m, s)] := by
  match l, h with
  | [(m', s)], h =>
    simp only [List.map_cons, List.map_nil, List.cons.injEq, and_true] at h
    subst h
    exact ⟨s, rfl⟩
theorem info_byte : (Tryd.prog.info? 5).map (fun i => (i.zero, i.size, i.bytes)) = some (some (.int .u8 0), 1, 1) := by kernel_rfl
theorem u8s_cells (l : List UInt8) : ∀ u ∈ u8s l, u.oneCell' = true := by
  intro u hu
  obtain ⟨x, _, rfl⟩ := List.mem_map.1 hu
  rfl
theorem head_cells (q t0 n : Nat) (s : List UInt8) (hq : q < 32) (ht : t0 < 256) (hn : n ≤ 300) :
    [Value.int .u8 (128 + (q : Int)), .int .u8 (t0 : Int), .int .u8 ((n : Int) / 4 / 256), .int .u8 ((n : Int) / 4)] ++ u8s s = u8s ([UInt8.ofNat (128 + q), UInt8.ofNat t0] ++ (bytesN (n / 4) 2 ++ s)) := by
  simp only [u8s, bytesN, List.map_cons, List.cons_append, List.nil_append, UInt8.toNat_ofNat', List.cons.injEq, Value.int.injEq, true_and, and_true]
  omega
set_option maxRecDepth 100000 in
set_option maxHeartbeats 12000000 in
theorem walk (w : World) (hF : Forms w) (t0i : Int) (ht' : (Lit.int .u8 t0i).wf = true) (c0i : Int) (hc' : (Lit.int .u8 c0i).wf = true) (A : Option Addr) (c : Nat) (s : List UInt8) (hl : s.length ≤ maxLen) (h : Row w w.heap.size 1 A s.length (u8s s)) :
    Calls Tryd.prog 8 #[.int .u8 t0i, .int .u8 c0i, .slice A s.length c] w fun e w' => e = .returned (.bool true) ∧ Below w.heap.size w w' := by
  have ht2 := wf_u8 ht'
  have hc2 := wf_u8 hc'
  clear ht' hc'
  obtain ⟨t0, rfl⟩ := Int.eq_ofNat_of_zero_le ht2.1
  obtain ⟨c0, rfl⟩ := Int.eq_ofNat_of_zero_le hc2.1
  have ht : t0 < 256 := by omega
  have hc : c0 < 256 := by omega
  clear ht2 hc2
  obtain ⟨n, hn⟩ : ∃ n, s.length = n := ⟨_, rfl⟩
  rw [hn] at hl h ⊢
  have H := Lib.hid h
  have HN := Lib.hid hn
  have HFM := Lib.hid hF
  clear h hn hF
  unfold maxLen at hl
  go_enter Tryd.func8, Tryd.ntmps8
  go_wp2_with fail
  refine (awake9 w HFM.out).mono ?_
  rintro e w1 ⟨rfl, b1⟩
  have HB := Lib.hid b1
  clear b1
  have DONE : ∀ w' : World, w' = w1 → Ending.returned (.bool true) = .returned (.bool true) ∧ Below w.heap.size w w' := fun w' e => by subst e; exact ⟨rfl, HB.out⟩
  by_cases t1 : (300 : Int) < n
  · go_wp2
    go_ret
    exact ⟨rfl, HB.out⟩
  by_cases m4 : (n : Int) % 4 = 0
  case neg =>
    go_wp2
    go_ret
    exact ⟨rfl, HB.out⟩
  by_cases t2 : (t0 : Int) < 192
  · go_wp2
    go_ret
    exact ⟨rfl, HB.out⟩
  by_cases t3 : (223 : Int) < t0
  · go_wp2
    go_ret
    exact ⟨rfl, HB.out⟩
  obtain ⟨q, hq⟩ : ∃ q : Nat, q = c0 % 32 := ⟨_, rfl⟩
  have hr : (c0 : Int) % 32 = (q : Int) := by omega
  have hq32 : q < 32 := by omega
  have HQ := Lib.hid hq
  clear hq
  by_cases hK : t0 ≠ 200 ∧ t0 ≠ 201 ∧ t0 ≠ 203 ∧ ¬ (t0 = 205 ∧ q = 1) ∧ ¬ (t0 = 206 ∧ (q = 1 ∨ q = 4))
  case neg =>
    by_cases k0 : (t0 : Int) = 200
    · go_wp2
      go_ret
      exact ⟨rfl, HB.out⟩
    by_cases k1 : (t0 : Int) = 201
    · go_wp2
      go_ret
      exact ⟨rfl, HB.out⟩
    by_cases k2 : (t0 : Int) = 203
    · go_wp2
      go_ret
      exact ⟨rfl, HB.out⟩
    by_cases k3 : (t0 : Int) = 205
    · have q1 : (q : Int) = 1 := by omega
      go_wp2
      go_ret
      exact ⟨rfl, HB.out⟩
    · have k4 : (t0 : Int) = 206 := by omega
      by_cases q1 : (q : Int) = 1
      · go_wp2
        go_ret
        exact ⟨rfl, HB.out⟩
      · have q4 : (q : Int) = 4 := by omega
        go_wp2
        go_ret
        exact ⟨rfl, HB.out⟩
  have HK := Lib.hid hK
  have e0 : ¬ (t0 : Int) = 200 := by omega
  have e1 : ¬ (t0 : Int) = 201 := by omega
  have e2 : ¬ (t0 : Int) = 203 := by omega
  go_upto_region 6 with fail
  go_cut [31, 32, 33, 34, 35, 36, 37, 38, 39, 40, 41, 42, 43, 44, 45, 46, 47, 48, 49, 50, 51, 52, 53, 54, 55, 56, 57, 58, 59, 60, 61, 62, 63] (fun _ _ _ _ _ _ _ _ _ _ _ _ _ _ _ _ _ _ _ _ _ _ _ _ _ _ _ _ _ _ _ _ s63 wx => s63 = .bool false ∧ w1 = wx)
  case first =>
    have f0 : ((t0 : Int) == 200) = false := by simpa using e0
    have f1 : ((t0 : Int) == 201) = false := by simpa using e1
    have f2 : ((t0 : Int) == 203) = false := by simpa using e2
    clear e0 e1 e2
    by_cases k3 : (t0 : Int) = 205
    · have g3 : ((t0 : Int) == 205) = true := by simpa using k3
      have g4 : ((t0 : Int) == 206) = false := by simp only [beq_eq_false_iff_ne]; omega
      have g1 : ((q : Int) == 1) = false := by simp only [beq_eq_false_iff_ne]; omega
      clear hK k3
      go_wp2_with fail
      go_meet
      exact ⟨rfl, rfl⟩
    · have g3 : ((t0 : Int) == 205) = false := by simpa using k3
      by_cases k4 : (t0 : Int) = 206
      · have g4 : ((t0 : Int) == 206) = true := by simpa using k4
        have g1 : ((q : Int) == 1) = false := by simp only [beq_eq_false_iff_ne]; omega
        have g5 : ((q : Int) == 4) = false := by simp only [beq_eq_false_iff_ne]; omega
        clear hK k3 k4
        go_wp2_with fail
        go_meet
        exact ⟨rfl, rfl⟩
      · have g4 : ((t0 : Int) == 206) = false := by simpa using k4
        clear hK k3 k4
        go_wp2_with fail
        go_meet
        exact ⟨rfl, rfl⟩
  case rest =>
  obtain ⟨rfl, rfl⟩ := hcut
  clear hK e0 e1 e2
  have hs1 := HB.out.size
  have HLIT : Hid ((w1.alloc (.cells #[.int .u8 (128 + (q : Int)), .int .u8 (t0 : Int), .int .u8 ((n : Int) / 4 / 256), .int .u8 ((n : Int) / 4)] 5)).ownsRow w.heap.size 5 1 (.slice (some ⟨w1.heap.size, 0, none⟩) 4 4) 4 [.int .u8 (128 + (q : Int)), .int .u8 (t0 : Int), .int .u8 ((n : Int) / 4 / 256), .int .u8 ((n : Int) / 4)]) := Lib.hid (World.ownsRow_lit (base := w.heap.size) (e := 5) (size := 1) w1 #[.int .u8 (128 + (q : Int)), .int .u8 (t0 : Int), .int .u8 ((n : Int) / 4 / 256), .int .u8 ((n : Int) / 4)] 4 hs1 (by decide) rfl)
  have HR : Hid (Row (w1.alloc (.cells #[.int .u8 (128 + (q : Int)), .int .u8 (t0 : Int), .int .u8 ((n : Int) / 4 / 256), .int .u8 ((n : Int) / 4)] 5)) w.heap.size 1 A n (u8s s)) := Lib.hid ((H.out.below HB.out (Nat.le_refl _)).alloc hs1 _)
  have HE : Hid ((.int .u8 (128 + (q : Int)) :: .int .u8 (t0 : Int) :: .int .u8 ((n : Int) / 4 / 256) :: .int .u8 ((n : Int) / 4) :: u8s s : List Value) = u8s ([UInt8.ofNat (128 + q), UInt8.ofNat t0] ++ (bytesN (s.length / 4) 2 ++ s))) := Lib.hid (by rw [HN.out]; exact head_cells q t0 n s (by omega) (by omega) (by omega))
  have HPO : Hid (parseL ([UInt8.ofNat (128 + q), UInt8.ofNat t0] ++ (bytesN (s.length / 4) 2 ++ s)) = ([⟨6, 0, 0, 0, 0, 0, 0, [], [], [], [], t0⟩], 0)) := Lib.hid (parse_other t0 q s (by omega) (by omega) (by rw [HN.out]; omega) (by rw [HN.out]; omega) HK.out)
  have HLEN : Hid (([UInt8.ofNat (128 + q), UInt8.ofNat t0] ++ (bytesN (s.length / 4) 2 ++ s)).length = 4 + n) := Lib.hid (by simp [bytesN_length, HN.out]; omega)
  go_wp2_with (at_builtin; refine wpl_append _ rfl (.tmp 78) (.tmp 79) 25 rfl w.heap.size 5 (.int .u8 0) 1 1 Tryd.underlying25 info_byte rfl (by decide) (.slice (some ⟨w1.heap.size, 0, none⟩) 4 4) 4 _ rfl HLIT.out w.heap.size A n c (u8s s) rfl HR.out (by exact u8s_cells _) ?c1 ?c2 ?c3 ?_)
  case c1 => unfold maxLen; omega
  case c2 => omega
  case c3 => simp; omega
  intro v3 w3 hown3 hg3 hwhere
  obtain ⟨A3, c3, rfl⟩ := own_form hown3
  rw [HE.out] at hown3
  have B3 : Hid (Below w.heap.size w w3) := Lib.hid ((HB.out.alloc hs1 _).grown hg3 (by simp; omega) (fun q' hq' => by have := (HLIT.out.lt q' hq').1; omega))
  have R3 := Row.of_own hown3
  clear hown3 hg3 hwhere HLIT HR HE
  go_wp2_with fail
  refine (rparse_any A3 c3 (4 + n) _ w3 (HFM.out.next B3.out) R3 HLEN.out (by omega)).mono ?_
  rintro e w4 ⟨⟨A4, c4, k4', l4, rfl, hk4, hm4, r4⟩, b4⟩
  rw [HPO.out] at hm4 ⊢
  have B4 := Lib.hid (bnext B3.out b4)
  clear b4 B3 R3 HLEN HPO
  obtain ⟨s5, rfl⟩ := one_msg hm4
  clear hm4
  obtain rfl : 1 = k4' := hk4
  obtain ⟨g, o, rfl, hg, hcs, hat⟩ := r4.at 0 _ rfl
  dsimp only at hcs hat
  have fit : (⟨6, 0, 0, 0, 0, 0, 0, [], [], [], [], t0⟩ : Ms).Fits := ⟨(by dsimp only; omega), (by dsimp only; omega), (by dsimp only; omega), (by dsimp only; omega), (by dsimp only; omega), (by dsimp only; omega), (by dsimp only; omega), nilR, nilN, nilP, nilP, (by dsimp only; omega)⟩
  have md : (⟨6, 0, 0, 0, 0, 0, 0, [], [], [], [], t0⟩ : Ms).Mod := ⟨by simp, by simp, by simp, by simp⟩
  have C := Lib.hid (of_any _ s5 w4 hat fit md)
  have p0 : w4.cell? ⟨g, o, none⟩ = some (.int .i64 6) := by have := hcs 0 _ rfl; simpa using this
  have p1 : w4.cell? ⟨g, o + 1, none⟩ = some (.int .u32 0) := by have := hcs 1 _ rfl; simpa using this
  have p2 : w4.cell? ⟨g, o + 2, none⟩ = some (.int .u32 0) := by have := hcs 2 _ rfl; simpa using this
  have p3 : w4.cell? ⟨g, o + 3, none⟩ = some (.int .u64 0) := by have := hcs 3 _ rfl; simpa using this
  have p4 : w4.cell? ⟨g, o + 4, none⟩ = some (.int .u32 0) := by have := hcs 4 _ rfl; simpa using this
  have p5 : w4.cell? ⟨g, o + 5, none⟩ = some (.int .u32 0) := by have := hcs 5 _ rfl; simpa using this
  have p6 : w4.cell? ⟨g, o + 6, none⟩ = some (.int .u32 0) := by have := hcs 6 _ rfl; simpa using this
  have p7 : w4.cell? ⟨g, o + 7, none⟩ = some (.slice s5.rA 0 s5.rc) := by have := hcs 7 _ rfl; simpa using this
  have p8 : w4.cell? ⟨g, o + 8, none⟩ = some (.slice s5.wA 0 s5.wc) := by have := hcs 8 _ rfl; simpa using this
  have p9 : w4.cell? ⟨g, o + 9, none⟩ = some (.slice s5.pA 0 s5.pc) := by have := hcs 9 _ rfl; simpa using this
  have p10 : w4.cell? ⟨g, o + 10, none⟩ = some (.slice s5.aA 0 s5.ac) := by have := hcs 10 _ rfl; simpa using this
  have p11 : w4.cell? ⟨g, o + 11, none⟩ = some (.int .u8 (t0 : Int)) := by have := hcs 11 _ rfl; simpa using this
  clear hcs
  simp only [Ms.cells, List.length_nil, Int.ofNat_zero] at C
  clear hat
  clear HK HQ fit
  go_wp2_with fail
  refine C.out.mono ?_
  rintro e w5 ⟨⟨s6, rfl, ms6, hnw, hwa⟩, b5⟩
  clear hnw hwa
  have B5 := Lib.hid (bnext B4.out b5)
  have C2 := (sameM_any ⟨6, 0, 0, 0, 0, 0, 0, [], [], [], [], t0⟩ ⟨6, 0, 0, 0, 0, 0, 0, [], [], [], [], t0⟩ s6 ⟨none, 0, none, 0, none, 0, none, 0⟩ w5 ms6 ⟨Row.nil, Row.nil, Row.nil, Row.nil⟩ md md)
  have hd : decide ((⟨6, 0, 0, 0, 0, 0, 0, [], [], [], [], t0⟩ : Ms) = ⟨6, 0, 0, 0, 0, 0, 0, [], [], [], [], t0⟩) = true := by simp
  rw [hd] at C2
  clear hd
  simp only [Ms.cells, List.length_nil, Int.ofNat_zero] at C2
  have C2 := Lib.hid C2
  clear C b5 ms6 md B4 p0 p1 p2 p3 p4 p5 p6 p7 p8 p9 p10 p11 r4
  go_wp2_with fail
  refine C2.out.mono ?_
  rintro e w6 ⟨rfl, b6⟩
  have B6 := Lib.hid (bnext B5.out b6)
  clear C2 b6
  go_wp2
  go_ret
  exact ⟨rfl, B6.out⟩
set_option maxRecDepth 100000 in
theorem lifted (os : Os) (started : os.Started) (H : Type) (enc : TypeId × Value → H) :
    ReturnsInHanded {} Tryd.checked os 8 .any (fun w args => (Rows.rtcpOthersSpec.pre enc Tryd.prog Tryd.f8 [] false w args ∧ laidMetH Tryd.prog laid9 w) ∧ sizedMet enc Tryd.prog Tryd.f8 (OpenSpec.ofChange Rows.rtcpOthersSpec) false w args) (Rows.rtcpOthersSpec.post enc Tryd.prog Tryd.f8 false true false false) := by
  refine returnsInHanded_of_change_and (C := Tryd.checked) (X := fun w _ => laidMetH Tryd.prog laid9 w) (fun _ _ _ hh h => h.of_heap hh) own9 started (by kernel_rfl) Tryd.func8
    (ChangeSpec.witness_shaped (enc := enc) (C := Tryd.checked) (os := os) (X := fun w _ => laidMetH Tryd.prog laid9 w) false (World.doorLaid Tryd.prog 400 os) #[.int .u8 0, .int .u8 0, .slice none 0 0] 8 rfl (World.shaped_of_RefB (by kernel_rfl) (by kernel_rfl)) (by kernel_rfl) (by kernel_rfl) (by kernel_rfl) (door_met os _)) ?_
  intro W base args ds gs before hval0 hW _ _ hL _
  have hval : ∀ (j : Nat) t v, Tryd.f8.params[j]? = some t → args[j]? = some v → Value.okWide Tryd.prog W .any base t v := hval0
  have hW' := hW
  obtain ⟨p, q, hA0, hV, _, _, _⟩ := hW
  have hA : DataW.TrodAll enc Tryd.prog W 0 (fun _ => true) true Tryd.f8.params.toList args.toList ds p := hA0
  rw [Tryd.params8] at hA hval
  obtain ⟨v0, vs0, d0, ds0, p0, q0, hargs, rfl, _, h0, r0⟩ := trodAll_cons hA
  obtain ⟨v1, vs1, d1, ds1, p1, q1, rfl, rfl, _, h1, r1⟩ := trodAll_cons r0
  obtain ⟨v2, vs2, d2, ds2, p2, q2, rfl, rfl, _, h2, r2⟩ := trodAll_cons r1
  obtain ⟨rfl, rfl, _⟩ := trodAll_nil r2
  obtain rfl : args = #[v0, v1, v2] := by cases args; simp_all
  obtain ⟨rfl, _⟩ := trodVars_none hV
  refine law_post (s := Rows.rtcpOthersSpec) rfl rfl (by rw [Tryd.params8]; intro t ht; simp at ht; rcases ht with rfl | rfl | rfl <;> exact ⟨by kernel_rfl, of_decide_eq_true (by kernel_rfl)⟩) rfl hW' ?_
  obtain ⟨a0, rfl, _, _, w0⟩ := open_int Tryd.underlying5 (hval 0 5 v0 rfl rfl) h0
  obtain ⟨a1, rfl, _, _, w1⟩ := open_int Tryd.underlying5 (hval 1 5 v1 rfl rfl) h1
  obtain ⟨A2, c2, l2, rfl, hl2, hr2, _, _⟩ := open_bytes (hval 2 25 v2 rfl rfl) h2
  exact walk W (forms_of_laid hL) a0 w0 a1 w1 A2 c2 l2 hl2 hr2

theorem over : Rows.RtcpOthersSaid :=
  OpenClaim.holds_of_wide 8 Tryd.f8 rfl rfl rfl rfl rfl rfl rfl ⟨rfl, rfl, rfl, rfl, rfl⟩ rfl rfl rfl rfl rfl (by kernel_rfl) Tryd.func8 (by kernel_rfl)
    (of_decide_eq_true (by kernel_rfl)) (by unfold Func.isWrapper; first | (rw [if_pos (by decide +kernel)]; kernel_rfl) | (rw [if_neg (by decide +kernel)]; exact ⟨rfl, rfl⟩))
    (fun os started H enc _ => lifted os started H enc)

/-- The statement: the tied card. -/
theorem rtcpOthers_holds : Rows.RtcpOthersCardSaid :=
  Claim7.holds_tied_plain_at .later [] [.data] true (true, "43220aab9b1970ee321f7e0974090884d79636b54e389793af709f370493d7b1") false
    over (fun _ h => by cases h) (by kernel_rfl) (fun _ h => by cases h) rtcpOthers_row_tie rfl ⟨rfl, rfl⟩ (by kernel_rfl) rfl
    (fun f fn hf hfn => by
      obtain rfl : f = 8 := Option.some.inj ((show Tryd.prog.funcNamed "louver/louverlaw09.RtcpOthers" = some 8 by kernel_rfl).symm.trans hf) |>.symm
      obtain rfl : fn = Tryd.f8 := (Option.some.inj (Tryd.func8.symm.trans hfn)).symm
      exact ⟨by kernel_rfl, fun j t ht => by
        rw [Tryd.params8] at ht
        have hm : t ∈ [5, 5, 25] := by simpa using Array.mem_of_getElem? ht
        have hall : ([5, 5, 25].all fun u => !Tryd.prog.wantsStandIn u) = true := by kernel_rfl
        exact (show Tryd.prog.wantsStandIn t = false by simpa using List.all_eq_true.1 hall t hm)⟩)
    (by kernel_rfl)
end Go.Proofs.YtmbhibkiadgcbaaDoor.ROthers
