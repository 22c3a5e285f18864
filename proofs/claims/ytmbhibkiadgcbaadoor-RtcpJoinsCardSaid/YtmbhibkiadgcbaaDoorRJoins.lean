/-
  RtcpJoins: the bytes of two rows of messages are those of both, and are parsed as all of them. Conditions: the package's table of kinds reads as the program's text lays it (the tied card).
-/
import Derived.Test.YtmbhibkiadgcbaaDoorRtS
namespace Go.Proofs.YtmbhibkiadgcbaaDoor.RJoins
open Go.ChangeShapes Go.WideShapes Go.ChangeAt Go.RowKit
set_option maxRecDepth 100000

theorem msC_one (l : List (Ms × Sl)) : ∀ u ∈ msC l, u.oneCell' = true := by
  intro u hu
  obtain ⟨x, _, hx⟩ := List.mem_flatMap.1 hu
  simp only [Ms.cells, List.mem_cons, List.not_mem_nil, or_false] at hx
  rcases hx with rfl | rfl | rfl | rfl | rfl | rfl | rfl | rfl | rfl | rfl | rfl | rfl <;> rfl
theorem map_fst_append (a b : List (Ms × Sl)) : (a ++ b).map Prod.fst = a.map Prod.fst ++ b.map Prod.fst := List.map_append

set_option maxHeartbeats 6400000 in
theorem walk (w : World) (hF : Forms w) (A : Option Addr) (c : Nat) (l : List (Ms × Sl)) (hl : l.length ≤ maxLen) (h : CmRow w w.heap.size A l) (hfit : ∀ x ∈ l, x.1.Fits)
    (A' : Option Addr) (c' : Nat) (l' : List (Ms × Sl)) (hl' : l'.length ≤ maxLen) (h' : CmRow w w.heap.size A' l') (hfit' : ∀ x ∈ l', x.1.Fits) :
    Calls Tryd.prog 7 #[.slice A l.length c, .slice A' l'.length c'] w fun e w' => e = .returned (.bool true) ∧ Below w.heap.size w w' := by
  obtain ⟨n, hn⟩ : ∃ n, l.length = n := ⟨_, rfl⟩
  obtain ⟨n', hn'⟩ : ∃ n, l'.length = n := ⟨_, rfl⟩
  rw [hn] at hl ⊢
  rw [hn'] at hl' ⊢
  have H := Lib.hid h
  have HN := Lib.hid hn
  have HF := Lib.hid hfit
  have H' := Lib.hid h'
  have HN' := Lib.hid hn'
  have HF' := Lib.hid hfit'
  have HFM := Lib.hid hF
  clear h hn hfit h' hn' hfit' hF
  obtain ⟨b, hb⟩ : ∃ b, fewM (l.map Prod.fst) = b := ⟨_, rfl⟩
  have HW := Lib.hid hb
  obtain ⟨b', hb'⟩ : ∃ b, fewM (l'.map Prod.fst) = b := ⟨_, rfl⟩
  have HW' := Lib.hid hb'
  clear hb hb'
  go_enter Tryd.func7, Tryd.ntmps7
  go_wp2_with fail
  refine (awake9 w HFM.out).mono ?_
  rintro e w1 ⟨rfl, b1⟩
  have HB1 := Lib.hid b1
  have C1 := few_any A c n l w1 ((H.out.below b1 (Nat.le_refl _)).more b1.size) HN.out hl
  have C2 := few_any A' c' n' l' w1 ((H'.out.below b1 (Nat.le_refl _)).more b1.size) HN'.out hl'
  rw [HW.out] at C1
  rw [HW'.out] at C2
  clear b1
  go_wp2_with fail
  refine C1.mono ?_
  rintro e w2 ⟨rfl, rfl⟩
  go_wp2_with fail
  refine C2.mono ?_
  rintro e w2 ⟨rfl, rfl⟩
  clear C1 C2
  cases b with
  | false =>
    go_wp2
    go_ret
    exact ⟨rfl, HB1.out⟩
  | true =>
  cases b' with
  | false =>
    go_wp2
    go_ret
    exact ⟨rfl, HB1.out⟩
  | true =>
  obtain ⟨hf, h12⟩ := few_mod HW.out HF.out
  obtain ⟨hf', h12'⟩ := few_mod HW'.out HF'.out
  rw [HN.out] at h12
  rw [HN'.out] at h12'
  obtain ⟨⟨bx, ex⟩, hpx⟩ : ∃ p, putL (l.map Prod.fst) = p := ⟨_, rfl⟩
  obtain ⟨⟨by', ey⟩, hpy⟩ : ∃ p, putL (l'.map Prod.fst) = p := ⟨_, rfl⟩
  obtain ⟨⟨bz, ez⟩, hpz⟩ : ∃ p, putL ((l ++ l').map Prod.fst) = p := ⟨_, rfl⟩
  have HALL : ∀ x ∈ l ++ l', x.1.Fits ∧ x.1.Few := fun x hx => (List.mem_append.1 hx).elim (hf x) (hf' x)
  have HREL : Hid (ez = 0 → ex = 0 ∧ ey = 0 ∧ bx ++ by' = bz ∧ bz.length % 4 = 0 ∧ bz.length ≤ 1500 ∧ (0 < n + n' → isB bz = true ∧ (parseL bz).1.length = n + n' ∧ (parseL bz).2 = 0) ∧ (n + n' = 0 → bz = [])) := Lib.hid (by
    intro h0
    subst h0
    have hz : (putL (l.map Prod.fst ++ l'.map Prod.fst)).2 = 0 := by rw [← List.map_append, hpz]
    obtain ⟨h1, h2⟩ := putL_append _ _ hz
    rw [hpx] at h1
    rw [hpy] at h2
    rcases putL_cases (l.map Prod.fst) with ⟨p1, g1, s1⟩ | ⟨_, p2, _⟩
    · rcases putL_cases (l'.map Prod.fst) with ⟨p1', g1', s1'⟩ | ⟨_, p2, _⟩
      · rcases putL_cases ((l ++ l').map Prod.fst) with ⟨p3, g3, s3⟩ | ⟨_, p2, _⟩
        · rw [hpx] at p1
          rw [hpy] at p1'
          rw [hpz] at p3
          injection p1 with q1 q2
          injection p1' with q3 q4
          injection p3 with q5 q6
          have hlen : ((l ++ l').map Prod.fst).length = n + n' := by rw [List.length_map, List.length_append, HN.out, HN'.out]
          refine ⟨h1, h2, by rw [q1, q3, q5, map_fst_append, encs_append], by rw [q5]; exact encs_four _, by rw [q5]; exact s3, fun hpos => ?_, fun h00 => ?_⟩
          · have hne : (l ++ l').map Prod.fst ≠ [] := fun e => by rw [e] at hlen; simp at hlen; omega
            have hpp := parse_put ((l ++ l').map Prod.fst) (fun m hm => by
              obtain ⟨x, hx, rfl⟩ := List.mem_map.1 hm
              exact ⟨g3 _ hm, HALL x hx⟩) hne (by omega)
            rw [q5, hpp]
            exact ⟨encs_is _ g3 hne, by rw [List.length_map]; exact hlen, rfl⟩
          · rw [q5, List.eq_nil_of_length_eq_zero (hlen.trans h00)]; rfl
        · rw [hpz] at p2; exact absurd rfl p2
      · rw [hpy] at p2; exact absurd h2 p2
    · rw [hpx] at p2; exact absurd h1 p2)
  have CX := rput_any A c n l w1 (HFM.out.next HB1.out) ((H.out.below HB1.out (Nat.le_refl _)).more HB1.out.size) HN.out hf (by omega)
  rw [hpx] at CX
  have CXH : Hid (Calls Tryd.prog 11 #[.slice A n c] w1 fun e w' => (∃ (A' : Option Addr) (c' : Nat), e = .returned (.tuple #[.slice A' bx.length c', .int .i64 ex]) ∧ w'.ownsRow w1.heap.size 5 1 (.slice A' bx.length c') bx.length (u8s bx)) ∧ Below w1.heap.size w1 w') := Lib.hid CX
  have HPY := Lib.hid hpy
  have HPZ := Lib.hid hpz
  have HFF' := Lib.hid hf'
  have HALLH := Lib.hid HALL
  clear CX hpx hpy hpz hf hf' HALL
  go_wp2_with fail
  refine CXH.out.mono ?_
  rintro e w3 ⟨⟨A3, c3, rfl, o3⟩, b3⟩
  have B3 := bnext HB1.out b3
  have R3 := Row.of_own o3
  have CY := rput_any A' c' n' l' w3 (HFM.out.next B3) ((H'.out.below B3 (Nat.le_refl _)).more B3.size) HN'.out HFF'.out (by omega)
  rw [HPY.out] at CY
  have CYH : Hid (Calls Tryd.prog 11 #[.slice A' n' c'] w3 fun e w' => (∃ (A' : Option Addr) (c' : Nat), e = .returned (.tuple #[.slice A' by'.length c', .int .i64 ey]) ∧ w'.ownsRow w3.heap.size 5 1 (.slice A' by'.length c') by'.length (u8s by')) ∧ Below w3.heap.size w3 w') := Lib.hid CY
  have HR3 := Lib.hid R3
  have HB3 := Lib.hid B3
  clear CXH CY o3 b3 R3 B3 HB1
  go_wp2_with fail
  refine CYH.out.mono ?_
  rintro e w4 ⟨⟨A4, c4, rfl, o4⟩, b4⟩
  have B4 := bnext HB3.out b4
  have R4 := Lib.hid (Row.of_own o4)
  have R34 := Lib.hid ((HR3.out.below b4 (Nat.le_refl _)).more b4.size)
  have ha := H.out.row.below B4 (Nat.le_refl _)
  rw [HN.out] at ha
  have hs4 := B4.size
  have HB4 := Lib.hid B4
  clear CYH o4 b4 HR3 HB3
  go_wp2_with (at_builtin; go_loud (refine wpl_append _ rfl (.tmp 40) (.tmp 41) 22 rfl w4.heap.size 59 (.agg #[.int .i64 0, .int .u32 0, .int .u32 0, .int .u64 0, .int .u32 0, .int .u32 0, .int .u32 0, .slice none 0 0, .slice none 0 0, .slice none 0 0, .slice none 0 0, .int .u8 0]) 12 144 Tryd.underlying22 info_Msg rfl (by decide) (.slice none 0 0) 0 [] rfl (World.ownsRow_nil _ _ _ _) w.heap.size A n c (msC l) rfl ha (msC_one l) ?c1 ?c2 ?c3 ?_))
  case c1 => unfold maxLen; omega
  case c2 => omega
  case c3 => exact Nat.le_refl _
  intro v5 w5 own5 g5 _
  obtain ⟨A5, c5, rfl⟩ := own_form own5
  have b5 : Below w4.heap.size w4 w5 := (Below.refl _ _).grown g5 (Nat.le_refl _) (fun q hq => by simp [Value.ownBlock] at hq)
  have B5 := bnext HB4.out b5
  have ha' := H'.out.row.below B5 (Nat.le_refl _)
  rw [HN'.out] at ha'
  have HB5 := Lib.hid B5
  have hs5 := b5.size
  clear ha g5 B5 HB4
  go_wp2_with (at_builtin; go_loud (refine wpl_append _ rfl (.tmp 43) (.tmp 44) 22 rfl w4.heap.size 59 (.agg #[.int .i64 0, .int .u32 0, .int .u32 0, .int .u64 0, .int .u32 0, .int .u32 0, .int .u32 0, .slice none 0 0, .slice none 0 0, .slice none 0 0, .slice none 0 0, .int .u8 0]) 12 144 Tryd.underlying22 info_Msg rfl (by decide) _ _ _ rfl own5 w.heap.size A' n' c' (msC l') rfl ha' (msC_one l') ?d1 ?d2 ?d3 ?_))
  case d1 => unfold maxLen; omega
  case d2 => omega
  case d3 => exact hs5
  intro v6 w6 own6 g6 _
  obtain ⟨A6, c6, rfl⟩ := own_form own6
  obtain ⟨N, hN⟩ : ∃ N, n + n' = N := ⟨_, rfl⟩
  rw [hN] at own6 ⊢
  have B6 := HB5.out.grown g6 HB5.out.size (fun q hq => Nat.le_trans hs4 (own5.lt q hq).1)
  have B46 := b5.grown g6 b5.size (fun q hq => (own5.lt q hq).1)
  have hlenN : (l ++ l').length = N := by rw [List.length_append, HN.out, HN'.out, hN]
  have RM : CmRow w6 w6.heap.size A6 (l ++ l') := ⟨by
      have := Row.of_own own6
      rw [msC_append, hlenN]
      exact this, fun x hx => (List.mem_append.1 hx).elim (fun hx => ((H.out.each x hx).below B6 (Nat.le_refl _)).more B6.size) (fun hx => ((H'.out.each x hx).below B6 (Nat.le_refl _)).more B6.size)⟩
  have CZ := rput_any A6 c6 N (l ++ l') w6 (HFM.out.next B6) RM hlenN HALLH.out (by omega)
  rw [HPZ.out] at CZ
  rw [hN] at HREL
  have CZH : Hid (Calls Tryd.prog 11 #[.slice A6 N c6] w6 fun e w' => (∃ (A' : Option Addr) (c' : Nat), e = .returned (.tuple #[.slice A' bz.length c', .int .i64 ez]) ∧ w'.ownsRow w6.heap.size 5 1 (.slice A' bz.length c') bz.length (u8s bz)) ∧ Below w6.heap.size w6 w') := Lib.hid CZ
  have hs6 := B46.size
  have HB6 := Lib.hid B6
  have HB46 := Lib.hid B46
  clear own5 own6 g6 RM CZ hlenN ha' b5 HB5 HPY HPZ HFF' HALLH B6 B46 HF HF' HW HW' H H' HN HN'
  go_wp2_with fail
  refine CZH.out.mono ?_
  rintro e w7 ⟨⟨A7, c7, rfl, o7⟩, b7⟩
  have B47 := HB46.out.trans (b7.mono hs6)
  have HB7 := Lib.hid (bnext HB6.out b7)
  have R7 := Row.of_own o7
  have RX := (R34.out.below B47 (Nat.le_refl _)).more B47.size
  have RY := (R4.out.below B47 (Nat.le_refl _)).more B47.size
  have HR7 := Lib.hid R7
  have HRX := Lib.hid RX
  have HRY := Lib.hid RY
  clear CZH o7 b7 B47 R7 RX RY R34 R4 HB46 HB6
  by_cases hz : ez = 0
  · subst hz
    obtain ⟨rfl, rfl, hcat, h4, h15, hpos, hnil⟩ := HREL.out rfl
    have CPA := rparse_any A7 c7 bz.length bz w7 (HFM.out.next HB7.out) HR7.out rfl (by omega)
    have HCAT := Lib.hid hcat
    have H4 := Lib.hid h4
    by_cases h0 : N = 0
    · have hbz := hnil h0
      subst hbz
      subst h0
      have CPH : Hid (Calls Tryd.prog 14 #[.slice A7 0 c7] w7 fun e w' => (∃ (A' : Option Addr) (c' k : Nat) (l' : List (Ms × Sl)), e = .returned (.tuple #[.slice A' k c', .int .i64 10]) ∧ l'.length = k ∧ l'.map Prod.fst = [] ∧ CmRow w' w'.heap.size A' l') ∧ Below w7.heap.size w7 w') := Lib.hid CPA
      clear CPA HREL hcat h4 h15 hpos hnil HCAT H4 HR7 HRX HRY
      go_wp2_with fail
      refine CPH.out.mono ?_
      rintro e w8 ⟨⟨A8, c8, k8, l8, rfl, _, _, _⟩, b8⟩
      have HR := Lib.hid (bnext HB7.out b8)
      clear CPH b8 HB7
      go_wp2
      go_ret
      exact ⟨rfl, HR.out⟩
    · obtain ⟨his, hpl, hpe⟩ := hpos (by omega)
      obtain ⟨⟨pl, pe⟩, hpp⟩ : ∃ p, parseL bz = p := ⟨_, rfl⟩
      unfold ParseOut at CPA
      rw [hpp] at CPA hpl hpe
      dsimp only at hpl hpe
      subst hpe
      have CPH : Hid (Calls Tryd.prog 14 #[.slice A7 bz.length c7] w7 fun e w' => (∃ (A' : Option Addr) (c' : Nat), e = .returned (.tuple #[.slice A' N c', .int .i64 0])) ∧ Below w7.heap.size w7 w') := Lib.hid (CPA.mono fun e w' hh => by
        obtain ⟨⟨A', c', k, l2, h1, h2, h3, _⟩, h5⟩ := hh
        have hk : k = N := by have := congrArg List.length h3; rw [List.length_map] at this; dsimp only at this; omega
        subst hk
        exact ⟨⟨A', c', h1⟩, h5⟩)
      have h0' : ¬ (N : Int) = 0 := by omega
      have HIS := Lib.hid his
      have h4' : (bz.length : Int) % 4 = 0 := by omega
      clear CPA HREL hcat h4 hpos hnil hpp hpl his h0
      go_wp2_with fail
      refine CPH.out.mono ?_
      rintro e w8 ⟨⟨A8, c8, rfl⟩, b8⟩
      have r7 := (HR7.out.below b8 (Nat.le_refl _)).more b8.size
      have rx := (HRX.out.below b8 (Nat.le_refl _)).more b8.size
      have ry := (HRY.out.below b8 (Nat.le_refl _)).more b8.size
      have tz := run_text (P := Tryd.prog) w8 25 5 9 Tryd.underlying25 Tryd.underlying5 Tryd.underlying9 _ _ _ c7 _ r7
      have tx := run_text (P := Tryd.prog) w8 25 5 9 Tryd.underlying25 Tryd.underlying5 Tryd.underlying9 _ _ _ c3 _ rx
      have ty := run_text (P := Tryd.prog) w8 25 5 9 Tryd.underlying25 Tryd.underlying5 Tryd.underlying9 _ _ _ c4 _ ry
      have tz' : (convert 25 9 (.slice A7 bz.length c7)).run Tryd.prog w8 = .ok (.string (str (bx ++ by'))) w8 := by rw [HCAT.out]; exact tz
      have hsum : ¬ 9223372036854775807 < bx.length + by'.length := by have := congrArg List.length HCAT.out; rw [List.length_append] at this; omega
      have CI := is_any A7 c7 bz.length bz w8 r7 rfl (by omega)
      rw [HIS.out] at CI
      have HCI := Lib.hid CI
      have HR := Lib.hid (bnext HB7.out b8)
      clear CPH b8 HB7 HR7 HRX HRY r7 rx ry CI tz
      go_wp2_with fail
      refine HCI.out.mono ?_
      rintro e w9 ⟨rfl, b9⟩
      have HRR := Lib.hid (bnext HR.out b9)
      clear HCI HR b9 tz' tx ty
      go_wp2
      go_ret
      exact ⟨rfl, HRR.out⟩
  · have HR := Lib.hid HB7.out
    clear HREL HB7 HR7 HRX HRY
    by_cases hx : ex = 0
    · by_cases hy : ey = 0
      · go_wp2
        go_ret
        exact ⟨rfl, HR.out⟩
      · go_wp2
        go_ret
        exact ⟨ret_boolR (a := ez != 0) (by simpa using hz), HR.out⟩
    · go_wp2
      go_ret
      exact ⟨ret_boolR (a := ez != 0) (by simpa using hz), HR.out⟩
set_option maxRecDepth 100000 in
theorem lifted (os : Os) (started : os.Started) (H : Type) (enc : TypeId × Value → H) :
    ReturnsInHanded {} Tryd.checked os 7 .any (fun w args => (Rows.rtcpJoinsSpec.pre enc Tryd.prog Tryd.f7 [] false w args ∧ laidMetH Tryd.prog laid9 w) ∧ sizedMet enc Tryd.prog Tryd.f7 (OpenSpec.ofChange Rows.rtcpJoinsSpec) false w args) (Rows.rtcpJoinsSpec.post enc Tryd.prog Tryd.f7 false true false false) := by
  refine returnsInHanded_of_change_and (C := Tryd.checked) (X := fun w _ => laidMetH Tryd.prog laid9 w) (fun _ _ _ hh h => h.of_heap hh) own9 started (by kernel_rfl) Tryd.func7
    (ChangeSpec.witness_shaped (enc := enc) (C := Tryd.checked) (os := os) (X := fun w _ => laidMetH Tryd.prog laid9 w) false (World.doorLaid Tryd.prog 400 os) #[.slice none 0 0, .slice none 0 0] 8 rfl (World.shaped_of_RefB (by kernel_rfl) (by kernel_rfl)) (by kernel_rfl) (by kernel_rfl) (by kernel_rfl) (door_met os _)) ?_
  intro W base args ds gs before hval0 hW _ _ hL _
  have hval : ∀ (j : Nat) t v, Tryd.f7.params[j]? = some t → args[j]? = some v → Value.okWide Tryd.prog W .any base t v := hval0
  have hW' := hW
  obtain ⟨p, q, hA0, hV, _, _, _⟩ := hW
  have hA : DataW.TrodAll enc Tryd.prog W 0 (fun _ => true) true Tryd.f7.params.toList args.toList ds p := hA0
  rw [Tryd.params7] at hA hval
  obtain ⟨v0, vs0, d0, ds0, p0, q0, hargs, rfl, _, h0, r0⟩ := trodAll_cons hA
  obtain ⟨v1, vs1, d1, ds1, p1, q1, rfl, rfl, _, h1, r1⟩ := trodAll_cons r0
  obtain ⟨rfl, rfl, _⟩ := trodAll_nil r1
  obtain rfl : args = #[v0, v1] := by cases args; simp_all
  obtain ⟨rfl, _⟩ := trodVars_none hV
  refine law_post (s := Rows.rtcpJoinsSpec) rfl rfl (by rw [Tryd.params7]; intro t ht; simp at ht; rcases ht with rfl | rfl <;> exact ⟨by kernel_rfl, of_decide_eq_true (by kernel_rfl)⟩) rfl hW' ?_
  obtain ⟨A0, c0, l0, rfl, hl0, hr0, hf0, _, _⟩ := open_msgs (hval 0 22 v0 rfl rfl) h0
  obtain ⟨A1, c1, l1, rfl, hl1, hr1, hf1, _, _⟩ := open_msgs (hval 1 22 v1 rfl rfl) h1
  exact walk W (forms_of_laid hL) A0 c0 l0 hl0 hr0 hf0 A1 c1 l1 hl1 hr1 hf1

theorem over : Rows.RtcpJoinsSaid :=
  OpenClaim.holds_of_wide 7 Tryd.f7 rfl rfl rfl rfl rfl rfl rfl ⟨rfl, rfl, rfl, rfl, rfl⟩ rfl rfl rfl rfl rfl (by kernel_rfl) Tryd.func7 (by kernel_rfl)
    (of_decide_eq_true (by kernel_rfl)) (by unfold Func.isWrapper; first | (rw [if_pos (by decide +kernel)]; kernel_rfl) | (rw [if_neg (by decide +kernel)]; exact ⟨rfl, rfl⟩))
    (fun os started H enc _ => lifted os started H enc)

/-- The statement: the tied card. -/
theorem rtcpJoins_holds : Rows.RtcpJoinsCardSaid :=
  Claim7.holds_tied_plain_at .later [] [.data] true (true, "43220aab9b1970ee321f7e0974090884d79636b54e389793af709f370493d7b1") false
    over (fun _ h => by cases h) (by kernel_rfl) (fun _ h => by cases h) rtcpJoins_row_tie rfl ⟨rfl, rfl⟩ (by kernel_rfl) rfl
    (fun f fn hf hfn => by
      obtain rfl : f = 7 := Option.some.inj ((show Tryd.prog.funcNamed "louver/louverlaw09.RtcpJoins" = some 7 by kernel_rfl).symm.trans hf) |>.symm
      obtain rfl : fn = Tryd.f7 := (Option.some.inj (Tryd.func7.symm.trans hfn)).symm
      exact ⟨by kernel_rfl, fun j t ht => by
        rw [Tryd.params7] at ht
        have hm : t ∈ [22, 22] := by simpa using Array.mem_of_getElem? ht
        have hall : ([22, 22].all fun u => !Tryd.prog.wantsStandIn u) = true := by kernel_rfl
        exact (show Tryd.prog.wantsStandIn t = false by simpa using List.all_eq_true.1 hall t hm)⟩)
    (by kernel_rfl)
end Go.Proofs.YtmbhibkiadgcbaaDoor.RJoins
