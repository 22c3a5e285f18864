/-
  Proved: StorePlays returns true for every room and every row of packets: whatever is added, what is kept, of all that was added, is the document's, step by step. Conditions: none.
-/
import Derived.Test.YtbjighmjgjmphaaStoE
namespace Go.Proofs.Ytbjighmjgjmphaa.SPlays
open Go.ChangeShapes Go.WideShapes Go.ChangeAt Go.RowKit

set_option maxRecDepth 100000 in
set_option maxHeartbeats 1600000 in
theorem walk (w : World) (a : Int) (ha : (Lit.int .u8 a).wf = true) (A : Option Addr) (c : Nat) (ps : List Pp) (hl : ps.length ≤ maxLen) (hP : Pps w w.heap.size A ps) :
    Calls Try.prog 3 #[.int .u8 a, .slice A ps.length c] w fun e w' => e = .returned (.bool true) ∧ Below w.heap.size w w' := by
  have ha' := wf_u8 ha
  clear ha
  have HFew := Lib.hid (fun w1 (b1 : Below w.heap.size w w1) => few_any A c ps w1 w.heap.size (hP.below b1 (Nat.le_refl _)) hl)
  unfold FewTold at HFew
  cases hf : fewB (ps.map Pp.p) with
  | false =>
    rw [hf] at HFew
    unfold maxLen at hl
    go_enter Try.func3, Try.ntmps3
    go_wp2_with fail
    refine (awake_any w).mono ?_
    rintro e w1 ⟨rfl, b1⟩
    have HB := Lib.hid b1
    clear b1
    go_wp2_with fail
    refine (HFew.out w1 HB.out).mono ?_
    rintro e w2 ⟨rfl, rfl⟩
    go_wp2
    go_ret
    exact ⟨rfl, HB.out⟩
  | true =>
    rw [hf] at HFew
    obtain ⟨hsz, hsm⟩ := few_small hf
    clear hf hl
    obtain ⟨N, hN⟩ : ∃ N : Nat, a % 9 + 1 = (N : Int) := ⟨(a % 9 + 1).toNat, by omega⟩
    have hN1 : 1 ≤ N := by omega
    have hN2 : N ≤ 9 := by omega
    go_enter Try.func3, Try.ntmps3
    go_wp2_with fail
    refine (awake_any w).mono ?_
    rintro e w1 ⟨rfl, b1⟩
    have HB := Lib.hid b1
    clear b1
    go_wp2_with fail
    refine (HFew.out w1 HB.out).mono ?_
    rintro e w2 ⟨rfl, rfl⟩
    clear HFew
    go_wp2_with fail
    refine (snew_off N _ hN1 (by omega)).mono ?_
    rintro e w3 ⟨g, m, r, rfl, s3, hg, hm, hr, b3⟩
    have hg' : w.heap.size ≤ g := Nat.le_trans HB.out.size hg
    have hm' : w.heap.size ≤ m := Nat.le_trans HB.out.size hm
    have hr' : w.heap.size ≤ r := Nat.le_trans HB.out.size hr
    have B3 := bnext HB.out b3
    have hat : SKept w g m r N [] w3 := ⟨by rw [lastN_nil]; exact s3, B3⟩
    have hS : ∀ k, k < w.heap.size → ¬ (k = g ∨ k = m ∨ k = r) := by intro k hk; omega
    have HS := Lib.hid hS
    have HP := Lib.hid hP
    have HSM := Lib.hid hsm
    clear hg hm hr s3 b3 B3 HB hN ha' hS hP hsm
    go_wp2_with fail
    go_loopw [9, 10] (fun v i wx => ∃ k : Nat, k ≤ ps.length ∧ i = .int .i64 k ∧ ∃ A' c', v = .slice A' (lastN N ((ps.map Pp.p).take k)).length c' ∧ RefP wx A' c' (lastN N ((ps.map Pp.p).take k)) ∧ (∀ a, A' = some a → Off g m r a.block) ∧ SKept w g m r N ((ps.map Pp.p).take k) wx) (fun _ i _ => ps.length - (intOf i).toNat)
    case atStart => exact ⟨0, Nat.zero_le _, rfl, none, 0, by rw [List.take_zero, lastN_nil]; rfl, ⟨by rw [List.take_zero, lastN_nil]; exact Nat.le_refl _, by decide, by rw [List.take_zero, lastN_nil]; exact Row.nil⟩, fun a ha => (by cases ha), hat⟩
    case round =>
      clear hat
      obtain ⟨k, hk, rfl, Aw, cw, rfl, hrf, hoff, hs, hb⟩ := hrel
      obtain ⟨wo, rfl⟩ : ∃ wo : World, wo = wr := ⟨_, rfl⟩
      have zo := hb.size
      by_cases hkl : k < ps.length
      · obtain ⟨gs, o, x, hA, hgs, hx, hc0, hc1, hrow, hwf⟩ := pps_at HP.out hb k hkl
        subst hA
        have hxl := HSM.out x (List.mem_of_getElem? hx)
        have hmap := map_at hx
        have hi1 : (0 : Int) ≤ (k : Int) := by omega
        have hi2 : (k : Int) < (ps.length : Int) := by omega
        have hlen := hs.len
        obtain ⟨⟨seq, d⟩, xA, xc⟩ := x
        dsimp only at hc0 hc1 hrow hwf hxl hmap
        have e1 := lastN_add N hN1 ((ps.map Pp.p).take k) ⟨seq, d⟩
        rw [← take_one _ _ _ hmap] at e1
        have C1 := add_off g m r N _ seq hwf w.heap.size xA xc d (by omega) wo.drew hrow.drew zo (FarA.row hrow hg' hm' hr') (hs.drewN 1)
        rw [e1] at C1
        have HC1 := Lib.hid C1
        have HX := Lib.hid (And.intro hx (And.intro hmap hrow))
        have HRF := Lib.hid hrf
        have HB := Lib.hid hb
        have HE := Lib.hid e1
        have HO := Lib.hid hoff
        have hzg : gs + 1 ≤ wo.drew.heap.size := by show gs + 1 ≤ wo.heap.size; omega
        clear C1 hx hmap hrow hrf hs hb e1 hwf hoff
        have hG : ∀ i, i < gs + 1 → ¬ (i = g ∨ i = m ∨ i = r) := by intro i hi; omega
        have HG := Lib.hid hG
        clear hG
        generalize hLN : lastN N ((ps.map Pp.p).take k) = L at *
        go_wp2_with fail
        go_region_held3 (fun w' => w'.cell? ⟨gs, o + k * 2, none⟩ = some (.int .u16 seq) ∧ w'.cell? ⟨gs, o + k * 2 + 1, none⟩ = some (.slice xA d.length xc))
          (first | go_keep | exact ⟨hc0, hc1⟩ | exact keep2 hc0 hc1 ((Below.refl (gs + 1) wo).drew.trans (b3.below hzg HG.out)) rfl)
          ((go_at_call 11; refine HC1.out.mono ?_; rintro e w3 ⟨rfl, s3, b3⟩))
        have B3 := HB.out.trans ((Below.refl _ wo).drew.trans (b3.below (B := w.heap.size) zo HS.out))
        obtain ⟨hx, hmap, hrow⟩ := HX.out
        have hrow3 := hrow.below ((Below.refl _ wo).drew.trans (b3.below (B := w.heap.size) zo HS.out)) (Nat.le_refl _)
        have hrf3 : RefP w3 Aw cw L := ⟨HRF.out.1, HRF.out.2.1, (Row.butA (w := wo.drew) HRF.out.2.2 (Nat.le_refl _) b3 (fun _ a ha => by have := HO.out a ha; unfold Off at this; omega)).more b3.size⟩
        have hd0 : w3.cell? ⟨gs, o + k * 2, none⟩ = some (.int .u16 seq) := ‹w3.cell? ⟨gs, o + k * 2, none⟩ = some (.int .u16 seq) ∧ _›.1
        have hd1 : w3.cell? ⟨gs, o + k * 2 + 1, none⟩ = some (.slice xA d.length xc) := ‹w3.cell? ⟨gs, o + k * 2, none⟩ = some (.int .u16 seq) ∧ _›.2
        have z3 := s3.lt
        have zb3 := B3.size
        have hKEEP : ∀ w', Below w3.heap.size w3 w' → w'.cell? ⟨gs, o + k * 2, none⟩ = some (.int .u16 seq) ∧ w'.cell? ⟨gs, o + k * 2 + 1, none⟩ = some (.slice xA d.length xc) ∧ (convert 30 9 (.slice xA d.length xc)).run Try.prog w' = .ok (.string (str d)) w' := by
          intro w' b'
          exact ⟨(b'.cell (p := ⟨gs, o + k * 2, none⟩) (by show gs < _; omega)).trans hd0, (b'.cell (p := ⟨gs, o + k * 2 + 1, none⟩) (by show gs < _; omega)).trans hd1, run_text (P := Try.prog) w' 30 5 9 Try.underlying30 Try.underlying5 Try.underlying9 _ _ _ xc d (hrow3.below b' zb3)⟩
        have C2 := refadd_any Aw cw N L seq d w3.drew hrf3 hlen.1 hN1 hlen.2.2
        rw [HE.out] at C2
        have HC2 := Lib.hid C2
        have HK := Lib.hid hKEEP
        have hk3 := hKEEP w3 (Below.refl _ _)
        have H3 := Lib.hid (And.intro s3 B3)
        clear C2 hKEEP hd0 hd1 hrow3 hrow hrf3 hx hmap s3 B3 b3 hc0 hc1 HRF HC1 HB HO HG hzg
        clear ‹w3.cell? _ = some (.int .u16 seq) ∧ w3.cell? _ = some (.slice xA d.length xc)›
        clear zb3 z3
        obtain ⟨hd0, hd1, hd2⟩ := hk3
        go_wp2_with fail
        go_region_held3 (fun w' => w'.cell? ⟨gs, o + k * 2, none⟩ = some (.int .u16 seq) ∧ w'.cell? ⟨gs, o + k * 2 + 1, none⟩ = some (.slice xA d.length xc) ∧ (convert 30 9 (.slice xA d.length xc)).run Try.prog w' = .ok (.string (str d)) w')
          (first | exact HK.out _ (Below.refl _ _).drew | exact HK.out _ ((Below.refl _ w3).drew.trans b4) | go_keep)
          ((go_at_call 12; refine HC2.out.mono ?_; rintro e w4 ⟨A4, c4, rfl, hrf4, b4, hlo4⟩))
        have B4 := bnext H3.out.2 ((Below.refl _ w3).drew.trans b4)
        have s4 := H3.out.1.next ((Below.refl _ w3).drew.trans b4)
        have hoff4 : ∀ a, A4 = some a → Off g m r a.block := by
          intro a ha
          have h1 : w3.heap.size ≤ a.block := hlo4 a ha
          have h2 := H3.out.1.lt
          exact ⟨by omega, by omega, by omega⟩
        have hat : RefP w4 A4 c4 (lastN N ((ps.map Pp.p).take (k + 1))) ∧ (∀ a, A4 = some a → Off g m r a.block) ∧ SKept w g m r N ((ps.map Pp.p).take (k + 1)) w4 := ⟨hrf4, hoff4, s4, B4⟩
        have HX2 := Lib.hid HX.out.2.1
        clear ‹w4.cell? _ = _ ∧ _ ∧ _› HC2 HK H3 hd0 hd1 hd2 HE hrf4 b4 hlo4 B4 s4 hoff4 HX hlen hLN hgs
        go_wp2_with fail
        go_loopw [11] (fun i wx => ∃ jj : Nat, jj ≤ k + 1 ∧ i = .int .i64 jj ∧ RefP wx A4 c4 (lastN N ((ps.map Pp.p).take (k + 1))) ∧ (∀ a, A4 = some a → Off g m r a.block) ∧ SKept w g m r N ((ps.map Pp.p).take (k + 1)) wx) (fun i _ => k + 1 - (intOf i).toNat)
        case atStart => exact ⟨0, Nat.zero_le _, rfl, hat⟩
        case round =>
          clear hat
          obtain ⟨jj, hj, rfl, hrf, hoff, hs, hb⟩ := hrel
          obtain ⟨wo, rfl⟩ : ∃ wo : World, wo = wr := ⟨_, rfl⟩
          have hlen := hs.len
          by_cases hjk : jj ≤ k
          · obtain ⟨gs', o', y, hA, hgs', hy, hc0, _, _, hwf⟩ := pps_at HP.out hb jj (by omega)
            obtain ⟨rfl, rfl⟩ : gs = gs' ∧ o = o' := by injection hA with hA; injection hA with h1 h2; exact ⟨h1, h2⟩
            obtain ⟨⟨q, dq⟩, yA, yc⟩ := y
            dsimp only at hc0 hwf
            have hj1 : (0 : Int) ≤ (jj : Int) := by omega
            have hj2 : (jj : Int) < (ps.length : Int) := by omega
            have hj3 : (jj : Int) ≤ (k : Int) := by omega
            have C1 := get_any _ g m r N _ q hwf wo hs
            have C2 := fun w' (b' : Below wo.heap.size wo w') => refget_any A4 c4 (lastN N ((ps.map Pp.p).take (k + 1))) q w' (hrf.next b') (by omega)
            have HH := Lib.hid (fun w' (b' : Below wo.heap.size wo w') => show RefP w' A4 c4 (lastN N ((ps.map Pp.p).take (k + 1))) ∧ (∀ a, A4 = some a → Off g m r a.block) ∧ SKept w g m r N ((ps.map Pp.p).take (k + 1)) w' from ⟨hrf.next b', hoff, hs.next b', bnext hb b'⟩)
            have hgl : gs < wo.heap.size := Nat.lt_of_lt_of_le hgs' hb.size
            clear hA hrf hoff hs hb hwf hy
            cases hgt : getL (lastN N ((ps.map Pp.p).take (k + 1))) q with
            | none =>
              rw [hgt] at C1 C2
              dsimp only [textV] at C2
              have HC1 := Lib.hid C1
              have HC2 := Lib.hid (C2 wo (Below.refl _ _))
              have ht : (convert 30 9 (.slice none 0 0)).run Try.prog wo = .ok (.string ⟨#[]⟩) wo := run_text (P := Try.prog) wo 30 5 9 Try.underlying30 Try.underlying5 Try.underlying9 0 none 0 0 [] Row.nil
              clear C1 C2 hgt
              go_wp2_with fail
              refine HC1.out.mono ?_
              rintro e w5 ⟨rfl, h5⟩
              subst h5
              go_wp2_with fail
              refine HC2.out.mono ?_
              rintro e w6 ⟨rfl, h6⟩
              subst h6
              clear HC1 HC2
              go_wp2
              go_roundw
              case rel => exact ⟨jj + 1, by omega, by go_num, HH.out _ (Below.refl _ _)⟩
              case measure => simp [intOf]; omega
            | some dd =>
              rw [hgt] at C1 C2
              dsimp only [textV] at C2
              have HC1 := Lib.hid C1
              have HC2 := Lib.hid (fun o => C2 _ ((Below.refl _ wo).alloc (Nat.le_refl _) o))
              have ht : (convert 30 9 (.slice (some ⟨wo.heap.size, 0, none⟩) dd.length dd.length)).run Try.prog (wo.alloc (.cells (u8s dd).toArray 5)) = .ok (.string (str dd)) (wo.alloc (.cells (u8s dd).toArray 5)) :=
                run_text (P := Try.prog) _ 30 5 9 Try.underlying30 Try.underlying5 Try.underlying9 _ _ _ _ dd (Row.fresh wo _ _ 1 dd.length (u8s dd) (by simp [u8s_length]) (by simp))
              have HF := Lib.hid (HH.out _ ((Below.refl _ wo).alloc (Nat.le_refl _) (.cells (u8s dd).toArray 5)))
              have hcg : (wo.alloc (.cells (u8s dd).toArray 5)).cell? ⟨gs, o + jj * 2, none⟩ = some (.int .u16 q) := (World.cell?_alloc_lt wo _ ⟨gs, o + jj * 2, none⟩ hgl).trans hc0
              clear C1 C2 hgt
              go_wp2_with fail
              refine HC1.out.mono ?_
              rintro e w5 ⟨rfl, h5⟩
              subst h5
              go_wp2_with fail
              refine (HC2.out _).mono ?_
              rintro e w6 ⟨rfl, h6⟩
              subst h6
              clear HC1 HC2 HH
              go_wp2
              go_roundw
              case rel => exact ⟨jj + 1, by omega, by go_num, HF.out⟩
              case measure => simp [intOf]; omega
          · have hj3 : ¬ (jj : Int) ≤ (k : Int) := by omega
            have HC3 := Lib.hid (slen_any _ g m r N _ wo hs)
            have HF := Lib.hid (And.intro hrf (And.intro hoff (And.intro hs hb)))
            clear hrf hoff hs hb
            go_wp2_with fail
            refine HC3.out.mono ?_
            rintro e w5 ⟨rfl, rfl⟩
            clear HC3
            go_wp2
            go_roundw
            case rel =>
              obtain ⟨h1, h2, h3, h4⟩ := HF.out
              exact ⟨k + 1, hkl, by go_num, A4, c4, rfl, h1, h2, h3, h4⟩
            case measure => simp [intOf]; omega
      · have HF := Lib.hid hb
        clear hrf hoff hs hb
        go_wp2
        go_ret
        exact ⟨rfl, HF.out⟩
set_option maxRecDepth 100000 in
theorem lifted (os : Os) (started : os.Started) (H : Type) (enc : TypeId × Value → H) :
    ReturnsInHanded {} Try.checked os 3 .any (Rows.storePlaysSpec.pre6 enc Try.prog Try.f3 Rows.storePlaysRow.domain false) (Rows.storePlaysSpec.post enc Try.prog Try.f3 false true false false) := by
  refine returnsInHanded_of_change (C := Try.checked) own started (by kernel_rfl) Try.func3
    (ChangeSpec.witness6 (enc := enc) (C := Try.checked) false ⟨#[], #[.int .u8 0, .slice none 0 0], []⟩ 8 (by kernel_rfl) (by kernel_rfl) (by kernel_rfl) (by kernel_rfl)) ?_
  intro W base args ds gs before hval0 hW _ _
  have hval : ∀ (j : Nat) t v, Try.f3.params[j]? = some t → args[j]? = some v → Value.okWide Try.prog W .any base t v := hval0
  have hW' := hW
  obtain ⟨p, q, hA0, hV, _, _, _⟩ := hW
  have hA : DataW.TrodAll enc Try.prog W 0 (fun _ => true) true Try.f3.params.toList args.toList ds p := hA0
  rw [Try.params3] at hA hval
  obtain ⟨v0, vs0, d0, ds0, p0, q0, hargs, rfl, _, h0, r0⟩ := trodAll_cons hA
  obtain ⟨v1, vs1, d1, ds1, p1, q1, rfl, rfl, _, h1, r1⟩ := trodAll_cons r0
  obtain ⟨rfl, rfl, _⟩ := trodAll_nil r1
  obtain rfl : args = #[v0, v1] := by cases args; simp_all
  obtain ⟨rfl, _⟩ := trodVars_none hV
  refine law_post (s := Rows.storePlaysSpec) rfl rfl (by rw [Try.params3]; intro t ht; simp at ht; rcases ht with rfl | rfl <;> exact ⟨by kernel_rfl, of_decide_eq_true (by kernel_rfl)⟩) rfl hW' ?_
  obtain ⟨a0, rfl, _, _, w0⟩ := open_int Try.underlying5 (hval 0 5 v0 rfl rfl) h0
  obtain ⟨A1, c1, ps1, rfl, hl1, hp1⟩ := open_puts (hval 1 22 v1 rfl rfl) h1
  exact walk W a0 w0 A1 c1 ps1 hl1 hp1

theorem over : Rows.storePlaysRow.holds Try.pinned (OpenSpec.ofChange Rows.storePlaysSpec) :=
  OpenClaim.holds_of_wide 3 Try.f3 rfl rfl rfl rfl rfl rfl rfl ⟨rfl, rfl, rfl, rfl, rfl⟩ rfl rfl rfl rfl rfl (by kernel_rfl) Try.func3 (by kernel_rfl)
    (of_decide_eq_true (by kernel_rfl)) (by unfold Func.isWrapper; first | (rw [if_pos (by decide +kernel)]; kernel_rfl) | (rw [if_neg (by decide +kernel)]; exact ⟨rfl, rfl⟩))
    (fun os started H enc _ => lifted os started H enc)

/-- The statement. -/
theorem storePlays_holds : Rows.StorePlaysSaid := over
end Go.Proofs.Ytbjighmjgjmphaa.SPlays
