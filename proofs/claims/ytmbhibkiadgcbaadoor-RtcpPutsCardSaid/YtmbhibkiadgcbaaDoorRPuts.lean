/-
  RtcpPuts: the bytes of any messages, or the error, are the document's. Conditions: the package's table of kinds reads as the program's text lays it (the tied card).
-/
import Derived.Test.YtmbhibkiadgcbaaDoorRtS
import Derived.Test.YtmbhibkiadgcbaaDoorRtO
import Derived.Test.YtmbhibkiadgcbaaDoorRtG
namespace Go.Proofs.YtmbhibkiadgcbaaDoor.RPuts
open Go.ChangeShapes Go.WideShapes Go.ChangeAt Go.RowKit

set_option maxRecDepth 100000 in
theorem walk (w : World) (hF : Forms w) (A : Option Addr) (c : Nat) (l : List (Ms × Sl)) (hl : l.length ≤ maxLen) (h : CmRow w w.heap.size A l) (hfit : ∀ x ∈ l, x.1.Fits) :
    Calls Tryd.prog 3 #[.slice A l.length c] w fun e w' => e = .returned (.bool true) ∧ Below w.heap.size w w' := by
  obtain ⟨n, hn⟩ : ∃ n, l.length = n := ⟨_, rfl⟩
  rw [hn] at hl ⊢
  have H := Lib.hid h
  have HN := Lib.hid hn
  have HF := Lib.hid hfit
  have HFM := Lib.hid hF
  clear h hn hfit hF
  obtain ⟨b, hb⟩ : ∃ b, fewM (l.map Prod.fst) = b := ⟨_, rfl⟩
  have HW := Lib.hid hb
  clear hb
  go_enter Tryd.func3, Tryd.ntmps3
  go_wp2_with fail
  refine (awake9 w HFM.out).mono ?_
  rintro e w1 ⟨rfl, b1⟩
  go_wp2_with fail
  refine (few_any A c n l w1 ((H.out.below b1 (Nat.le_refl _)).more b1.size) HN.out hl).mono ?_
  rintro e w2 ⟨rfl, rfl⟩
  rw [HW.out]
  cases b with
  | false =>
    go_wp2
    go_ret
    exact ⟨rfl, b1⟩
  | true =>
    obtain ⟨hf, h12⟩ := few_mod HW.out HF.out
    rw [HN.out] at h12
    have HFF := Lib.hid hf
    clear hf
    go_wp2_with fail
    refine (rput_any A c n l w1 (HFM.out.next b1) ((H.out.below b1 (Nat.le_refl _)).more b1.size) HN.out HFF.out (by omega)).mono ?_
    rintro e w3 ⟨⟨A3, c3, rfl, o3⟩, b3⟩
    have B3 := bnext b1 b3
    have s1 := b1.size
    have s3 := b3.size
    clear b1 b3
    go_wp2_with fail
    refine (all_any A c n l w3 ((H.out.below B3 (Nat.le_refl _)).more B3.size) HN.out (fun x hx => ⟨(HFF.out x hx).1, (HFF.out x hx).2.mod⟩) (by omega)).mono ?_
    rintro e w4 ⟨⟨A4, c4, l4, rfl, hl4, r4⟩, b4⟩
    have B4 := bnext B3 b4
    have r3 := ((Row.of_own o3).below b4 (Nat.le_refl _)).more b4.size
    clear b4 o3 B3
    go_wp2_with fail
    refine (refPut_any A4 c4 n l4 w4 r4 (by have := congrArg List.length hl4; simpa [HN.out] using this) (fun x hx => by
      obtain ⟨y, hy, e⟩ := List.mem_map.1 (hl4 ▸ List.mem_map.2 ⟨x, hx, rfl⟩ : x.1 ∈ l.map Prod.fst)
      rw [← e]
      exact HFF.out y hy) (by omega)).mono ?_
    rintro e w5 ⟨rfl, b5⟩
    rw [hl4]
    have B5 := Lib.hid (bnext B4 b5)
    have r35 := (r3.below b5 (Nat.le_refl _)).more b5.size
    have ht := run_text (P := Tryd.prog) w5 25 5 9 Tryd.underlying25 Tryd.underlying5 Tryd.underlying9 _ _ _ c3 _ r35
    clear b5 r35 r3 r4 B4 hl4
    generalize putL (l.map Prod.fst) = P at *
    obtain ⟨bs, er⟩ := P
    dsimp only at *
    go_wp2
    go_ret
    exact ⟨rfl, B5.out⟩
set_option maxRecDepth 100000 in
theorem lifted (os : Os) (started : os.Started) (H : Type) (enc : TypeId × Value → H) :
    ReturnsInHanded {} Tryd.checked os 3 .any (fun w args => (Rows.rtcpPutsSpec.pre enc Tryd.prog Tryd.f3 [] false w args ∧ laidMetH Tryd.prog laid9 w) ∧ sizedMet enc Tryd.prog Tryd.f3 (OpenSpec.ofChange Rows.rtcpPutsSpec) false w args) (Rows.rtcpPutsSpec.post enc Tryd.prog Tryd.f3 false true false false) := by
  refine returnsInHanded_of_change_and (C := Tryd.checked) (X := fun w _ => laidMetH Tryd.prog laid9 w) (fun _ _ _ hh h => h.of_heap hh) own9 started (by kernel_rfl) Tryd.func3
    (ChangeSpec.witness_shaped (enc := enc) (C := Tryd.checked) (os := os) (X := fun w _ => laidMetH Tryd.prog laid9 w) false (World.doorLaid Tryd.prog 400 os) #[.slice none 0 0] 8 rfl (World.shaped_of_RefB (by kernel_rfl) (by kernel_rfl)) (by kernel_rfl) (by kernel_rfl) (by kernel_rfl) (door_met os _)) ?_
  intro W base args ds gs before hval0 hW _ _ hL _
  have hval : ∀ (j : Nat) t v, Tryd.f3.params[j]? = some t → args[j]? = some v → Value.okWide Tryd.prog W .any base t v := hval0
  have hW' := hW
  obtain ⟨p, q, hA0, hV, _, _, _⟩ := hW
  have hA : DataW.TrodAll enc Tryd.prog W 0 (fun _ => true) true Tryd.f3.params.toList args.toList ds p := hA0
  rw [Tryd.params3] at hA hval
  obtain ⟨v0, vs0, d0, ds0, p0, q0, hargs, rfl, _, h0, r0⟩ := trodAll_cons hA
  obtain ⟨rfl, rfl, _⟩ := trodAll_nil r0
  obtain rfl : args = #[v0] := by cases args; simp_all
  obtain ⟨rfl, _⟩ := trodVars_none hV
  refine law_post (s := Rows.rtcpPutsSpec) rfl rfl (by rw [Tryd.params3]; intro t ht; simp at ht; rcases ht with rfl <;> exact ⟨by kernel_rfl, of_decide_eq_true (by kernel_rfl)⟩) rfl hW' ?_
  obtain ⟨A0, c0, l0, rfl, hl0, hr0, hf0, _, _⟩ := open_msgs (hval 0 22 v0 rfl rfl) h0
  exact walk W (forms_of_laid hL) A0 c0 l0 hl0 hr0 hf0

theorem over : Rows.RtcpPutsSaid :=
  OpenClaim.holds_of_wide 3 Tryd.f3 rfl rfl rfl rfl rfl rfl rfl ⟨rfl, rfl, rfl, rfl, rfl⟩ rfl rfl rfl rfl rfl (by kernel_rfl) Tryd.func3 (by kernel_rfl)
    (of_decide_eq_true (by kernel_rfl)) (by unfold Func.isWrapper; first | (rw [if_pos (by decide +kernel)]; kernel_rfl) | (rw [if_neg (by decide +kernel)]; exact ⟨rfl, rfl⟩))
    (fun os started H enc _ => lifted os started H enc)

/-- The statement: the tied card. -/
theorem rtcpPuts_holds : Rows.RtcpPutsCardSaid :=
  Claim7.holds_tied_plain_at .later [] [.data] true (true, "43220aab9b1970ee321f7e0974090884d79636b54e389793af709f370493d7b1") false
    over (fun _ h => by cases h) (by kernel_rfl) (fun _ h => by cases h) rtcpPuts_row_tie rfl ⟨rfl, rfl⟩ (by kernel_rfl) rfl
    (fun f fn hf hfn => by
      obtain rfl : f = 3 := Option.some.inj ((show Tryd.prog.funcNamed "louver/louverlaw09.RtcpPuts" = some 3 by kernel_rfl).symm.trans hf) |>.symm
      obtain rfl : fn = Tryd.f3 := (Option.some.inj (Tryd.func3.symm.trans hfn)).symm
      exact ⟨by kernel_rfl, fun j t ht => by
        rw [Tryd.params3] at ht
        have hm : t ∈ [22] := by simpa using Array.mem_of_getElem? ht
        have hall : ([22].all fun u => !Tryd.prog.wantsStandIn u) = true := by kernel_rfl
        exact (show Tryd.prog.wantsStandIn t = false by simpa using List.all_eq_true.1 hall t hm)⟩)
    (by kernel_rfl)
end Go.Proofs.YtmbhibkiadgcbaaDoor.RPuts
