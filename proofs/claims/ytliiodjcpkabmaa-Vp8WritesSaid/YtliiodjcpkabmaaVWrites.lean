/-
  Proved: Vp8Writes returns true for every slice of bytes and all numbers: what Write tells is what the document's Write tells, and what was handed in is as it was. Conditions: none.
-/
import Derived.Test.YtliiodjcpkabmaaVpT
import Derived.Test.YtliiodjcpkabmaaVpO
import Derived.Test.YtliiodjcpkabmaaVpX
namespace Go.Proofs.Ytliiodjcpkabmaa.VWrites
open Go.ChangeShapes Go.WideShapes Go.ChangeAt Go.RowKit
set_option linter.unusedSimpArgs false

set_option maxRecDepth 1000000 in
set_option maxHeartbeats 3200000 in
theorem walk (w : World) (A : Option Addr) (c : Nat) (l : List UInt8) (hl : l.length ≤ maxLen) (hr : Row w w.heap.size 1 A l.length (u8s l)) (pic0 : Int) (hp : (Lit.int .u16 pic0).wf = true) (tl00 : Int) (ht : (Lit.int .u8 tl00).wf = true) :
    Calls Try.prog 4 #[.slice A l.length c, .int .u16 pic0, .int .u8 tl00] w fun e w' => e = .returned (.bool true) ∧ Below w.heap.size w w' := by
  unfold maxLen at hl
  obtain ⟨hp0, hp1⟩ := wf_u16 hp
  obtain ⟨ht0, ht1⟩ := wf_u8 ht
  obtain ⟨pic, rfl⟩ := Int.eq_ofNat_of_zero_le hp0
  obtain ⟨tl0, rfl⟩ := Int.eq_ofNat_of_zero_le ht0
  by_cases h3 : 300 < l.length
  · have h3' : (300 : Int) < (l.length : Int) := by omega
    clear h3 hr hp ht
    go_enter Try.func4, Try.ntmps4
    go_wp2_with fail
    refine (awake_any w).mono ?_
    rintro e w1 ⟨rfl, b1⟩
    go_wp2
    go_ret
    exact ⟨rfl, b1⟩
  have h3' : ¬ (300 : Int) < (l.length : Int) := by omega
  obtain ⟨n, hn⟩ : ∃ n, n = l.length := ⟨_, rfl⟩
  have CP := fun wx h => write_any A c l pic tl0 (by omega) (by omega) wx h (by omega)
  have CR := fun wx => refWrite_any l pic tl0 (by omega) (by omega) wx (by omega)
  have CT := fun wx (h : Row wx w.heap.size 1 A l.length (u8s l)) => run_text (P := Try.prog) wx 22 5 9 Try.underlying22 Try.underlying5 Try.underlying9 _ _ _ c l h
  have hwl := wT_len l pic tl0 (by omega)
  rw [← hn] at hr hl h3' h3 CP CT hwl ⊢
  have htl : tl0 < 256 := by omega
  have HTL := Lib.hid htl
  have HCP := Lib.hid CP
  have HCR := Lib.hid CR
  have HCT := Lib.hid CT
  have HR := Lib.hid hr
  have HWL := Lib.hid hwl
  clear hn CP CR CT hr h3 hp ht hp0 ht0 htl hwl
  go_enter Try.func4, Try.ntmps4
  go_wp2_with fail
  refine (awake_any w).mono ?_
  rintro e w1 ⟨rfl, b1⟩
  have HR1 := Lib.hid (HR.out.below b1 (Nat.le_refl _))
  have HB1 := Lib.hid b1
  clear b1 HR
  have ht1' := HCT.out w1 HR1.out
  go_wp2_with fail
  refine (HCP.out w1 (HR1.out.more HB1.out.size)).mono ?_
  rintro e w2 h2
  obtain ⟨⟨A2, c2, rfl, _, hr2⟩, b2⟩ := wtold HTL.out h2
  have HR2 := Lib.hid (HR1.out.below b2 HB1.out.size)
  have HB2 := Lib.hid (HB1.out.trans (b2.mono HB1.out.size))
  have HC2 := Lib.hid hr2
  clear b2 h2 HR1 HB1 HCP hr2 ht1'
  go_wp2_with fail
  refine (HCR.out w2).mono ?_
  rintro e w3 h4
  obtain ⟨rfl, b3⟩ := rtold h4
  have HR3 := Lib.hid (HR2.out.below b3 HB2.out.size)
  have HC3 := Lib.hid (HC2.out.below b3 (Nat.le_refl _))
  have HB3 := Lib.hid (HB2.out.trans (b3.mono HB2.out.size))
  generalize wT l pic tl0 = T at HC3 HWL ⊢
  obtain ⟨cs, er⟩ := T
  dsimp only at HC3 HWL ⊢
  obtain ⟨k, hk⟩ : ∃ k, k = cs.length := ⟨_, rfl⟩
  have ht3 := HCT.out w3 HR3.out
  have ht4 := run_text (P := Try.prog) w3 22 5 9 Try.underlying22 Try.underlying5 Try.underlying9 _ _ _ c2 cs HC3.out
  rw [← hk] at ht4 ⊢
  clear b3 h4 HR2 HB2 HC2 HCR HCT hk HC3 HR3 HWL HTL
  go_wp2
  go_ret
  exact ⟨by simp, HB3.out⟩
set_option maxRecDepth 100000 in
theorem lifted (os : Os) (started : os.Started) (H : Type) (enc : TypeId × Value → H) :
    ReturnsInHanded {} Try.checked os 4 .any (Rows.vp8WritesSpec.pre6 enc Try.prog Try.f4 Rows.vp8WritesRow.domain false) (Rows.vp8WritesSpec.post enc Try.prog Try.f4 false true false false) := by
  refine returnsInHanded_of_change (C := Try.checked) own started (by kernel_rfl) Try.func4
    (ChangeSpec.witness6 (enc := enc) (C := Try.checked) false ⟨#[], #[.slice none 0 0, .int .u16 0, .int .u8 0], []⟩ 8 (by kernel_rfl) (by kernel_rfl) (by kernel_rfl) (by kernel_rfl)) ?_
  intro W base args ds gs before hval0 hW _ _
  have hval : ∀ (j : Nat) t v, Try.f4.params[j]? = some t → args[j]? = some v → Value.okWide Try.prog W .any base t v := hval0
  have hW' := hW
  obtain ⟨p, q, hA0, hV, _, _, _⟩ := hW
  have hA : DataW.TrodAll enc Try.prog W 0 (fun _ => true) true Try.f4.params.toList args.toList ds p := hA0
  rw [Try.params4] at hA hval
  obtain ⟨v0, vs0, d0, ds0, p0, q0, hargs, rfl, _, h0, r0⟩ := trodAll_cons hA
  obtain ⟨v1, vs1, d1, ds1, p1, q1, rfl, rfl, _, h1, r1⟩ := trodAll_cons r0
  obtain ⟨v2, vs2, d2, ds2, p2, q2, rfl, rfl, _, h2, r2⟩ := trodAll_cons r1
  obtain ⟨rfl, rfl, _⟩ := trodAll_nil r2
  obtain rfl : args = #[v0, v1, v2] := by cases args; simp_all
  obtain ⟨rfl, _⟩ := trodVars_none hV
  refine law_post (s := Rows.vp8WritesSpec) rfl rfl (by rw [Try.params4]; intro t ht; simp at ht; rcases ht with rfl | rfl | rfl <;> exact ⟨by kernel_rfl, of_decide_eq_true (by kernel_rfl)⟩) rfl hW' ?_
  obtain ⟨A0, c0, l0, rfl, hl0, hr0, _⟩ := open_bytes (hval 0 22 v0 rfl rfl) h0
  obtain ⟨a1, rfl, _, _, w1⟩ := open_int Try.underlying24 (hval 1 24 v1 rfl rfl) h1
  obtain ⟨a2, rfl, _, _, w2⟩ := open_int Try.underlying5 (hval 2 5 v2 rfl rfl) h2
  exact walk W A0 c0 l0 hl0 hr0 a1 w1 a2 w2

theorem over : Rows.vp8WritesRow.holds Try.pinned (OpenSpec.ofChange Rows.vp8WritesSpec) :=
  OpenClaim.holds_of_wide 4 Try.f4 rfl rfl rfl rfl rfl rfl rfl ⟨rfl, rfl, rfl, rfl, rfl⟩ rfl rfl rfl rfl rfl (by kernel_rfl) Try.func4 (by kernel_rfl)
    (of_decide_eq_true (by kernel_rfl)) (by unfold Func.isWrapper; first | (rw [if_pos (by decide +kernel)]; kernel_rfl) | (rw [if_neg (by decide +kernel)]; exact ⟨rfl, rfl⟩))
    (fun os started H enc _ => lifted os started H enc)

/-- The statement. -/
theorem vp8Writes_holds : Rows.Vp8WritesSaid := over

end Go.Proofs.Ytliiodjcpkabmaa.VWrites
