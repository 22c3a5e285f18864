/-
  Proved: ExtPuts returns true for every list of items: the profile and the bytes that Put tells of them, or the error, are those of the document's definition. Conditions: none.
-/
import Derived.Test.YtdfbbmaaonkjiaaExtK
import Derived.Test.YtdfbbmaaonkjiaaExtJ
import Derived.Test.YtdfbbmaaonkjiaaExtP
namespace Go.Proofs.Ytdfbbmaaonkjiaa.EPuts
open Go.ChangeShapes Go.WideShapes Go.ChangeAt Go.RowKit

set_option maxRecDepth 100000 in
theorem walk (w : World) (A : Option Addr) (c : Nat) (ps : List Ip) (hl : ps.length ≤ maxLen) (h : Its w A ps) :
    Calls Try.prog 3 #[.slice A ps.length c] w fun e w' => e = .returned (.bool true) ∧ Below w.heap.size w w' := by
  cases hf : fewB (ps.map Ip.it) with
  | false =>
    have C := Lib.hid (few_not A c ps w h hl hf)
    clear h hf
    go_enter Try.func3, Try.ntmps3
    go_wp2_with fail
    refine (awake_any w).mono ?_
    rintro e w1 ⟨rfl, b1⟩
    go_wp2_with fail
    refine (C.out w1 b1).mono ?_
    rintro e w2 ⟨rfl, rfl⟩
    go_wp2
    go_ret
    exact ⟨rfl, b1⟩
  | true =>
    obtain ⟨hd, h20⟩ := few_facts hf
    have C := Lib.hid (few_yes A c ps w h hl hf)
    have HC := Lib.hid (fun w' (b' : Below w.heap.size w w') => extPut_any A c ps w' (h.next b') hl)
    have HP := Lib.hid (fun w' (b' : Below w.heap.size w w') => plain_any A c ps w' (h.next b') (by simpa using h20))
    have hn : (ps.map Ip.it).length = ps.length := by simp
    rw [hn] at h20
    generalize ps.map Ip.it = l at *
    have HN := Lib.hid hn
    clear h hf hn
    go_enter Try.func3, Try.ntmps3
    go_wp2_with fail
    refine (awake_any w).mono ?_
    rintro e w1 ⟨rfl, b1⟩
    go_wp2_with fail
    refine (C.out w1 b1).mono ?_
    rintro e w2 ⟨rfl, rfl⟩
    go_wp2_with fail
    refine (HC.out w1 b1).mono ?_
    rintro e w3 ⟨A3, c3, rfl, r3, b3⟩
    have B3 := bnext b1 b3
    clear b1 b3
    go_wp2_with fail
    refine (HP.out w3 B3).mono ?_
    rintro e w4 ⟨A4, c4, rfl, r4, b4⟩
    have B4 := bnext B3 b4
    have r34 := (r3.below b4 (Nat.le_refl _)).more b4.size
    clear b4 r3 B3
    go_wp2_with fail
    refine (refPut_any A4 c4 l w4 r4 (by rw [HN.out]; exact h20) hd).mono ?_
    rintro e w5 ⟨rfl, b5⟩
    have B5 := Lib.hid (bnext B4 b5)
    have r35 := (r34.below b5 (Nat.le_refl _)).more b5.size
    have ht := run_text (P := Try.prog) w5 26 5 9 Try.underlying26 Try.underlying5 Try.underlying9 _ _ _ c3 _ r35
    clear b5 r34 r35 r4 B4
    generalize putP l = P at *
    generalize putE l = E at *
    generalize putB l = bs at *
    go_wp2
    go_ret
    exact ⟨rfl, B5.out⟩

set_option maxRecDepth 100000 in
theorem lifted (os : Os) (started : os.Started) (H : Type) (enc : TypeId × Value → H) :
    ReturnsInHanded {} Try.checked os 3 .any (Rows.extPutsSpec.pre6 enc Try.prog Try.f3 Rows.extPutsRow.domain false) (Rows.extPutsSpec.post enc Try.prog Try.f3 false true false false) := by
  refine returnsInHanded_of_change (C := Try.checked) own started (by kernel_rfl) Try.func3
    (ChangeSpec.witness6 (enc := enc) (C := Try.checked) false ⟨#[], #[.slice none 0 0], []⟩ 8 (by kernel_rfl) (by kernel_rfl) (by kernel_rfl) (by kernel_rfl)) ?_
  intro W base args ds gs before hval0 hW _ _
  have hval : ∀ (j : Nat) t v, Try.f3.params[j]? = some t → args[j]? = some v → Value.okWide Try.prog W .any base t v := hval0
  have hW' := hW
  obtain ⟨p, q, hA0, hV, _, _, _⟩ := hW
  have hA : DataW.TrodAll enc Try.prog W 0 (fun _ => true) true Try.f3.params.toList args.toList ds p := hA0
  rw [Try.params3] at hA hval
  obtain ⟨v0, vs0, d0, ds0, p0, q0, hargs, rfl, _, h0, r0⟩ := trodAll_cons hA
  obtain ⟨rfl, rfl, _⟩ := trodAll_nil r0
  obtain rfl : args = #[v0] := by cases args; simp_all
  obtain ⟨rfl, _⟩ := trodVars_none hV
  refine law_post (s := Rows.extPutsSpec) rfl rfl (by rw [Try.params3]; intro t ht; simp at ht; rcases ht with rfl <;> exact ⟨by kernel_rfl, of_decide_eq_true (by kernel_rfl)⟩) rfl hW' ?_
  obtain ⟨A0, c0, ps0, rfl, hl0, hi0⟩ := open_items (hval 0 22 v0 rfl rfl) h0
  exact walk W A0 c0 ps0 hl0 hi0

theorem over : Rows.extPutsRow.holds Try.pinned (OpenSpec.ofChange Rows.extPutsSpec) :=
  OpenClaim.holds_of_wide 3 Try.f3 rfl rfl rfl rfl rfl rfl rfl ⟨rfl, rfl, rfl, rfl, rfl⟩ rfl rfl rfl rfl rfl (by kernel_rfl) Try.func3 (by kernel_rfl)
    (of_decide_eq_true (by kernel_rfl)) (by unfold Func.isWrapper; first | (rw [if_pos (by decide +kernel)]; kernel_rfl) | (rw [if_neg (by decide +kernel)]; exact ⟨rfl, rfl⟩))
    (fun os started H enc _ => lifted os started H enc)

/-- The statement. -/
theorem extPuts_holds : Rows.ExtPutsSaid := over
end Go.Proofs.Ytdfbbmaaonkjiaa.EPuts
