/-
  Proved: SerialBoth returns true for every number that goes on and every one of 32 bits: what is near by 32 bits is near by 16 bits, as long as it is near enough. Conditions: none.
-/
import Derived.Test.YtbjmclohnegaaaaSerA
import Derived.Test.YtbjmclohnegaaaaLift
namespace Go.Proofs.Ytbjmclohnegaaaa.SerBoth
open Go.ChangeShapes Go.WideShapes Go.ChangeAt Go.RowKit

theorem both_eq (last x : Int) (h1 : -32768 ≤ d32 last x) (h2 : d32 last x ≤ 32767) : d16 last (IntKind.u16.wrap x) = d32 last x := by
  rw [wrap_u16]; unfold d16; unfold d32 at h1 h2 ⊢; omega

set_option maxRecDepth 100000 in
theorem walk (w : World) (last : Int) (hlast : (Lit.int .i64 last).wf = true) (x : Int) (hx : (Lit.int .u32 x).wf = true) :
    Calls Try.prog 9 #[.int .i64 last, .int .u32 x] w fun e w' => e = .returned (.bool true) ∧ Below w.heap.size w w' := by
  have glast := wf_i64 hlast
  have gx := wf_u32 hx
  clear hlast hx
  by_cases c1 : 1099511627776 < last
  · go_enter Try.func9, Try.ntmps9
    go_wp2_with fail
    refine (awake_any w).mono ?_
    rintro e w1 ⟨rfl, b1⟩
    go_wp2
    go_ret
    exact ⟨rfl, b1⟩
  by_cases c2 : last < -1099511627776
  · go_enter Try.func9, Try.ntmps9
    go_wp2_with fail
    refine (awake_any w).mono ?_
    rintro e w1 ⟨rfl, b1⟩
    go_wp2
    go_ret
    exact ⟨rfl, b1⟩
  have l1 : -4611686018427387904 ≤ last := by omega
  have l2 : last ≤ 4611686018427387904 := by omega
  have hd := d32_bd last x
  by_cases c3 : 32767 < last + d32 last x - last
  · go_enter Try.func9, Try.ntmps9
    go_wp2_with fail
    refine (awake_any w).mono ?_
    rintro e w1 ⟨rfl, b1⟩
    go_wp2_with fail
    refine (near32_any last x l1 l2 _).mono ?_
    rintro e w2 ⟨rfl, b2⟩
    replace b2 := bnext b1 b2
    clear b1
    go_wp2
    go_ret
    exact ⟨rfl, b2⟩
  by_cases c4 : last + d32 last x - last < -32768
  · go_enter Try.func9, Try.ntmps9
    go_wp2_with fail
    refine (awake_any w).mono ?_
    rintro e w1 ⟨rfl, b1⟩
    go_wp2_with fail
    refine (near32_any last x l1 l2 _).mono ?_
    rintro e w2 ⟨rfl, b2⟩
    replace b2 := bnext b1 b2
    clear b1
    go_wp2
    go_ret
    exact ⟨rfl, b2⟩
  have H := Lib.hid (both_eq last x (by omega) (by omega))
  go_enter Try.func9, Try.ntmps9
  go_wp2_with fail
  refine (awake_any w).mono ?_
  rintro e w1 ⟨rfl, b1⟩
  go_wp2_with fail
  refine (near32_any last x l1 l2 _).mono ?_
  rintro e w2 ⟨rfl, b2⟩
  replace b2 := bnext b1 b2
  clear b1
  go_wp2_with fail
  refine (near16_any last _ l1 l2 _).mono ?_
  rintro e w3 ⟨rfl, b3⟩
  replace b3 := bnext b2 b3
  clear b2
  rw [H.out]
  go_wp2
  go_ret
  exact ⟨ret_bool (by simp), b3⟩
set_option maxRecDepth 100000 in
theorem lifted (os : Os) (started : os.Started) (H : Type) (enc : TypeId × Value → H) :
    ReturnsInHanded {} Try.checked os 9 .any (Rows.serialBothSpec.pre6 enc Try.prog Try.f9 Rows.serialBothRow.domain false) (Rows.serialBothSpec.post enc Try.prog Try.f9 false true false false) := by
  refine returnsInHanded_of_change (C := Try.checked) own started (by kernel_rfl) Try.func9
    (ChangeSpec.witness6 (enc := enc) (C := Try.checked) false ⟨#[], #[.int .i64 0, .int .u32 0], []⟩ 8 (by kernel_rfl) (by kernel_rfl) (by kernel_rfl) (by kernel_rfl)) ?_
  intro W base args ds gs before hval0 hW _ _
  have hval : ∀ (j : Nat) t v, Try.f9.params[j]? = some t → args[j]? = some v → Value.okWide Try.prog W .any base t v := hval0
  have hW' := hW
  obtain ⟨p, q, hA0, hV, _, _, _⟩ := hW
  have hA : DataW.TrodAll enc Try.prog W 0 (fun _ => true) true Try.f9.params.toList args.toList ds p := hA0
  rw [Try.params9] at hA hval
  obtain ⟨v0, vs0, d0, ds0, p0, q0, hargs, rfl, _, h0, r0⟩ := trodAll_cons hA
  obtain ⟨v1, vs1, d1, ds1, p1, q1, rfl, rfl, _, h1, r1⟩ := trodAll_cons r0
  obtain ⟨rfl, rfl, _⟩ := trodAll_nil r1
  obtain rfl : args = #[v0, v1] := by cases args; simp_all
  obtain ⟨rfl, _⟩ := trodVars_none hV
  refine law_post (s := Rows.serialBothSpec) rfl rfl (by rw [Try.params9]; intro t ht; simp at ht; rcases ht with rfl | rfl <;> exact ⟨by kernel_rfl, of_decide_eq_true (by kernel_rfl)⟩) rfl hW' ?_
  obtain ⟨a0, rfl, _, _, w0⟩ := open_int Try.underlying2 (hval 0 2 v0 rfl rfl) h0
  obtain ⟨a1, rfl, _, _, w1⟩ := open_int Try.underlying23 (hval 1 23 v1 rfl rfl) h1
  exact walk W a0 w0 a1 w1

theorem over : Rows.serialBothRow.holds Try.pinned (OpenSpec.ofChange Rows.serialBothSpec) :=
  OpenClaim.holds_of_wide 9 Try.f9 rfl rfl rfl rfl rfl rfl rfl ⟨rfl, rfl, rfl, rfl, rfl⟩ rfl rfl rfl rfl rfl (by kernel_rfl) Try.func9 (by kernel_rfl)
    (of_decide_eq_true (by kernel_rfl)) (by unfold Func.isWrapper; first | (rw [if_pos (by decide +kernel)]; kernel_rfl) | (rw [if_neg (by decide +kernel)]; exact ⟨rfl, rfl⟩))
    (fun os started H enc _ => lifted os started H enc)

/-- The statement. -/
theorem serialBoth_holds : Rows.SerialBothSaid := over

end Go.Proofs.Ytbjmclohnegaaaa.SerBoth
