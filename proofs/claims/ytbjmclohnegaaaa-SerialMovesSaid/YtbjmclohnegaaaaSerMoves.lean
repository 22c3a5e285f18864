/-
  Proved: SerialMoves returns true for every three numbers of 16 bits and every three of 32 bits: both moved by as much, two numbers are as far from each other as ahead. Conditions: none.
-/
import Derived.Test.YtbjmclohnegaaaaSerA
import Derived.Test.YtbjmclohnegaaaaLift
namespace Go.Proofs.Ytbjmclohnegaaaa.SerMoves
open Go.ChangeShapes Go.WideShapes Go.ChangeAt Go.RowKit

theorem move16 (a b x : Int) : d16 (IntKind.u16.wrap (a + x)) (IntKind.u16.wrap (b + x)) = d16 a b := by
  rw [wrap_u16, wrap_u16]; unfold d16; omega
theorem move32 (a b x : Int) : d32 ((a + x) % 4294967296) ((b + x) % 4294967296) = d32 a b := by
  unfold d32; omega

set_option maxRecDepth 100000 in
theorem walk (w : World) (a : Int) (ha : (Lit.int .u16 a).wf = true) (b : Int) (hb : (Lit.int .u16 b).wf = true) (x : Int) (hx : (Lit.int .u16 x).wf = true) (c : Int) (hc : (Lit.int .u32 c).wf = true) (d : Int) (hd : (Lit.int .u32 d).wf = true) (y : Int) (hy : (Lit.int .u32 y).wf = true) :
    Calls Try.prog 8 #[.int .u16 a, .int .u16 b, .int .u16 x, .int .u32 c, .int .u32 d, .int .u32 y] w fun e w' => e = .returned (.bool true) ∧ Below w.heap.size w w' := by
  have ga := wf_u16 ha
  have gb := wf_u16 hb
  have gx := wf_u16 hx
  have gc := wf_u32 hc
  have gd := wf_u32 hd
  have gy := wf_u32 hy
  clear ha hb hx hc hd hy
  go_enter Try.func8, Try.ntmps8
  go_wp2_with fail
  refine (awake_any w).mono ?_
  rintro e w1 ⟨rfl, b1⟩
  have e1 := Lib.hid (move16 a b x)
  have e2 := Lib.hid (move32 c d y)
  go_wp2_with fail
  refine (from16_any _ _ _).mono ?_
  rintro e w2 ⟨rfl, b2⟩
  replace b2 := bnext b1 b2
  clear b1
  rw [e1.out]
  go_wp2_with fail
  refine (from16_any a b _).mono ?_
  rintro e w3 ⟨rfl, b3⟩
  replace b3 := bnext b2 b3
  clear b2
  go_wp2_with fail
  refine (from32_any _ _ _).mono ?_
  rintro e w4 ⟨rfl, b4⟩
  replace b4 := bnext b3 b4
  clear b3
  rw [e2.out]
  go_wp2_with fail
  refine (from32_any c d _).mono ?_
  rintro e w5 ⟨rfl, b5⟩
  replace b5 := bnext b4 b5
  clear b4
  go_wp2
  go_ret
  exact ⟨ret_bool (by simp), b5⟩
set_option maxRecDepth 100000 in
theorem lifted (os : Os) (started : os.Started) (H : Type) (enc : TypeId × Value → H) :
    ReturnsInHanded {} Try.checked os 8 .any (Rows.serialMovesSpec.pre6 enc Try.prog Try.f8 Rows.serialMovesRow.domain false) (Rows.serialMovesSpec.post enc Try.prog Try.f8 false true false false) := by
  refine returnsInHanded_of_change (C := Try.checked) own started (by kernel_rfl) Try.func8
    (ChangeSpec.witness6 (enc := enc) (C := Try.checked) false ⟨#[], #[.int .u16 0, .int .u16 0, .int .u16 0, .int .u32 0, .int .u32 0, .int .u32 0], []⟩ 8 (by kernel_rfl) (by kernel_rfl) (by kernel_rfl) (by kernel_rfl)) ?_
  intro W base args ds gs before hval0 hW _ _
  have hval : ∀ (j : Nat) t v, Try.f8.params[j]? = some t → args[j]? = some v → Value.okWide Try.prog W .any base t v := hval0
  have hW' := hW
  obtain ⟨p, q, hA0, hV, _, _, _⟩ := hW
  have hA : DataW.TrodAll enc Try.prog W 0 (fun _ => true) true Try.f8.params.toList args.toList ds p := hA0
  rw [Try.params8] at hA hval
  obtain ⟨v0, vs0, d0, ds0, p0, q0, hargs, rfl, _, h0, r0⟩ := trodAll_cons hA
  obtain ⟨v1, vs1, d1, ds1, p1, q1, rfl, rfl, _, h1, r1⟩ := trodAll_cons r0
  obtain ⟨v2, vs2, d2, ds2, p2, q2, rfl, rfl, _, h2, r2⟩ := trodAll_cons r1
  obtain ⟨v3, vs3, d3, ds3, p3, q3, rfl, rfl, _, h3, r3⟩ := trodAll_cons r2
  obtain ⟨v4, vs4, d4, ds4, p4, q4, rfl, rfl, _, h4, r4⟩ := trodAll_cons r3
  obtain ⟨v5, vs5, d5, ds5, p5, q5, rfl, rfl, _, h5, r5⟩ := trodAll_cons r4
  obtain ⟨rfl, rfl, _⟩ := trodAll_nil r5
  obtain rfl : args = #[v0, v1, v2, v3, v4, v5] := by cases args; simp_all
  obtain ⟨rfl, _⟩ := trodVars_none hV
  refine law_post (s := Rows.serialMovesSpec) rfl rfl (by rw [Try.params8]; intro t ht; simp at ht; rcases ht with rfl | rfl | rfl | rfl | rfl | rfl <;> exact ⟨by kernel_rfl, of_decide_eq_true (by kernel_rfl)⟩) rfl hW' ?_
  obtain ⟨a0, rfl, _, _, w0⟩ := open_int Try.underlying22 (hval 0 22 v0 rfl rfl) h0
  obtain ⟨a1, rfl, _, _, w1⟩ := open_int Try.underlying22 (hval 1 22 v1 rfl rfl) h1
  obtain ⟨a2, rfl, _, _, w2⟩ := open_int Try.underlying22 (hval 2 22 v2 rfl rfl) h2
  obtain ⟨a3, rfl, _, _, w3⟩ := open_int Try.underlying23 (hval 3 23 v3 rfl rfl) h3
  obtain ⟨a4, rfl, _, _, w4⟩ := open_int Try.underlying23 (hval 4 23 v4 rfl rfl) h4
  obtain ⟨a5, rfl, _, _, w5⟩ := open_int Try.underlying23 (hval 5 23 v5 rfl rfl) h5
  exact walk W a0 w0 a1 w1 a2 w2 a3 w3 a4 w4 a5 w5

theorem over : Rows.serialMovesRow.holds Try.pinned (OpenSpec.ofChange Rows.serialMovesSpec) :=
  OpenClaim.holds_of_wide 8 Try.f8 rfl rfl rfl rfl rfl rfl rfl ⟨rfl, rfl, rfl, rfl, rfl⟩ rfl rfl rfl rfl rfl (by kernel_rfl) Try.func8 (by kernel_rfl)
    (of_decide_eq_true (by kernel_rfl)) (by unfold Func.isWrapper; first | (rw [if_pos (by decide +kernel)]; kernel_rfl) | (rw [if_neg (by decide +kernel)]; exact ⟨rfl, rfl⟩))
    (fun os started H enc _ => lifted os started H enc)

/-- The statement. -/
theorem serialMoves_holds : Rows.SerialMovesSaid := over

end Go.Proofs.Ytbjmclohnegaaaa.SerMoves
