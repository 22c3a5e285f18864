/-
  Proved: SerialOne returns true for every two numbers of 16 bits and every two of 32 bits: of two that differ, but not by half of the way round, just one is ahead of the other; a number is not ahead of itself; a step on is ahead by one. Conditions: none.
-/
import Derived.Test.YtbjmclohnegaaaaSerA
import Derived.Test.YtbjmclohnegaaaaLift
namespace Go.Proofs.Ytbjmclohnegaaaa.SerOne
open Go.ChangeShapes Go.WideShapes Go.ChangeAt Go.RowKit

theorem one16 (a b : Int) (ha : 0 ≤ a ∧ a < 65536) (hb : 0 ≤ b ∧ b < 65536) : (a = b → up16 a b = false ∧ up16 b a = false) ∧ (¬ a = b → ¬ IntKind.u16.wrap (b - a) = 32768 → up16 a b ≠ up16 b a) := by
  refine ⟨fun h => ?_, fun h h' => ?_⟩
  · subst h
    simp [up16, d16]
  · rw [wrap_u16] at h'
    unfold up16 d16
    intro e
    rw [decide_eq_decide] at e
    omega
theorem one32 (a b : Int) (ha : 0 ≤ a ∧ a < 4294967296) (hb : 0 ≤ b ∧ b < 4294967296) : (a = b → up32 a b = false ∧ up32 b a = false) ∧ (¬ a = b → ¬ (b - a) % 4294967296 = 2147483648 → up32 a b ≠ up32 b a) := by
  refine ⟨fun h => ?_, fun h h' => ?_⟩
  · subst h
    simp [up32, d32]
  · unfold up32 d32
    intro e
    rw [decide_eq_decide] at e
    omega
theorem step16 (a : Int) : d16 a (IntKind.u16.wrap (a + 1)) = 1 ∧ d16 (IntKind.u16.wrap (a + 1)) a = -1 := by
  rw [wrap_u16]; unfold d16; omega
theorem step32 (a : Int) : d32 a ((a + 1) % 4294967296) = 1 ∧ d32 ((a + 1) % 4294967296) a = -1 := by
  unfold d32; omega

set_option maxRecDepth 100000 in
theorem walk (w : World) (a : Int) (ha : (Lit.int .u16 a).wf = true) (b : Int) (hb : (Lit.int .u16 b).wf = true) (c : Int) (hc : (Lit.int .u32 c).wf = true) (d : Int) (hd : (Lit.int .u32 d).wf = true) :
    Calls Try.prog 5 #[.int .u16 a, .int .u16 b, .int .u32 c, .int .u32 d] w fun e w' => e = .returned (.bool true) ∧ Below w.heap.size w w' := by
  have ga := wf_u16 ha
  have gb := wf_u16 hb
  have gc := wf_u32 hc
  have gd := wf_u32 hd
  clear ha hb hc hd
  have H16 := Lib.hid (one16 a b ga gb)
  have H32 := Lib.hid (one32 c d gc gd)
  have S1 := Lib.hid (step16 a)
  have S2 := Lib.hid (step32 c)
  go_enter Try.func5, Try.ntmps5
  go_wp2_with fail
  refine (awake_any w).mono ?_
  rintro e w1 ⟨rfl, b1⟩
  go_wp2_with fail
  refine (less16_any a b _).mono ?_
  rintro e w2 ⟨rfl, b2⟩
  replace b2 := bnext b1 b2
  clear b1
  go_wp2_with fail
  refine (less16_any b a _).mono ?_
  rintro e w3 ⟨rfl, b3⟩
  replace b3 := bnext b2 b3
  clear b2
  go_wp2_with fail
  refine (less32_any c d _).mono ?_
  rintro e w4 ⟨rfl, b4⟩
  replace b4 := bnext b3 b4
  clear b3
  go_wp2_with fail
  refine (less32_any d c _).mono ?_
  rintro e w5 ⟨rfl, b5⟩
  replace b5 := bnext b4 b5
  clear b4 ga gb gc gd
  go_upto_region 8 with fail
  go_cut [10, 11, 53] (fun _ _ s wx => s = .bool false ∧ wx = w5)
  case first =>
    clear S1 S2 H32 b5
    by_cases hab : a = b
    · subst hab
      obtain ⟨e1, e2⟩ := H16.out.1 rfl
      rw [e1]
      clear e1 e2
      go_wp2_with fail
      go_meet
      exact ⟨rfl, rfl⟩
    · have nab : (a != b) = true := by simpa using hab
      have eab : (a == b) = false := by simpa using hab
      by_cases hh : IntKind.u16.wrap (b - a) = 32768
      · have nh : (IntKind.u16.wrap (b - a) != 32768) = false := by simpa using hh
        clear hh
        go_wp2_with fail
        all_goals (go_meet; exact ⟨rfl, rfl⟩)
      · have nh : (IntKind.u16.wrap (b - a) != 32768) = true := by simpa using hh
        have o := H16.out.2 hab hh
        clear hh
        cases c1 : up16 a b <;> cases c2 : up16 b a
        · exact absurd (c1.trans c2.symm) o
        · clear c1 c2 o
          go_wp2_with fail
          all_goals (go_meet; exact ⟨rfl, rfl⟩)
        · clear c1 c2 o
          go_wp2_with fail
          all_goals (go_meet; exact ⟨rfl, rfl⟩)
        · exact absurd (c1.trans c2.symm) o
  case rest =>
  obtain ⟨rfl, rfl⟩ := hcut
  go_upto_region 10 with fail
  go_cut [12, 13, 78] (fun _ _ s wx => s = .bool false ∧ wx = wc)
  case first =>
    clear S1 S2 H16 b5
    by_cases hab : c = d
    · subst hab
      obtain ⟨e1, e2⟩ := H32.out.1 rfl
      rw [e1]
      clear e1 e2
      go_wp2_with fail
      go_meet
      exact ⟨rfl, rfl⟩
    · have nab : (c != d) = true := by simpa using hab
      have eab : (c == d) = false := by simpa using hab
      by_cases hh : (d - c) % 4294967296 = 2147483648
      · have nh : ((d - c) % 4294967296 != 2147483648) = false := by simpa using hh
        clear hh
        go_wp2_with fail
        all_goals (go_meet; exact ⟨rfl, rfl⟩)
      · have nh : ((d - c) % 4294967296 != 2147483648) = true := by simpa using hh
        have o := H32.out.2 hab hh
        clear hh
        cases c1 : up32 c d <;> cases c2 : up32 d c
        · exact absurd (c1.trans c2.symm) o
        · clear c1 c2 o
          go_wp2_with fail
          all_goals (go_meet; exact ⟨rfl, rfl⟩)
        · clear c1 c2 o
          go_wp2_with fail
          all_goals (go_meet; exact ⟨rfl, rfl⟩)
        · exact absurd (c1.trans c2.symm) o
  case rest =>
  obtain ⟨rfl, rfl⟩ := hcut
  clear H16 H32
  go_wp2_with fail
  refine (from16_any _ _ _).mono ?_
  rintro e w6 ⟨rfl, b6⟩
  replace b6 := bnext b5 b6
  clear b5
  rw [S1.out.1]
  go_wp2_with fail
  refine (from32_any _ _ _).mono ?_
  rintro e w7 ⟨rfl, b7⟩
  replace b7 := bnext b6 b7
  clear b6
  rw [S2.out.1]
  go_wp2_with fail
  refine (from16_any _ _ _).mono ?_
  rintro e w8 ⟨rfl, b8⟩
  replace b8 := bnext b7 b8
  clear b7
  rw [S1.out.2]
  go_wp2_with fail
  refine (from32_any _ _ _).mono ?_
  rintro e w9 ⟨rfl, b9⟩
  replace b9 := bnext b8 b9
  clear b8
  rw [S2.out.2]
  go_wp2_with fail
  go_ret
  exact ⟨ret_bool rfl, b9⟩
set_option maxRecDepth 100000 in
theorem lifted (os : Os) (started : os.Started) (H : Type) (enc : TypeId × Value → H) :
    ReturnsInHanded {} Try.checked os 5 .any (Rows.serialOneSpec.pre6 enc Try.prog Try.f5 Rows.serialOneRow.domain false) (Rows.serialOneSpec.post enc Try.prog Try.f5 false true false false) := by
  refine returnsInHanded_of_change (C := Try.checked) own started (by kernel_rfl) Try.func5
    (ChangeSpec.witness6 (enc := enc) (C := Try.checked) false ⟨#[], #[.int .u16 0, .int .u16 0, .int .u32 0, .int .u32 0], []⟩ 8 (by kernel_rfl) (by kernel_rfl) (by kernel_rfl) (by kernel_rfl)) ?_
  intro W base args ds gs before hval0 hW _ _
  have hval : ∀ (j : Nat) t v, Try.f5.params[j]? = some t → args[j]? = some v → Value.okWide Try.prog W .any base t v := hval0
  have hW' := hW
  obtain ⟨p, q, hA0, hV, _, _, _⟩ := hW
  have hA : DataW.TrodAll enc Try.prog W 0 (fun _ => true) true Try.f5.params.toList args.toList ds p := hA0
  rw [Try.params5] at hA hval
  obtain ⟨v0, vs0, d0, ds0, p0, q0, hargs, rfl, _, h0, r0⟩ := trodAll_cons hA
  obtain ⟨v1, vs1, d1, ds1, p1, q1, rfl, rfl, _, h1, r1⟩ := trodAll_cons r0
  obtain ⟨v2, vs2, d2, ds2, p2, q2, rfl, rfl, _, h2, r2⟩ := trodAll_cons r1
  obtain ⟨v3, vs3, d3, ds3, p3, q3, rfl, rfl, _, h3, r3⟩ := trodAll_cons r2
  obtain ⟨rfl, rfl, _⟩ := trodAll_nil r3
  obtain rfl : args = #[v0, v1, v2, v3] := by cases args; simp_all
  obtain ⟨rfl, _⟩ := trodVars_none hV
  refine law_post (s := Rows.serialOneSpec) rfl rfl (by rw [Try.params5]; intro t ht; simp at ht; rcases ht with rfl | rfl | rfl | rfl <;> exact ⟨by kernel_rfl, of_decide_eq_true (by kernel_rfl)⟩) rfl hW' ?_
  obtain ⟨a0, rfl, _, _, w0⟩ := open_int Try.underlying22 (hval 0 22 v0 rfl rfl) h0
  obtain ⟨a1, rfl, _, _, w1⟩ := open_int Try.underlying22 (hval 1 22 v1 rfl rfl) h1
  obtain ⟨a2, rfl, _, _, w2⟩ := open_int Try.underlying23 (hval 2 23 v2 rfl rfl) h2
  obtain ⟨a3, rfl, _, _, w3⟩ := open_int Try.underlying23 (hval 3 23 v3 rfl rfl) h3
  exact walk W a0 w0 a1 w1 a2 w2 a3 w3

theorem over : Rows.serialOneRow.holds Try.pinned (OpenSpec.ofChange Rows.serialOneSpec) :=
  OpenClaim.holds_of_wide 5 Try.f5 rfl rfl rfl rfl rfl rfl rfl ⟨rfl, rfl, rfl, rfl, rfl⟩ rfl rfl rfl rfl rfl (by kernel_rfl) Try.func5 (by kernel_rfl)
    (of_decide_eq_true (by kernel_rfl)) (by unfold Func.isWrapper; first | (rw [if_pos (by decide +kernel)]; kernel_rfl) | (rw [if_neg (by decide +kernel)]; exact ⟨rfl, rfl⟩))
    (fun os started H enc _ => lifted os started H enc)

/-- The statement. -/
theorem serialOne_holds : Rows.SerialOneSaid := over

end Go.Proofs.Ytbjmclohnegaaaa.SerOne
