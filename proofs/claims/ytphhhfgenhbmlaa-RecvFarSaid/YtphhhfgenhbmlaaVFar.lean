/-
  Proved: RecvFar returns true for every pair of numbers: a packet up to half of the way round ahead is new; one that is further is behind, and too old, but for the last 63. Conditions: none.
-/
import Derived.Test.YtphhhfgenhbmlaaRvD
import Derived.Test.YtphhhfgenhbmlaaLift
namespace Go.Proofs.Ytphhhfgenhbmlaa.VFar
open Go.ChangeShapes Go.WideShapes Go.ChangeAt Go.RowKit
set_option linter.unusedSimpArgs false

/-- Its second packet. -/
theorem second (a n k : Int) (u : Trk) (s : Int) (ha : 0 ≤ a ∧ a < 65536) (hs : 0 ≤ s ∧ s < 65536) (h : Tk ⟨true, a, a, 1, 1⟩ s u n k) (w : World) :
    Calls Try.prog 10 #[.agg #[.bool true, .int .i64 a, .int .i64 a, .int .i64 1, .int .u64 1], .int .u16 s] w (TakeOut u n k w) :=
  tk_any _ _ _ _ _ h ⟨by dsimp only; omega, by dsimp only; omega, by dsimp only; omega, by dsimp only; omega, by dsimp only; omega, by dsimp only; omega, by dsimp only; decide⟩ hs.1 hs.2 w
theorem first (a : Int) (ha : 0 ≤ a ∧ a < 65536) (w : World) :
    Calls Try.prog 10 #[.agg #[.bool false, .int .i64 0, .int .i64 0, .int .i64 0, .int .u64 0], .int .u16 a] w fun e w' => e = .returned (.tuple #[.agg #[.bool true, .int .i64 a, .int .i64 a, .int .i64 1, .int .u64 1], .int .i64 a, .int .i64 0]) ∧ Below w.heap.size w w' :=
  tk_any Trk.zero a ⟨true, a, a, 1, 1⟩ a 0 ⟨rfl, rfl, rfl⟩ (Trk.Ok.zero.more (by decide)) ha.1 ha.2 w

set_option maxRecDepth 100000 in
set_option maxHeartbeats 1600000 in
theorem walk (w : World) (a : Int) (ha : (Lit.int .u16 a).wf = true) (f : Int) (hf : (Lit.int .u16 f).wf = true) :
    Calls Try.prog 8 #[.int .u16 a, .int .u16 f] w fun e w' => e = .returned (.bool true) ∧ Below w.heap.size w w' := by
  have ha := wf_u16 ha
  have hf := wf_u16 hf
  have CA := Lib.hid (awake_any w)
  have C1 := Lib.hid (fun w => first a ha w)
  obtain ⟨s, hs⟩ : ∃ s, IntKind.u16.wrap (a + f) = s := ⟨_, rfl⟩
  have hs' : (a + f) % 65536 = s := by rw [← hs, IntKind.wrap_u16]
  have hsb : 0 ≤ s ∧ s < 65536 := by omega
  have hd : nearS a s = if f < 32768 then a + f else a + f - 65536 := by rw [← hs']; unfold nearS; split <;> omega
  have C2 := fun u n k h w => second a n k u s ha hsb h w
  by_cases h1 : f = 0
  · have es : s = a := by omega
    have H1 := Lib.hid h1
    have C2 := Lib.hid (fun w => C2 ⟨true, a, a, 1, 1⟩ (a) 2 ⟨by unfold Trk.num; rw [if_pos rfl, hd, if_pos (by omega)]; omega, by unfold Trk.kind; rw [if_pos rfl, if_neg (by dsimp only; omega), if_neg (by dsimp only; omega), if_pos (by simp)], by unfold Trk.take; rw [if_pos rfl, if_neg (by dsimp only; omega), if_neg (by dsimp only; omega), if_pos (by simp)]⟩ w)
    rw [es] at C2 hs
    clear h1 es hd hs'
    go_enter Try.func8, Try.ntmps8
    go_wp2_with fail
    refine CA.out.mono ?_
    rintro e w1 ⟨rfl, b1⟩
    have HW := Lib.hid (Whole.new w1 26 #[.bool false, .int .i64 0, .int .i64 0, .int .i64 0, .int .u64 0])
    have HB := Lib.hid (b1.alloc b1.size (.cells #[.bool false, .int .i64 0, .int .i64 0, .int .i64 0, .int .u64 0] 26))
    have hg := b1.size
    clear b1 CA
    go_wp2_with fail
    refine (C1.out _).mono ?_
    rintro e w2 ⟨rfl, b2⟩
    have W2 := HW.out.below b2 HW.out.lt
    have k0 := W2.cell 0
    have k1 := W2.cell 1
    have k2 := W2.cell 2
    have k3 := W2.cell 3
    have k4 := W2.cell 4
    have f0 := W2.free 0
    have f1 := W2.free 1
    have f2 := W2.free 2
    have f3 := W2.free 3
    have f4 := W2.free 4
    have HW2 := Lib.hid W2
    have HB2 := Lib.hid (HB.out.trans (b2.mono HB.out.size))
    clear b2 W2 HB HW C1
    go_wp2_with fail
    refine (C2.out _).mono ?_
    rintro e w3 ⟨rfl, b3⟩
    simp only [Trk.cells, Int.cast_ofNat_Int]
    have W3 := (HW2.out.five (.bool true) (.int .i64 a) (.int .i64 a) (.int .i64 1) (.int .u64 1)).below b3 (by have := HW2.out.lt; simpa using this)
    have HB3 := Lib.hid ((five HB2.out hg (.bool true) (.int .i64 a) (.int .i64 a) (.int .i64 1) (.int .u64 1)).trans (b3.mono (five HB2.out hg (.bool true) (.int .i64 a) (.int .i64 a) (.int .i64 1) (.int .u64 1)).size))
    clear k0 f0 k1 f1 k2 f2 k3 f3 k4 f4
    have k0 := W3.cell 0
    have k1 := W3.cell 1
    have k2 := W3.cell 2
    have k3 := W3.cell 3
    have k4 := W3.cell 4
    have f0 := W3.free 0
    have f1 := W3.free 1
    have f2 := W3.free 2
    have f3 := W3.free 3
    have f4 := W3.free 4
    have HW3 := Lib.hid W3
    have hg3 := W3.lt
    clear b3 W3 HB2 HW2 C2 hs
    have he := fun w => eql_trk w ⟨true, a, a, 1, 1⟩
    simp only [Trk.cells, Int.cast_ofNat_Int] at he
    have h1 := H1.out
    go_wp2
    go_ret
    exact ⟨ret_bool rfl, HB3.out.alloc HB3.out.size _⟩
  by_cases h2 : f < 32768
  · rw [if_pos h2] at hd
    obtain ⟨q, hq⟩ : ∃ q, shlS 1 f.toNat = q := ⟨_, rfl⟩
    have C2 := Lib.hid (fun w => C2 ⟨true, a, a + f, 2, q⟩ (a + f) 0 ⟨by unfold Trk.num; rw [if_pos rfl, hd], by unfold Trk.kind; rw [if_pos rfl, if_pos (by dsimp only; omega)], by unfold Trk.take; rw [if_pos rfl, if_pos (by dsimp only; omega)]; dsimp only; rw [show (a + f - a).toNat = f.toNat by omega, hq]; rfl⟩ w)
    clear hd hs'
    clear hq
    go_enter Try.func8, Try.ntmps8
    go_wp2_with fail
    refine CA.out.mono ?_
    rintro e w1 ⟨rfl, b1⟩
    have HW := Lib.hid (Whole.new w1 26 #[.bool false, .int .i64 0, .int .i64 0, .int .i64 0, .int .u64 0])
    have HB := Lib.hid (b1.alloc b1.size (.cells #[.bool false, .int .i64 0, .int .i64 0, .int .i64 0, .int .u64 0] 26))
    have hg := b1.size
    clear b1 CA
    go_wp2_with fail
    refine (C1.out _).mono ?_
    rintro e w2 ⟨rfl, b2⟩
    have W2 := HW.out.below b2 HW.out.lt
    have k0 := W2.cell 0
    have k1 := W2.cell 1
    have k2 := W2.cell 2
    have k3 := W2.cell 3
    have k4 := W2.cell 4
    have f0 := W2.free 0
    have f1 := W2.free 1
    have f2 := W2.free 2
    have f3 := W2.free 3
    have f4 := W2.free 4
    have HW2 := Lib.hid W2
    have HB2 := Lib.hid (HB.out.trans (b2.mono HB.out.size))
    clear b2 W2 HB HW C1
    go_wp2_with fail
    refine (C2.out _).mono ?_
    rintro e w3 ⟨rfl, b3⟩
    simp only [Trk.cells, Int.cast_ofNat_Int]
    have W3 := (HW2.out.five (.bool true) (.int .i64 a) (.int .i64 a) (.int .i64 1) (.int .u64 1)).below b3 (by have := HW2.out.lt; simpa using this)
    have HB3 := Lib.hid ((five HB2.out hg (.bool true) (.int .i64 a) (.int .i64 a) (.int .i64 1) (.int .u64 1)).trans (b3.mono (five HB2.out hg (.bool true) (.int .i64 a) (.int .i64 a) (.int .i64 1) (.int .u64 1)).size))
    clear k0 f0 k1 f1 k2 f2 k3 f3 k4 f4
    have k0 := W3.cell 0
    have k1 := W3.cell 1
    have k2 := W3.cell 2
    have k3 := W3.cell 3
    have k4 := W3.cell 4
    have f0 := W3.free 0
    have f1 := W3.free 1
    have f2 := W3.free 2
    have f3 := W3.free 3
    have f4 := W3.free 4
    have HW3 := Lib.hid W3
    have hg3 := W3.lt
    clear b3 W3 HB2 HW2 C2 hs
    go_wp2
    go_ret
    exact ⟨ret_bool rfl, HB3.out.alloc HB3.out.size _⟩
  rw [if_neg h2] at hd
  by_cases h3 : f < 65473
  · skip
    have C2 := Lib.hid (fun w => C2 ⟨true, a, a, 1, 1⟩ (a + f - 65536) 3 ⟨by unfold Trk.num; rw [if_pos rfl, hd], by unfold Trk.kind; rw [if_pos rfl, if_neg (by dsimp only; omega), if_pos (by dsimp only; omega)], by unfold Trk.take; rw [if_pos rfl, if_neg (by dsimp only; omega), if_pos (by dsimp only; omega)]⟩ w)
    clear hd hs'
    go_enter Try.func8, Try.ntmps8
    go_wp2_with fail
    refine CA.out.mono ?_
    rintro e w1 ⟨rfl, b1⟩
    have HW := Lib.hid (Whole.new w1 26 #[.bool false, .int .i64 0, .int .i64 0, .int .i64 0, .int .u64 0])
    have HB := Lib.hid (b1.alloc b1.size (.cells #[.bool false, .int .i64 0, .int .i64 0, .int .i64 0, .int .u64 0] 26))
    have hg := b1.size
    clear b1 CA
    go_wp2_with fail
    refine (C1.out _).mono ?_
    rintro e w2 ⟨rfl, b2⟩
    have W2 := HW.out.below b2 HW.out.lt
    have k0 := W2.cell 0
    have k1 := W2.cell 1
    have k2 := W2.cell 2
    have k3 := W2.cell 3
    have k4 := W2.cell 4
    have f0 := W2.free 0
    have f1 := W2.free 1
    have f2 := W2.free 2
    have f3 := W2.free 3
    have f4 := W2.free 4
    have HW2 := Lib.hid W2
    have HB2 := Lib.hid (HB.out.trans (b2.mono HB.out.size))
    clear b2 W2 HB HW C1
    go_wp2_with fail
    refine (C2.out _).mono ?_
    rintro e w3 ⟨rfl, b3⟩
    simp only [Trk.cells, Int.cast_ofNat_Int]
    have W3 := (HW2.out.five (.bool true) (.int .i64 a) (.int .i64 a) (.int .i64 1) (.int .u64 1)).below b3 (by have := HW2.out.lt; simpa using this)
    have HB3 := Lib.hid ((five HB2.out hg (.bool true) (.int .i64 a) (.int .i64 a) (.int .i64 1) (.int .u64 1)).trans (b3.mono (five HB2.out hg (.bool true) (.int .i64 a) (.int .i64 a) (.int .i64 1) (.int .u64 1)).size))
    clear k0 f0 k1 f1 k2 f2 k3 f3 k4 f4
    have k0 := W3.cell 0
    have k1 := W3.cell 1
    have k2 := W3.cell 2
    have k3 := W3.cell 3
    have k4 := W3.cell 4
    have f0 := W3.free 0
    have f1 := W3.free 1
    have f2 := W3.free 2
    have f3 := W3.free 3
    have f4 := W3.free 4
    have HW3 := Lib.hid W3
    have hg3 := W3.lt
    clear b3 W3 HB2 HW2 C2 hs
    have he := fun w => eql_trk w ⟨true, a, a, 1, 1⟩
    simp only [Trk.cells, Int.cast_ofNat_Int] at he
    go_wp2
    go_ret
    exact ⟨ret_bool rfl, HB3.out.alloc HB3.out.size _⟩
  · obtain ⟨d, hdd⟩ : ∃ d : Nat, 65536 - f = (d : Int) := ⟨(65536 - f).toNat, by omega⟩
    have hbit : Nat.testBit 1 d = false := by rw [show (1 : Nat) = 2 ^ 0 from rfl, Nat.testBit_two_pow, decide_eq_false (by omega)]
    obtain ⟨n, hn⟩ : ∃ n, a + f - 65536 = n := ⟨_, rfl⟩
    rw [hn] at hd
    have hnd : (a - n).toNat = d := by omega
    obtain ⟨q, hq⟩ : ∃ q, 1 ||| 2 ^ d = q := ⟨_, rfl⟩
    have C2 := Lib.hid (fun w => C2 ⟨true, n, a, 2, q⟩ (n) 1 ⟨by unfold Trk.num; rw [if_pos rfl, hd], by unfold Trk.kind; rw [if_pos rfl, if_neg (by dsimp only; omega), if_neg (by dsimp only; omega), if_neg (by dsimp only; rw [hnd, hbit]; decide)], by unfold Trk.take; rw [if_pos rfl, if_neg (by dsimp only; omega), if_neg (by dsimp only; omega), if_neg (by dsimp only; rw [hnd, hbit]; decide)]; dsimp only; rw [hnd, hq, show min a n = n by omega]; rfl⟩ w)
    clear hd hs'
    clear hq
    go_enter Try.func8, Try.ntmps8
    go_wp2_with fail
    refine CA.out.mono ?_
    rintro e w1 ⟨rfl, b1⟩
    have HW := Lib.hid (Whole.new w1 26 #[.bool false, .int .i64 0, .int .i64 0, .int .i64 0, .int .u64 0])
    have HB := Lib.hid (b1.alloc b1.size (.cells #[.bool false, .int .i64 0, .int .i64 0, .int .i64 0, .int .u64 0] 26))
    have hg := b1.size
    clear b1 CA
    go_wp2_with fail
    refine (C1.out _).mono ?_
    rintro e w2 ⟨rfl, b2⟩
    have W2 := HW.out.below b2 HW.out.lt
    have k0 := W2.cell 0
    have k1 := W2.cell 1
    have k2 := W2.cell 2
    have k3 := W2.cell 3
    have k4 := W2.cell 4
    have f0 := W2.free 0
    have f1 := W2.free 1
    have f2 := W2.free 2
    have f3 := W2.free 3
    have f4 := W2.free 4
    have HW2 := Lib.hid W2
    have HB2 := Lib.hid (HB.out.trans (b2.mono HB.out.size))
    clear b2 W2 HB HW C1
    go_wp2_with fail
    refine (C2.out _).mono ?_
    rintro e w3 ⟨rfl, b3⟩
    simp only [Trk.cells, Int.cast_ofNat_Int]
    have W3 := (HW2.out.five (.bool true) (.int .i64 a) (.int .i64 a) (.int .i64 1) (.int .u64 1)).below b3 (by have := HW2.out.lt; simpa using this)
    have HB3 := Lib.hid ((five HB2.out hg (.bool true) (.int .i64 a) (.int .i64 a) (.int .i64 1) (.int .u64 1)).trans (b3.mono (five HB2.out hg (.bool true) (.int .i64 a) (.int .i64 a) (.int .i64 1) (.int .u64 1)).size))
    clear k0 f0 k1 f1 k2 f2 k3 f3 k4 f4
    have k0 := W3.cell 0
    have k1 := W3.cell 1
    have k2 := W3.cell 2
    have k3 := W3.cell 3
    have k4 := W3.cell 4
    have f0 := W3.free 0
    have f1 := W3.free 1
    have f2 := W3.free 2
    have f3 := W3.free 3
    have f4 := W3.free 4
    have HW3 := Lib.hid W3
    have hg3 := W3.lt
    clear b3 W3 HB2 HW2 C2 hs
    go_wp2
    go_ret
    exact ⟨ret_bool rfl, HB3.out.alloc HB3.out.size _⟩

set_option maxRecDepth 100000 in
theorem lifted (os : Os) (started : os.Started) (H : Type) (enc : TypeId × Value → H) :
    ReturnsInHanded {} Try.checked os 8 .any (Rows.recvFarSpec.pre6 enc Try.prog Try.f8 Rows.recvFarRow.domain false) (Rows.recvFarSpec.post enc Try.prog Try.f8 false true false false) := by
  refine returnsInHanded_of_change (C := Try.checked) own started (by kernel_rfl) Try.func8
    (ChangeSpec.witness6 (enc := enc) (C := Try.checked) false ⟨#[], #[.int .u16 0, .int .u16 0], []⟩ 8 (by kernel_rfl) (by kernel_rfl) (by kernel_rfl) (by kernel_rfl)) ?_
  intro W base args ds gs before hval0 hW _ _
  have hval : ∀ (j : Nat) t v, Try.f8.params[j]? = some t → args[j]? = some v → Value.okWide Try.prog W .any base t v := hval0
  have hW' := hW
  obtain ⟨p, q, hA0, hV, _, _, _⟩ := hW
  have hA : DataW.TrodAll enc Try.prog W 0 (fun _ => true) true Try.f8.params.toList args.toList ds p := hA0
  rw [Try.params8] at hA hval
  obtain ⟨v0, vs0, d0, ds0, p0, q0, hargs, rfl, _, h0, r0⟩ := trodAll_cons hA
  obtain ⟨v1, vs1, d1, ds1, p1, q1, rfl, rfl, _, h1, r1⟩ := trodAll_cons r0
  obtain ⟨rfl, rfl, _⟩ := trodAll_nil r1
  obtain rfl : args = #[v0, v1] := by cases args; simp_all
  obtain ⟨rfl, _⟩ := trodVars_none hV
  refine law_post (s := Rows.recvFarSpec) rfl rfl (by rw [Try.params8]; intro t ht; simp at ht; rcases ht with rfl | rfl <;> exact ⟨by kernel_rfl, of_decide_eq_true (by kernel_rfl)⟩) rfl hW' ?_
  obtain ⟨a0, rfl, _, _, w0⟩ := open_int Try.underlying32 (hval 0 32 v0 rfl rfl) h0
  obtain ⟨a1, rfl, _, _, w1⟩ := open_int Try.underlying32 (hval 1 32 v1 rfl rfl) h1
  exact walk W a0 w0 a1 w1

theorem over : Rows.recvFarRow.holds Try.pinned (OpenSpec.ofChange Rows.recvFarSpec) :=
  OpenClaim.holds_of_wide 8 Try.f8 rfl rfl rfl rfl rfl rfl rfl ⟨rfl, rfl, rfl, rfl, rfl⟩ rfl rfl rfl rfl rfl (by kernel_rfl) Try.func8 (by kernel_rfl)
    (of_decide_eq_true (by kernel_rfl)) (by unfold Func.isWrapper; first | (rw [if_pos (by decide +kernel)]; kernel_rfl) | (rw [if_neg (by decide +kernel)]; exact ⟨rfl, rfl⟩))
    (fun os started H enc _ => lifted os started H enc)

/-- The statement. -/
theorem recvFar_holds : Rows.RecvFarSaid := over

end Go.Proofs.Ytphhhfgenhbmlaa.VFar
