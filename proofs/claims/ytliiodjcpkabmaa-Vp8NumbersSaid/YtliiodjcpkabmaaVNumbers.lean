/-
  Proved: Vp8Numbers returns true for every slice of bytes and all numbers: written with other numbers a part has these, as wide as it has them, and nothing else of it, and of what is behind, is another one; written with its own it is as it was. Conditions: none.
-/
import Derived.Test.YtliiodjcpkabmaaVN0
import Derived.Test.YtliiodjcpkabmaaVN1
import Derived.Test.YtliiodjcpkabmaaVN2
import Derived.Test.YtliiodjcpkabmaaVN3
import Derived.Test.YtliiodjcpkabmaaVN4
import Derived.Test.YtliiodjcpkabmaaVN5
import Derived.Test.YtliiodjcpkabmaaVpT
import Derived.Test.YtliiodjcpkabmaaVpO
import Derived.Test.YtliiodjcpkabmaaVpW
import Derived.Test.YtliiodjcpkabmaaVpY
import Derived.BigQuiet
import Derived.Deep.CutBlock
import Derived.Deep.DeepCutAuto
namespace Go.Proofs.Ytliiodjcpkabmaa.VNumbers
open Go.ChangeShapes Go.WideShapes Go.ChangeAt Go.RowKit
set_option linter.unusedSimpArgs false

set_option maxRecDepth 1000000 in
set_option maxHeartbeats 25600000 in
theorem walk_none (w : World) (A : Option Addr) (c : Nat) (l : List UInt8) (hl : l.length ≤ maxLen) (hr : Row w w.heap.size 1 A l.length (u8s l)) (_hcap : l.length ≤ c) (pic0 : Int) (hp : (Lit.int .u16 pic0).wf = true) (tl00 : Int) (ht : (Lit.int .u8 tl00).wf = true) (hN : 300 < l.length ∨ parseS l = none) :
    Calls Try.prog 6 #[.slice A l.length c, .int .u16 pic0, .int .u8 tl00] w fun e w' => e = .returned (.bool true) ∧ Below w.heap.size w w' := by
  unfold maxLen at hl
  obtain ⟨hp0, hp1⟩ := wf_u16 hp
  obtain ⟨ht0, ht1⟩ := wf_u8 ht
  obtain ⟨pic, rfl⟩ := Int.eq_ofNat_of_zero_le hp0
  obtain ⟨tl0, rfl⟩ := Int.eq_ofNat_of_zero_le ht0
  have HNN := Lib.hid hN
  clear hN
  by_cases h3 : 300 < l.length
  · have h3' : (300 : Int) < (l.length : Int) := by omega
    clear h3 hr hp ht
    go_enter Try.func6, Try.ntmps6
    go_wp2_with fail
    refine (awake_any w).mono ?_
    rintro e w1 ⟨rfl, b1⟩
    go_wp2
    go_ret
    exact ⟨rfl, b1⟩
  have h3' : ¬ (300 : Int) < (l.length : Int) := by omega
  have htl : tl0 < 256 := by omega
  have hpp : pic < 65536 := by omega
  have HTL := Lib.hid (And.intro htl hpp)
  have CP := Lib.hid (fun wx h => vparse_any A c l wx h (by omega))
  have CW := Lib.hid (fun wx h => write_any A c l pic tl0 hpp htl wx h (by omega))
  obtain ⟨n, hn⟩ : ∃ n, n = l.length := ⟨_, rfl⟩
  rw [← hn] at hr hl h3' h3 CP CW ⊢
  have HN := Lib.hid hn
  have HR := Lib.hid hr
  have HP0 := Lib.hid hp0
  clear hn hr hp ht hp0 ht0 htl hpp
  cases hps : parseS l with
  | none =>
    have e1 := pT_none hps
    have e2 : wT l pic tl0 = ([], 10) := by unfold wT; rw [hps]
    have E1 := Lib.hid e1
    have E2 := Lib.hid e2
    clear hps e1 e2 h3 HP0
    go_enter Try.func6, Try.ntmps6
    go_wp2_with fail
    refine (awake_any w).mono ?_
    rintro e w1 ⟨rfl, b1⟩
    have HR1 := Lib.hid (HR.out.below b1 (Nat.le_refl _))
    have HB1 := Lib.hid b1
    clear b1 HR
    go_wp2_with fail
    refine (CP.out w1 (HR1.out.more HB1.out.size)).mono ?_
    rintro e w2 h2
    obtain ⟨rfl, b2⟩ := told_eq h2
    rw [E1.out]
    unfold dsc0 Dsc.cells
    dsimp only
    have HR2 := Lib.hid (HR1.out.below b2 HB1.out.size)
    have HB2 := Lib.hid (HB1.out.trans (b2.mono HB1.out.size))
    clear b2 h2
    go_wp2_with fail
    refine (CW.out _ ((HR2.out.alloc HB2.out.size _).more (by have := HB2.out.size; simp; omega))).mono ?_
    rintro e w3 h4
    obtain ⟨⟨A2, c2, rfl, _, hr2⟩, b3⟩ := wtold HTL.out.1 h4
    rw [E2.out]
    dsimp only
    have HB3 := Lib.hid ((HB2.out.alloc HB2.out.size _).trans (b3.mono (by have := HB2.out.size; simp; omega)))
    clear b3 h4 hr2
    go_wp2
    go_ret
    exact ⟨by simp, HB3.out⟩
  | some x =>
    rcases HNN.out with hN | hN
    · have := HN.out; omega
    · rw [hps] at hN
      exact absurd hN (by simp)

set_option maxRecDepth 1000000 in
set_option maxHeartbeats 25600000 in
theorem walk (w : World) (A : Option Addr) (c : Nat) (l : List UInt8) (hl : l.length ≤ maxLen) (hr : Row w w.heap.size 1 A l.length (u8s l)) (hcap : l.length ≤ c) (pic0 : Int) (hp : (Lit.int .u16 pic0).wf = true) (tl00 : Int) (ht : (Lit.int .u8 tl00).wf = true) :
    Calls Try.prog 6 #[.slice A l.length c, .int .u16 pic0, .int .u8 tl00] w fun e w' => e = .returned (.bool true) ∧ Below w.heap.size w w' := by
  unfold maxLen at hl
  obtain ⟨hp0, hp1⟩ := wf_u16 hp
  obtain ⟨ht0, ht1⟩ := wf_u8 ht
  obtain ⟨pic, rfl⟩ := Int.eq_ofNat_of_zero_le hp0
  obtain ⟨tl0, rfl⟩ := Int.eq_ofNat_of_zero_le ht0
  by_cases h3 : 300 < l.length
  · exact walk_none w A c l hl hr hcap _ hp _ ht (.inl h3)
  cases hps : parseS l with
  | none => exact walk_none w A c l hl hr hcap _ hp _ ht (.inr hps)
  | some x =>
    obtain ⟨d, r⟩ := x
    have hwp := wide_pic hps
    have key : ∀ a b c' : Bool, d.hasTl0 = a → d.wide = b → d.hasPic = c' → Calls Try.prog 6 #[.slice A l.length c, .int .u16 (pic : Int), .int .u8 (tl0 : Int)] w fun e w' => e = .returned (.bool true) ∧ Below w.heap.size w w' := by
      intro a b c' ha hb hc
      cases a <;> cases b <;> cases c'
      · exact walk_0 w A c l hl hr hcap _ hp _ ht h3 d r hps ⟨ha, hb, hc⟩
      · exact walk_1 w A c l hl hr hcap _ hp _ ht h3 d r hps ⟨ha, hb, hc⟩
      · exact absurd (hwp hb) (by rw [hc]; decide)
      · exact walk_2 w A c l hl hr hcap _ hp _ ht h3 d r hps ⟨ha, hb, hc⟩
      · exact walk_3 w A c l hl hr hcap _ hp _ ht h3 d r hps ⟨ha, hb, hc⟩
      · exact walk_4 w A c l hl hr hcap _ hp _ ht h3 d r hps ⟨ha, hb, hc⟩
      · exact absurd (hwp hb) (by rw [hc]; decide)
      · exact walk_5 w A c l hl hr hcap _ hp _ ht h3 d r hps ⟨ha, hb, hc⟩
    exact key _ _ _ rfl rfl rfl

set_option maxRecDepth 100000 in
theorem lifted (os : Os) (started : os.Started) (H : Type) (enc : TypeId × Value → H) :
    ReturnsInHanded {} Try.checked os 6 .any (Rows.vp8NumbersSpec.pre6 enc Try.prog Try.f6 Rows.vp8NumbersRow.domain false) (Rows.vp8NumbersSpec.post enc Try.prog Try.f6 false true false false) := by
  refine returnsInHanded_of_change (C := Try.checked) own started (by kernel_rfl) Try.func6
    (ChangeSpec.witness6 (enc := enc) (C := Try.checked) false ⟨#[], #[.slice none 0 0, .int .u16 0, .int .u8 0], []⟩ 8 (by kernel_rfl) (by kernel_rfl) (by kernel_rfl) (by kernel_rfl)) ?_
  intro W base args ds gs before hval0 hW _ _
  have hval : ∀ (j : Nat) t v, Try.f6.params[j]? = some t → args[j]? = some v → Value.okWide Try.prog W .any base t v := hval0
  have hW' := hW
  obtain ⟨p, q, hA0, hV, _, _, _⟩ := hW
  have hA : DataW.TrodAll enc Try.prog W 0 (fun _ => true) true Try.f6.params.toList args.toList ds p := hA0
  rw [Try.params6] at hA hval
  obtain ⟨v0, vs0, d0, ds0, p0, q0, hargs, rfl, _, h0, r0⟩ := trodAll_cons hA
  obtain ⟨v1, vs1, d1, ds1, p1, q1, rfl, rfl, _, h1, r1⟩ := trodAll_cons r0
  obtain ⟨v2, vs2, d2, ds2, p2, q2, rfl, rfl, _, h2, r2⟩ := trodAll_cons r1
  obtain ⟨rfl, rfl, _⟩ := trodAll_nil r2
  obtain rfl : args = #[v0, v1, v2] := by cases args; simp_all
  obtain ⟨rfl, _⟩ := trodVars_none hV
  refine law_post (s := Rows.vp8NumbersSpec) rfl rfl (by rw [Try.params6]; intro t ht; simp at ht; rcases ht with rfl | rfl | rfl <;> exact ⟨by kernel_rfl, of_decide_eq_true (by kernel_rfl)⟩) rfl hW' ?_
  obtain ⟨A0, c0, l0, rfl, hl0, hr0, hz0, _⟩ := open_bytes (hval 0 22 v0 rfl rfl) h0
  obtain ⟨a1, rfl, _, _, w1⟩ := open_int Try.underlying24 (hval 1 24 v1 rfl rfl) h1
  obtain ⟨a2, rfl, _, _, w2⟩ := open_int Try.underlying5 (hval 2 5 v2 rfl rfl) h2
  exact walk W A0 c0 l0 hl0 hr0 hz0 a1 w1 a2 w2

theorem over : Rows.vp8NumbersRow.holds Try.pinned (OpenSpec.ofChange Rows.vp8NumbersSpec) :=
  OpenClaim.holds_of_wide 6 Try.f6 rfl rfl rfl rfl rfl rfl rfl ⟨rfl, rfl, rfl, rfl, rfl⟩ rfl rfl rfl rfl rfl (by kernel_rfl) Try.func6 (by kernel_rfl)
    (of_decide_eq_true (by kernel_rfl)) (by unfold Func.isWrapper; first | (rw [if_pos (by decide +kernel)]; kernel_rfl) | (rw [if_neg (by decide +kernel)]; exact ⟨rfl, rfl⟩))
    (fun os started H enc _ => lifted os started H enc)

/-- The statement. -/
theorem vp8Numbers_holds : Rows.Vp8NumbersSaid := over

end Go.Proofs.Ytliiodjcpkabmaa.VNumbers
