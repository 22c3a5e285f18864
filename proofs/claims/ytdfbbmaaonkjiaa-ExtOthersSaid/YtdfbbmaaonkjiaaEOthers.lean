/-
  Proved: ExtOthers returns true for every profile, all bytes and every number of noughts: of a profile that is none of these nothing is parsed, nor of noughts. Conditions: none.
-/
import Derived.Test.YtdfbbmaaonkjiaaExtK
import Derived.Test.YtdfbbmaaonkjiaaExtJ
import Derived.Test.YtdfbbmaaonkjiaaExtM
import Derived.Test.YtdfbbmaaonkjiaaExtN
import Derived.Test.YtdfbbmaaonkjiaaExtP
namespace Go.Proofs.Ytdfbbmaaonkjiaa.EOthers
open Go.ChangeShapes Go.WideShapes Go.ChangeAt Go.RowKit

set_option maxRecDepth 100000 in
set_option maxHeartbeats 1600000 in
theorem walk (w : World) (p : Int) (hp : (Lit.int .u16 p).wf = true) (A : Option Addr) (c : Nat) (b : List UInt8) (hl : b.length ≤ maxLen) (h : Row w w.heap.size 1 A b.length (u8s b)) (m : Int) (hm : (Lit.int .u8 m).wf = true) :
    Calls Try.prog 8 #[.int .u16 p, .slice A b.length c, .int .u8 m] w fun e w' => e = .returned (.bool true) ∧ Below w.heap.size w w' := by
  unfold maxLen at hl
  have gp := wf_u16 hp
  have gm := wf_u8 hm
  clear hp hm
  obtain ⟨n, rfl⟩ := Int.eq_ofNat_of_zero_le gm.1
  by_cases hlong : 300 < b.length
  · go_enter Try.func8, Try.ntmps8
    go_wp2_with fail
    refine (awake_any w).mono ?_
    rintro e w1 ⟨rfl, b1⟩
    go_wp2
    go_ret
    exact ⟨rfl, b1⟩
  have HC := Lib.hid (fun w' (b' : Below w.heap.size w w') => parse_any p A c b w' ((h.below b' (Nat.le_refl _)).more b'.size) (by omega))
  obtain ⟨R, hR⟩ : ∃ R, R = parseL p b := ⟨_, rfl⟩
  have hnone : Hid (¬ p = 48862 → ¬ (4096 ≤ p ∧ p ≤ 4111) → R = ([], 0)) := fun h0 h1 => by rw [hR, parse_other p h0 h1]
  rw [← hR] at HC
  clear h hR
  go_enter Try.func8, Try.ntmps8
  go_wp2_with fail
  refine (awake_any w).mono ?_
  rintro e w1 ⟨rfl, b1⟩
  go_wp2_with fail
  refine (HC.out w1 b1).mono ?_
  rintro e w2 ⟨A2, c2, ps, rfl, hps, its2, b2⟩
  have B2 := bnext b1 b2
  clear b1 b2 its2 HC
  obtain ⟨E, hE⟩ : ∃ E, E = R.2 := ⟨_, rfl⟩
  rw [← hE]
  have HPS := Lib.hid hps
  have HE := Lib.hid hE
  clear hps hE
  have hz2 : (¬ p = 48862 → ¬ (4096 ≤ p ∧ p ≤ 4111) → ps.length = 0 ∧ E = 0) := fun h0 h1 => by
    have := hnone.out h0 h1
    rw [this] at HPS HE
    exact ⟨by have := congrArg List.length HPS.out; simpa using this, HE.out⟩
  have HZ := Lib.hid hz2
  clear hz2
  obtain ⟨cs, hc1, hc2, hmk⟩ := make_noughts n (by omega) w2
  have C := parse_any p (some ⟨w2.heap.size, 0, none⟩) n (List.replicate n 0) (w2.alloc (.cells cs 5)) (noughts_row w2 n cs hc1 hc2) (by simp; omega)
  rw [parse_noughts, List.length_replicate] at C
  have B3 := B2.alloc B2.size (.cells cs 5)
  have HC3 := Lib.hid C
  have HB3 := Lib.hid B3
  clear hc1 hc2 C B2 B3 hnone HPS HE
  rcases (show p = 48862 ∨ (¬ p = 48862 ∧ 4096 ≤ p ∧ p ≤ 4111) ∨ (¬ p = 48862 ∧ p < 4096) ∨ (¬ p = 48862 ∧ 4096 ≤ p ∧ ¬ p ≤ 4111) from by omega) with h0 | ⟨h0, h1, h2⟩ | ⟨h0, h1⟩ | ⟨h0, h1, h2⟩
  · subst h0
    go_wp2_with fail
    refine HC3.out.mono ?_
    rintro e w4 ⟨A4, c4, ps4, rfl, hps4, _, b4⟩
    have h40 : ps4 = [] := by simpa using hps4
    subst h40
    have HB4 := Lib.hid (bnext HB3.out b4)
    clear b4 hps4
    go_wp2
    go_ret
    exact ⟨rfl, HB4.out⟩
  · go_wp2_with fail
    refine HC3.out.mono ?_
    rintro e w4 ⟨A4, c4, ps4, rfl, hps4, _, b4⟩
    have h40 : ps4 = [] := by simpa using hps4
    subst h40
    have HB4 := Lib.hid (bnext HB3.out b4)
    clear b4 hps4
    go_wp2
    go_ret
    exact ⟨rfl, HB4.out⟩
  all_goals
    obtain ⟨z1, z2⟩ := HZ.out h0 (by omega)
    have z1' : (ps.length : Int) = 0 := by omega
    go_wp2_with fail
    refine HC3.out.mono ?_
    rintro e w4 ⟨A4, c4, ps4, rfl, hps4, _, b4⟩
    have h40 : ps4 = [] := by simpa using hps4
    subst h40
    have HB4 := Lib.hid (bnext HB3.out b4)
    clear b4 hps4
    go_wp2
    go_ret
    exact ⟨rfl, HB4.out⟩

set_option maxRecDepth 100000 in
theorem lifted (os : Os) (started : os.Started) (H : Type) (enc : TypeId × Value → H) :
    ReturnsInHanded {} Try.checked os 8 .any (Rows.extOthersSpec.pre6 enc Try.prog Try.f8 Rows.extOthersRow.domain false) (Rows.extOthersSpec.post enc Try.prog Try.f8 false true false false) := by
  refine returnsInHanded_of_change (C := Try.checked) own started (by kernel_rfl) Try.func8
    (ChangeSpec.witness6 (enc := enc) (C := Try.checked) false ⟨#[], #[.int .u16 0, .slice none 0 0, .int .u8 0], []⟩ 8 (by kernel_rfl) (by kernel_rfl) (by kernel_rfl) (by kernel_rfl)) ?_
  intro W base args ds gs before hval0 hW _ _
  have hval : ∀ (j : Nat) t v, Try.f8.params[j]? = some t → args[j]? = some v → Value.okWide Try.prog W .any base t v := hval0
  have hW' := hW
  obtain ⟨p, q, hA0, hV, _, _, _⟩ := hW
  have hA : DataW.TrodAll enc Try.prog W 0 (fun _ => true) true Try.f8.params.toList args.toList ds p := hA0
  rw [Try.params8] at hA hval
  obtain ⟨v0, vs0, d0, ds0, p0, q0, hargs, rfl, _, h0, r0⟩ := trodAll_cons hA
  obtain ⟨v1, vs1, d1, ds1, p1, q1, rfl, rfl, _, h1, r1⟩ := trodAll_cons r0
  obtain ⟨v2, vs2, d2, ds2, p2, q2, rfl, rfl, _, h2, r2⟩ := trodAll_cons r1
  obtain ⟨rfl, rfl, _⟩ := trodAll_nil r2
  obtain rfl : args = #[v0, v1, v2] := by cases args; simp_all
  obtain ⟨rfl, _⟩ := trodVars_none hV
  refine law_post (s := Rows.extOthersSpec) rfl rfl (by rw [Try.params8]; intro t ht; simp at ht; rcases ht with rfl | rfl | rfl <;> exact ⟨by kernel_rfl, of_decide_eq_true (by kernel_rfl)⟩) rfl hW' ?_
  obtain ⟨a0, rfl, _, _, w0⟩ := open_int Try.underlying25 (hval 0 25 v0 rfl rfl) h0
  obtain ⟨A1, c1, l1, rfl, hl1, hr1, _⟩ := open_bytes (hval 1 26 v1 rfl rfl) h1
  obtain ⟨a2, rfl, _, _, w2⟩ := open_int Try.underlying5 (hval 2 5 v2 rfl rfl) h2
  exact walk W a0 w0 A1 c1 l1 hl1 hr1 a2 w2

theorem over : Rows.extOthersRow.holds Try.pinned (OpenSpec.ofChange Rows.extOthersSpec) :=
  OpenClaim.holds_of_wide 8 Try.f8 rfl rfl rfl rfl rfl rfl rfl ⟨rfl, rfl, rfl, rfl, rfl⟩ rfl rfl rfl rfl rfl (by kernel_rfl) Try.func8 (by kernel_rfl)
    (of_decide_eq_true (by kernel_rfl)) (by unfold Func.isWrapper; first | (rw [if_pos (by decide +kernel)]; kernel_rfl) | (rw [if_neg (by decide +kernel)]; exact ⟨rfl, rfl⟩))
    (fun os started H enc _ => lifted os started H enc)

/-- The statement. -/
theorem extOthers_holds : Rows.ExtOthersSaid := over
end Go.Proofs.Ytdfbbmaaonkjiaa.EOthers
