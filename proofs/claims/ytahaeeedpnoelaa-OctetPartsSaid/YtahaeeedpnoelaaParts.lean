/-
  Proved: OctetParts returns true for every number and every two sizes: the bytes of a number are those of its higher part and of its lower one behind it. Conditions: none.
-/
import Derived.Test.YtahaeeedpnoelaaOctC
import Derived.Test.YtahaeeedpnoelaaLift
namespace Go.Proofs.Ytahaeeedpnoelaa.Parts
open Go.ChangeShapes Go.WideShapes Go.ChangeAt Go.RowKit

theorem bytesN_split (x n m : Nat) : bytesN x (n + m) = bytesN (x / 256 ^ m) n ++ bytesN x m := by
  induction n with
  | zero => simp [bytesN]
  | succ n ih =>
    rw [show n + 1 + m = (n + m) + 1 by omega]
    simp only [bytesN, List.cons_append, ih]
    congr 2
    rw [Nat.div_div_eq_div_mul, ← Nat.pow_add, Nat.add_comm m n]

theorem walk (w : World) (x : Int) (hx : (Lit.int .u64 x).wf = true) (a : Int) (ha : (Lit.int .u8 a).wf = true) (b : Int) (hb : (Lit.int .u8 b).wf = true) :
    Calls Try.prog 8 #[.int .u64 x, .int .u8 a, .int .u8 b] w fun e w' => e = .returned (.bool true) ∧ Below w.heap.size w w' := by
  have hx' : 0 ≤ x ∧ x < 18446744073709551616 := wf_u64 hx
  have ha' : 0 ≤ a ∧ a < 256 := wf_u8 ha
  have hb' : 0 ≤ b ∧ b < 256 := wf_u8 hb
  obtain ⟨x, rfl⟩ := Int.eq_ofNat_of_zero_le hx'.1
  obtain ⟨a, rfl⟩ := Int.eq_ofNat_of_zero_le ha'.1
  obtain ⟨b, rfl⟩ := Int.eq_ofNat_of_zero_le hb'.1
  clear hx ha hb
  go_enter Try.func8, Try.ntmps8
  go_wp2_with fail
  refine (awake_any w).mono ?_
  rintro e w1 ⟨rfl, b1⟩
  go_wp2_with fail
  obtain ⟨p, hp, hp1, hp4⟩ : ∃ p : Nat, (a : Int) % 4 + 1 = p ∧ 1 ≤ p ∧ p ≤ 4 := ⟨a % 4 + 1, by omega, by omega, by omega⟩
  obtain ⟨q, hq, hq1, hq4⟩ : ∃ q : Nat, (b : Int) % 4 + 1 = q ∧ 1 ≤ q ∧ q ≤ 4 := ⟨b % 4 + 1, by omega, by omega, by omega⟩
  rw [hp, hq]
  clear hp hq ha' hb'
  have hpq : (p : Int) + q = ((p + q : Nat) : Int) := by omega
  rw [hpq]
  clear hpq
  refine (put_any _ 1 1 [(x, ((p + q : Nat) : Int))] _ (Row.fresh w1 28 _ 2 1 _ rfl rfl) (by omega) (by simp; omega)).mono ?_
  rintro e w2 ⟨A2, c2, rfl, hown2, b2⟩
  have e2 : putS [(x, ((p + q : Nat) : Int))] = bytesN x (p + q) := by rw [putS_cons, putS_nil, putOne_yes x (by omega) (by omega), List.append_nil]
  rw [e2] at hown2 ⊢
  have r2 := Row.of_own hown2
  have B2 := (b1.alloc b1.size _).trans (b2.mono (by have := b1.size; simp; omega))
  have z1 := b1.size
  have z2 := B2.size
  clear b1 b2 hown2 e2
  go_wp2_with fail
  have hdiv : (x : Int) / 2 ^ (8 * q) = ((x / 256 ^ q : Nat) : Int) := by rw [Int.pow_mul, Int.natCast_ediv, Int.natCast_pow]; rfl
  rw [hdiv]
  clear hdiv
  refine (put_any _ 2 2 [(x / 256 ^ q, (p : Int)), (x, (q : Int))] _ (Row.fresh w2 28 _ 2 2 _ rfl rfl) (by omega) (by simp; refine ⟨?_, by omega⟩; exact Nat.lt_of_le_of_lt (Nat.div_le_self _ _) (by omega))).mono ?_
  rintro e w3 ⟨A3, c3, rfl, hown3, b3⟩
  have e3 : putS [(x / 256 ^ q, (p : Int)), (x, (q : Int))] = bytesN x (p + q) := by rw [putS_cons, putS_cons, putS_nil, putOne_yes _ (by omega) (by omega), putOne_yes _ (by omega) (by omega), List.append_nil, bytesN_split]
  rw [e3] at hown3 ⊢
  have r3 := Row.of_own hown3
  have b3' := ((Below.refl w2.heap.size w2).alloc (Nat.le_refl _) _).trans (b3.mono (by simp))
  have r2' := r2.below b3' (Nat.le_refl _)
  have B3 := Lib.hid (B2.trans (b3'.mono z2))
  have ht2 := run_text (P := Try.prog) w3 24 5 9 Try.underlying24 Try.underlying5 Try.underlying9 _ _ _ c2 _ r2'
  have ht3 := run_text (P := Try.prog) w3 24 5 9 Try.underlying24 Try.underlying5 Try.underlying9 _ _ _ c3 _ r3
  rw [bytesN_length] at ht2 ht3 ⊢
  clear r2 r2' r3 hown3 b3 b3' B2 e3
  generalize bytesN x (p + q) = bs at ht2 ht3
  go_wp2
  go_ret
  exact ⟨rfl, B3.out⟩
set_option maxRecDepth 100000 in
theorem lifted (os : Os) (started : os.Started) (H : Type) (enc : TypeId × Value → H) :
    ReturnsInHanded {} Try.checked os 8 .any (Rows.octetPartsSpec.pre6 enc Try.prog Try.f8 Rows.octetPartsRow.domain false) (Rows.octetPartsSpec.post enc Try.prog Try.f8 false true false false) := by
  refine returnsInHanded_of_change (C := Try.checked) own started (by kernel_rfl) Try.func8
    (ChangeSpec.witness6 (enc := enc) (C := Try.checked) false ⟨#[], #[.int .u64 0, .int .u8 0, .int .u8 0], []⟩ 8 (by kernel_rfl) (by kernel_rfl) (by kernel_rfl) (by kernel_rfl)) ?_
  intro W base args ds gs before hval0 hW _ _
  have hval : ∀ (j : Nat) t v, Try.f8.params[j]? = some t → args[j]? = some v → Value.okWide Try.prog W .any base t v := hval0
  have hW' := hW
  obtain ⟨p, q, hA0, hV, _, _, _⟩ := hW
  have hA : DataW.TrodAll enc Try.prog W 0 (fun _ => true) true Try.f8.params.toList args.toList ds p := hA0
  rw [Try.params8] at hA hval
  obtain ⟨v0, vs0, d0, ds0, p0, q0, hargs, rfl, _, h0, r0⟩ := trodAll_cons hA
  obtain ⟨v1, vs1, d1, ds1, p1, q1, rfl, rfl, _, h1, r1⟩ := trodAll_cons r0
  obtain ⟨v2, vs2, d2, ds2, p2, q2, rfl, rfl, _, h2, r2⟩ := trodAll_cons r1
  obtain ⟨rfl, rfl, _⟩ := trodAll_nil r2
  obtain rfl : args = #[v0, v1, v2] := by cases args; simp_all
  obtain ⟨rfl, _⟩ := trodVars_none hV
  refine law_post (s := Rows.octetPartsSpec) rfl rfl (by rw [Try.params8]; intro t ht; simp at ht; rcases ht with rfl | rfl | rfl <;> exact ⟨by kernel_rfl, of_decide_eq_true (by kernel_rfl)⟩) rfl hW' ?_
  obtain ⟨a0, rfl, _, _, w0⟩ := open_int Try.underlying26 (hval 0 26 v0 rfl rfl) h0
  obtain ⟨a1, rfl, _, _, w1⟩ := open_int Try.underlying5 (hval 1 5 v1 rfl rfl) h1
  obtain ⟨a2, rfl, _, _, w2⟩ := open_int Try.underlying5 (hval 2 5 v2 rfl rfl) h2
  exact walk W a0 w0 a1 w1 a2 w2

theorem over : Rows.octetPartsRow.holds Try.pinned (OpenSpec.ofChange Rows.octetPartsSpec) :=
  OpenClaim.holds_of_wide 8 Try.f8 rfl rfl rfl rfl rfl rfl rfl ⟨rfl, rfl, rfl, rfl, rfl⟩ rfl rfl rfl rfl rfl (by kernel_rfl) Try.func8 (by kernel_rfl)
    (of_decide_eq_true (by kernel_rfl)) (by unfold Func.isWrapper; first | (rw [if_pos (by decide +kernel)]; kernel_rfl) | (rw [if_neg (by decide +kernel)]; exact ⟨rfl, rfl⟩))
    (fun os started H enc _ => lifted os started H enc)

/-- The statement. -/
theorem octetParts_holds : Rows.OctetPartsSaid := over
end Go.Proofs.Ytahaeeedpnoelaa.Parts
