/-
  Proved: OctetSizes returns true for every size and all bytes: a size that may not be puts nothing and is refused, and nothing is taken for it; a size that may be puts so many bytes, and is refused only if fewer are left. Conditions: none.
-/
import Derived.Test.YtahaeeedpnoelaaOctC
import Derived.Test.YtahaeeedpnoelaaLift
namespace Go.Proofs.Ytahaeeedpnoelaa.Sizes
open Go.ChangeShapes Go.WideShapes Go.ChangeAt Go.RowKit

theorem walk (w : World) (n : Int) (hn : (Lit.int .i64 n).wf = true) (A : Option Addr) (c : Nat) (l : List UInt8) (hl : l.length ≤ maxLen) (hr : Row w w.heap.size 1 A l.length (u8s l)) :
    Calls Try.prog 9 #[.int .i64 n, .slice A l.length c] w fun e w' => e = .returned (.bool true) ∧ Below w.heap.size w w' := by
  have hn' := wf_i64 hn
  unfold maxLen at hl
  clear hn
  by_cases hlong : 300 < l.length
  · go_enter Try.func9, Try.ntmps9
    go_wp2_with (go_at_call 10; refine (awake_any w).mono ?_; rintro e w1 ⟨rfl, b1⟩)
    go_ret
    exact ⟨rfl, b1⟩
  · go_enter Try.func9, Try.ntmps9
    go_wp2_with fail
    refine (awake_any w).mono ?_
    rintro e w1 ⟨rfl, b1⟩
    have r1 := hr.below b1 (Nat.le_refl _)
    go_wp2_with fail
    refine (put_any _ 2 2 [(7, n), (9, 1)] _ (Row.fresh w1 28 _ 2 2 _ rfl rfl) (by omega) (by simp)).mono ?_
    rintro e w2 ⟨A2, c2, rfl, hown2, b2⟩
    have b2' := ((Below.refl w1.heap.size w1).alloc (Nat.le_refl _) _).trans (b2.mono (by simp))
    have B2 := b1.trans (b2'.mono b1.size)
    have r2 := r1.below b2' b1.size
    have q2 := Row.of_own hown2
    have z1 := b1.size
    have z2 := B2.size
    clear b1 b2 b2' r1 hown2
    go_wp2_with fail
    refine (new_any A _ c l w2 (r2.more z2) (by omega)).mono ?_
    rintro e w3 ⟨g, rfl, hg, hc3, b3⟩
    have q3 := q2.below b3 (Nat.le_refl _)
    have B3 := B2.trans (b3.mono z2)
    have z3 := b3.size
    clear b3 q2 B2 r2
    go_wp2_with fail
    refine (num_any g l 0 n w3 hc3).mono ?_
    rintro e w4 ⟨rfl, hc4, g4⟩
    have q4 := q3.grown g4 (by omega) (fun k hk => by injection hk with hk; omega)
    have B4 := Lib.hid (B3.grown g4 B3.size (fun k hk => by injection hk with hk; omega))
    clear q3 B3 g4 hc3
    have ht := run_text (P := Try.prog) w4 24 5 9 Try.underlying24 Try.underlying5 Try.underlying9 _ _ _ c2 _ q4
    cases hs : sizeB n with
    | false =>
      have e1 : putS [(7, n), (9, 1)] = [9] := by rw [putS_cons, putS_cons, putS_nil, putOne_no _ hs]; decide
      rw [hs] at hc4
      rw [show restS l 0 n false = l by simp [restS], show errS l 0 n false = 1 by simp [errS]] at hc4
      rw [show headS l 0 n false = [] by simp [headS], show ((be [] : Nat) : Int) = 0 by decide]
      rw [e1] at ht
      simp only [List.length_singleton] at ht
      rw [e1]
      simp only [List.length_singleton]
      have ht' : (convert 24 9 (.slice A2 1 c2)).run Try.prog w4 = .ok (.string { data := #[9] }) w4 := ht
      clear ht q4
      by_cases h1 : 1 ≤ n
      · have h8 : ¬ n ≤ 8 := by simp [sizeB] at hs; omega
        clear hs
        go_wp2_with (first | (go_at_call 19; refine (err_any _ _ _ _ hc4).mono ?_; rintro e w' ⟨rfl, rfl⟩) | (go_at_call 18; refine (left_any _ _ _ _ hc4).mono ?_; rintro e w' ⟨rfl, rfl⟩))
        go_ret
        exact ⟨rfl, B4.out⟩
      · clear hs
        go_wp2_with (first | (go_at_call 19; refine (err_any _ _ _ _ hc4).mono ?_; rintro e w' ⟨rfl, rfl⟩) | (go_at_call 18; refine (left_any _ _ _ _ hc4).mono ?_; rintro e w' ⟨rfl, rfl⟩))
        go_ret
        exact ⟨rfl, B4.out⟩
    | true =>
      have hs' : 1 ≤ n ∧ n ≤ 8 := by simpa [sizeB] using hs
      obtain ⟨k, rfl⟩ := Int.eq_ofNat_of_zero_le (show 0 ≤ n by omega)
      have e1 : (putS [(7, (k : Int)), (9, 1)]).length = k + 1 := by
        rw [putS_cons, putS_cons, putS_nil, putOne_yes 7 (by omega) (by omega), List.length_append, bytesN_length]; rfl
      rw [hs] at hc4
      rw [e1]
      obtain ⟨h1, h8⟩ := hs'
      clear ht q4 hs e1
      by_cases hk : (k : Int) ≤ l.length
      · rw [show errS l 0 k true = 0 by simp [errS, hk]] at hc4
        go_wp2_with (first | (go_at_call 19; refine (err_any _ _ _ _ hc4).mono ?_; rintro e w' ⟨rfl, rfl⟩) | (go_at_call 18; refine (left_any _ _ _ _ hc4).mono ?_; rintro e w' ⟨rfl, rfl⟩))
        go_ret
        exact ⟨rfl, B4.out⟩
      · rw [show errS l 0 k true = 10 by simp [errS, hk]] at hc4
        go_wp2_with (first | (go_at_call 19; refine (err_any _ _ _ _ hc4).mono ?_; rintro e w' ⟨rfl, rfl⟩) | (go_at_call 18; refine (left_any _ _ _ _ hc4).mono ?_; rintro e w' ⟨rfl, rfl⟩))
        go_ret
        refine ⟨?_, B4.out⟩
        simp
        omega

set_option maxRecDepth 100000 in
theorem lifted (os : Os) (started : os.Started) (H : Type) (enc : TypeId × Value → H) :
    ReturnsInHanded {} Try.checked os 9 .any (Rows.octetSizesSpec.pre6 enc Try.prog Try.f9 Rows.octetSizesRow.domain false) (Rows.octetSizesSpec.post enc Try.prog Try.f9 false true false false) := by
  refine returnsInHanded_of_change (C := Try.checked) own started (by kernel_rfl) Try.func9
    (ChangeSpec.witness6 (enc := enc) (C := Try.checked) false ⟨#[], #[.int .i64 0, .slice none 0 0], []⟩ 8 (by kernel_rfl) (by kernel_rfl) (by kernel_rfl) (by kernel_rfl)) ?_
  intro W base args ds gs before hval0 hW _ _
  have hval : ∀ (j : Nat) t v, Try.f9.params[j]? = some t → args[j]? = some v → Value.okWide Try.prog W .any base t v := hval0
  have hW' := hW
  obtain ⟨p, q, hA0, hV, _, _, _⟩ := hW
  have hA : DataW.TrodAll enc Try.prog W 0 (fun _ => true) true Try.f9.params.toList args.toList ds p := hA0
  rw [Try.params9] at hA hval
  obtain ⟨v0, vs0, d0, ds0, p0, q0, hargs, rfl, _, h0, r0⟩ := trodAll_cons hA
  obtain ⟨v1, vs1, d1, ds1, p1, q1, rfl, rfl, _, h1, r1⟩ := trodAll_cons r0
  obtain ⟨rfl, rfl, _⟩ := trodAll_nil r1
  obtain rfl : args = #[v0, v1] := by cases args; simp_all
  obtain ⟨rfl, _⟩ := trodVars_none hV
  refine law_post (s := Rows.octetSizesSpec) rfl rfl (by rw [Try.params9]; intro t ht; simp at ht; rcases ht with rfl | rfl <;> exact ⟨by kernel_rfl, of_decide_eq_true (by kernel_rfl)⟩) rfl hW' ?_
  obtain ⟨a0, rfl, _, _, w0⟩ := open_int Try.underlying3 (hval 0 3 v0 rfl rfl) h0
  obtain ⟨A1, c1, l1, rfl, hl1, hr1, _⟩ := open_bytes (hval 1 24 v1 rfl rfl) h1
  exact walk W a0 w0 A1 c1 l1 hl1 hr1

theorem over : Rows.octetSizesRow.holds Try.pinned (OpenSpec.ofChange Rows.octetSizesSpec) :=
  OpenClaim.holds_of_wide 9 Try.f9 rfl rfl rfl rfl rfl rfl rfl ⟨rfl, rfl, rfl, rfl, rfl⟩ rfl rfl rfl rfl rfl (by kernel_rfl) Try.func9 (by kernel_rfl)
    (of_decide_eq_true (by kernel_rfl)) (by unfold Func.isWrapper; first | (rw [if_pos (by decide +kernel)]; kernel_rfl) | (rw [if_neg (by decide +kernel)]; exact ⟨rfl, rfl⟩))
    (fun os started H enc _ => lifted os started H enc)

/-- The statement. -/
theorem octetSizes_holds : Rows.OctetSizesSaid := over
end Go.Proofs.Ytahaeeedpnoelaa.Sizes
