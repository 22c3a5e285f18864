/-
  Proved: SerialFollows returns true for every number of 32 bits and all steps of less than half of the way round: what goes on so is followed, step by step. Conditions: none.
-/
import Derived.Test.YtbjmclohnegaaaaSerA
import Derived.Test.YtbjmclohnegaaaaLift
namespace Go.Proofs.Ytbjmclohnegaaaa.SerFollows
open Go.ChangeShapes Go.WideShapes Go.ChangeAt Go.RowKit

theorem wf_i16 {n : Int} (h : (Lit.int .i16 n).wf = true) : -32768 ≤ n ∧ n ≤ 32767 := by
  have h1 : IntKind.i16.min ≤ n ∧ n ≤ IntKind.i16.max := by simpa [Lit.wf] using h
  have e1 : IntKind.i16.min = -32768 := by decide
  have e2 : IntKind.i16.max = 32767 := by decide
  omega
theorem step_16 (v x : Int) (h1 : -32768 ≤ x) (h2 : x ≤ 32767) : v + d16 v (IntKind.u16.wrap (v + x)) = v + x := by
  rw [wrap_u16]; unfold d16; omega
theorem step_32 (v x : Int) (h1 : -32768 ≤ x) (h2 : x ≤ 32767) : v + d32 v ((v + x) % 4294967296) = v + x := by
  unfold d32; omega

set_option maxRecDepth 100000 in
theorem walk (w : World) (a : Int) (ha : (Lit.int .u32 a).wf = true) (A : Option Addr) (c : Nat) (l : List Int) (hl : l.length ≤ maxLen) (hr : Row w w.heap.size 1 A l.length (l.map (Value.int .i16))) (hx : ∀ x ∈ l, (Lit.int .i16 x).wf = true) :
    Calls Try.prog 7 #[.int .u32 a, .slice A l.length c] w fun e w' => e = .returned (.bool true) ∧ Below w.heap.size w w' := by
  have ga := wf_u32 ha
  clear ha
  unfold maxLen at hl
  by_cases c1 : 300 < l.length
  · go_enter Try.func7, Try.ntmps7
    go_wp2_with fail
    refine (awake_any w).mono ?_
    rintro e w1 ⟨rfl, b1⟩
    go_wp2
    go_ret
    exact ⟨rfl, b1⟩
  have hcell : ∀ k (hk : k < l.length), ∃ g o, A = some ⟨g, o, none⟩ ∧ g < w.heap.size ∧ w.cell? ⟨g, o + k, none⟩ = some (.int .i16 l[k]) := fun k hk => by
    obtain ⟨g, o, e, hg, hc⟩ := hr.2 (by omega)
    exact ⟨g, o, e, hg, hc k _ (by simp [hk])⟩
  have hwf : ∀ k (hk : k < l.length), -32768 ≤ l[k] ∧ l[k] ≤ 32767 := fun k hk => wf_i16 (hx _ (List.getElem_mem hk))
  have Hcell := Lib.hid hcell
  have Hwf := Lib.hid hwf
  clear hcell hwf hr hx
  have hl3 : l.length ≤ 300 := by omega
  go_enter Try.func7, Try.ntmps7
  go_wp2_with fail
  refine (awake_any w).mono ?_
  rintro e w1 ⟨rfl, b1⟩
  go_wp2_with fail
  go_loopw [6, 7, 8, 9] (fun n x y i wr => ∃ k : Nat, ∃ v : Int, k ≤ l.length ∧ i = .int .i64 k ∧ n = .int .i64 v ∧ x = .int .i64 v ∧ y = .int .i64 v ∧ -32768 * k ≤ v ∧ v ≤ 4294967296 + 32768 * k ∧ Below w.heap.size w wr) (fun _ _ _ i _ => l.length - (intOf i).toNat)
  case atStart => exact ⟨0, a, Nat.zero_le _, rfl, rfl, rfl, rfl, by omega, by omega, b1⟩
  case round =>
    obtain ⟨k, v, hk, rfl, rfl, rfl, rfl, v1, v2, hb⟩ := hrel
    obtain ⟨wo, rfl⟩ : ∃ wo : World, wo = wr := ⟨_, rfl⟩
    by_cases hlt : k < l.length
    · obtain ⟨g, o, rfl, hg, hc⟩ := Hcell.out k hlt
      obtain ⟨x1, x2⟩ := Hwf.out k hlt
      have hc' : wo.cell? ⟨g, o + k, none⟩ = some (.int .i16 l[k]) := (hb.cell (p := ⟨g, o + k, none⟩) hg).trans hc
      clear hc
      generalize l[k] = x at hc' x1 x2
      have e1 := Lib.hid (step_16 v x x1 x2)
      have e2 := Lib.hid (step_32 v x x1 x2)
      have l1 : -4611686018427387904 ≤ v := by omega
      have l2 : v ≤ 4611686018427387904 := by omega
      have l3 : -9223372036854775808 ≤ v + x ∧ v + x ≤ 9223372036854775807 := by omega
      go_wp2_with fail
      refine (near16_any v _ l1 l2 _).mono ?_
      rintro e w2 ⟨rfl, b2⟩
      have b2' := hb.trans (b2.mono hb.size)
      rw [e1.out]
      go_wp2_with fail
      refine (near32_any v _ l1 l2 _).mono ?_
      rintro e w3 ⟨rfl, b3⟩
      have b3' := b2'.trans (b3.mono b2'.size)
      rw [e2.out]
      go_wp2_with fail
      go_roundw
      case rel => exact ⟨k + 1, v + x, by omega, by go_num, rfl, rfl, rfl, by omega, by omega, b3'⟩
      case measure => simp [intOf]; omega
    · go_wp2_with fail
      go_ret
      exact ⟨rfl, hb⟩
set_option maxRecDepth 100000 in
theorem lifted (os : Os) (started : os.Started) (H : Type) (enc : TypeId × Value → H) :
    ReturnsInHanded {} Try.checked os 7 .any (Rows.serialFollowsSpec.pre6 enc Try.prog Try.f7 Rows.serialFollowsRow.domain false) (Rows.serialFollowsSpec.post enc Try.prog Try.f7 false true false false) := by
  refine returnsInHanded_of_change (C := Try.checked) own started (by kernel_rfl) Try.func7
    (ChangeSpec.witness6 (enc := enc) (C := Try.checked) false ⟨#[], #[.int .u32 0, .slice none 0 0], []⟩ 8 (by kernel_rfl) (by kernel_rfl) (by kernel_rfl) (by kernel_rfl)) ?_
  intro W base args ds gs before hval0 hW _ _
  have hval : ∀ (j : Nat) t v, Try.f7.params[j]? = some t → args[j]? = some v → Value.okWide Try.prog W .any base t v := hval0
  have hW' := hW
  obtain ⟨p, q, hA0, hV, _, _, _⟩ := hW
  have hA : DataW.TrodAll enc Try.prog W 0 (fun _ => true) true Try.f7.params.toList args.toList ds p := hA0
  rw [Try.params7] at hA hval
  obtain ⟨v0, vs0, d0, ds0, p0, q0, hargs, rfl, _, h0, r0⟩ := trodAll_cons hA
  obtain ⟨v1, vs1, d1, ds1, p1, q1, rfl, rfl, _, h1, r1⟩ := trodAll_cons r0
  obtain ⟨rfl, rfl, _⟩ := trodAll_nil r1
  obtain rfl : args = #[v0, v1] := by cases args; simp_all
  obtain ⟨rfl, _⟩ := trodVars_none hV
  refine law_post (s := Rows.serialFollowsSpec) rfl rfl (by rw [Try.params7]; intro t ht; simp at ht; rcases ht with rfl | rfl <;> exact ⟨by kernel_rfl, of_decide_eq_true (by kernel_rfl)⟩) rfl hW' ?_
  obtain ⟨a0, rfl, _, _, w0⟩ := open_int Try.underlying23 (hval 0 23 v0 rfl rfl) h0
  obtain ⟨A1, c1, l1, rfl, m1, n1, _, _, x1⟩ := open_nums Try.underlying34 Try.underlying35 (by kernel_rfl) (hval 1 34 v1 rfl rfl) h1
  exact walk W a0 w0 A1 c1 l1 m1 n1 x1

theorem over : Rows.serialFollowsRow.holds Try.pinned (OpenSpec.ofChange Rows.serialFollowsSpec) :=
  OpenClaim.holds_of_wide 7 Try.f7 rfl rfl rfl rfl rfl rfl rfl ⟨rfl, rfl, rfl, rfl, rfl⟩ rfl rfl rfl rfl rfl (by kernel_rfl) Try.func7 (by kernel_rfl)
    (of_decide_eq_true (by kernel_rfl)) (by unfold Func.isWrapper; first | (rw [if_pos (by decide +kernel)]; kernel_rfl) | (rw [if_neg (by decide +kernel)]; exact ⟨rfl, rfl⟩))
    (fun os started H enc _ => lifted os started H enc)

/-- The statement. -/
theorem serialFollows_holds : Rows.SerialFollowsSaid := over

end Go.Proofs.Ytbjmclohnegaaaa.SerFollows
