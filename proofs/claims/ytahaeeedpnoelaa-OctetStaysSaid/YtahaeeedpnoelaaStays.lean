/-
  Proved: OctetStays returns true for all bytes and all steps: once something went wrong, that stays, and nothing is taken behind it. Conditions: none.
-/
import Derived.Test.YtahaeeedpnoelaaOctD
namespace Go.Proofs.Ytahaeeedpnoelaa.Stays
open Go.ChangeShapes Go.WideShapes Go.ChangeAt Go.RowKit

theorem walk (w : World) (A : Option Addr) (c : Nat) (l : List UInt8) (hl : l.length ≤ maxLen) (hr : Row w w.heap.size 1 A l.length (u8s l)) (A1 : Option Addr) (c1 : Nat) (s : List (Bool × Int)) (hs : s.length ≤ maxLen) (hr1 : Row w w.heap.size 2 A1 s.length (stepC s)) :
    Calls Try.prog 7 #[.slice A l.length c, .slice A1 s.length c1] w fun e w' => e = .returned (.bool true) ∧ Below w.heap.size w w' := by
  unfold maxLen at hl hs
  by_cases hlong : 300 < l.length
  · go_enter Try.func7, Try.ntmps7
    go_wp2_with (go_at_call 10; refine (awake_any w).mono ?_; rintro e w1 ⟨rfl, b1⟩)
    go_ret
    exact ⟨rfl, b1⟩
  by_cases hlong1 : 60 < s.length
  · go_enter Try.func7, Try.ntmps7
    go_wp2_with (go_at_call 10; refine (awake_any w).mono ?_; rintro e w1 ⟨rfl, b1⟩)
    go_ret
    exact ⟨rfl, b1⟩
  go_enter Try.func7, Try.ntmps7
  go_wp2_with fail
  refine (awake_any w).mono ?_
  rintro e w1 ⟨rfl, b1⟩
  have z1 := b1.size
  go_wp2_with fail
  refine (new_any A _ c l w1 ((hr.below b1 (Nat.le_refl _)).more z1) (by omega)).mono ?_
  rintro e w2 ⟨g, rfl, hg, hc2, b2⟩
  have B2 := b1.trans (b2.mono z1)
  clear b1 b2 hr
  go_wp2_with fail
  go_loopw [7, 8] (fun e i wr => ∃ (k : Nat) (rs : List UInt8) (e0 : Int), k ≤ s.length ∧ i = .int .i64 k ∧ e = .int .i64 e0 ∧ CutAt wr g rs e0 ∧ OkErr e0 ∧ rs.length ≤ 300 ∧ Below w.heap.size w wr) (fun _ i _ => s.length - (intOf i).toNat)
  case atStart => exact ⟨0, l, 0, Nat.zero_le _, rfl, rfl, hc2, .inl rfl, by omega, B2⟩
  case round =>
    obtain ⟨k, rs, e0, hk, rfl, rfl, hc, ho, hrs, hb⟩ := hrel
    by_cases hlt : k < s.length
    · obtain ⟨gs, o, hA, hgs, hcell⟩ := hr1.2 (by omega)
      subst hA
      have hcs0 := hcell _ _ (stepC_get s k hlt).2
      generalize (s[k]).2 = n at hcs0
      have hcs := (hb.cell (p := ⟨gs, o + k * 2 + 1, none⟩) hgs).trans hcs0
      clear hcell
      have hlen := rest_le rs e0 n (sizeB n)
      go_wp2_with (first | (go_at_call 18; refine (left_any _ _ _ _ hc).mono ?_; rintro e w' ⟨rfl, rfl⟩))
      refine (num_any g rs e0 n _ hc).mono ?_
      rintro e w3 ⟨rfl, hc3, g3⟩
      have b3 := hb.grown g3 hb.size (fun q hq => by injection hq with hq; omega)
      have hcs3 := (b3.cell (p := ⟨gs, o + k * 2 + 1, none⟩) hgs).trans hcs0
      clear hcs g3
      go_wp2_with fail
      refine (bytes_any g _ _ n w3 hc3 (by omega)).mono ?_
      rintro e w4 ⟨A4, c4, rfl, _, hc4, g4⟩
      have b4 := b3.grown g4 b3.size (fun q hq => by injection hq with hq; omega)
      have o4 := (ho.next rs n (sizeB n)).next (restS rs e0 n (sizeB n)) n (decide (0 ≤ n))
      have hlen4 := rest_le (restS rs e0 n (sizeB n)) (errS rs e0 n (sizeB n)) n (decide (0 ≤ n))
      clear hcs3 g4 hb hcs0 hr1
      by_cases h0 : e0 = 0
      · subst h0
        go_wp2_with (first | (go_at_call 19; refine (err_any _ _ _ _ hc4).mono ?_; rintro e w' ⟨rfl, rfl⟩))
        go_roundw
        case rel => exact ⟨k + 1, _, _, by omega, by go_num, rfl, hc4, o4, by omega, b4⟩
        case measure => simp [intOf]; omega
      · have hne : (e0 != 0) = true := by simpa using h0
        have e1 : errS rs e0 n (sizeB n) = e0 := by simp [errS, h0]
        have e2 : restS rs e0 n (sizeB n) = rs := by simp [restS, h0]
        have e3 : headS rs e0 n (sizeB n) = [] := by simp [headS, h0]
        have e4 : errS rs e0 n (decide (0 ≤ n)) = e0 := by simp [errS, h0]
        have e5 : restS rs e0 n (decide (0 ≤ n)) = rs := by simp [restS, h0]
        have e6 : headS rs e0 n (decide (0 ≤ n)) = [] := by simp [headS, h0]
        rw [e1, e2, e4, e5] at hc4
        rw [e1, e2, e4] at o4
        rw [e1, e2, e3, e6, show ((be [] : Nat) : Int) = 0 by decide, List.length_nil]
        clear e1 e2 e3 e4 e5 e6 hc3 hlen hlen4
        go_wp2_with (first | (go_at_call 19; refine (err_any _ _ _ _ hc4).mono ?_; rintro e w' ⟨rfl, rfl⟩) | (go_at_call 18; refine (left_any _ _ _ _ hc4).mono ?_; rintro e w' ⟨rfl, rfl⟩))
        go_roundw
        case rel => exact ⟨k + 1, _, _, by omega, by go_num, rfl, hc4, o4, by omega, b4⟩
        case measure => simp [intOf]; omega
    · have hk2 : k = s.length := by omega
      subst hk2
      have H := Lib.hid hb
      clear hb hc hr1
      rcases ho with rfl | rfl | rfl
      all_goals
        go_wp2
        go_ret
        exact ⟨rfl, H.out⟩

set_option maxRecDepth 100000 in
theorem lifted (os : Os) (started : os.Started) (H : Type) (enc : TypeId × Value → H) :
    ReturnsInHanded {} Try.checked os 7 .any (Rows.octetStaysSpec.pre6 enc Try.prog Try.f7 Rows.octetStaysRow.domain false) (Rows.octetStaysSpec.post enc Try.prog Try.f7 false true false false) := by
  refine returnsInHanded_of_change (C := Try.checked) own started (by kernel_rfl) Try.func7
    (ChangeSpec.witness6 (enc := enc) (C := Try.checked) false ⟨#[], #[.slice none 0 0, .slice none 0 0], []⟩ 8 (by kernel_rfl) (by kernel_rfl) (by kernel_rfl) (by kernel_rfl)) ?_
  intro W base args ds gs before hval0 hW _ _
  have hval : ∀ (j : Nat) t v, Try.f7.params[j]? = some t → args[j]? = some v → Value.okWide Try.prog W .any base t v := hval0
  have hW' := hW
  obtain ⟨p, q, hA0, hV, _, _, _⟩ := hW
  have hA : DataW.TrodAll enc Try.prog W 0 (fun _ => true) true Try.f7.params.toList args.toList ds p := hA0
  rw [Try.params7] at hA hval
  obtain ⟨v0, vs0, d0, ds0, p0, q0, hargs, rfl, _, h0, r0⟩ := trodAll_cons hA
  obtain ⟨v1, vs1, d1, ds1, p1, q1, rfl, rfl, _, h1, r1⟩ := trodAll_cons r0
  obtain ⟨rfl, rfl, _⟩ := trodAll_nil r1
  obtain rfl : args = #[v0, v1] := by cases args; simp_all
  obtain ⟨rfl, _⟩ := trodVars_none hV
  refine law_post (s := Rows.octetStaysSpec) rfl rfl (by rw [Try.params7]; intro t ht; simp at ht; rcases ht with rfl | rfl <;> exact ⟨by kernel_rfl, of_decide_eq_true (by kernel_rfl)⟩) rfl hW' ?_
  obtain ⟨A0, c0, l0, rfl, hl0, hr0, _⟩ := open_bytes (hval 0 24 v0 rfl rfl) h0
  obtain ⟨A1, c1, l1, rfl, hl1, hr1, _⟩ := open_steps (hval 1 31 v1 rfl rfl) h1
  exact walk W A0 c0 l0 hl0 hr0 A1 c1 l1 hl1 hr1

theorem over : Rows.octetStaysRow.holds Try.pinned (OpenSpec.ofChange Rows.octetStaysSpec) :=
  OpenClaim.holds_of_wide 7 Try.f7 rfl rfl rfl rfl rfl rfl rfl ⟨rfl, rfl, rfl, rfl, rfl⟩ rfl rfl rfl rfl rfl (by kernel_rfl) Try.func7 (by kernel_rfl)
    (of_decide_eq_true (by kernel_rfl)) (by unfold Func.isWrapper; first | (rw [if_pos (by decide +kernel)]; kernel_rfl) | (rw [if_neg (by decide +kernel)]; exact ⟨rfl, rfl⟩))
    (fun os started H enc _ => lifted os started H enc)

/-- The statement. -/
theorem octetStays_holds : Rows.OctetStaysSaid := over
end Go.Proofs.Ytahaeeedpnoelaa.Stays
