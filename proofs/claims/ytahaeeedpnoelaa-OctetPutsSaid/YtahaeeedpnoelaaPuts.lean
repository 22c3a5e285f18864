/-
  Proved: OctetPuts returns true for every list of parts: their bytes, put at once and put one by one, are those of the document's definition. Conditions: none.
-/
import Derived.Test.YtahaeeedpnoelaaOctS
import Derived.Deep.RegionHeld3
namespace Go.Proofs.Ytahaeeedpnoelaa.Puts
open Go.ChangeShapes Go.WideShapes Go.ChangeAt Go.RowKit

theorem walk (w : World) (A : Option Addr) (c : Nat) (l : List (Nat × Int)) (hl : l.length ≤ maxLen) (hr : Row w w.heap.size 2 A l.length (partC l)) (hx : ∀ x ∈ l, x.1 < 18446744073709551616 ∧ -9223372036854775808 ≤ x.2 ∧ x.2 < 9223372036854775808) :
    Calls Try.prog 3 #[.slice A l.length c] w fun e w' => e = .returned (.bool true) ∧ Below w.heap.size w w' := by
  unfold maxLen at hl
  by_cases hlong : 100 < l.length
  · go_enter Try.func3, Try.ntmps3
    go_wp2_with (go_at_call 10; refine (awake_any w).mono ?_; rintro e w1 ⟨rfl, b1⟩)
    go_ret
    exact ⟨rfl, b1⟩
  have hx1 : ∀ x ∈ l, x.1 < 18446744073709551616 := fun x h => (hx x h).1
  have Hx := Lib.hid hx1
  clear hx hx1
  go_enter Try.func3, Try.ntmps3
  go_wp2_with fail
  refine (awake_any w).mono ?_
  rintro e w1 ⟨rfl, b1⟩
  go_wp2_with fail
  go_loopw [4, 5, 6] (fun sv v i wr => ∃ k : Nat, k ≤ l.length ∧ i = .int .i64 k ∧ sv = .string (str (putS (l.take k))) ∧ wr.ownsRow w.heap.size 5 1 v (putS (l.take k)).length (u8s (putS (l.take k))) ∧ Below w.heap.size w wr) (fun _ _ i _ => l.length - (intOf i).toNat)
  case atStart => exact ⟨0, Nat.zero_le _, rfl, rfl, World.ownsRow_nil _ _ _ _, b1⟩
  case round =>
    obtain ⟨k, hk, rfl, rfl, hown, hb⟩ := hrel
    have hacc : (putS (l.take k)).length ≤ 800 := by have := putS_length (l.take k); simp only [List.length_take] at this; omega
    by_cases hlt : k < l.length
    · obtain ⟨g, o, hA, hg, hcell⟩ := hr.2 (by omega)
      subst hA
      have hc0 := hcell _ _ (partC_get l k hlt).1
      have hc1 := hcell _ _ (partC_get l k hlt).2
      have htk := Lib.hid (putS_take l k hlt)
      have hxk := Hx.out l[k] (List.getElem_mem _)
      generalize l[k] = p at hc0 hc1 htk hxk
      obtain ⟨x, size⟩ := p
      dsimp only at hc0 hc1 hxk
      have hp8 := putOne_length (x, size)
      generalize putS (l.take k) = acc at hown htk hacc
      have C := fun wx => refnum_any x size wx hxk
      have HC := Lib.hid C
      clear hcell hr Hx C
      have hd0 := (hb.cell (p := ⟨g, o + k * 2, none⟩) hg).trans hc0
      have hd1 := (hb.cell (p := ⟨g, o + k * 2 + 1, none⟩) hg).trans hc1
      obtain ⟨wo, rfl⟩ : ∃ wo : World, wo = wr := ⟨_, rfl⟩
      have zo := hb.size
      have hadd := fun wx => run_str_add (P := Try.prog) wx acc (putOne (x, size)) (by omega)
      go_wp2_with fail
      go_region_held3 (fun w' => w'.cell? ⟨g, o + k * 2, none⟩ = some (.int .u64 (x : Int)) ∧ w'.cell? ⟨g, o + k * 2 + 1, none⟩ = some (.int .i64 size))
        (first | exact ⟨hd0, hd1⟩ | exact ⟨(hb2.cell (p := ⟨g, o + k * 2, none⟩) (by simpa using (by omega : g < wo.heap.size))).trans hd0, (hb2.cell (p := ⟨g, o + k * 2 + 1, none⟩) (by simpa using (by omega : g < wo.heap.size))).trans hd1⟩)
        (first | (go_at_call 11; refine (HC.out _).mono ?_; rintro e w2 ⟨rfl, hb2⟩))
      clear hadd HC
      have B2 : Below w.heap.size w w2 := hb.drew.trans (hb2.mono zo)
      have own2 : w2.ownsRow w.heap.size 5 1 u5 acc.length (u8s acc) := hown.drew.kept (only_below hb2 none) (by cases hv : u5.ownBlock <;> simp)
      have e0 := (B2.cell (p := ⟨g, o + k * 2, none⟩) hg).trans hc0
      have e1 := (B2.cell (p := ⟨g, o + k * 2 + 1, none⟩) hg).trans hc1
      clear hb2 hd0 hd1 hb hown
      go_wp2_with fail
      refine (put_any _ 1 1 [(x, size)] _ (Row.fresh w2 28 _ 2 1 _ rfl rfl) (by omega) (by simpa using hxk)).mono ?_
      rintro e w3 ⟨A3, c3, rfl, hown3, b3⟩
      have e3 : putS [(x, size)] = putOne (x, size) := by rw [putS_cons, putS_nil, List.append_nil]
      rw [e3] at hown3 ⊢
      have b3' := ((Below.refl w2.heap.size w2).alloc (Nat.le_refl _) _).trans (b3.mono (by simp))
      have B3 := B2.trans (b3'.mono B2.size)
      have own3 := own2.kept (only_below b3' none) (by cases hv : u5.ownBlock <;> simp)
      have r3 := Row.of_own hown3
      clear b3 e3 hown3 b3' own2 B2 e0 e1
      go_wp2_with (at_builtin; refine wpl_append _ rfl (.tmp 32) (.tmp 38) 24 rfl w.heap.size 5 (.int .u8 0) 1 1 Try.underlying24 info_u8 rfl (by decide) _ _ _ rfl own3 _ _ _ _ _ rfl r3 (u8s_one _) ?c1 ?c2 ?c3 ?_)
      case c1 => unfold maxLen; omega
      case c2 => omega
      case c3 => exact B3.size
      · intro v' w4 hown4 hg4 _
        have R : w4.ownsRow w.heap.size 5 1 v' (putS (l.take (k + 1))).length (u8s (putS (l.take (k + 1)))) := by rw [htk.out, List.length_append, u8s_append]; exact hown4
        have B4 := B3.grown hg4 B3.size (fun q hq => (own3.lt q hq).1)
        clear hown4 hg4 own3 B3 r3
        go_wp2
        go_roundw
        case rel => exact ⟨k + 1, by omega, by go_num, by rw [htk.out], R, B4⟩
        case measure => simp [intOf]; omega
    · have hk2 : k = l.length := by omega
      subst hk2
      rw [List.take_length] at hown hacc ⊢
      obtain ⟨A5, c5, rfl⟩ := own_form hown
      have r5 := Row.of_own hown
      clear hown
      go_wp2_with fail
      refine (put_any A l.length c l wr ((hr.below hb (Nat.le_refl _)).more hb.size) (by omega) Hx.out).mono ?_
      rintro e w6 ⟨A6, c6, rfl, hown6, b6⟩
      have B6 := Lib.hid (hb.trans (b6.mono hb.size))
      have r6 := Row.of_own hown6
      have r5' := r5.below b6 (Nat.le_refl _)
      have t6 := run_text (P := Try.prog) w6 24 5 9 Try.underlying24 Try.underlying5 Try.underlying9 _ _ _ c6 _ r6
      have t5 := run_text (P := Try.prog) w6 24 5 9 Try.underlying24 Try.underlying5 Try.underlying9 _ _ _ c5 _ r5'
      clear hown6 b6 r6 r5 r5' hb hr
      generalize putS l = bs at t5 t6 hacc
      go_wp2
      go_ret
      exact ⟨rfl, B6.out⟩

set_option maxRecDepth 100000 in
theorem lifted (os : Os) (started : os.Started) (H : Type) (enc : TypeId × Value → H) :
    ReturnsInHanded {} Try.checked os 3 .any (Rows.octetPutsSpec.pre6 enc Try.prog Try.f3 Rows.octetPutsRow.domain false) (Rows.octetPutsSpec.post enc Try.prog Try.f3 false true false false) := by
  refine returnsInHanded_of_change (C := Try.checked) own started (by kernel_rfl) Try.func3
    (ChangeSpec.witness6 (enc := enc) (C := Try.checked) false ⟨#[], #[.slice none 0 0], []⟩ 8 (by kernel_rfl) (by kernel_rfl) (by kernel_rfl) (by kernel_rfl)) ?_
  intro W base args ds gs before hval0 hW _ _
  have hval : ∀ (j : Nat) t v, Try.f3.params[j]? = some t → args[j]? = some v → Value.okWide Try.prog W .any base t v := hval0
  have hW' := hW
  obtain ⟨p, q, hA0, hV, _, _, _⟩ := hW
  have hA : DataW.TrodAll enc Try.prog W 0 (fun _ => true) true Try.f3.params.toList args.toList ds p := hA0
  rw [Try.params3] at hA hval
  obtain ⟨v0, vs0, d0, ds0, p0, q0, hargs, rfl, _, h0, r0⟩ := trodAll_cons hA
  obtain ⟨rfl, rfl, _⟩ := trodAll_nil r0
  obtain rfl : args = #[v0] := by cases args; simp_all
  obtain ⟨rfl, _⟩ := trodVars_none hV
  refine law_post (s := Rows.octetPutsSpec) rfl rfl (by rw [Try.params3]; intro t ht; simp at ht; rcases ht with rfl <;> exact ⟨by kernel_rfl, of_decide_eq_true (by kernel_rfl)⟩) rfl hW' ?_
  obtain ⟨A0, c0, l0, rfl, hl0, hr0, hx0⟩ := open_parts (hval 0 22 v0 rfl rfl) h0
  exact walk W A0 c0 l0 hl0 hr0 hx0

theorem over : Rows.octetPutsRow.holds Try.pinned (OpenSpec.ofChange Rows.octetPutsSpec) :=
  OpenClaim.holds_of_wide 3 Try.f3 rfl rfl rfl rfl rfl rfl rfl ⟨rfl, rfl, rfl, rfl, rfl⟩ rfl rfl rfl rfl rfl (by kernel_rfl) Try.func3 (by kernel_rfl)
    (of_decide_eq_true (by kernel_rfl)) (by unfold Func.isWrapper; first | (rw [if_pos (by decide +kernel)]; kernel_rfl) | (rw [if_neg (by decide +kernel)]; exact ⟨rfl, rfl⟩))
    (fun os started H enc _ => lifted os started H enc)

/-- The statement. -/
theorem octetPuts_holds : Rows.OctetPutsSaid := over
end Go.Proofs.Ytahaeeedpnoelaa.Puts
