/-
  Proved: OctetTakes returns true for all bytes and all steps: whatever is taken, in whatever order, what is told, what is left, and the error, are those of the document's definition; of a nil Cut there is nothing. Conditions: none.
-/
import Derived.Test.YtahaeeedpnoelaaOctS
import Derived.Deep.RegionHeld3
import Derived.Deep.DeepCutAuto
import Derived.Deep.QuietTactic
import Derived.BigQuiet
namespace Go.Proofs.Ytahaeeedpnoelaa.Takes
open Go.ChangeShapes Go.WideShapes Go.ChangeAt Go.RowKit

theorem left_q (g : Nat) (l : List UInt8) (e0 : Int) (w : World) (n : Nat) (h : CutAt w g l e0) :
    Calls Try.prog 18 #[.pointer (some ⟨g, 0, none⟩)] (w.drewN n) fun e w' => e = .returned (.int .i64 l.length) ∧ w' = w.drewN n := (left_any g l e0 (w.drewN n) h).mono fun _ _ ⟨h1, h2⟩ => ⟨h1, h2.symm⟩
theorem err_q (g : Nat) (l : List UInt8) (e0 : Int) (w : World) (n : Nat) (h : CutAt w g l e0) :
    Calls Try.prog 19 #[.pointer (some ⟨g, 0, none⟩)] (w.drewN n) fun e w' => e = .returned (.int .i64 e0) ∧ w' = w.drewN n := (err_any g l e0 (w.drewN n) h).mono fun _ _ ⟨h1, h2⟩ => ⟨h1, h2.symm⟩

theorem keep3 {w W : World} {a b c : Addr} {u v x : Value} (h1 : w.cell? a = some u) (h2 : w.cell? b = some v) (h3 : w.cell? c = some x) (hb : Below w.heap.size w W) : W.cell? a = some u ∧ W.cell? b = some v ∧ W.cell? c = some x :=
  ⟨(hb.cell (World.block_lt_of_cell? w a h1)).trans h1, (hb.cell (World.block_lt_of_cell? w b h2)).trans h2, (hb.cell (World.block_lt_of_cell? w c h3)).trans h3⟩

set_option maxRecDepth 100000 in
set_option maxHeartbeats 1600000 in
theorem walk (w : World) (A : Option Addr) (c : Nat) (l : List UInt8) (hl : l.length ≤ maxLen) (hr : Row w w.heap.size 1 A l.length (u8s l)) (A1 : Option Addr) (c1 : Nat) (s : List (Bool × Int)) (hs : s.length ≤ maxLen) (hr1 : Row w w.heap.size 2 A1 s.length (stepC s)) :
    Calls Try.prog 4 #[.slice A l.length c, .slice A1 s.length c1] w fun e w' => e = .returned (.bool true) ∧ Below w.heap.size w w' := by
  unfold maxLen at hl hs
  by_cases hlong : 300 < l.length
  · go_enter Try.func4, Try.ntmps4
    go_wp2_with (go_at_call 10; refine (awake_any w).mono ?_; rintro e w1 ⟨rfl, b1⟩)
    go_ret
    exact ⟨rfl, b1⟩
  by_cases hlong1 : 60 < s.length
  · go_enter Try.func4, Try.ntmps4
    go_wp2_with (go_at_call 10; refine (awake_any w).mono ?_; rintro e w1 ⟨rfl, b1⟩)
    go_ret
    exact ⟨rfl, b1⟩
  go_enter Try.func4, Try.ntmps4
  go_wp2_with fail
  refine (awake_any w).mono ?_
  rintro e w1 ⟨rfl, b1⟩
  have z1 := b1.size
  go_wp2_with fail
  refine (new_any A _ c l w1 ((hr.below b1 (Nat.le_refl _)).more z1) (by omega)).mono ?_
  rintro e w2 ⟨g, rfl, hg, hc2, b2⟩
  have B2 := b1.trans (b2.mono z1)
  have r2 := hr.below B2 (Nat.le_refl _)
  have ht := run_text (P := Try.prog) w2 24 5 9 Try.underlying24 Try.underlying5 Try.underlying9 _ _ _ c _ r2
  clear b1 b2 hr r2
  go_wp2_with fail
  have hw2 := Whole.new w2 36 #[.string (str l), .int .i64 0]
  have B3 := B2.alloc B2.size (.cells #[.string (str l), .int .i64 0] 36)
  have hc3 := hc2.alloc (.cells #[.string (str l), .int .i64 0] 36)
  have hgw := hc2.lt
  have z2 := B2.size
  clear hc2 B2 ht
  generalize w2.heap.size = gw at hw2 hgw z2
  go_loopw [8] (fun i wr => ∃ (k : Nat) (rs : List UInt8) (e0 : Int), k ≤ s.length ∧ i = .int .i64 k ∧ CutAt wr g rs e0 ∧ Whole wr gw 36 #[.string (str rs), .int .i64 e0] ∧ rs.length ≤ 300 ∧ Below w.heap.size w wr) (fun i _ => s.length - (intOf i).toNat)
  case atStart => exact ⟨0, l, 0, Nat.zero_le _, rfl, hc3, hw2, by omega, B3⟩
  case round =>
    clear hc3 hw2 B3
    obtain ⟨k, rs, e0, hk, rfl, hc, hw, hrs, hb⟩ := hrel
    by_cases hlt : k < s.length
    · obtain ⟨gs, o, hA, hgs, hcell⟩ := hr1.2 (by omega)
      subst hA
      have hs0 := hcell _ _ (stepC_get s k hlt).1
      have hs1 := hcell _ _ (stepC_get s k hlt).2
      generalize s[k] = p at hs0 hs1
      obtain ⟨bb, n⟩ := p
      dsimp only at hs0 hs1
      obtain ⟨wo, rfl⟩ : ∃ wo : World, wo = wr := ⟨_, rfl⟩
      have ht0 := (hb.cell (p := ⟨gs, o + k * 2, none⟩) hgs).trans hs0
      have ht1 := (hb.cell (p := ⟨gs, o + k * 2 + 1, none⟩) hgs).trans hs1
      have hw0 := hw.cell 0
      have hw1 := hw.cell 1
      have hgw2 := hw.lt
      have zo := hb.size
      clear hcell hr1
      cases bb with
      | true =>
        go_upto_region 12 with fail
        go_cut [9, 10] (fun s9 s10 wx => ∃ gq : Nat, s9 = .pointer (some ⟨gq, 0, none⟩) ∧ wo.heap.size ≤ gq ∧ s10 = .string (str (headS rs e0 n (decide (0 ≤ n)))) ∧ Whole wx gq 36 #[.string (str (restS rs e0 n (decide (0 ≤ n)))), .int .i64 (errS rs e0 n (decide (0 ≤ n)))] ∧ Below wo.heap.size wo wx)
        case first =>
          go_region_held3 (fun w' => w'.cell? ⟨gw, 0, none⟩ = some (.string (str rs)) ∧ w'.cell? ⟨gw, 1, none⟩ = some (.int .i64 e0) ∧ w'.cell? ⟨gs, o + k * 2 + 1, none⟩ = some (.int .i64 n))
            (first | exact ⟨hw0, hw1, ht1⟩ | (refine keep3 hw0 hw1 ht1 ?_; repeat' (first | exact Below.refl _ _ | (refine Below.drew ?_) | (refine Below.setCell ?_ (by first | (simp; done) | (have := b3.size; simp at this; simp; omega)) _) | (refine Below.alloc ?_ (by first | (simp; done) | (have := b3.size; simp at this; simp; omega)) _) | (refine Below.trans ?_ (b3.mono (by simp))))))
            (first | (go_at_call 14; refine (refbytes_any rs e0 n _ (by unfold maxLen; omega)).mono ?_; rintro e w3 ⟨rfl, b3⟩; try (have hq := (Whole.new wo 36 #[.string { data := #[] }, .int .i64 0]).drew.below b3 (by simp); have hq0 := hq.cell 0; have hq1 := hq.cell 1; have hq2 := hq.free 0; have hq3 := hq.free 1)))
          all_goals (go_wp2_with fail; go_meet)
          · exact ⟨_, rfl, by have := b3.size; simpa using this, rfl, Whole.new _ _ _, ((Below.refl wo.heap.size wo).drew.trans b3).alloc (by have := b3.size; simpa using this) _⟩
          · exact ⟨_, rfl, Nat.le_refl _, rfl, by simpa using (hq.set 0 _).set 1 _, (((((Below.refl wo.heap.size wo).alloc (Nat.le_refl _) _).drew.trans (b3.mono (by simp))).setCell (Nat.le_refl _) _).setCell (Nat.le_refl _) _)⟩
        case rest =>
          obtain ⟨gq, rfl, hgq, rfl, hwq, bq⟩ := hcut
          have B4 := hb.trans (bq.mono zo)
          have hc4 := hc.below bq hc.lt
          have hw4 := hw.below bq hgw2
          have ht4 := (B4.cell (p := ⟨gs, o + k * 2 + 1, none⟩) hgs).trans hs1
          have x0 := hw4.cell 0
          have x1 := hw4.cell 1
          have x2 := hw4.free 0
          have x3 := hw4.free 1
          have y0 := hwq.cell 0
          have y1 := hwq.cell 1
          clear hc hw hb bq hw0 hw1 ht0 ht1
          go_wp2_with fail
          have hlen := rest_le rs e0 n (decide (0 ≤ n))
          have hw5 : Whole ((wc.setCell ⟨gw, 0, none⟩ (.string (str (restS rs e0 n (decide (0 ≤ n)))))).setCell ⟨gw, 1, none⟩ (.int .i64 (errS rs e0 n (decide (0 ≤ n))))) gw 36 #[.string (str (restS rs e0 n (decide (0 ≤ n)))), .int .i64 (errS rs e0 n (decide (0 ≤ n)))] := by simpa using (hw4.set 0 _).set 1 _
          have hc5 := (hc4.far (p := ⟨gw, 0, none⟩) hgw (.string (str (restS rs e0 n (decide (0 ≤ n)))))).far (p := ⟨gw, 1, none⟩) hgw (.int .i64 (errS rs e0 n (decide (0 ≤ n))))
          have B5 := (B4.setCell (p := ⟨gw, 0, none⟩) (by simp; omega) (.string (str (restS rs e0 n (decide (0 ≤ n)))))).setCell (p := ⟨gw, 1, none⟩) (by simp; omega) (.int .i64 (errS rs e0 n (decide (0 ≤ n))))
          refine (bytes_any g rs e0 n _ hc5 (by omega)).mono ?_
          rintro e w6 ⟨A6, c6, rfl, hown6, hc6, g6⟩
          have hw6 := hw5.grown g6 (by simp; omega)
          have B6 := B5.grown g6 B5.size (fun q hq => by injection hq with hq; omega)
          have t6 := run_text (P := Try.prog) w6 24 5 9 Try.underlying24 Try.underlying5 Try.underlying9 _ _ _ c6 _ (Row.of_own hown6)
          have u0 := hw6.cell 0
          have u1 := hw6.cell 1
          clear hown6 hw5 hc5 B5 hc4 B4 g6 hw4 x0 x1 x2 x3 y0 y1 ht4 hwq hs0 hs1
          go_wp2_with fail
          go_quiet ((first | (go_at_call 18; exact Calls.quiet_of_same (left_q _ _ _ _ _ hc6)) | (go_at_call 19; exact Calls.quiet_of_same (err_q _ _ _ _ _ hc6))))
          go_wp2
          go_roundw
          case rel => exact ⟨k + 1, _, _, by omega, by go_num, hc6, hw6, by omega, ⟨B6.os, B6.tape, B6.output, B6.size, B6.block⟩⟩
          case measure => simp [intOf]; omega
      | false =>
        go_upto_region 16 with fail
        go_cut [11, 12] (fun s9 s10 wx => ∃ gq : Nat, s9 = .pointer (some ⟨gq, 0, none⟩) ∧ wo.heap.size ≤ gq ∧ s10 = .int .u64 (be (headS rs e0 n (sizeB n)) : Int) ∧ Whole wx gq 36 #[.string (str (restS rs e0 n (sizeB n))), .int .i64 (errS rs e0 n (sizeB n))] ∧ Below wo.heap.size wo wx)
        case first =>
          go_region_held3 (fun w' => w'.cell? ⟨gw, 0, none⟩ = some (.string (str rs)) ∧ w'.cell? ⟨gw, 1, none⟩ = some (.int .i64 e0) ∧ w'.cell? ⟨gs, o + k * 2 + 1, none⟩ = some (.int .i64 n))
            (first | exact ⟨hw0, hw1, ht1⟩ | (refine keep3 hw0 hw1 ht1 ?_; repeat' (first | exact Below.refl _ _ | (refine Below.drew ?_) | (refine Below.setCell ?_ (by first | (simp; done) | (have := b3.size; simp at this; simp; omega)) _) | (refine Below.alloc ?_ (by first | (simp; done) | (have := b3.size; simp at this; simp; omega)) _) | (refine Below.trans ?_ (b3.mono (by simp))))))
            (first | (go_at_call 16; refine (reftake_any rs e0 n _ (by unfold maxLen; omega)).mono ?_; rintro e w3 ⟨rfl, b3⟩; try (have hq := (Whole.new wo 36 #[.string { data := #[] }, .int .i64 0]).drew.below b3 (by simp); have hq0 := hq.cell 0; have hq1 := hq.cell 1; have hq2 := hq.free 0; have hq3 := hq.free 1)))
          all_goals (go_wp2_with fail; go_meet)
          · exact ⟨_, rfl, by have := b3.size; simpa using this, rfl, Whole.new _ _ _, ((Below.refl wo.heap.size wo).drew.trans b3).alloc (by have := b3.size; simpa using this) _⟩
          · exact ⟨_, rfl, Nat.le_refl _, rfl, by simpa using (hq.set 0 _).set 1 _, (((((Below.refl wo.heap.size wo).alloc (Nat.le_refl _) _).drew.trans (b3.mono (by simp))).setCell (Nat.le_refl _) _).setCell (Nat.le_refl _) _)⟩
        case rest =>
          obtain ⟨gq, rfl, hgq, rfl, hwq, bq⟩ := hcut
          have B4 := hb.trans (bq.mono zo)
          have hc4 := hc.below bq hc.lt
          have hw4 := hw.below bq hgw2
          have ht4 := (B4.cell (p := ⟨gs, o + k * 2 + 1, none⟩) hgs).trans hs1
          have x0 := hw4.cell 0
          have x1 := hw4.cell 1
          have x2 := hw4.free 0
          have x3 := hw4.free 1
          have y0 := hwq.cell 0
          have y1 := hwq.cell 1
          clear hc hw hb bq hw0 hw1 ht0 ht1
          go_wp2_with fail
          have hlen := rest_le rs e0 n (sizeB n)
          have hw5 : Whole ((wc.setCell ⟨gw, 0, none⟩ (.string (str (restS rs e0 n (sizeB n))))).setCell ⟨gw, 1, none⟩ (.int .i64 (errS rs e0 n (sizeB n)))) gw 36 #[.string (str (restS rs e0 n (sizeB n))), .int .i64 (errS rs e0 n (sizeB n))] := by simpa using (hw4.set 0 _).set 1 _
          have hc5 := (hc4.far (p := ⟨gw, 0, none⟩) hgw (.string (str (restS rs e0 n (sizeB n))))).far (p := ⟨gw, 1, none⟩) hgw (.int .i64 (errS rs e0 n (sizeB n)))
          have B5 := (B4.setCell (p := ⟨gw, 0, none⟩) (by simp; omega) (.string (str (restS rs e0 n (sizeB n))))).setCell (p := ⟨gw, 1, none⟩) (by simp; omega) (.int .i64 (errS rs e0 n (sizeB n)))
          refine (num_any g rs e0 n _ hc5).mono ?_
          rintro e w6 ⟨rfl, hc6, g6⟩
          have hw6 := hw5.grown g6 (by simp; omega)
          have B6 := B5.grown g6 B5.size (fun q hq => by injection hq with hq; omega)
          have u0 := hw6.cell 0
          have u1 := hw6.cell 1
          clear hw5 hc5 B5 hc4 B4 g6 hw4 x0 x1 x2 x3 y0 y1 ht4 hwq hs0 hs1
          go_wp2_with fail
          go_quiet ((first | (go_at_call 18; exact Calls.quiet_of_same (left_q _ _ _ _ _ hc6)) | (go_at_call 19; exact Calls.quiet_of_same (err_q _ _ _ _ _ hc6))))
          go_wp2
          go_roundw
          case rel => exact ⟨k + 1, _, _, by omega, by go_num, hc6, hw6, by omega, ⟨B6.os, B6.tape, B6.output, B6.size, B6.block⟩⟩
          case measure => simp [intOf]; omega
    · have H := Lib.hid hb
      clear hb hc hw hr1
      go_wp2_with (first
        | (go_at_call 17; refine (num_nil _ _).mono ?_; rintro e w' ⟨rfl, rfl⟩)
        | (go_at_call 15; refine (bytes_nil _ _).mono ?_; rintro e w' ⟨rfl, rfl⟩)
        | (go_at_call 18; refine (left_nil _).mono ?_; rintro e w' ⟨rfl, rfl⟩)
        | (go_at_call 19; refine (err_nil _).mono ?_; rintro e w' ⟨rfl, rfl⟩))
      go_ret
      exact ⟨rfl, H.out⟩

set_option maxRecDepth 100000 in
theorem lifted (os : Os) (started : os.Started) (H : Type) (enc : TypeId × Value → H) :
    ReturnsInHanded {} Try.checked os 4 .any (Rows.octetTakesSpec.pre6 enc Try.prog Try.f4 Rows.octetTakesRow.domain false) (Rows.octetTakesSpec.post enc Try.prog Try.f4 false true false false) := by
  refine returnsInHanded_of_change (C := Try.checked) own started (by kernel_rfl) Try.func4
    (ChangeSpec.witness6 (enc := enc) (C := Try.checked) false ⟨#[], #[.slice none 0 0, .slice none 0 0], []⟩ 8 (by kernel_rfl) (by kernel_rfl) (by kernel_rfl) (by kernel_rfl)) ?_
  intro W base args ds gs before hval0 hW _ _
  have hval : ∀ (j : Nat) t v, Try.f4.params[j]? = some t → args[j]? = some v → Value.okWide Try.prog W .any base t v := hval0
  have hW' := hW
  obtain ⟨p, q, hA0, hV, _, _, _⟩ := hW
  have hA : DataW.TrodAll enc Try.prog W 0 (fun _ => true) true Try.f4.params.toList args.toList ds p := hA0
  rw [Try.params4] at hA hval
  obtain ⟨v0, vs0, d0, ds0, p0, q0, hargs, rfl, _, h0, r0⟩ := trodAll_cons hA
  obtain ⟨v1, vs1, d1, ds1, p1, q1, rfl, rfl, _, h1, r1⟩ := trodAll_cons r0
  obtain ⟨rfl, rfl, _⟩ := trodAll_nil r1
  obtain rfl : args = #[v0, v1] := by cases args; simp_all
  obtain ⟨rfl, _⟩ := trodVars_none hV
  refine law_post (s := Rows.octetTakesSpec) rfl rfl (by rw [Try.params4]; intro t ht; simp at ht; rcases ht with rfl | rfl <;> exact ⟨by kernel_rfl, of_decide_eq_true (by kernel_rfl)⟩) rfl hW' ?_
  obtain ⟨A0, c0, l0, rfl, hl0, hr0, _⟩ := open_bytes (hval 0 24 v0 rfl rfl) h0
  obtain ⟨A1, c1, l1, rfl, hl1, hr1, _⟩ := open_steps (hval 1 31 v1 rfl rfl) h1
  exact walk W A0 c0 l0 hl0 hr0 A1 c1 l1 hl1 hr1

theorem over : Rows.octetTakesRow.holds Try.pinned (OpenSpec.ofChange Rows.octetTakesSpec) :=
  OpenClaim.holds_of_wide 4 Try.f4 rfl rfl rfl rfl rfl rfl rfl ⟨rfl, rfl, rfl, rfl, rfl⟩ rfl rfl rfl rfl rfl (by kernel_rfl) Try.func4 (by kernel_rfl)
    (of_decide_eq_true (by kernel_rfl)) (by unfold Func.isWrapper; first | (rw [if_pos (by decide +kernel)]; kernel_rfl) | (rw [if_neg (by decide +kernel)]; exact ⟨rfl, rfl⟩))
    (fun os started H enc _ => lifted os started H enc)

/-- The statement. -/
theorem octetTakes_holds : Rows.OctetTakesSaid := over
end Go.Proofs.Ytahaeeedpnoelaa.Takes
