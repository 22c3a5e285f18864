/-
  Proved: QueuePlays returns true for every room and every list of acts: whatever is pushed and popped, what is told, and all that is there, are the document's. Conditions: none.
-/
import Derived.Test.YtigimpnghecdiaaQueR
import Derived.Deep.CutBlock
namespace Go.Proofs.Ytigimpnghecdiaa.Plays
open Go.ChangeShapes Go.WideShapes Go.ChangeAt Go.RowKit


theorem keep3 {w w' : World} {a b d : Addr} {u v x : Value} (h1 : w.cell? a = some u) (h2 : w.cell? b = some v) (h3 : w.cell? d = some x) (hb : Below w.heap.size w w') : w'.cell? a = some u ∧ w'.cell? b = some v ∧ w'.cell? d = some x :=
  ⟨(hb.cell (World.block_lt_of_cell? w a h1)).trans h1, (hb.cell (World.block_lt_of_cell? w b h2)).trans h2, (hb.cell (World.block_lt_of_cell? w d h3)).trans h3⟩

theorem refPush_b (b : Bool) (s' : List Int) (A : Option Addr) (c : Nat) (l : List Int) (N : Nat) (x : Int) (P : Nat → Prop) (w : World) (h : RefRow w P A c l) (hb : decide (l.length < N) = b) (hs : l ++ (if b then [x] else []) = s') (hl : l.length ≤ 4096) (hz : ∀ b, w.heap.size ≤ b → P b) :
    Calls Try.prog 10 #[.agg #[.slice A l.length c, .int .i64 N], .int .i64 x] w (RPushed N b s' P w) := by
  subst hs
  subst hb
  by_cases hlt : l.length < N
  · rw [decide_eq_true hlt]; exact refPush_yes A c l N x P w h hlt hl hz
  · rw [decide_eq_false hlt]; simpa using refPush_no A c l N x P w h (by omega)
theorem pushI_b (b : Bool) (s' : List Int) (g r N : Nat) (l : List Int) (x : Int) (w : World) (h : QI w g r N l) (hb : decide (l.length < N) = b) (hs : l ++ (if b then [x] else []) = s') :
    Calls Try.prog 11 #[.pointer (some ⟨g, 0, none⟩), .int .i64 x] w (LeftI g r N s' (.bool b) w) := by
  subst hs
  subst hb
  have hle := h.len.1
  rw [List.length_map] at hle
  by_cases hlt : l.length < N
  · rw [decide_eq_true hlt]; exact pushI_yes g r N l x w h hlt
  · rw [decide_eq_false hlt]; simpa using pushI_no g r N l x w h (by omega)

/-- What a round of the walk keeps: the queue and the document's row hold the same numbers. -/
def Same (w0 : World) (g r gw N : Nat) (wx : World) : Prop :=
  ∃ A c s, Whole wx gw 28 #[.slice A s.length c, .int .i64 N] ∧ RefRow wx (gw < ·) A c s ∧ QI wx g r N s ∧ Below w0.heap.size w0 wx

set_option maxRecDepth 100000 in
set_option maxHeartbeats 1600000 in
theorem walk (w : World) (a : Int) (ha : (Lit.int .u8 a).wf = true) (A : Option Addr) (c : Nat) (l : List (Int × Int)) (hl : l.length ≤ maxLen) (hr : Row w w.heap.size 2 A l.length (actC l)) :
    Calls Try.prog 3 #[.int .u8 a, .slice A l.length c] w fun e w' => e = .returned (.bool true) ∧ Below w.heap.size w w' := by
  unfold maxLen at hl
  have ha' := wf_u8 ha
  clear ha
  by_cases hlong : 300 < l.length
  · go_enter Try.func3, Try.ntmps3
    go_wp2_with (go_at_call 8; refine (awake_any w).mono ?_; rintro e w1 ⟨rfl, b1⟩)
    go_ret
    exact ⟨rfl, b1⟩
  obtain ⟨N, hN⟩ : ∃ N : Nat, a % 9 + 1 = (N : Int) := ⟨(a % 9 + 1).toNat, by omega⟩
  have hN1 : 1 ≤ N := by omega
  have hN2 : N ≤ 9 := by omega
  go_enter Try.func3, Try.ntmps3
  go_wp2_with fail
  refine (awake_any w).mono ?_
  rintro e w1 ⟨rfl, b1⟩
  go_wp2_with fail
  refine (newI_any N _ hN1 (by omega)).mono ?_
  rintro e w2 ⟨g, r, rfl, q2, hg, hr2, b2⟩
  have hg' : w.heap.size ≤ g := Nat.le_trans b1.size hg
  have hr' : w.heap.size ≤ r := Nat.le_trans b1.size hr2
  have B2 := bnext b1 b2
  have hlt := q2.lt
  have hz := B2.size
  clear b1 b2 hg hr2
  go_wp2_with fail
  have hw3 := Whole.new w2 28 #[.slice none 0 0, .int .i64 N]
  obtain ⟨gw, hgw⟩ : ∃ gw, w2.heap.size = gw := ⟨_, rfl⟩
  have q3 := q2.alloc (.cells #[.slice none 0 0, .int .i64 N] 28)
  have B3 := B2.alloc hz (.cells #[.slice none 0 0, .int .i64 N] 28)
  have hz3 : gw + 1 ≤ (w2.alloc (.cells #[.slice none 0 0, .int .i64 N] 28)).heap.size := by simp; omega
  rw [hgw] at hw3 hlt hz ⊢
  generalize w2.alloc (.cells #[.slice none 0 0, .int .i64 N] 28) = w3 at hw3 q3 B3 hz3 ⊢
  clear hgw q2 B2 hN
  go_loopw [8] (fun i wx => ∃ k : Nat, k ≤ l.length ∧ i = .int .i64 k ∧ Same w g r gw N wx) (fun i _ => l.length - (intOf i).toNat)
  case atStart => exact ⟨0, Nat.zero_le _, rfl, none, 0, [], hw3, ⟨Nat.le_refl _, by decide, Row.nil, by simp⟩, q3, B3⟩
  case round =>
    clear hw3 q3 B3 hz3
    obtain ⟨k, hk, rfl, Aw, cw, s, hw, rw', q, B⟩ := hrel
    by_cases hkl : k < l.length
    · obtain ⟨gs, o, hA, hgs, hc0, hc1⟩ := act_cells hr B k hkl
      subst hA
      have hw0 := hw.cell 0
      have hw1 := hw.cell 1
      generalize l[k] = p at hc0 hc1
      obtain ⟨kind, x⟩ := p
      dsimp only at hc0 hc1
      obtain ⟨wo, rfl⟩ : ∃ wo : World, wo = wr := ⟨_, rfl⟩
      have zo := B.size
      have hgwo := hw.lt
      go_upto_block 2 with fail
      go_cut [] (fun wx => Same w g r gw N wx)
      case first =>
        by_cases k0 : kind = 0
        · subst k0
          obtain ⟨b, hb⟩ : ∃ b, decide (s.length < N) = b := ⟨_, rfl⟩
          obtain ⟨s', hs'⟩ : ∃ s', s ++ (if b then [x] else []) = s' := ⟨_, rfl⟩
          have hsl : s.length ≤ 4096 := by have := q.len; rw [List.length_map] at this; omega
          have rw2 : ∀ o : Obj, RefRow (wo.alloc o).drew (fun i => gw < i ∧ i ≠ wo.heap.size) Aw cw s := fun o => (rw'.weak (P' := fun i => gw < i ∧ i ≠ wo.heap.size) (fun i hi hg => ⟨hg, by omega⟩)).next ((Below.refl _ _).alloc (Nat.le_refl _) o).drew
          have rw1 : RefRow wo.drew (gw < ·) Aw cw s := rw'
          have HR2 := Lib.hid rw2
          have HB := Lib.hid B
          have HQ := Lib.hid q
          have HW := Lib.hid hw
          have HR := Lib.hid rw1
          have HB1 := Lib.hid hb
          have HS1 := Lib.hid hs'
          clear B q hw rw' rw1 rw2 hb hs' hr
          go_upto_region 18 with fail
          go_cut [9, 10] (fun s9 s10 wx => ∃ gq A' c', s9 = .pointer (some ⟨gq, 0, none⟩) ∧ wo.heap.size ≤ gq ∧ s10 = .bool b ∧ Whole wx gq 28 #[.slice A' s'.length c', .int .i64 N] ∧ RefRow wx (gw < ·) A' c' s' ∧ Below wo.heap.size wo wx)
          case first =>
            go_region_held3 (fun w' => w'.cell? ⟨gw, 0, none⟩ = some (.slice Aw s.length cw) ∧ w'.cell? ⟨gw, 1, none⟩ = some (.int .i64 N) ∧ w'.cell? ⟨gs, o + k * 2 + 1, none⟩ = some (.int .i64 x))
              (first | exact ⟨hw0, hw1, hc1⟩ | (refine keep3 hw0 hw1 hc1 ?_; repeat' (first | exact Below.refl _ _ | (refine Below.drew ?_) | (refine bdrewN ?_ _) | (refine Below.setCell ?_ (by first | (simp; done) | (have := b3.size; simp at this; simp; omega)) _) | (refine Below.alloc ?_ (by first | (simp; done) | (have := b3.size; simp at this; simp; omega)) _) | (refine Below.trans ?_ (b3.mono (by simp))))))
              (first
                | (go_at_call 10; refine (refPush_b b s' Aw cw s N x (gw < ·) _ HR.out HB1.out HS1.out hsl (fun i hi => Nat.lt_of_lt_of_le hgwo hi)).mono ?_; rintro e w3 ⟨A3, c3, rfl, rr3, b3⟩)
                | (go_at_call 10; refine (refPush_b b s' Aw cw s N x (fun i => gw < i ∧ i ≠ wo.heap.size) _ (HR2.out _) HB1.out HS1.out hsl (fun i hi => by simp at hi; omega)).mono ?_; rintro e w3 ⟨A3, c3, rfl, rr3, b3⟩; have hq := (Whole.new wo 28 #[.slice none 0 0, .int .i64 0]).drew.below b3 (by simp); have hq0 := hq.cell 0; have hq1 := hq.cell 1; have hq2 := hq.free 0; have hq3 := hq.free 1))
            all_goals (go_wp2_with fail; go_meet)
            · exact ⟨_, A3, c3, rfl, b3.size, rfl, Whole.new _ _ _, rr3.next ((Below.refl _ _).alloc (Nat.le_refl _) _), ((Below.refl wo.heap.size wo).drew.trans b3).alloc b3.size _⟩
            · exact ⟨_, A3, c3, rfl, Nat.le_refl _, rfl, by simpa using (hq.set 0 _).set 1 _, ((rr3.set (p := ⟨wo.heap.size, 0, none⟩) (by simp) _).set (p := ⟨wo.heap.size, 1, none⟩) (by simp) _).weak (fun b _ h => h.1),
                ((((Below.refl wo.heap.size wo).alloc (Nat.le_refl _) _).drew.trans (b3.mono (by simp))).setCell (Nat.le_refl _) _).setCell (Nat.le_refl _) _⟩
          case rest =>
            obtain ⟨gq, A', c', rfl, hgq, rfl, hwq, rrq, bq⟩ := hcut
            have hw4 := HW.out.below bq hgwo
            have q4 := HQ.out.next bq
            have B4 := HB.out.trans (bq.mono zo)
            have hx4 := (bq.cell (p := ⟨gs, o + k * 2 + 1, none⟩) (by simp; omega)).trans hc1
            have x0 := hw4.cell 0
            have x1 := hw4.cell 1
            have x2 := hw4.free 0
            have x3 := hw4.free 1
            have y0 := hwq.cell 0
            have y1 := hwq.cell 1
            have hgsw : gs ≠ gw := by omega
            have n1 : g ≠ gw := by omega
            have n2 : r ≠ gw := by omega
            have hall : ∀ u0 u1, QI ((wc.setCell ⟨gw, 0, none⟩ u0).setCell ⟨gw, 1, none⟩ u1) g r N s ∧ RefRow ((wc.setCell ⟨gw, 0, none⟩ u0).setCell ⟨gw, 1, none⟩ u1) (gw < ·) A' c' s' ∧ Below w.heap.size w ((wc.setCell ⟨gw, 0, none⟩ u0).setCell ⟨gw, 1, none⟩ u1) ∧ Whole ((wc.setCell ⟨gw, 0, none⟩ u0).setCell ⟨gw, 1, none⟩ u1) gw 28 #[u0, u1] := by
              intro u0 u1
              exact ⟨(q4.far n1 n2 _).far n1 n2 _, (rrq.set (p := ⟨gw, 0, none⟩) (by simp) _).set (p := ⟨gw, 1, none⟩) (by simp) _, (B4.setCell (by simp; omega) _).setCell (by simp; omega) _, by simpa using (hw4.set 0 u0).set 1 u1⟩
            have HA := Lib.hid hall
            clear hw0 hw1 hc0 hc1 HB HQ HW HR HR2 hall q4 B4 bq hw4 rrq hwq
            go_wp2_with fail
            obtain ⟨q5, r5, B5, w5⟩ := HA.out (.slice A' s'.length c') (.int .i64 N)
            refine (pushI_b b s' g r N s x _ q5 HB1.out HS1.out).mono ?_
            rintro e w6 ⟨rfl, q6, t6⟩
            have r6 := r5.two t6 (by omega) (by omega)
            have B6 := B5.trans (t6.below hg' hr')
            have w6' := w5.two t6 (Ne.symm n1) (Ne.symm n2)
            have hfin : Same w g r gw N w6 := ⟨A', c', s', w6', r6, q6, B6⟩
            have HF := Lib.hid hfin
            clear hfin HA q5 r5 B5 w5 q6 t6 r6 B6 w6' x0 x1 x2 x3 y0 y1 hx4
            go_wp2_with fail
            go_meet
            exact HF.out
        · by_cases k1 : kind = 1
          · subst k1
            obtain ⟨b, hb⟩ : ∃ b, decide (s.length < N) = b := ⟨_, rfl⟩
            obtain ⟨s', hs'⟩ : ∃ s', s ++ (if b then [x] else []) = s' := ⟨_, rfl⟩
            have hsl : s.length ≤ 4096 := by have := q.len; rw [List.length_map] at this; omega
            have rw2 : ∀ o : Obj, RefRow (wo.alloc o).drew (fun i => gw < i ∧ i ≠ wo.heap.size) Aw cw s := fun o => (rw'.weak (P' := fun i => gw < i ∧ i ≠ wo.heap.size) (fun i hi hg => ⟨hg, by omega⟩)).next ((Below.refl _ _).alloc (Nat.le_refl _) o).drew
            have rw1 : RefRow wo.drew (gw < ·) Aw cw s := rw'
            have HR2 := Lib.hid rw2
            have HB := Lib.hid B
            have HQ := Lib.hid q
            have HW := Lib.hid hw
            have HR := Lib.hid rw1
            have HB1 := Lib.hid hb
            have HS1 := Lib.hid hs'
            clear B q hw rw' rw1 rw2 hb hs' hr
            go_upto_region 18 with fail
            go_cut [9, 10] (fun s9 s10 wx => ∃ gq A' c', s9 = .pointer (some ⟨gq, 0, none⟩) ∧ wo.heap.size ≤ gq ∧ s10 = .bool b ∧ Whole wx gq 28 #[.slice A' s'.length c', .int .i64 N] ∧ RefRow wx (gw < ·) A' c' s' ∧ Below wo.heap.size wo wx)
            case first =>
              go_region_held3 (fun w' => w'.cell? ⟨gw, 0, none⟩ = some (.slice Aw s.length cw) ∧ w'.cell? ⟨gw, 1, none⟩ = some (.int .i64 N) ∧ w'.cell? ⟨gs, o + k * 2 + 1, none⟩ = some (.int .i64 x))
                (first | exact ⟨hw0, hw1, hc1⟩ | (refine keep3 hw0 hw1 hc1 ?_; repeat' (first | exact Below.refl _ _ | (refine Below.drew ?_) | (refine bdrewN ?_ _) | (refine Below.setCell ?_ (by first | (simp; done) | (have := b3.size; simp at this; simp; omega)) _) | (refine Below.alloc ?_ (by first | (simp; done) | (have := b3.size; simp at this; simp; omega)) _) | (refine Below.trans ?_ (b3.mono (by simp))))))
                (first
                  | (go_at_call 10; refine (refPush_b b s' Aw cw s N x (gw < ·) _ HR.out HB1.out HS1.out hsl (fun i hi => Nat.lt_of_lt_of_le hgwo hi)).mono ?_; rintro e w3 ⟨A3, c3, rfl, rr3, b3⟩)
                  | (go_at_call 10; refine (refPush_b b s' Aw cw s N x (fun i => gw < i ∧ i ≠ wo.heap.size) _ (HR2.out _) HB1.out HS1.out hsl (fun i hi => by simp at hi; omega)).mono ?_; rintro e w3 ⟨A3, c3, rfl, rr3, b3⟩; have hq := (Whole.new wo 28 #[.slice none 0 0, .int .i64 0]).drew.below b3 (by simp); have hq0 := hq.cell 0; have hq1 := hq.cell 1; have hq2 := hq.free 0; have hq3 := hq.free 1))
              all_goals (go_wp2_with fail; go_meet)
              · exact ⟨_, A3, c3, rfl, b3.size, rfl, Whole.new _ _ _, rr3.next ((Below.refl _ _).alloc (Nat.le_refl _) _), ((Below.refl wo.heap.size wo).drew.trans b3).alloc b3.size _⟩
              · exact ⟨_, A3, c3, rfl, Nat.le_refl _, rfl, by simpa using (hq.set 0 _).set 1 _, ((rr3.set (p := ⟨wo.heap.size, 0, none⟩) (by simp) _).set (p := ⟨wo.heap.size, 1, none⟩) (by simp) _).weak (fun b _ h => h.1),
                  ((((Below.refl wo.heap.size wo).alloc (Nat.le_refl _) _).drew.trans (b3.mono (by simp))).setCell (Nat.le_refl _) _).setCell (Nat.le_refl _) _⟩
            case rest =>
              obtain ⟨gq, A', c', rfl, hgq, rfl, hwq, rrq, bq⟩ := hcut
              have hw4 := HW.out.below bq hgwo
              have q4 := HQ.out.next bq
              have B4 := HB.out.trans (bq.mono zo)
              have hx4 := (bq.cell (p := ⟨gs, o + k * 2 + 1, none⟩) (by simp; omega)).trans hc1
              have x0 := hw4.cell 0
              have x1 := hw4.cell 1
              have x2 := hw4.free 0
              have x3 := hw4.free 1
              have y0 := hwq.cell 0
              have y1 := hwq.cell 1
              have hgsw : gs ≠ gw := by omega
              have n1 : g ≠ gw := by omega
              have n2 : r ≠ gw := by omega
              have hall : ∀ u0 u1, QI ((wc.setCell ⟨gw, 0, none⟩ u0).setCell ⟨gw, 1, none⟩ u1) g r N s ∧ RefRow ((wc.setCell ⟨gw, 0, none⟩ u0).setCell ⟨gw, 1, none⟩ u1) (gw < ·) A' c' s' ∧ Below w.heap.size w ((wc.setCell ⟨gw, 0, none⟩ u0).setCell ⟨gw, 1, none⟩ u1) ∧ Whole ((wc.setCell ⟨gw, 0, none⟩ u0).setCell ⟨gw, 1, none⟩ u1) gw 28 #[u0, u1] := by
                intro u0 u1
                exact ⟨(q4.far n1 n2 _).far n1 n2 _, (rrq.set (p := ⟨gw, 0, none⟩) (by simp) _).set (p := ⟨gw, 1, none⟩) (by simp) _, (B4.setCell (by simp; omega) _).setCell (by simp; omega) _, by simpa using (hw4.set 0 u0).set 1 u1⟩
              have HA := Lib.hid hall
              clear hw0 hw1 hc0 hc1 HB HQ HW HR HR2 hall q4 B4 bq hw4 rrq hwq
              go_wp2_with fail
              obtain ⟨q5, r5, B5, w5⟩ := HA.out (.slice A' s'.length c') (.int .i64 N)
              refine (pushI_b b s' g r N s x _ q5 HB1.out HS1.out).mono ?_
              rintro e w6 ⟨rfl, q6, t6⟩
              have r6 := r5.two t6 (by omega) (by omega)
              have B6 := B5.trans (t6.below hg' hr')
              have w6' := w5.two t6 (Ne.symm n1) (Ne.symm n2)
              have hfin : Same w g r gw N w6 := ⟨A', c', s', w6', r6, q6, B6⟩
              have HF := Lib.hid hfin
              clear hfin HA q5 r5 B5 w5 q6 t6 r6 B6 w6' x0 x1 x2 x3 y0 y1 hx4
              go_wp2_with fail
              go_meet
              exact HF.out
          · have e0 : (kind == 0) = false := by simpa using k0
            have e1 : (kind == 1) = false := by simpa using k1
            by_cases k2 : kind = 2
            · subst k2
              cases s with
              | nil =>
                have hw0' : wo.cell? ⟨gw, 0, none⟩ = some (.slice Aw 0 cw) := hw.cell 0
                have hw1' : wo.cell? ⟨gw, 1, none⟩ = some (.int .i64 N) := hw.cell 1
                clear hw0 hw1
                have HB := Lib.hid B
                have HQ := Lib.hid q
                have HW := Lib.hid hw
                have HR := Lib.hid rw'
                clear B q hw rw' hr
                go_wp2_with fail
                refine (refPop_no Aw cw N (gw < ·) _ HR.out).mono ?_
                rintro e w3 ⟨A3, c3, rfl, rr3, b3⟩
                have n1 : g ≠ gw := by omega
                have n2 : r ≠ gw := by omega
                have hw4 := HW.out.below b3 hgwo
                have q4 := HQ.out.next b3
                have B4 := HB.out.trans (b3.mono zo)
                have z3 := b3.size
                have hgw3 : gw < w3.heap.size := by omega
                have hall : ∀ o u0 u1, QI (((w3.setCell ⟨gw, 0, none⟩ u0).setCell ⟨gw, 1, none⟩ u1).alloc o) g r N [] ∧ RefRow (((w3.setCell ⟨gw, 0, none⟩ u0).setCell ⟨gw, 1, none⟩ u1).alloc o) (gw < ·) A3 c3 [] ∧ Below w.heap.size w (((w3.setCell ⟨gw, 0, none⟩ u0).setCell ⟨gw, 1, none⟩ u1).alloc o) ∧ Whole (((w3.setCell ⟨gw, 0, none⟩ u0).setCell ⟨gw, 1, none⟩ u1).alloc o) gw 28 #[u0, u1] := by
                  intro o u0 u1
                  exact ⟨((q4.far n1 n2 _).far n1 n2 _).alloc o, ((rr3.set (p := ⟨gw, 0, none⟩) (by simp) _).set (p := ⟨gw, 1, none⟩) (by simp) _).next ((Below.refl _ _).alloc (Nat.le_refl _) o), ((B4.setCell (by simp; omega) _).setCell (by simp; omega) _).alloc (by simp; omega) o, by simpa using ((hw4.set 0 u0).set 1 u1).alloc o⟩
                have HA := Lib.hid hall
                have x0 := hw4.cell 0
                have x1 := hw4.cell 1
                have x2 := hw4.free 0
                have x3 := hw4.free 1
                have hne : gw ≠ w3.heap.size := by omega
                clear hw0' hw1' HB HQ HW HR hall q4 B4 hw4 b3 rr3 hc0 hc1
                go_wp2_with fail
                obtain ⟨q5, r5, B5, w5⟩ := HA.out (.cells #[.slice A3 0 c3, .int .i64 N] 28) (.slice A3 0 c3) (.int .i64 N)
                refine (popI_no g r N _ q5).mono ?_
                rintro e w6 ⟨rfl, q6, t6⟩
                have r6 := r5.two t6 (by omega) (by omega)
                have B6 := B5.trans (t6.below hg' hr')
                have w6' := w5.two t6 (Ne.symm n1) (Ne.symm n2)
                have hfin : Same w g r gw N w6 := ⟨A3, c3, [], w6', r6, q6, B6⟩
                have HF := Lib.hid hfin
                clear hfin HA q5 r5 B5 w5 q6 t6 r6 B6 w6' x0 x1 x2 x3
                go_wp2_with fail
                go_meet
                exact HF.out
              | cons y t =>
                have hw0' : wo.cell? ⟨gw, 0, none⟩ = some (.slice Aw (t.length + 1) cw) := hw.cell 0
                have hw1' : wo.cell? ⟨gw, 1, none⟩ = some (.int .i64 N) := hw.cell 1
                clear hw0 hw1
                have HB := Lib.hid B
                have HQ := Lib.hid q
                have HW := Lib.hid hw
                have HR := Lib.hid rw'
                clear B q hw rw' hr
                go_wp2_with fail
                refine (refPop_yes Aw cw t y N (gw < ·) _ HR.out).mono ?_
                rintro e w3 ⟨A3, c3, rfl, rr3, b3⟩
                have n1 : g ≠ gw := by omega
                have n2 : r ≠ gw := by omega
                have hw4 := HW.out.below b3 hgwo
                have q4 := HQ.out.next b3
                have B4 := HB.out.trans (b3.mono zo)
                have z3 := b3.size
                have hgw3 : gw < w3.heap.size := by omega
                have hall : ∀ o u0 u1, QI (((w3.setCell ⟨gw, 0, none⟩ u0).setCell ⟨gw, 1, none⟩ u1).alloc o) g r N (y :: t) ∧ RefRow (((w3.setCell ⟨gw, 0, none⟩ u0).setCell ⟨gw, 1, none⟩ u1).alloc o) (gw < ·) A3 c3 t ∧ Below w.heap.size w (((w3.setCell ⟨gw, 0, none⟩ u0).setCell ⟨gw, 1, none⟩ u1).alloc o) ∧ Whole (((w3.setCell ⟨gw, 0, none⟩ u0).setCell ⟨gw, 1, none⟩ u1).alloc o) gw 28 #[u0, u1] := by
                  intro o u0 u1
                  exact ⟨((q4.far n1 n2 _).far n1 n2 _).alloc o, ((rr3.set (p := ⟨gw, 0, none⟩) (by simp) _).set (p := ⟨gw, 1, none⟩) (by simp) _).next ((Below.refl _ _).alloc (Nat.le_refl _) o), ((B4.setCell (by simp; omega) _).setCell (by simp; omega) _).alloc (by simp; omega) o, by simpa using ((hw4.set 0 u0).set 1 u1).alloc o⟩
                have HA := Lib.hid hall
                have x0 := hw4.cell 0
                have x1 := hw4.cell 1
                have x2 := hw4.free 0
                have x3 := hw4.free 1
                have hne : gw ≠ w3.heap.size := by omega
                clear hw0' hw1' HB HQ HW HR hall q4 B4 hw4 b3 rr3 hc0 hc1
                go_wp2_with fail
                obtain ⟨q5, r5, B5, w5⟩ := HA.out (.cells #[.slice A3 t.length c3, .int .i64 N] 28) (.slice A3 t.length c3) (.int .i64 N)
                refine (popI_yes g r N t y _ q5).mono ?_
                rintro e w6 ⟨rfl, q6, t6⟩
                have r6 := r5.two t6 (by omega) (by omega)
                have B6 := B5.trans (t6.below hg' hr')
                have w6' := w5.two t6 (Ne.symm n1) (Ne.symm n2)
                have hfin : Same w g r gw N w6 := ⟨A3, c3, t, w6', r6, q6, B6⟩
                have HF := Lib.hid hfin
                clear hfin HA q5 r5 B5 w5 q6 t6 r6 B6 w6' x0 x1 x2 x3
                go_wp2_with fail
                go_meet
                exact HF.out
            · have e2 : (kind == 2) = false := by simpa using k2
              cases s with
              | nil =>
                have hw0' : wo.cell? ⟨gw, 0, none⟩ = some (.slice Aw 0 cw) := hw.cell 0
                have hw1' : wo.cell? ⟨gw, 1, none⟩ = some (.int .i64 N) := hw.cell 1
                clear hw0 hw1
                have HB := Lib.hid B
                have HQ := Lib.hid q
                have HW := Lib.hid hw
                have HR := Lib.hid rw'
                clear B q hw rw' hr
                go_wp2_with fail
                refine (refPop_no Aw cw N (gw < ·) _ HR.out).mono ?_
                rintro e w3 ⟨A3, c3, rfl, rr3, b3⟩
                have n1 : g ≠ gw := by omega
                have n2 : r ≠ gw := by omega
                have hw4 := HW.out.below b3 hgwo
                have q4 := HQ.out.next b3
                have B4 := HB.out.trans (b3.mono zo)
                have hall : ∀ o, QI (w3.alloc o) g r N [] ∧ RefRow (w3.alloc o) (gw < ·) Aw cw [] ∧ Below w.heap.size w (w3.alloc o) ∧ Whole (w3.alloc o) gw 28 #[.slice Aw 0 cw, .int .i64 N] := by
                  intro o
                  exact ⟨q4.alloc o, (HR.out.next b3).next ((Below.refl _ _).alloc (Nat.le_refl _) o), B4.alloc (by have := b3.size; omega) o, hw4.alloc o⟩
                have HA := Lib.hid hall
                have x0 := hw4.cell 0
                have x1 := hw4.cell 1
                clear hw0' hw1' HB HQ HW HR hall q4 B4 hw4 b3 rr3 hc0 hc1
                go_wp2_with fail
                obtain ⟨q5, r5, B5, w5⟩ := HA.out (.cells #[.slice A3 0 c3, .int .i64 N] 28)
                refine (peekI_no g r N _ q5).mono ?_
                rintro e w6 ⟨rfl, q6, t6⟩
                have r6 := r5.two t6 (by omega) (by omega)
                have B6 := B5.trans (t6.below hg' hr')
                have w6' := w5.two t6 (Ne.symm n1) (Ne.symm n2)
                have hfin : Same w g r gw N w6 := ⟨Aw, cw, [], w6', r6, q6, B6⟩
                have HF := Lib.hid hfin
                clear hfin HA q5 r5 B5 w5 q6 t6 r6 B6 w6' x0 x1
                go_wp2_with fail
                go_meet
                exact HF.out
              | cons y t =>
                have hw0' : wo.cell? ⟨gw, 0, none⟩ = some (.slice Aw (t.length + 1) cw) := hw.cell 0
                have hw1' : wo.cell? ⟨gw, 1, none⟩ = some (.int .i64 N) := hw.cell 1
                clear hw0 hw1
                have HB := Lib.hid B
                have HQ := Lib.hid q
                have HW := Lib.hid hw
                have HR := Lib.hid rw'
                clear B q hw rw' hr
                go_wp2_with fail
                refine (refPop_yes Aw cw t y N (gw < ·) _ HR.out).mono ?_
                rintro e w3 ⟨A3, c3, rfl, rr3, b3⟩
                have n1 : g ≠ gw := by omega
                have n2 : r ≠ gw := by omega
                have hw4 := HW.out.below b3 hgwo
                have q4 := HQ.out.next b3
                have B4 := HB.out.trans (b3.mono zo)
                have hall : ∀ o, QI (w3.alloc o) g r N (y :: t) ∧ RefRow (w3.alloc o) (gw < ·) Aw cw (y :: t) ∧ Below w.heap.size w (w3.alloc o) ∧ Whole (w3.alloc o) gw 28 #[.slice Aw (t.length + 1) cw, .int .i64 N] := by
                  intro o
                  exact ⟨q4.alloc o, (HR.out.next b3).next ((Below.refl _ _).alloc (Nat.le_refl _) o), B4.alloc (by have := b3.size; omega) o, hw4.alloc o⟩
                have HA := Lib.hid hall
                have x0 := hw4.cell 0
                have x1 := hw4.cell 1
                clear hw0' hw1' HB HQ HW HR hall q4 B4 hw4 b3 rr3 hc0 hc1
                go_wp2_with fail
                obtain ⟨q5, r5, B5, w5⟩ := HA.out (.cells #[.slice A3 t.length c3, .int .i64 N] 28)
                refine (peekI_yes g r N t y _ q5).mono ?_
                rintro e w6 ⟨rfl, q6, t6⟩
                have r6 := r5.two t6 (by omega) (by omega)
                have B6 := B5.trans (t6.below hg' hr')
                have w6' := w5.two t6 (Ne.symm n1) (Ne.symm n2)
                have hfin : Same w g r gw N w6 := ⟨Aw, cw, (y :: t), w6', r6, q6, B6⟩
                have HF := Lib.hid hfin
                clear hfin HA q5 r5 B5 w5 q6 t6 r6 B6 w6' x0 x1
                go_wp2_with fail
                go_meet
                exact HF.out
      case rest =>
        clear hc0 hc1 hw0 hw1 hw rw' q B zo hgwo
        obtain ⟨Aw, cw, s, hw, rw', q, B⟩ := hcut
        go_wp2_with fail
        refine (allI_any g r N s _ q).mono ?_
        rintro e w4 ⟨A4, c4, rfl, own4, b4⟩
        have q4 := q.next b4
        have B4 := bnext B b4
        have hw4 := hw.below b4 hw.lt
        have rr4 := rw'.next b4
        have r4 := Row.of_own own4
        have hsN := q.len.1
        rw [List.length_map] at hsN
        have hx0 := hw4.cell 0
        have hx1 := hw4.cell 1
        obtain ⟨m, hm⟩ : ∃ m, s.length + m = N := ⟨N - s.length, by omega⟩
        have hsub : IntKind.i64.wrap ((N : Int) - (s.length : Int)) = (m : Int) := by rw [IntWalk.i64_in _ (by omega)]; omega
        have HLen : ∀ i, Calls Try.prog 16 #[.pointer (some ⟨g, 0, none⟩)] (w4.drewN i) fun e w' => e = .returned (.int .i64 s.length) ∧ w' = w4.drewN i := fun i => (lenI_any g r N s _ (q4.drewN i)).mono fun e w' h => ⟨h.1, h.2.symm⟩
        have HRoom : ∀ i, Calls Try.prog 17 #[.pointer (some ⟨g, 0, none⟩)] (w4.drewN i) fun e w' => e = .returned (.int .i64 m) ∧ ∃ j, w' = (w4.drewN i).drewN j := by
          intro i
          obtain ⟨f, n, cs, hn, hg, hr, ring, h1, h2⟩ := q4
          rw [List.length_map] at hn
          subst hn
          exact roomI_at g r N s.length m _ (hg.cell 0) (hg.cell 2) hm h2
        have HL := Lib.hid HLen
        have HRm := Lib.hid HRoom
        have HF := Lib.hid (show ∀ i, Same w g r gw N (w4.drewN i) from fun i => ⟨Aw, cw, s, hw4, rr4.drewN i, q4.drewN i, bdrewN B4 i⟩)
        have HR4 := Lib.hid r4
        have HRR := Lib.hid rr4.2.2.1
        clear hw rw' q B b4 q4 B4 hw4 rr4 r4 own4 HLen HRoom hm hr
        go_wp2_with fail
        go_quiet ((first | (go_at_call 16; exact Calls.quiet_of_same (HL.out _)) | (go_at_call 17; exact Calls.quiet_of (HRm.out _))))
        go_wp2_with fail
        go_loopw [22] (fun i wx => ∃ j p : Nat, j ≤ s.length ∧ i = .int .i64 j ∧ wx = w4.drewN p) (fun i _ => s.length - (intOf i).toNat)
        case atStart => exact ⟨0, nq, Nat.zero_le _, rfl, rfl⟩
        case round =>
          clear hsub
          obtain ⟨j, p, hj, rfl, rfl⟩ := hrel
          by_cases hjn : j < s.length
          · obtain ⟨gi, oi, hAi, _, hci⟩ := HR4.out.2 (by omega)
            obtain ⟨go', oo', hAo, _, hco⟩ := HRR.out.2 (by omega)
            subst hAi
            subst hAo
            obtain ⟨u, hu⟩ : ∃ u, s[j]? = some u := ⟨s[j], by simp [hjn]⟩
            have c1' := hci j (.int .i64 u) (by simp [hu])
            have c2' := hco j (.int .i64 u) (by simp [hu])
            have hi1 : (0 : Int) ≤ (j : Int) := by omega
            have hi2 : (j : Int) < (s.length : Int) := by omega
            clear hci hco hu
            go_wp2_with fail
            go_quiet (fail)
            go_wp2_with fail
            go_roundw
            case rel => exact ⟨j + 1, _, hjn, by go_num, rfl⟩
            case measure => simp [intOf]; omega
          · have hi2 : ¬ (j : Int) < (s.length : Int) := by omega
            have H := Lib.hid (HF.out p)
            clear HF HR4 HRR HL HRm hx0 hx1
            go_wp2_with fail
            go_roundw
            case rel => exact ⟨k + 1, hkl, by go_num, H.out⟩
            case measure => simp [intOf]; omega
    · clear hr rw' q
      have H := Lib.hid B
      clear B hw
      go_wp2
      go_ret
      exact ⟨rfl, H.out⟩

set_option maxRecDepth 100000 in
theorem lifted (os : Os) (started : os.Started) (H : Type) (enc : TypeId × Value → H) :
    ReturnsInHanded {} Try.checked os 3 .any (Rows.queuePlaysSpec.pre6 enc Try.prog Try.f3 Rows.queuePlaysRow.domain false) (Rows.queuePlaysSpec.post enc Try.prog Try.f3 false true false false) := by
  refine returnsInHanded_of_change (C := Try.checked) own started (by kernel_rfl) Try.func3
    (ChangeSpec.witness6 (enc := enc) (C := Try.checked) false ⟨#[], #[.int .u8 0, .slice none 0 0], []⟩ 8 (by kernel_rfl) (by kernel_rfl) (by kernel_rfl) (by kernel_rfl)) ?_
  intro W base args ds gs before hval0 hW _ _
  have hval : ∀ (j : Nat) t v, Try.f3.params[j]? = some t → args[j]? = some v → Value.okWide Try.prog W .any base t v := hval0
  have hW' := hW
  obtain ⟨p, q, hA0, hV, _, _, _⟩ := hW
  have hA : DataW.TrodAll enc Try.prog W 0 (fun _ => true) true Try.f3.params.toList args.toList ds p := hA0
  rw [Try.params3] at hA hval
  obtain ⟨v0, vs0, d0, ds0, p0, q0, hargs, rfl, _, h0, r0⟩ := trodAll_cons hA
  obtain ⟨v1, vs1, d1, ds1, p1, q1, rfl, rfl, _, h1, r1⟩ := trodAll_cons r0
  obtain ⟨rfl, rfl, _⟩ := trodAll_nil r1
  obtain rfl : args = #[v0, v1] := by cases args; simp_all
  obtain ⟨rfl, _⟩ := trodVars_none hV
  refine law_post (s := Rows.queuePlaysSpec) rfl rfl (by rw [Try.params3]; intro t ht; simp at ht; rcases ht with rfl | rfl <;> exact ⟨by kernel_rfl, of_decide_eq_true (by kernel_rfl)⟩) rfl hW' ?_
  obtain ⟨a0, rfl, _, _, w0⟩ := open_int Try.underlying5 (hval 0 5 v0 rfl rfl) h0
  obtain ⟨A1, c1, l1, rfl, hl1, hr1⟩ := open_acts (hval 1 22 v1 rfl rfl) h1
  exact walk W a0 w0 A1 c1 l1 hl1 hr1

theorem over : Rows.queuePlaysRow.holds Try.pinned (OpenSpec.ofChange Rows.queuePlaysSpec) :=
  OpenClaim.holds_of_wide 3 Try.f3 rfl rfl rfl rfl rfl rfl rfl ⟨rfl, rfl, rfl, rfl, rfl⟩ rfl rfl rfl rfl rfl (by kernel_rfl) Try.func3 (by kernel_rfl)
    (of_decide_eq_true (by kernel_rfl)) (by unfold Func.isWrapper; first | (rw [if_pos (by decide +kernel)]; kernel_rfl) | (rw [if_neg (by decide +kernel)]; exact ⟨rfl, rfl⟩))
    (fun os started H enc _ => lifted os started H enc)

/-- The statement. -/
theorem queuePlays_holds : Rows.QueuePlaysSaid := over
end Go.Proofs.Ytigimpnghecdiaa.Plays
