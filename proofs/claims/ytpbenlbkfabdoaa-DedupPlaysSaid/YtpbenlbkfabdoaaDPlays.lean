/-
  Proved: DedupPlays returns true for every room and every list of acts: whatever is started and answered, what is told, and what is found, are the document's, step by step. Conditions: none.
-/
import Derived.Test.YtpbenlbkfabdoaaDedS
import Derived.Deep.CutBlock
namespace Go.Proofs.Ytpbenlbkfabdoaa.DPlays
open Go.ChangeShapes Go.WideShapes Go.ChangeAt Go.RowKit

theorem keepw {w w' : World} {B gw : Nat} {u v : Value} (b : Below B w w') (h : gw < B) (h0 : w.cell? ⟨gw, 0, none⟩ = some u) (h1 : w.cell? ⟨gw, 1, none⟩ = some v) : w'.cell? ⟨gw, 0, none⟩ = some u ∧ w'.cell? ⟨gw, 1, none⟩ = some v ∧ Below B w w' :=
  ⟨(b.cell (p := ⟨gw, 0, none⟩) h).trans h0, (b.cell (p := ⟨gw, 1, none⟩) h).trans h1, b⟩

/-- What the walk keeps: the table and the document's row hold the same requests. -/
def Same (w0 : World) (g m r gw N : Nat) (wx : World) : Prop :=
  ∃ A c s, Whole wx gw 28 #[.slice A s.length c, .int .i64 N] ∧ RefE wx (gw < ·) A c s ∧ DAt wx g m r N s ∧ Below w0.heap.size w0 wx

set_option maxRecDepth 100000 in
set_option maxHeartbeats 3200000 in
theorem walk (w : World) (a : Int) (ha : (Lit.int .u8 a).wf = true) (A : Option Addr) (c : Nat) (l : List Deed) (hl : l.length ≤ maxLen) (hr : Row w w.heap.size 3 A l.length (deedC l)) (hq : ∀ x ∈ l, (Lit.int .u64 x.id).wf = true) :
    Calls Try.prog 3 #[.int .u8 a, .slice A l.length c] w fun e w' => e = .returned (.bool true) ∧ Below w.heap.size w w' := by
  unfold maxLen at hl
  have ha' := wf_u8 ha
  clear ha
  by_cases hlong : 200 < l.length
  · go_enter Try.func3, Try.ntmps3
    go_wp2_with (go_at_call 8; refine (awake_any w).mono ?_; rintro e w1 ⟨rfl, b1⟩)
    go_ret
    exact ⟨rfl, b1⟩
  obtain ⟨N, hN⟩ : ∃ N : Nat, a % 6 + 1 = (N : Int) := ⟨(a % 6 + 1).toNat, by omega⟩
  have hN1 : 1 ≤ N := by omega
  have hN2 : N ≤ 6 := by omega
  go_enter Try.func3, Try.ntmps3
  go_wp2_with fail
  refine (awake_any w).mono ?_
  rintro e w1 ⟨rfl, b1⟩
  go_wp2_with fail
  refine (new_any N _ hN1 (by omega)).mono ?_
  rintro e w2 ⟨g, m, r, rfl, d2, hg, hm, hr2, b2⟩
  have hg' : w.heap.size ≤ g := Nat.le_trans b1.size hg
  have hm' : w.heap.size ≤ m := Nat.le_trans b1.size hm
  have hr' : w.heap.size ≤ r := Nat.le_trans b1.size hr2
  have B2 := bnext b1 b2
  have hlt := d2.lt
  have HS := Lib.hid (show ∀ k, k < w.heap.size → ¬ (k = g ∨ k = m ∨ k = r) by intro k hk; omega)
  clear b1 b2 hg hm hr2
  go_wp2_with fail
  have hw3 := Whole.new w2 28 #[.slice none 0 0, .int .i64 N]
  obtain ⟨gw, hgw⟩ : ∃ gw, w2.heap.size = gw := ⟨_, rfl⟩
  have d3 := d2.alloc (.cells #[.slice none 0 0, .int .i64 N] 28)
  have B3 := B2.alloc B2.size (.cells #[.slice none 0 0, .int .i64 N] 28)
  have hgw' : w.heap.size ≤ gw := by have := B2.size; omega
  rw [hgw] at hw3 hlt ⊢
  generalize w2.alloc (.cells #[.slice none 0 0, .int .i64 N] 28) = w3 at hw3 d3 B3 ⊢
  have hat : Same w g m r gw N w3 := ⟨none, 0, [], hw3, ⟨Nat.le_refl _, by decide, Row.nil, by simp⟩, d3, B3⟩
  clear hgw d2 B2 hN hw3 d3 B3
  go_loopw [8] (fun i wx => ∃ k : Nat, k ≤ l.length ∧ i = .int .i64 k ∧ Same w g m r gw N wx) (fun i _ => l.length - (intOf i).toNat)
  case atStart => exact ⟨0, Nat.zero_le _, rfl, hat⟩
  case round =>
    clear hat
    obtain ⟨k, hk, rfl, Aw, cw, s, hw, rw', d, B⟩ := hrel
    by_cases hkl : k < l.length
    · have HR := Lib.hid hr
      have HQ := Lib.hid hq
      obtain ⟨gs, o, hA, hgs, hc0, hc1, hc2⟩ := deed_cells hr B k hkl
      subst hA
      have hwf := hq l[k] (by simp)
      generalize l[k] = p at hc0 hc1 hc2 hwf
      obtain ⟨wo, rfl⟩ : ∃ wo : World, wo = wr := ⟨_, rfl⟩
      have zo := B.size
      have hi1 : (0 : Int) ≤ (k : Int) := by omega
      have hi2 : (k : Int) < (l.length : Int) := by omega
      have hlen := d.len
      have hap := d.apart
      have hgwo := hw.lt
      have hsl : s.length ≤ 4096 := by omega
      clear hr hq
      obtain ⟨fin, id, ans⟩ := p
      dsimp only at hc0 hc1 hc2 hwf
      go_upto_if 48 with fail
      go_cut [] (fun wx => Same w g m r gw N wx)
      case first =>
        have hw1 := hw.alloc (.cells #[.bool fin, .int .u64 id, .string ans] 31)
        have ha1 := Whole.new wo 31 #[.bool fin, .int .u64 id, .string ans]
        have b1 := (Below.refl wo.heap.size wo).alloc (Nat.le_refl _) (.cells #[.bool fin, .int .u64 id, .string ans] 31)
        have rr1 := rw'.next b1
        have d1 := d.alloc (.cells #[.bool fin, .int .u64 id, .string ans] 31)
        have B1 := bnext B b1
        have x0 := hw1.cell 0
        have x1 := hw1.cell 1
        have y0 := ha1.cell 0
        have y1 := ha1.cell 1
        have y2 := ha1.cell 2
        have hz1 : (wo.alloc (.cells #[.bool fin, .int .u64 id, .string ans] 31)).heap.size = wo.heap.size + 1 := by simp
        generalize wo.alloc (.cells #[.bool fin, .int .u64 id, .string ans] 31) = w1 at hw1 ha1 b1 rr1 d1 B1 x0 x1 y0 y1 y2 hz1 ⊢
        cases fin with
        | true =>
          obtain ⟨cc, s', hcs⟩ : ∃ cc s', endL s id ans = (cc, s') := ⟨_, _, rfl⟩
          have C1 := refEnd_any Aw cw s N id ans (gw < ·) w1 rr1 hap hsl (fun b hb => by omega)
          rw [hcs] at C1
          have C2 : ∀ w', DAt w' g m r N s → Calls Try.prog 11 #[.pointer (some ⟨g, 0, none⟩), .int .u64 id, .string ans] w' (Leaves g m r N cc s' w') := by
            intro w' h
            have := end_any g m r N s id hwf ans w' h
            rw [hcs] at this
            exact this
          have H1 := Lib.hid C1
          have H2 := Lib.hid C2
          have HW := Lib.hid hw1
          have HA := Lib.hid ha1
          have HD := Lib.hid d1
          have HB := Lib.hid B1
          clear C1 C2 hcs hw1 ha1 d1 B1 b1 rr1 hw rw' d B hap hwf hc0 hc1 hc2
          go_wp2_with fail
          refine H1.out.mono ?_
          rintro e w4 ⟨A4, c4, rfl, rr4, b4⟩
          have hw4 := HW.out.below b4 HW.out.lt
          have ha4 := HA.out.below b4 HA.out.lt
          have d4 := HD.out.next b4
          have B4 := bnext HB.out b4
          have z4 : wo.heap.size + 1 ≤ w4.heap.size := by have := b4.size; omega
          have hgw4 : gw < w4.heap.size := by omega
          have hwo4 : wo.heap.size < w4.heap.size := by omega
          have n1 : g ≠ gw := by omega
          have n2 : m ≠ gw := by omega
          have n3 : r ≠ gw := by omega
          have n4 : wo.heap.size ≠ gw := by omega
          have n5 : gw ≠ wo.heap.size := by omega
          have n6 : gw ≠ w4.heap.size := by omega
          have n7 : wo.heap.size ≠ w4.heap.size := by omega
          clear x0 x1 y0 y1 y2
          have x0 := hw4.cell 0
          have x1 := hw4.cell 1
          have x2 := hw4.free 0
          have x3 := hw4.free 1
          have y1 := ha4.cell 1
          have y2 := ha4.cell 2
          have hall : ∀ o u0 u1, DAt (((w4.setCell ⟨gw, 0, none⟩ u0).setCell ⟨gw, 1, none⟩ u1).alloc o) g m r N s ∧ RefE (((w4.setCell ⟨gw, 0, none⟩ u0).setCell ⟨gw, 1, none⟩ u1).alloc o) (gw < ·) A4 c4 s' ∧ Below w.heap.size w (((w4.setCell ⟨gw, 0, none⟩ u0).setCell ⟨gw, 1, none⟩ u1).alloc o) ∧ Whole (((w4.setCell ⟨gw, 0, none⟩ u0).setCell ⟨gw, 1, none⟩ u1).alloc o) gw 28 #[u0, u1] := by
            intro o u0 u1
            exact ⟨((d4.set (p := ⟨gw, 0, none⟩) n1 n2 n3 _).set (p := ⟨gw, 1, none⟩) n1 n2 n3 _).alloc o, ((rr4.set (p := ⟨gw, 0, none⟩) (by simp) _).set (p := ⟨gw, 1, none⟩) (by simp) _).next ((Below.refl _ _).alloc (Nat.le_refl _) o), ((B4.setCell (by simp; omega) _).setCell (by simp; omega) _).alloc (by simp; omega) o, by simpa using ((hw4.set 0 u0).set 1 u1).alloc o⟩
          have HL := Lib.hid hall
          clear hall H1 HW HA HD HB rr4 b4 hw4 ha4 d4 B4 hz1
          go_wp2_with fail
          obtain ⟨d5, r5, B5, w5⟩ := HL.out (.cells #[.slice A4 s'.length c4, .int .i64 N] 28) (.slice A4 s'.length c4) (.int .i64 N)
          refine (H2.out _ d5).mono ?_
          rintro e w6 ⟨rfl, d6, b6⟩
          have r6 := r5.but b6 (by intro i hi; omega)
          have B6 := B5.trans (b6.below B5.size HS.out)
          have w6' := w5.but b6 (by omega)
          have HF := Lib.hid (show Same w g m r gw N w6 from ⟨A4, c4, s', w6', r6, d6, B6⟩)
          clear H2 HL d5 r5 B5 w5 d6 b6 r6 B6 w6' x0 x1 x2 x3 y1 y2
          go_wp2_with fail
          go_meet
          exact HF.out
        | false =>
          obtain ⟨cc, s', hcs⟩ : ∃ cc s', startL N s id = (cc, s') := ⟨_, _, rfl⟩
          have C1 := refStart_any Aw cw s N id (gw < ·) w1 rr1 hsl hN1 hlen.1 (fun b hb => by omega)
          rw [hcs] at C1
          have C2 : ∀ w', DAt w' g m r N s → Calls Try.prog 13 #[.pointer (some ⟨g, 0, none⟩), .int .u64 id] w' (Leaves g m r N cc s' w') := by
            intro w' h
            have := start_any g m r N s id hwf w' h
            rw [hcs] at this
            exact this
          have H1 := Lib.hid C1
          have H2 := Lib.hid C2
          have HW := Lib.hid hw1
          have HA := Lib.hid ha1
          have HD := Lib.hid d1
          have HB := Lib.hid B1
          clear C1 C2 hcs hw1 ha1 d1 B1 b1 rr1 hw rw' d B hap hwf hc0 hc1 hc2
          go_wp2_with fail
          refine H1.out.mono ?_
          rintro e w4 ⟨A4, c4, rfl, rr4, b4⟩
          have hw4 := HW.out.below b4 HW.out.lt
          have ha4 := HA.out.below b4 HA.out.lt
          have d4 := HD.out.next b4
          have B4 := bnext HB.out b4
          have z4 : wo.heap.size + 1 ≤ w4.heap.size := by have := b4.size; omega
          have hgw4 : gw < w4.heap.size := by omega
          have hwo4 : wo.heap.size < w4.heap.size := by omega
          have n1 : g ≠ gw := by omega
          have n2 : m ≠ gw := by omega
          have n3 : r ≠ gw := by omega
          have n4 : wo.heap.size ≠ gw := by omega
          have n5 : gw ≠ wo.heap.size := by omega
          have n6 : gw ≠ w4.heap.size := by omega
          have n7 : wo.heap.size ≠ w4.heap.size := by omega
          clear x0 x1 y0 y1 y2
          have x0 := hw4.cell 0
          have x1 := hw4.cell 1
          have x2 := hw4.free 0
          have x3 := hw4.free 1
          have y1 := ha4.cell 1
          have hall : ∀ o u0 u1, DAt (((w4.setCell ⟨gw, 0, none⟩ u0).setCell ⟨gw, 1, none⟩ u1).alloc o) g m r N s ∧ RefE (((w4.setCell ⟨gw, 0, none⟩ u0).setCell ⟨gw, 1, none⟩ u1).alloc o) (gw < ·) A4 c4 s' ∧ Below w.heap.size w (((w4.setCell ⟨gw, 0, none⟩ u0).setCell ⟨gw, 1, none⟩ u1).alloc o) ∧ Whole (((w4.setCell ⟨gw, 0, none⟩ u0).setCell ⟨gw, 1, none⟩ u1).alloc o) gw 28 #[u0, u1] := by
            intro o u0 u1
            exact ⟨((d4.set (p := ⟨gw, 0, none⟩) n1 n2 n3 _).set (p := ⟨gw, 1, none⟩) n1 n2 n3 _).alloc o, ((rr4.set (p := ⟨gw, 0, none⟩) (by simp) _).set (p := ⟨gw, 1, none⟩) (by simp) _).next ((Below.refl _ _).alloc (Nat.le_refl _) o), ((B4.setCell (by simp; omega) _).setCell (by simp; omega) _).alloc (by simp; omega) o, by simpa using ((hw4.set 0 u0).set 1 u1).alloc o⟩
          have HL := Lib.hid hall
          clear hall H1 HW HA HD HB rr4 b4 hw4 ha4 d4 B4 hz1
          go_wp2_with fail
          obtain ⟨d5, r5, B5, w5⟩ := HL.out (.cells #[.slice A4 s'.length c4, .int .i64 N] 28) (.slice A4 s'.length c4) (.int .i64 N)
          refine (H2.out _ d5).mono ?_
          rintro e w6 ⟨rfl, d6, b6⟩
          have r6 := r5.but b6 (by intro i hi; omega)
          have B6 := B5.trans (b6.below B5.size HS.out)
          have w6' := w5.but b6 (by omega)
          have HF := Lib.hid (show Same w g m r gw N w6 from ⟨A4, c4, s', w6', r6, d6, B6⟩)
          clear H2 HL d5 r5 B5 w5 d6 b6 r6 B6 w6' x0 x1 x2 x3 y1
          go_wp2_with fail
          go_meet
          exact HF.out
      case rest =>
        clear hw rw' d B hap hwf hc0 hc1 hc2 hlen hsl hgwo zo
        have hsame := hcut
        clear hcut
        go_wp2_with fail
        go_loopw [14] (fun i wx => ∃ jj : Nat, jj ≤ k + 1 ∧ i = .int .i64 jj ∧ Same w g m r gw N wx) (fun i _ => k + 1 - (intOf i).toNat)
        case atStart => exact ⟨0, Nat.zero_le _, rfl, hsame⟩
        case round =>
          clear hsame
          obtain ⟨jj, hj, rfl, Aw, cw, s, hw, rw', d, B⟩ := hrel
          obtain ⟨wo, rfl⟩ : ∃ wo : World, wo = wr := ⟨_, rfl⟩
          have zo := B.size
          by_cases hjk : jj ≤ k
          · obtain ⟨gs', o', hA, hgs', _, hc1, _⟩ := deed_cells HR.out B jj (by omega)
            have hqw := HQ.out l[jj] (by simp)
            obtain ⟨rfl, rfl⟩ : gs = gs' ∧ o = o' := by injection hA with hA; injection hA with h1 h2; exact ⟨h1, h2⟩
            generalize l[jj] = p at hc1 hqw
            obtain ⟨_, q, _⟩ := p
            dsimp only at hc1 hqw
            have hj1 : (0 : Int) ≤ (jj : Int) := by omega
            have hj2 : (jj : Int) < (l.length : Int) := by omega
            have hj3 : (jj : Int) ≤ (k : Int) := by omega
            clear hA
            cases hf : fnd s q with
            | none =>
              have C1 : ∀ w', DAt w' g m r N s → Calls Try.prog 14 #[.pointer (some ⟨g, 0, none⟩), .int .u64 q] w' fun e w'' => e = .returned (.tuple #[.string ⟨#[]⟩, .bool false, .bool false]) ∧ Below w'.heap.size w' w'' := by
                intro w' h
                have := find_any g m r N s q hqw w' h
                rw [hf] at this
                exact this
              have C2 : ∀ w', RefE w' (gw < ·) Aw cw s → Calls Try.prog 15 #[.agg #[.slice Aw s.length cw, .int .i64 N], .int .u64 q] w' fun e w'' => e = .returned (.tuple #[.string ⟨#[]⟩, .bool false, .bool false]) ∧ Below w'.heap.size w' w'' := by
                intro w' h
                have := refFind_any Aw cw s N q (gw < ·) w' h
                unfold Tells at this
                rw [hf] at this
                exact this
              have H1 := Lib.hid C1
              have H2 := Lib.hid C2
              clear C1 C2 hf hqw
              have HW := Lib.hid hw
              have HE := Lib.hid rw'
              have HD := Lib.hid d
              have HB := Lib.hid B
              clear hw rw' d B
              go_wp2_with fail
              refine (H1.out _ HD.out).mono ?_
              rintro e w5 ⟨rfl, b5⟩
              have hw5 := HW.out.below b5 HW.out.lt
              have hc5 := (b5.cell (p := ⟨gs, o + jj * 3 + 1, none⟩) (by show gs < wo.heap.size; omega)).trans hc1
              have x0 := hw5.cell 0
              have x1 := hw5.cell 1
              have B5 := bnext HB.out b5
              have HD5 := Lib.hid (HD.out.next b5)
              have HE5 := Lib.hid (show RefE w5.drew (gw < ·) Aw cw s from HE.out.next b5.drew)
              have hz5 : gs < w5.heap.size := by have := b5.size; omega
              have hz6 : gw < w5.heap.size := hw5.lt
              have HW5 := Lib.hid hw5
              have HB5 := Lib.hid B5
              have HEE := Lib.hid (HE.out.next b5)
              clear hw5 b5 B5 HW HE HD HB H1 hc1
              go_wp2_with fail
              go_region_held3 (fun w' => w'.cell? ⟨gw, 0, none⟩ = some (.slice Aw s.length cw) ∧ w'.cell? ⟨gw, 1, none⟩ = some (.int .i64 N) ∧ w'.cell? ⟨gs, o + jj * 3 + 1, none⟩ = some (.int .u64 q))
                (first | go_keep | exact ⟨x0, x1, hc5⟩ | exact ⟨(b7.cell (p := ⟨gw, 0, none⟩) hz6).trans x0, (b7.cell (p := ⟨gw, 1, none⟩) hz6).trans x1, (b7.cell (p := ⟨gs, o + jj * 3 + 1, none⟩) hz5).trans hc5⟩)
                ((go_at_call 15; refine (H2.out _ HE5.out).mono ?_; rintro e w7 ⟨rfl, b7⟩))
              have b7' : Below w5.heap.size w5 w7 := (Below.refl w5.heap.size w5).drew.trans b7
              have HF := Lib.hid (show Same w g m r gw N w7 from ⟨Aw, cw, s, HW5.out.below b7' HW5.out.lt, HEE.out.next b7', HD5.out.next b7', bnext HB5.out b7'⟩)
              clear b7 b7' HW5 HEE HD5 HB5 HE5 H2 x0 x1 hc5 hz5 hz6
              go_wp2
              go_roundw
              case rel => exact ⟨jj + 1, by omega, by go_num, HF.out⟩
              case measure => simp [intOf]; omega
            | some x =>
              have C1 : ∀ w', DAt w' g m r N s → Calls Try.prog 14 #[.pointer (some ⟨g, 0, none⟩), .int .u64 q] w' fun e w'' => e = .returned (.tuple #[.string x.ans, .bool x.done, .bool true]) ∧ Below w'.heap.size w' w'' := by
                intro w' h
                have := find_any g m r N s q hqw w' h
                rw [hf] at this
                exact this
              have C2 : ∀ w', RefE w' (gw < ·) Aw cw s → Calls Try.prog 15 #[.agg #[.slice Aw s.length cw, .int .i64 N], .int .u64 q] w' fun e w'' => e = .returned (.tuple #[.string x.ans, .bool x.done, .bool true]) ∧ Below w'.heap.size w' w'' := by
                intro w' h
                have := refFind_any Aw cw s N q (gw < ·) w' h
                unfold Tells at this
                rw [hf] at this
                exact this
              have H1 := Lib.hid C1
              have H2 := Lib.hid C2
              clear C1 C2 hf hqw
              have HW := Lib.hid hw
              have HE := Lib.hid rw'
              have HD := Lib.hid d
              have HB := Lib.hid B
              clear hw rw' d B
              go_wp2_with fail
              refine (H1.out _ HD.out).mono ?_
              rintro e w5 ⟨rfl, b5⟩
              have hw5 := HW.out.below b5 HW.out.lt
              have hc5 := (b5.cell (p := ⟨gs, o + jj * 3 + 1, none⟩) (by show gs < wo.heap.size; omega)).trans hc1
              have x0 := hw5.cell 0
              have x1 := hw5.cell 1
              have B5 := bnext HB.out b5
              have HD5 := Lib.hid (HD.out.next b5)
              have HE5 := Lib.hid (show RefE w5.drew (gw < ·) Aw cw s from HE.out.next b5.drew)
              have hz5 : gs < w5.heap.size := by have := b5.size; omega
              have hz6 : gw < w5.heap.size := hw5.lt
              have HW5 := Lib.hid hw5
              have HB5 := Lib.hid B5
              have HEE := Lib.hid (HE.out.next b5)
              clear hw5 b5 B5 HW HE HD HB H1 hc1
              go_wp2_with fail
              go_region_held3 (fun w' => w'.cell? ⟨gw, 0, none⟩ = some (.slice Aw s.length cw) ∧ w'.cell? ⟨gw, 1, none⟩ = some (.int .i64 N) ∧ w'.cell? ⟨gs, o + jj * 3 + 1, none⟩ = some (.int .u64 q))
                (first | go_keep | exact ⟨x0, x1, hc5⟩ | exact ⟨(b7.cell (p := ⟨gw, 0, none⟩) hz6).trans x0, (b7.cell (p := ⟨gw, 1, none⟩) hz6).trans x1, (b7.cell (p := ⟨gs, o + jj * 3 + 1, none⟩) hz5).trans hc5⟩)
                ((go_at_call 15; refine (H2.out _ HE5.out).mono ?_; rintro e w7 ⟨rfl, b7⟩))
              have b7' : Below w5.heap.size w5 w7 := (Below.refl w5.heap.size w5).drew.trans b7
              have HF := Lib.hid (show Same w g m r gw N w7 from ⟨Aw, cw, s, HW5.out.below b7' HW5.out.lt, HEE.out.next b7', HD5.out.next b7', bnext HB5.out b7'⟩)
              clear b7 b7' HW5 HEE HD5 HB5 HE5 H2 x0 x1 hc5 hz5 hz6
              go_wp2
              go_roundw
              case rel => exact ⟨jj + 1, by omega, by go_num, HF.out⟩
              case measure => simp [intOf]; omega
          · have hj3 : ¬ (jj : Int) ≤ (k : Int) := by omega
            have hw0 := hw.cell 0
            have hw1 := hw.cell 1
            have C1 : ∀ w', Below wo.heap.size wo w' → Calls Try.prog 16 #[.pointer (some ⟨g, 0, none⟩)] w' fun e w'' => e = .returned (.int .i64 s.length) ∧ w' = w'' := fun w' h => len_any g m r N s w' (d.next h)
            have C2 : ∀ w', Below wo.heap.size wo w' → Calls Try.prog 17 #[.pointer (some ⟨g, 0, none⟩)] w' fun e w'' => e = .returned (.int .i64 (waits s : Nat)) ∧ w' = w'' := fun w' h => waits_any g m r N s w' (d.next h)
            have C3 : ∀ w', Below wo.heap.size wo w' → Calls Try.prog 18 #[.agg #[.slice Aw s.length cw, .int .i64 N]] w' fun e w'' => e = .returned (.int .i64 (waits s : Nat)) ∧ Below wo.heap.size wo w'' := fun w' h => (refWaits_any Aw cw s N (gw < ·) w' (rw'.next h)).mono fun e w'' hh => ⟨hh.1, bnext h hh.2⟩
            have hgwo := hw.lt
            have HF := Lib.hid (show ∀ w', Below wo.heap.size wo w' → Same w g m r gw N w' from fun w' h => ⟨Aw, cw, s, hw.below h hw.lt, rw'.next h, d.next h, bnext B h⟩)
            have H1 := Lib.hid C1
            have H2 := Lib.hid C2
            have H3 := Lib.hid C3
            clear C1 C2 C3 hw rw' d B
            go_wp2_with fail
            go_region_held3 (fun w' => w'.cell? ⟨gw, 0, none⟩ = some (.slice Aw s.length cw) ∧ w'.cell? ⟨gw, 1, none⟩ = some (.int .i64 N) ∧ Below wo.heap.size wo w')
              (first | exact ⟨hw0, hw1, (Below.refl _ _).drew⟩ | exact keepw b9 hgwo hw0 hw1 | exact ‹_ ∧ _ ∧ Below _ _ _› | go_keep)
              (first
                | (go_at_call 16; refine (H1.out _ ?_).mono ?_; (exact (‹_ ∧ _ ∧ Below _ _ _›).2.2); rintro e w8 ⟨rfl, rfl⟩)
                | (go_at_call 17; refine (H2.out _ ?_).mono ?_; (exact (‹_ ∧ _ ∧ Below _ _ _›).2.2); rintro e w8 ⟨rfl, rfl⟩)
                | (go_at_call 18; refine (H3.out _ ?_).mono ?_; (exact (‹_ ∧ _ ∧ Below _ _ _›).2.2); rintro e w9 ⟨rfl, b9⟩))
            have H9 := Lib.hid (HF.out _ b9)
            clear b9 HF H1 H2 H3 hw0 hw1
            go_wp2
            go_roundw
            case rel => exact ⟨k + 1, hkl, by go_num, H9.out⟩
            case measure => simp [intOf]; omega
    · have H := Lib.hid B
      clear B d hr hq hw rw'
      go_wp2
      go_ret
      exact ⟨rfl, H.out⟩

set_option maxRecDepth 100000 in
theorem lifted (os : Os) (started : os.Started) (H : Type) (enc : TypeId × Value → H) :
    ReturnsInHanded {} Try.checked os 3 .any (Rows.dedupPlaysSpec.pre6 enc Try.prog Try.f3 Rows.dedupPlaysRow.domain false) (Rows.dedupPlaysSpec.post enc Try.prog Try.f3 false true false false) := by
  refine returnsInHanded_of_change (C := Try.checked) own started (by kernel_rfl) Try.func3
    (ChangeSpec.witness6 (enc := enc) (C := Try.checked) false ⟨#[], #[.int .u8 0, .slice none 0 0], []⟩ 8 (by kernel_rfl) (by kernel_rfl) (by kernel_rfl) (by kernel_rfl)) ?_
  intro W base args ds gs before hval0 hW _ _
  have hval : ∀ (j : Nat) t v, Try.f3.params[j]? = some t → args[j]? = some v → Value.okWide Try.prog W .any base t v := hval0
  have hW' := hW
  obtain ⟨p, q, hA0, hV, _, _, _⟩ := hW
  have hA : DataW.TrodAll enc Try.prog W 0 (fun _ => true) true Try.f3.params.toList args.toList ds p := hA0
  rw [Try.params3] at hA hval
  obtain ⟨v0, vs0, d0, ds0, p0, q0, hargs, rfl, _, h0, r0⟩ := trodAll_cons hA
  obtain ⟨v1, vs1, d1, ds1, p1, q1, rfl, rfl, _, h1, r1⟩ := trodAll_cons r0
  obtain ⟨rfl, rfl, _⟩ := trodAll_nil r1
  obtain rfl : args = #[v0, v1] := by cases args; simp_all
  obtain ⟨rfl, _⟩ := trodVars_none hV
  refine law_post (s := Rows.dedupPlaysSpec) rfl rfl (by rw [Try.params3]; intro t ht; simp at ht; rcases ht with rfl | rfl <;> exact ⟨by kernel_rfl, of_decide_eq_true (by kernel_rfl)⟩) rfl hW' ?_
  obtain ⟨a0, rfl, _, _, w0⟩ := open_int Try.underlying5 (hval 0 5 v0 rfl rfl) h0
  obtain ⟨A1, c1, l1, rfl, hl1, hr1, hq1⟩ := open_deeds (hval 1 22 v1 rfl rfl) h1
  exact walk W a0 w0 A1 c1 l1 hl1 hr1 hq1

theorem over : Rows.dedupPlaysRow.holds Try.pinned (OpenSpec.ofChange Rows.dedupPlaysSpec) :=
  OpenClaim.holds_of_wide 3 Try.f3 rfl rfl rfl rfl rfl rfl rfl ⟨rfl, rfl, rfl, rfl, rfl⟩ rfl rfl rfl rfl rfl (by kernel_rfl) Try.func3 (by kernel_rfl)
    (of_decide_eq_true (by kernel_rfl)) (by unfold Func.isWrapper; first | (rw [if_pos (by decide +kernel)]; kernel_rfl) | (rw [if_neg (by decide +kernel)]; exact ⟨rfl, rfl⟩))
    (fun os started H enc _ => lifted os started H enc)

/-- The statement. -/
theorem dedupPlays_holds : Rows.DedupPlaysSaid := over
end Go.Proofs.Ytpbenlbkfabdoaa.DPlays
