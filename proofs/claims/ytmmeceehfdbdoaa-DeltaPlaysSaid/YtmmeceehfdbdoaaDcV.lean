/-
  Package delta: New, Gone, as the laws want them.
-/
import Derived.Test.YtmmeceehfdbdoaaDcY
import Derived.Test.YtmmeceehfdbdoaaDeF
import Derived.Test.YtmmeceehfdbdoaaDeG
import Derived.Test.YtmmeceehfdbdoaaDeM
namespace Go.Proofs.Ytmmeceehfdbdoaa
open Go.RowKit
open Dl
set_option linter.unusedSimpArgs false
set_option linter.unusedVariables false
set_option maxRecDepth 100000

/-- A state without anybody. -/
def zeroM (c : Cf) : Sm := ⟨⟨c, [], [], []⟩, [], none, 0, none, 0, none, 0⟩
theorem zero_sat (P : Nat → Prop) {c : Cf} (h : confL c = true) (w : World) : SAt P w (zeroM c) :=
  ⟨Row.nil, ⟨Row.nil, fun x hx => by cases hx⟩, Row.nil, rfl, inv_new h, ⟨fun h => by simp [zeroM] at h, .inl ⟨rfl, rfl⟩, Nat.le_refl _, by simp [zeroM]⟩, ⟨fun h => by simp [zeroM] at h, .inl ⟨rfl, rfl⟩, Nat.le_refl _, by simp [zeroM]⟩, ⟨fun h => by simp [zeroM] at h, .inl ⟨rfl, rfl⟩, Nat.le_refl _, by simp [zeroM]⟩, fun x hx => by cases hx⟩
set_option maxHeartbeats 12800000 in
theorem cnew_any (c : Cf) (w : World) : Calls Try.prog 20 #[.agg #[.int .i64 c.ps, .int .i64 c.ts, .int .i64 c.bs, .int .i64 c.sl]] w fun e w' =>
    e = .returned (.tuple #[if confL c = true then .agg (smA (zeroM c)) else .agg #[.int .i64 0, .int .i64 0, .int .i64 0, .int .i64 0, .slice none 0 0, .slice none 0 0, .slice none 0 0], .int .i64 (if confL c = true then 0 else 1)]) ∧ Below w.heap.size w w' := by
  obtain ⟨f1, f2, f3, f4⟩ := c
  rw [show smA (zeroM ⟨f1, f2, f3, f4⟩) = #[.int .i64 f1, .int .i64 f2, .int .i64 f3, .int .i64 f4, .slice none 0 0, .slice none 0 0, .slice none 0 0] from rfl]
  dsimp only
  obtain ⟨w1, hw1⟩ : ∃ z, z = (w.alloc (.cells #[.int .i64 f1, .int .i64 f2, .int .i64 f3, .int .i64 f4] 23)).alloc (.cells #[.int .i64 0, .int .i64 0, .int .i64 0, .int .i64 0, .slice none 0 0, .slice none 0 0, .slice none 0 0] 31) := ⟨_, rfl⟩
  have b1 : Below w.heap.size w w1 := by rw [hw1]; exact ((Below.refl _ _).alloc (Nat.le_refl _) _).alloc (by simp) _
  have hC : Whole w1 w.heap.size 23 #[.int .i64 f1, .int .i64 f2, .int .i64 f3, .int .i64 f4] := by rw [hw1]; exact (Whole.new w _ _).alloc _
  have hR : Whole w1 (w.heap.size + 1) 31 #[.int .i64 0, .int .i64 0, .int .i64 0, .int .i64 0, .slice none 0 0, .slice none 0 0, .slice none 0 0] := by rw [hw1]; exact Whole.new2 w _ _ _
  obtain ⟨N, hN⟩ : ∃ N, w.heap.size + 1 = N := ⟨_, rfl⟩
  have hNw : w.heap.size < N := by omega
  have hNw1 : N ≠ w.heap.size := by omega
  rw [hN] at hR
  have HC := Lib.hid hC
  have HR := Lib.hid hR
  have HBW := Lib.hid b1
  have lC := hC.lt
  have lR := hR.lt
  have HB1 := Lib.hid (Below.refl w1.heap.size w1)
  clear hC hR b1
  by_cases e1 : 1 ≤ f1 ∧ f1 ≤ 16
  · skip
    by_cases e2 : 1 ≤ f2 ∧ f2 ≤ 16
    · skip
      by_cases e3 : 1 ≤ f3 ∧ f3 ≤ 16
      · skip
        by_cases e4 : 1 ≤ f4 ∧ f4 ≤ 64
        · skip
          have HF := Lib.hid (show confL ⟨f1, f2, f3, f4⟩ = true by unfold confL; simp; omega)
          rw [HF.out]
          go_enter Try.func20, Try.ntmps20
          go_upto_region 1 with fail
          rw [← hw1]
          clear hw1 hN
          have c0 : w1.cell? ⟨w.heap.size, 0, none⟩ = some (.int .i64 f1) := ((HC.out.below HB1.out lC).cell 0).trans rfl
          have lc0 := (HC.out.below HB1.out lC).lt
          go_wp2_with fail
          refine (dwithin_yes e1 w1).mono ?_
          rintro e w2 ⟨rfl, b2⟩
          have HB2 := Lib.hid (HB1.out.trans (b2.mono (HB1.out).size))
          clear b2 c0
          have c1 : w2.cell? ⟨w.heap.size, 1, none⟩ = some (.int .i64 f2) := ((HC.out.below HB2.out lC).cell 1).trans rfl
          have lc1 := (HC.out.below HB2.out lC).lt
          go_wp2_with fail
          refine (dwithin_yes e2 w2).mono ?_
          rintro e w3 ⟨rfl, b3⟩
          have HB3 := Lib.hid (HB2.out.trans (b3.mono (HB2.out).size))
          clear b3 c1
          have c2 : w3.cell? ⟨w.heap.size, 2, none⟩ = some (.int .i64 f3) := ((HC.out.below HB3.out lC).cell 2).trans rfl
          have lc2 := (HC.out.below HB3.out lC).lt
          go_wp2_with fail
          refine (dwithin_yes e3 w3).mono ?_
          rintro e w4 ⟨rfl, b4⟩
          have HB4 := Lib.hid (HB3.out.trans (b4.mono (HB3.out).size))
          clear b4 c2
          have c3 : w4.cell? ⟨w.heap.size, 3, none⟩ = some (.int .i64 f4) := ((HC.out.below HB4.out lC).cell 3).trans rfl
          have lc3 := (HC.out.below HB4.out lC).lt
          go_wp2_with fail
          refine (dwithin_yes e4 w4).mono ?_
          rintro e w5 ⟨rfl, b5⟩
          have HB5 := Lib.hid (HB4.out.trans (b5.mono (HB4.out).size))
          clear b5 c3
          have d0 : w5.cell? ⟨w.heap.size, 0, none⟩ = some (.int .i64 f1) := ((HC.out.below HB5.out lC).cell 0).trans rfl
          have d1 : w5.cell? ⟨w.heap.size, 1, none⟩ = some (.int .i64 f2) := ((HC.out.below HB5.out lC).cell 1).trans rfl
          have d2 : w5.cell? ⟨w.heap.size, 2, none⟩ = some (.int .i64 f3) := ((HC.out.below HB5.out lC).cell 2).trans rfl
          have d3 : w5.cell? ⟨w.heap.size, 3, none⟩ = some (.int .i64 f4) := ((HC.out.below HB5.out lC).cell 3).trans rfl
          have hRn := HR.out.below HB5.out lR
          have z0 := hRn.cell 0
          have z1 := hRn.cell 1
          have z2 := hRn.cell 2
          have z3 := hRn.cell 3
          have z4 := hRn.cell 4
          have z5 := hRn.cell 5
          have z6 := hRn.cell 6
          have y0 := hRn.free 0
          have y1 := hRn.free 1
          have y2 := hRn.free 2
          have y3 := hRn.free 3
          have y4 := hRn.free 4
          have y5 := hRn.free 5
          have y6 := hRn.free 6
          have lz := hRn.lt
          have HRN := Lib.hid hRn
          clear hRn
          go_wp2_with fail
          have hRn := HRN.out
          have hRF : Whole (((((((w5.setCell ⟨N, 0, none⟩ (.int .i64 f1)).setCell ⟨N, 1, none⟩ (.int .i64 f2)).setCell ⟨N, 2, none⟩ (.int .i64 f3)).setCell ⟨N, 3, none⟩ (.int .i64 f4)).setCell ⟨N, 4, none⟩ (.slice none 0 0)).setCell ⟨N, 5, none⟩ (.slice none 0 0)).setCell ⟨N, 6, none⟩ (.slice none 0 0)) (N) 31 #[.int .i64 f1, .int .i64 f2, .int .i64 f3, .int .i64 f4, .slice none 0 0, .slice none 0 0, .slice none 0 0] := (((((((hRn.set 0 (.int .i64 f1)).set 1 (.int .i64 f2)).set 2 (.int .i64 f3)).set 3 (.int .i64 f4)).set 4 (.slice none 0 0)).set 5 (.slice none 0 0)).set 6 (.slice none 0 0))
          have rf0 := hRF.cell 0
          have rf1 := hRF.cell 1
          have rf2 := hRF.cell 2
          have rf3 := hRF.cell 3
          have rf4 := hRF.cell 4
          have rf5 := hRF.cell 5
          have rf6 := hRF.cell 6
          have HBF := (show Below w.heap.size w (((((((w5.setCell ⟨N, 0, none⟩ (.int .i64 f1)).setCell ⟨N, 1, none⟩ (.int .i64 f2)).setCell ⟨N, 2, none⟩ (.int .i64 f3)).setCell ⟨N, 3, none⟩ (.int .i64 f4)).setCell ⟨N, 4, none⟩ (.slice none 0 0)).setCell ⟨N, 5, none⟩ (.slice none 0 0)).setCell ⟨N, 6, none⟩ (.slice none 0 0)) from ((((((((HBW.out.trans (HB5.out.mono HBW.out.size)).setCell (p := ⟨N, 0, none⟩) (by show w.heap.size ≤ N; omega) (.int .i64 f1)).setCell (p := ⟨N, 1, none⟩) (by show w.heap.size ≤ N; omega) (.int .i64 f2)).setCell (p := ⟨N, 2, none⟩) (by show w.heap.size ≤ N; omega) (.int .i64 f3)).setCell (p := ⟨N, 3, none⟩) (by show w.heap.size ≤ N; omega) (.int .i64 f4)).setCell (p := ⟨N, 4, none⟩) (by show w.heap.size ≤ N; omega) (.slice none 0 0)).setCell (p := ⟨N, 5, none⟩) (by show w.heap.size ≤ N; omega) (.slice none 0 0)).setCell (p := ⟨N, 6, none⟩) (by show w.heap.size ≤ N; omega) (.slice none 0 0)))
          exact bodyPost_ret (v := .tuple #[.agg #[.int .i64 f1, .int .i64 f2, .int .i64 f3, .int .i64 f4, .slice none 0 0, .slice none 0 0, .slice none 0 0], .int .i64 0]) (by simp [results, Try.results20, go_sem, rf0, rf1, rf2, rf3, rf4, rf5, rf6]) rfl ⟨rfl, HBF⟩
        · skip
          have HF := Lib.hid (show confL ⟨f1, f2, f3, f4⟩ = false by unfold confL; simp; omega)
          rw [HF.out]
          go_enter Try.func20, Try.ntmps20
          go_upto_region 1 with fail
          rw [← hw1]
          clear hw1 hN
          have c0 : w1.cell? ⟨w.heap.size, 0, none⟩ = some (.int .i64 f1) := ((HC.out.below HB1.out lC).cell 0).trans rfl
          have lc0 := (HC.out.below HB1.out lC).lt
          go_wp2_with fail
          refine (dwithin_yes e1 w1).mono ?_
          rintro e w2 ⟨rfl, b2⟩
          have HB2 := Lib.hid (HB1.out.trans (b2.mono (HB1.out).size))
          clear b2 c0
          have c1 : w2.cell? ⟨w.heap.size, 1, none⟩ = some (.int .i64 f2) := ((HC.out.below HB2.out lC).cell 1).trans rfl
          have lc1 := (HC.out.below HB2.out lC).lt
          go_wp2_with fail
          refine (dwithin_yes e2 w2).mono ?_
          rintro e w3 ⟨rfl, b3⟩
          have HB3 := Lib.hid (HB2.out.trans (b3.mono (HB2.out).size))
          clear b3 c1
          have c2 : w3.cell? ⟨w.heap.size, 2, none⟩ = some (.int .i64 f3) := ((HC.out.below HB3.out lC).cell 2).trans rfl
          have lc2 := (HC.out.below HB3.out lC).lt
          go_wp2_with fail
          refine (dwithin_yes e3 w3).mono ?_
          rintro e w4 ⟨rfl, b4⟩
          have HB4 := Lib.hid (HB3.out.trans (b4.mono (HB3.out).size))
          clear b4 c2
          have c3 : w4.cell? ⟨w.heap.size, 3, none⟩ = some (.int .i64 f4) := ((HC.out.below HB4.out lC).cell 3).trans rfl
          have lc3 := (HC.out.below HB4.out lC).lt
          go_wp2_with fail
          refine (dwithin_no e4 w4).mono ?_
          rintro e w5 ⟨rfl, b5⟩
          have HB5 := Lib.hid (HB4.out.trans (b5.mono (HB4.out).size))
          clear b5 c3
          have hRn := HR.out.below HB5.out lR
          have z0 := hRn.cell 0
          have z1 := hRn.cell 1
          have z2 := hRn.cell 2
          have z3 := hRn.cell 3
          have z4 := hRn.cell 4
          have z5 := hRn.cell 5
          have z6 := hRn.cell 6
          have y0 := hRn.free 0
          have y1 := hRn.free 1
          have y2 := hRn.free 2
          have y3 := hRn.free 3
          have y4 := hRn.free 4
          have y5 := hRn.free 5
          have y6 := hRn.free 6
          have lz := hRn.lt
          have HRN := Lib.hid hRn
          clear hRn
          go_wp2_with fail
          have hRn := HRN.out
          have hRF : Whole (((((((w5.setCell ⟨N, 0, none⟩ (.int .i64 0)).setCell ⟨N, 1, none⟩ (.int .i64 0)).setCell ⟨N, 2, none⟩ (.int .i64 0)).setCell ⟨N, 3, none⟩ (.int .i64 0)).setCell ⟨N, 4, none⟩ (.slice none 0 0)).setCell ⟨N, 5, none⟩ (.slice none 0 0)).setCell ⟨N, 6, none⟩ (.slice none 0 0)) (N) 31 #[.int .i64 0, .int .i64 0, .int .i64 0, .int .i64 0, .slice none 0 0, .slice none 0 0, .slice none 0 0] := (((((((hRn.set 0 (.int .i64 0)).set 1 (.int .i64 0)).set 2 (.int .i64 0)).set 3 (.int .i64 0)).set 4 (.slice none 0 0)).set 5 (.slice none 0 0)).set 6 (.slice none 0 0))
          have rf0 := hRF.cell 0
          have rf1 := hRF.cell 1
          have rf2 := hRF.cell 2
          have rf3 := hRF.cell 3
          have rf4 := hRF.cell 4
          have rf5 := hRF.cell 5
          have rf6 := hRF.cell 6
          have HBF := (show Below w.heap.size w (((((((w5.setCell ⟨N, 0, none⟩ (.int .i64 0)).setCell ⟨N, 1, none⟩ (.int .i64 0)).setCell ⟨N, 2, none⟩ (.int .i64 0)).setCell ⟨N, 3, none⟩ (.int .i64 0)).setCell ⟨N, 4, none⟩ (.slice none 0 0)).setCell ⟨N, 5, none⟩ (.slice none 0 0)).setCell ⟨N, 6, none⟩ (.slice none 0 0)) from ((((((((HBW.out.trans (HB5.out.mono HBW.out.size)).setCell (p := ⟨N, 0, none⟩) (by show w.heap.size ≤ N; omega) (.int .i64 0)).setCell (p := ⟨N, 1, none⟩) (by show w.heap.size ≤ N; omega) (.int .i64 0)).setCell (p := ⟨N, 2, none⟩) (by show w.heap.size ≤ N; omega) (.int .i64 0)).setCell (p := ⟨N, 3, none⟩) (by show w.heap.size ≤ N; omega) (.int .i64 0)).setCell (p := ⟨N, 4, none⟩) (by show w.heap.size ≤ N; omega) (.slice none 0 0)).setCell (p := ⟨N, 5, none⟩) (by show w.heap.size ≤ N; omega) (.slice none 0 0)).setCell (p := ⟨N, 6, none⟩) (by show w.heap.size ≤ N; omega) (.slice none 0 0)))
          exact bodyPost_ret (v := .tuple #[.agg #[.int .i64 0, .int .i64 0, .int .i64 0, .int .i64 0, .slice none 0 0, .slice none 0 0, .slice none 0 0], .int .i64 1]) (by simp [results, Try.results20, go_sem, rf0, rf1, rf2, rf3, rf4, rf5, rf6]) rfl ⟨rfl, HBF⟩
      · skip
        have HF := Lib.hid (show confL ⟨f1, f2, f3, f4⟩ = false by unfold confL; simp; omega)
        rw [HF.out]
        go_enter Try.func20, Try.ntmps20
        go_upto_region 1 with fail
        rw [← hw1]
        clear hw1 hN
        have c0 : w1.cell? ⟨w.heap.size, 0, none⟩ = some (.int .i64 f1) := ((HC.out.below HB1.out lC).cell 0).trans rfl
        have lc0 := (HC.out.below HB1.out lC).lt
        go_wp2_with fail
        refine (dwithin_yes e1 w1).mono ?_
        rintro e w2 ⟨rfl, b2⟩
        have HB2 := Lib.hid (HB1.out.trans (b2.mono (HB1.out).size))
        clear b2 c0
        have c1 : w2.cell? ⟨w.heap.size, 1, none⟩ = some (.int .i64 f2) := ((HC.out.below HB2.out lC).cell 1).trans rfl
        have lc1 := (HC.out.below HB2.out lC).lt
        go_wp2_with fail
        refine (dwithin_yes e2 w2).mono ?_
        rintro e w3 ⟨rfl, b3⟩
        have HB3 := Lib.hid (HB2.out.trans (b3.mono (HB2.out).size))
        clear b3 c1
        have c2 : w3.cell? ⟨w.heap.size, 2, none⟩ = some (.int .i64 f3) := ((HC.out.below HB3.out lC).cell 2).trans rfl
        have lc2 := (HC.out.below HB3.out lC).lt
        go_wp2_with fail
        refine (dwithin_no e3 w3).mono ?_
        rintro e w4 ⟨rfl, b4⟩
        have HB4 := Lib.hid (HB3.out.trans (b4.mono (HB3.out).size))
        clear b4 c2
        have hRn := HR.out.below HB4.out lR
        have z0 := hRn.cell 0
        have z1 := hRn.cell 1
        have z2 := hRn.cell 2
        have z3 := hRn.cell 3
        have z4 := hRn.cell 4
        have z5 := hRn.cell 5
        have z6 := hRn.cell 6
        have y0 := hRn.free 0
        have y1 := hRn.free 1
        have y2 := hRn.free 2
        have y3 := hRn.free 3
        have y4 := hRn.free 4
        have y5 := hRn.free 5
        have y6 := hRn.free 6
        have lz := hRn.lt
        have HRN := Lib.hid hRn
        clear hRn
        go_wp2_with fail
        have hRn := HRN.out
        have hRF : Whole (((((((w4.setCell ⟨N, 0, none⟩ (.int .i64 0)).setCell ⟨N, 1, none⟩ (.int .i64 0)).setCell ⟨N, 2, none⟩ (.int .i64 0)).setCell ⟨N, 3, none⟩ (.int .i64 0)).setCell ⟨N, 4, none⟩ (.slice none 0 0)).setCell ⟨N, 5, none⟩ (.slice none 0 0)).setCell ⟨N, 6, none⟩ (.slice none 0 0)) (N) 31 #[.int .i64 0, .int .i64 0, .int .i64 0, .int .i64 0, .slice none 0 0, .slice none 0 0, .slice none 0 0] := (((((((hRn.set 0 (.int .i64 0)).set 1 (.int .i64 0)).set 2 (.int .i64 0)).set 3 (.int .i64 0)).set 4 (.slice none 0 0)).set 5 (.slice none 0 0)).set 6 (.slice none 0 0))
        have rf0 := hRF.cell 0
        have rf1 := hRF.cell 1
        have rf2 := hRF.cell 2
        have rf3 := hRF.cell 3
        have rf4 := hRF.cell 4
        have rf5 := hRF.cell 5
        have rf6 := hRF.cell 6
        have HBF := (show Below w.heap.size w (((((((w4.setCell ⟨N, 0, none⟩ (.int .i64 0)).setCell ⟨N, 1, none⟩ (.int .i64 0)).setCell ⟨N, 2, none⟩ (.int .i64 0)).setCell ⟨N, 3, none⟩ (.int .i64 0)).setCell ⟨N, 4, none⟩ (.slice none 0 0)).setCell ⟨N, 5, none⟩ (.slice none 0 0)).setCell ⟨N, 6, none⟩ (.slice none 0 0)) from ((((((((HBW.out.trans (HB4.out.mono HBW.out.size)).setCell (p := ⟨N, 0, none⟩) (by show w.heap.size ≤ N; omega) (.int .i64 0)).setCell (p := ⟨N, 1, none⟩) (by show w.heap.size ≤ N; omega) (.int .i64 0)).setCell (p := ⟨N, 2, none⟩) (by show w.heap.size ≤ N; omega) (.int .i64 0)).setCell (p := ⟨N, 3, none⟩) (by show w.heap.size ≤ N; omega) (.int .i64 0)).setCell (p := ⟨N, 4, none⟩) (by show w.heap.size ≤ N; omega) (.slice none 0 0)).setCell (p := ⟨N, 5, none⟩) (by show w.heap.size ≤ N; omega) (.slice none 0 0)).setCell (p := ⟨N, 6, none⟩) (by show w.heap.size ≤ N; omega) (.slice none 0 0)))
        exact bodyPost_ret (v := .tuple #[.agg #[.int .i64 0, .int .i64 0, .int .i64 0, .int .i64 0, .slice none 0 0, .slice none 0 0, .slice none 0 0], .int .i64 1]) (by simp [results, Try.results20, go_sem, rf0, rf1, rf2, rf3, rf4, rf5, rf6]) rfl ⟨rfl, HBF⟩
    · skip
      have HF := Lib.hid (show confL ⟨f1, f2, f3, f4⟩ = false by unfold confL; simp; omega)
      rw [HF.out]
      go_enter Try.func20, Try.ntmps20
      go_upto_region 1 with fail
      rw [← hw1]
      clear hw1 hN
      have c0 : w1.cell? ⟨w.heap.size, 0, none⟩ = some (.int .i64 f1) := ((HC.out.below HB1.out lC).cell 0).trans rfl
      have lc0 := (HC.out.below HB1.out lC).lt
      go_wp2_with fail
      refine (dwithin_yes e1 w1).mono ?_
      rintro e w2 ⟨rfl, b2⟩
      have HB2 := Lib.hid (HB1.out.trans (b2.mono (HB1.out).size))
      clear b2 c0
      have c1 : w2.cell? ⟨w.heap.size, 1, none⟩ = some (.int .i64 f2) := ((HC.out.below HB2.out lC).cell 1).trans rfl
      have lc1 := (HC.out.below HB2.out lC).lt
      go_wp2_with fail
      refine (dwithin_no e2 w2).mono ?_
      rintro e w3 ⟨rfl, b3⟩
      have HB3 := Lib.hid (HB2.out.trans (b3.mono (HB2.out).size))
      clear b3 c1
      have hRn := HR.out.below HB3.out lR
      have z0 := hRn.cell 0
      have z1 := hRn.cell 1
      have z2 := hRn.cell 2
      have z3 := hRn.cell 3
      have z4 := hRn.cell 4
      have z5 := hRn.cell 5
      have z6 := hRn.cell 6
      have y0 := hRn.free 0
      have y1 := hRn.free 1
      have y2 := hRn.free 2
      have y3 := hRn.free 3
      have y4 := hRn.free 4
      have y5 := hRn.free 5
      have y6 := hRn.free 6
      have lz := hRn.lt
      have HRN := Lib.hid hRn
      clear hRn
      go_wp2_with fail
      have hRn := HRN.out
      have hRF : Whole (((((((w3.setCell ⟨N, 0, none⟩ (.int .i64 0)).setCell ⟨N, 1, none⟩ (.int .i64 0)).setCell ⟨N, 2, none⟩ (.int .i64 0)).setCell ⟨N, 3, none⟩ (.int .i64 0)).setCell ⟨N, 4, none⟩ (.slice none 0 0)).setCell ⟨N, 5, none⟩ (.slice none 0 0)).setCell ⟨N, 6, none⟩ (.slice none 0 0)) (N) 31 #[.int .i64 0, .int .i64 0, .int .i64 0, .int .i64 0, .slice none 0 0, .slice none 0 0, .slice none 0 0] := (((((((hRn.set 0 (.int .i64 0)).set 1 (.int .i64 0)).set 2 (.int .i64 0)).set 3 (.int .i64 0)).set 4 (.slice none 0 0)).set 5 (.slice none 0 0)).set 6 (.slice none 0 0))
      have rf0 := hRF.cell 0
      have rf1 := hRF.cell 1
      have rf2 := hRF.cell 2
      have rf3 := hRF.cell 3
      have rf4 := hRF.cell 4
      have rf5 := hRF.cell 5
      have rf6 := hRF.cell 6
      have HBF := (show Below w.heap.size w (((((((w3.setCell ⟨N, 0, none⟩ (.int .i64 0)).setCell ⟨N, 1, none⟩ (.int .i64 0)).setCell ⟨N, 2, none⟩ (.int .i64 0)).setCell ⟨N, 3, none⟩ (.int .i64 0)).setCell ⟨N, 4, none⟩ (.slice none 0 0)).setCell ⟨N, 5, none⟩ (.slice none 0 0)).setCell ⟨N, 6, none⟩ (.slice none 0 0)) from ((((((((HBW.out.trans (HB3.out.mono HBW.out.size)).setCell (p := ⟨N, 0, none⟩) (by show w.heap.size ≤ N; omega) (.int .i64 0)).setCell (p := ⟨N, 1, none⟩) (by show w.heap.size ≤ N; omega) (.int .i64 0)).setCell (p := ⟨N, 2, none⟩) (by show w.heap.size ≤ N; omega) (.int .i64 0)).setCell (p := ⟨N, 3, none⟩) (by show w.heap.size ≤ N; omega) (.int .i64 0)).setCell (p := ⟨N, 4, none⟩) (by show w.heap.size ≤ N; omega) (.slice none 0 0)).setCell (p := ⟨N, 5, none⟩) (by show w.heap.size ≤ N; omega) (.slice none 0 0)).setCell (p := ⟨N, 6, none⟩) (by show w.heap.size ≤ N; omega) (.slice none 0 0)))
      exact bodyPost_ret (v := .tuple #[.agg #[.int .i64 0, .int .i64 0, .int .i64 0, .int .i64 0, .slice none 0 0, .slice none 0 0, .slice none 0 0], .int .i64 1]) (by simp [results, Try.results20, go_sem, rf0, rf1, rf2, rf3, rf4, rf5, rf6]) rfl ⟨rfl, HBF⟩
  · skip
    have HF := Lib.hid (show confL ⟨f1, f2, f3, f4⟩ = false by unfold confL; simp; omega)
    rw [HF.out]
    go_enter Try.func20, Try.ntmps20
    go_upto_region 1 with fail
    rw [← hw1]
    clear hw1 hN
    have c0 : w1.cell? ⟨w.heap.size, 0, none⟩ = some (.int .i64 f1) := ((HC.out.below HB1.out lC).cell 0).trans rfl
    have lc0 := (HC.out.below HB1.out lC).lt
    go_wp2_with fail
    refine (dwithin_no e1 w1).mono ?_
    rintro e w2 ⟨rfl, b2⟩
    have HB2 := Lib.hid (HB1.out.trans (b2.mono (HB1.out).size))
    clear b2 c0
    have hRn := HR.out.below HB2.out lR
    have z0 := hRn.cell 0
    have z1 := hRn.cell 1
    have z2 := hRn.cell 2
    have z3 := hRn.cell 3
    have z4 := hRn.cell 4
    have z5 := hRn.cell 5
    have z6 := hRn.cell 6
    have y0 := hRn.free 0
    have y1 := hRn.free 1
    have y2 := hRn.free 2
    have y3 := hRn.free 3
    have y4 := hRn.free 4
    have y5 := hRn.free 5
    have y6 := hRn.free 6
    have lz := hRn.lt
    have HRN := Lib.hid hRn
    clear hRn
    go_wp2_with fail
    have hRn := HRN.out
    have hRF : Whole (((((((w2.setCell ⟨N, 0, none⟩ (.int .i64 0)).setCell ⟨N, 1, none⟩ (.int .i64 0)).setCell ⟨N, 2, none⟩ (.int .i64 0)).setCell ⟨N, 3, none⟩ (.int .i64 0)).setCell ⟨N, 4, none⟩ (.slice none 0 0)).setCell ⟨N, 5, none⟩ (.slice none 0 0)).setCell ⟨N, 6, none⟩ (.slice none 0 0)) (N) 31 #[.int .i64 0, .int .i64 0, .int .i64 0, .int .i64 0, .slice none 0 0, .slice none 0 0, .slice none 0 0] := (((((((hRn.set 0 (.int .i64 0)).set 1 (.int .i64 0)).set 2 (.int .i64 0)).set 3 (.int .i64 0)).set 4 (.slice none 0 0)).set 5 (.slice none 0 0)).set 6 (.slice none 0 0))
    have rf0 := hRF.cell 0
    have rf1 := hRF.cell 1
    have rf2 := hRF.cell 2
    have rf3 := hRF.cell 3
    have rf4 := hRF.cell 4
    have rf5 := hRF.cell 5
    have rf6 := hRF.cell 6
    have HBF := (show Below w.heap.size w (((((((w2.setCell ⟨N, 0, none⟩ (.int .i64 0)).setCell ⟨N, 1, none⟩ (.int .i64 0)).setCell ⟨N, 2, none⟩ (.int .i64 0)).setCell ⟨N, 3, none⟩ (.int .i64 0)).setCell ⟨N, 4, none⟩ (.slice none 0 0)).setCell ⟨N, 5, none⟩ (.slice none 0 0)).setCell ⟨N, 6, none⟩ (.slice none 0 0)) from ((((((((HBW.out.trans (HB2.out.mono HBW.out.size)).setCell (p := ⟨N, 0, none⟩) (by show w.heap.size ≤ N; omega) (.int .i64 0)).setCell (p := ⟨N, 1, none⟩) (by show w.heap.size ≤ N; omega) (.int .i64 0)).setCell (p := ⟨N, 2, none⟩) (by show w.heap.size ≤ N; omega) (.int .i64 0)).setCell (p := ⟨N, 3, none⟩) (by show w.heap.size ≤ N; omega) (.int .i64 0)).setCell (p := ⟨N, 4, none⟩) (by show w.heap.size ≤ N; omega) (.slice none 0 0)).setCell (p := ⟨N, 5, none⟩) (by show w.heap.size ≤ N; omega) (.slice none 0 0)).setCell (p := ⟨N, 6, none⟩) (by show w.heap.size ≤ N; omega) (.slice none 0 0)))
    exact bodyPost_ret (v := .tuple #[.agg #[.int .i64 0, .int .i64 0, .int .i64 0, .int .i64 0, .slice none 0 0, .slice none 0 0, .slice none 0 0], .int .i64 1]) (by simp [results, Try.results20, go_sem, rf0, rf1, rf2, rf3, rf4, rf5, rf6]) rfl ⟨rfl, HBF⟩

theorem cl_gone (x : Sb) (gb : Nat) (s : Sm) (wx : World) (h : Rd wx gb s) :
    Calls Try.prog 32 #[.agg (sbV x).toArray, .pointer (some ⟨gb, 0, none⟩)] wx fun e w' => e = .returned (.bool (!goneB s.X.bs x)) ∧ Below wx.heap.size wx w' := by
  obtain ⟨xw, xt, xl, xd, xm⟩ := x
  rw [show (sbV ⟨xw, xt, xl, xd, xm⟩).toArray = #[.int .i64 xw, .int .i64 xt, .int .i64 xl, .int .i64 xd, .bool xm] from rfl]
  obtain ⟨w1, hw1⟩ : ∃ z, z = wx.alloc (.cells #[.int .i64 xw, .int .i64 xt, .int .i64 xl, .int .i64 xd, .bool xm] 55) := ⟨_, rfl⟩
  have b1 : Below wx.heap.size wx w1 := by rw [hw1]; exact (Below.refl _ _).alloc (Nat.le_refl _) _
  have hT : Whole w1 wx.heap.size 55 #[.int .i64 xw, .int .i64 xt, .int .i64 xl, .int .i64 xd, .bool xm] := by rw [hw1]; exact Whole.new wx _ _
  have s0 := (hT.cell 0).trans rfl
  have s1 := (hT.cell 1).trans rfl
  have lT := hT.lt
  have HD := Lib.hid (h.next b1)
  have HB1 := Lib.hid b1
  clear h hT b1
  cases hf : s.X.bs.find? (isB xw xt) with
  | none =>
    have HF := Lib.hid (show (!goneB s.X.bs ⟨xw, xt, xl, xd, xm⟩) = false by unfold goneB; dsimp only; rw [hf]; rfl)
    have C := Lib.hid (dsub_no hf gb w1 HD.out)
    clear hf
    go_enter Try.func32, Try.ntmps32
    go_upto_region 1 with fail
    rw [← hw1]
    clear hw1
    go_wp2_with fail
    refine C.out.mono ?_
    rintro e w2 ⟨rfl, b2⟩
    have HB2 := Lib.hid (HB1.out.trans (b2.mono HB1.out.size))
    clear b2 C HB1
    go_wp2_with fail
    go_ret
    exact ⟨by rw [HF.out]; rfl, HB2.out⟩
  | some z =>
    have HF := Lib.hid (show (!goneB s.X.bs ⟨xw, xt, xl, xd, xm⟩) = true by unfold goneB; dsimp only; rw [hf]; rfl)
    have C := Lib.hid (dsub_yes hf gb w1 HD.out)
    clear hf
    go_enter Try.func32, Try.ntmps32
    go_upto_region 1 with fail
    rw [← hw1]
    clear hw1
    go_wp2_with fail
    refine C.out.mono ?_
    rintro e w2 ⟨⟨gD, o3, i3, rfl, -⟩, b2⟩
    have HB2 := Lib.hid (HB1.out.trans (b2.mono HB1.out.size))
    clear b2 C HB1
    go_wp2_with fail
    go_ret
    exact ⟨by rw [HF.out]; rfl, HB2.out⟩
set_option maxHeartbeats 3200000 in
theorem cgone_any (P : Nat → Prop) (s t : Sm) (w : World) (hs : SAt P w s) (ht : SAt P w t) :
    Calls Try.prog 17 #[.agg (smA s), .agg (smA t)] w fun e w' => ∃ A' c', e = .returned (.slice A' (goneS s.X t.X).length c') ∧ w'.ownsRow w.heap.size 55 5 (.slice A' (goneS s.X t.X).length c') (goneS s.X t.X).length (sbC (goneS s.X t.X)) ∧ Below w.heap.size w w' := by
  obtain ⟨np, hnp⟩ : ∃ n, s.X.ps.length = n := ⟨_, rfl⟩
  obtain ⟨nt, hnt⟩ : ∃ n, s.T.length = n := ⟨_, rfl⟩
  obtain ⟨nb, hnb⟩ : ∃ n, s.X.bs.length = n := ⟨_, rfl⟩
  obtain ⟨np2, hnp2⟩ : ∃ n, t.X.ps.length = n := ⟨_, rfl⟩
  obtain ⟨nt2, hnt2⟩ : ∃ n, t.T.length = n := ⟨_, rfl⟩
  obtain ⟨nb2, hnb2⟩ : ∃ n, t.X.bs.length = n := ⟨_, rfl⟩
  have e1 : smA s = #[.int .i64 s.X.cf.ps, .int .i64 s.X.cf.ts, .int .i64 s.X.cf.bs, .int .i64 s.X.cf.sl, .slice s.A np s.a, .slice s.B nt s.b, .slice s.C nb s.c] := by unfold smA; rw [hnp, hnt, hnb]
  have e2 : smA t = #[.int .i64 t.X.cf.ps, .int .i64 t.X.cf.ts, .int .i64 t.X.cf.bs, .int .i64 t.X.cf.sl, .slice t.A np2 t.a, .slice t.B nt2 t.b, .slice t.C nb2 t.c] := by unfold smA; rw [hnp2, hnt2, hnb2]
  have HE2 := Lib.hid e2
  rw [e1, e2]
  obtain ⟨w1, hw1⟩ : ∃ z, z = (w.alloc (.cells #[.int .i64 s.X.cf.ps, .int .i64 s.X.cf.ts, .int .i64 s.X.cf.bs, .int .i64 s.X.cf.sl, .slice s.A np s.a, .slice s.B nt s.b, .slice s.C nb s.c] 31)).alloc (.cells #[.int .i64 t.X.cf.ps, .int .i64 t.X.cf.ts, .int .i64 t.X.cf.bs, .int .i64 t.X.cf.sl, .slice t.A np2 t.a, .slice t.B nt2 t.b, .slice t.C nb2 t.c] 31) := ⟨_, rfl⟩
  have b1 : Below w.heap.size w w1 := by rw [hw1]; exact ((Below.refl _ _).alloc (Nat.le_refl _) _).alloc (by simp) _
  have hS : Whole w1 w.heap.size 31 #[.int .i64 s.X.cf.ps, .int .i64 s.X.cf.ts, .int .i64 s.X.cf.bs, .int .i64 s.X.cf.sl, .slice s.A np s.a, .slice s.B nt s.b, .slice s.C nb s.c] := by rw [hw1]; exact (Whole.new w _ _).alloc _
  have hT : Whole w1 (w.heap.size + 1) 31 #[.int .i64 t.X.cf.ps, .int .i64 t.X.cf.ts, .int .i64 t.X.cf.bs, .int .i64 t.X.cf.sl, .slice t.A np2 t.a, .slice t.B nt2 t.b, .slice t.C nb2 t.c] := by rw [hw1]; exact Whole.new2 w _ _ _
  have s6 : w1.cell? ⟨w.heap.size, 6, none⟩ = some (.slice s.C nb s.c) := (hS.cell 6).trans rfl
  have lS := hS.lt
  have HT1 := Lib.hid (show Rd w1 (w.heap.size + 1) t from (ht.next b1).rd (by rw [e2]; exact hT))
  have hsm := hs.small.2.2
  have CC := Lib.hid (dcloneB s.C s.c nb (sbC s.X.bs) w1 (by have h2 := (hs.rb.below b1 (Nat.le_refl _)).more b1.size; rw [hnb] at h2; exact h2) (by rw [hnb] at hsm; omega) (flat_one sb_one _))
  have hg : outS (fun x => !goneB t.X.bs x) s.X.bs = goneS s.X t.X := by unfold outS goneS goneB; simp
  have HG := Lib.hid hg
  have HB1 := Lib.hid b1
  have HNB := Lib.hid hnb
  rw [hnb] at hsm
  clear hnp hnt hnb hnp2 hnt2 hnb2 e1 e2 hS hT b1 hs ht hg
  go_enter Try.func17, Try.ntmps17
  go_upto_region 1 with fail
  rw [← hw1]
  clear hw1
  go_wp2_with fail
  refine CC.out.mono ?_
  rintro e w2 ⟨A', c', rfl, o2, b2⟩
  rw [← HNB.out] at o2
  have CD := ddelB w1.heap.size 32 (.pointer (some ⟨w.heap.size + 1, 0, none⟩)) (fun x => !goneB t.X.bs x) A' c' s.X.bs w2 (enters Try.func32 (by kernel_rfl) (by kernel_rfl)) o2 (by rw [HNB.out]; omega)
    (fun x _ wx hb' => cl_gone x (w.heap.size + 1) t wx (by
      have hb3 : Below w1.heap.size w1 wx := b2.trans (hb'.below b2.size (fun k hk e => Nat.not_le_of_lt hk (o2.lt k e).1))
      exact HT1.out.next hb3))
  unfold DelB at CD
  rw [HG.out, HNB.out] at CD
  have HLO := Lib.hid (fun k (e : (Value.slice A' nb c').ownBlock = some k) => (show w1.heap.size ≤ k from (o2.lt k (by rw [HNB.out]; exact e)).1))
  replace CD := Lib.hid CD
  have HB2 := Lib.hid b2
  clear o2 b2 CC s6
  go_wp2_with fail
  refine CD.out.mono ?_
  rintro e w3 ⟨rfl, o3, k3⟩
  have HF := Lib.hid (show w3.ownsRow w.heap.size 55 5 (.slice A' (goneS s.X t.X).length c') (goneS s.X t.X).length (sbC (goneS s.X t.X)) ∧ Below w.heap.size w w3 from
    ⟨own_base o3 HB1.out.size, HB1.out.trans ((HB2.out.trans (k3.below HB2.out.size (fun k hk e => Nat.not_le_of_lt hk (HLO.out k e)))).mono HB1.out.size)⟩)
  clear o3 k3 CD
  go_wp2_with fail
  go_ret
  exact ⟨A', c', rfl, HF.out.1, HF.out.2⟩
end Go.Proofs.Ytmmeceehfdbdoaa
