/-
  The law's awake (layer 18).
-/
import Derived.Test.YtmmeceehfdbdoaaDaA
namespace Go.Proofs.Ytmmeceehfdbdoaa
open Go.RowKit
open Dl
set_option linter.unusedSimpArgs false
set_option linter.unusedVariables false
set_option maxRecDepth 100000
set_option maxHeartbeats 12800000 in
theorem awake18 (w : World) : Calls Try.prog 9 #[] w fun e w' => e = .returned (.bool true) ∧ Below w.heap.size w w' := by
  have HBW := Lib.hid (Below.refl w.heap.size w)
  have CN := Lib.hid (show Calls Try.prog 20 #[.agg #[.int .i64 3, .int .i64 3, .int .i64 3, .int .i64 3]] w (fun e w' => e = .returned (.tuple #[.agg #[.int .i64 3, .int .i64 3, .int .i64 3, .int .i64 3, .slice none 0 0, .slice none 0 0, .slice none 0 0], .int .i64 0]) ∧ Below w.heap.size w w') from cnew_any ⟨3, 3, 3, 3⟩ w)
  go_enter Try.func9, Try.ntmps9
  go_wp2_with fail
  refine CN.out.mono ?_
  rintro e w1 ⟨rfl, bn⟩
  obtain ⟨u0, hu0⟩ : ∃ z, z = w1.alloc (.cells #[.int .i64 3, .int .i64 3, .int .i64 3, .int .i64 3, .slice none 0 0, .slice none 0 0, .slice none 0 0] 31) := ⟨_, rfl⟩
  obtain ⟨N, hN⟩ : ∃ N, w1.heap.size = N := ⟨_, rfl⟩
  have W0 : Whole u0 N 31 #[.int .i64 3, .int .i64 3, .int .i64 3, .int .i64 3, .slice none 0 0, .slice none 0 0, .slice none 0 0] := by rw [hu0, ← hN]; exact Whole.new w1 _ _
  have hlo : w.heap.size ≤ N := by rw [← hN]; exact bn.size
  have HB0 := Lib.hid (show Below w.heap.size w u0 by rw [hu0]; exact bn.alloc bn.size _)
  have HS0 := Lib.hid (zero_sat (fun k => k ≠ N) (c := ⟨3, 3, 3, 3⟩) (by decide) u0)
  have e0 : smA (zeroM ⟨3, 3, 3, 3⟩) = #[.int .i64 3, .int .i64 3, .int .i64 3, .int .i64 3, .slice none 0 0, .slice none 0 0, .slice none 0 0] := rfl
  have HE0 := Lib.hid e0
  have l0 := W0.lt
  clear bn CN e0
  go_upto_region 2 with fail
  rw [← hu0]
  clear hu0 hN
  have g0_0 : u0.cell? ⟨N, 0, none⟩ = some (.int .i64 3) := (W0.cell 0).trans rfl
  have g0_1 : u0.cell? ⟨N, 1, none⟩ = some (.int .i64 3) := (W0.cell 1).trans rfl
  have g0_2 : u0.cell? ⟨N, 2, none⟩ = some (.int .i64 3) := (W0.cell 2).trans rfl
  have g0_3 : u0.cell? ⟨N, 3, none⟩ = some (.int .i64 3) := (W0.cell 3).trans rfl
  have g0_4 : u0.cell? ⟨N, 4, none⟩ = some (.slice none 0 0) := (W0.cell 4).trans rfl
  have g0_5 : u0.cell? ⟨N, 5, none⟩ = some (.slice none 0 0) := (W0.cell 5).trans rfl
  have g0_6 : u0.cell? ⟨N, 6, none⟩ = some (.slice none 0 0) := (W0.cell 6).trans rfl
  replace W0 := Lib.hid W0
  have CD := cdo_any (fun k => k ≠ N) (zeroM ⟨3, 3, 3, 3⟩) ⟨⟨0, 1, 2, 1, 0, [], 0, 0⟩, none, 0⟩ u0 HS0.out ⟨Row.nil, by decide, ⟨fun h => by simp at h, Nat.le_refl _, by decide⟩, fun y hy => by cases hy⟩ (fun k hk e => by omega)
  unfold DoTold at CD
  rw [HE0.out, show (qmV ⟨⟨0, 1, 2, 1, 0, [], 0, 0⟩, none, 0⟩).toArray = #[.int .i64 0, .int .i64 1, .int .i64 2, .int .i64 1, .int .i64 0, .slice none 0 0, .int .i64 0, .int .i64 0] from rfl] at CD
  dsimp only at CD
  replace CD := Lib.hid CD
  go_wp2_with fail
  refine CD.out.mono ?_
  rintro e v1 ⟨bv, s, hX, hS, rfl⟩
  obtain ⟨X1, T1, A1, a1, B1, b1, C1, c1⟩ := s
  dsimp only at hX
  obtain rfl : X1 = (⟨⟨3, 3, 3, 3⟩, [⟨1, 2, 1⟩], [], []⟩ : St) := hX.trans rfl
  have hT : T1.length = 0 := by have h2 := hS.ts; have h3 := congrArg List.length h2; simpa [tks] using h3.symm
  have hE : smA (⟨(⟨⟨3, 3, 3, 3⟩, [⟨1, 2, 1⟩], [], []⟩ : St), T1, A1, a1, B1, b1, C1, c1⟩ : Sm) = #[.int .i64 3, .int .i64 3, .int .i64 3, .int .i64 3, .slice A1 1 a1, .slice B1 0 b1, .slice C1 0 c1] := by unfold smA; dsimp only; rw [hT]; rfl
  rw [hE, show (doS (zeroM ⟨3, 3, 3, 3⟩).X ⟨0, 1, 2, 1, 0, [], 0, 0⟩).2 = 0 from rfl]
  have HE1 := Lib.hid hE
  have WV := W0.out.below bv W0.out.lt
  have z0 := WV.cell 0
  have z1 := WV.cell 1
  have z2 := WV.cell 2
  have z3 := WV.cell 3
  have z4 := WV.cell 4
  have z5 := WV.cell 5
  have z6 := WV.cell 6
  have y0 := WV.free 0
  have y1 := WV.free 1
  have y2 := WV.free 2
  have y3 := WV.free 3
  have y4 := WV.free 4
  have y5 := WV.free 5
  have y6 := WV.free 6
  have lv := WV.lt
  obtain ⟨u1, hu1⟩ : ∃ z, z = sets7 v1 N (.int .i64 3) (.int .i64 3) (.int .i64 3) (.int .i64 3) (.slice A1 1 a1) (.slice B1 0 b1) (.slice C1 0 c1) := ⟨_, rfl⟩
  have W1 : Whole u1 N 31 #[.int .i64 3, .int .i64 3, .int .i64 3, .int .i64 3, .slice A1 1 a1, .slice B1 0 b1, .slice C1 0 c1] := by rw [hu1]; exact sets7_whole WV rfl
  have HB1 := Lib.hid (show Below w.heap.size w u1 by rw [hu1]; exact sets7_below (HB0.out.trans (bv.mono HB0.out.size)) hlo)
  have HS1 := Lib.hid (show SAt (fun k => k ≠ N) u1 (⟨(⟨⟨3, 3, 3, 3⟩, [⟨1, 2, 1⟩], [], []⟩ : St), T1, A1, a1, B1, b1, C1, c1⟩ : Sm) by rw [hu1]; exact sets7_sat hS (fun h => h rfl))
  have l1 := W1.lt
  skip
  clear hX hT hE bv hS WV CD HE0 HS0 W0 HB0 l0 g0_0 g0_1 g0_2 g0_3 g0_4 g0_5 g0_6
  go_upto_region 3 with fail
  rw [show (((((((v1.setCell ⟨N, 0, none⟩ (.int .i64 3)).setCell ⟨N, 1, none⟩ (.int .i64 3)).setCell ⟨N, 2, none⟩ (.int .i64 3)).setCell ⟨N, 3, none⟩ (.int .i64 3)).setCell ⟨N, 4, none⟩ (.slice A1 1 a1)).setCell ⟨N, 5, none⟩ (.slice B1 0 b1)).setCell ⟨N, 6, none⟩ (.slice C1 0 c1)) = u1 from hu1.symm]
  clear hu1 z0 y0 z1 y1 z2 y2 z3 y3 z4 y4 z5 y5 z6 y6 lv
  have g1_0 : u1.cell? ⟨N, 0, none⟩ = some (.int .i64 3) := (W1.cell 0).trans rfl
  have g1_1 : u1.cell? ⟨N, 1, none⟩ = some (.int .i64 3) := (W1.cell 1).trans rfl
  have g1_2 : u1.cell? ⟨N, 2, none⟩ = some (.int .i64 3) := (W1.cell 2).trans rfl
  have g1_3 : u1.cell? ⟨N, 3, none⟩ = some (.int .i64 3) := (W1.cell 3).trans rfl
  have g1_4 : u1.cell? ⟨N, 4, none⟩ = some (.slice A1 1 a1) := (W1.cell 4).trans rfl
  have g1_5 : u1.cell? ⟨N, 5, none⟩ = some (.slice B1 0 b1) := (W1.cell 5).trans rfl
  have g1_6 : u1.cell? ⟨N, 6, none⟩ = some (.slice C1 0 c1) := (W1.cell 6).trans rfl
  replace W1 := Lib.hid W1
  have CD := cdo_any (fun k => k ≠ N) (⟨(⟨⟨3, 3, 3, 3⟩, [⟨1, 2, 1⟩], [], []⟩ : St), T1, A1, a1, B1, b1, C1, c1⟩ : Sm) ⟨⟨0, 5, 2, 2, 0, [], 0, 0⟩, none, 0⟩ u1 HS1.out ⟨Row.nil, by decide, ⟨fun h => by simp at h, Nat.le_refl _, by decide⟩, fun y hy => by cases hy⟩ (fun k hk e => by omega)
  unfold DoTold at CD
  rw [HE1.out, show (qmV ⟨⟨0, 5, 2, 2, 0, [], 0, 0⟩, none, 0⟩).toArray = #[.int .i64 0, .int .i64 5, .int .i64 2, .int .i64 2, .int .i64 0, .slice none 0 0, .int .i64 0, .int .i64 0] from rfl] at CD
  dsimp only at CD
  replace CD := Lib.hid CD
  go_wp2_with fail
  refine CD.out.mono ?_
  rintro e v2 ⟨bv, s, hX, hS, rfl⟩
  obtain ⟨X2, T2, A2, a2, B2, b2, C2, c2⟩ := s
  dsimp only at hX
  obtain rfl : X2 = (⟨⟨3, 3, 3, 3⟩, [⟨1, 2, 1⟩, ⟨5, 2, 2⟩], [], []⟩ : St) := hX.trans rfl
  have hT : T2.length = 0 := by have h2 := hS.ts; have h3 := congrArg List.length h2; simpa [tks] using h3.symm
  have hE : smA (⟨(⟨⟨3, 3, 3, 3⟩, [⟨1, 2, 1⟩, ⟨5, 2, 2⟩], [], []⟩ : St), T2, A2, a2, B2, b2, C2, c2⟩ : Sm) = #[.int .i64 3, .int .i64 3, .int .i64 3, .int .i64 3, .slice A2 2 a2, .slice B2 0 b2, .slice C2 0 c2] := by unfold smA; dsimp only; rw [hT]; rfl
  rw [hE, show (doS (⟨⟨3, 3, 3, 3⟩, [⟨1, 2, 1⟩], [], []⟩ : St) ⟨0, 5, 2, 2, 0, [], 0, 0⟩).2 = 0 from rfl]
  have HE2 := Lib.hid hE
  have WV := W1.out.below bv W1.out.lt
  have z0 := WV.cell 0
  have z1 := WV.cell 1
  have z2 := WV.cell 2
  have z3 := WV.cell 3
  have z4 := WV.cell 4
  have z5 := WV.cell 5
  have z6 := WV.cell 6
  have y0 := WV.free 0
  have y1 := WV.free 1
  have y2 := WV.free 2
  have y3 := WV.free 3
  have y4 := WV.free 4
  have y5 := WV.free 5
  have y6 := WV.free 6
  have lv := WV.lt
  obtain ⟨u2, hu2⟩ : ∃ z, z = sets7 v2 N (.int .i64 3) (.int .i64 3) (.int .i64 3) (.int .i64 3) (.slice A2 2 a2) (.slice B2 0 b2) (.slice C2 0 c2) := ⟨_, rfl⟩
  have W2 : Whole u2 N 31 #[.int .i64 3, .int .i64 3, .int .i64 3, .int .i64 3, .slice A2 2 a2, .slice B2 0 b2, .slice C2 0 c2] := by rw [hu2]; exact sets7_whole WV rfl
  have HB2 := Lib.hid (show Below w.heap.size w u2 by rw [hu2]; exact sets7_below (HB1.out.trans (bv.mono HB1.out.size)) hlo)
  have HS2 := Lib.hid (show SAt (fun k => k ≠ N) u2 (⟨(⟨⟨3, 3, 3, 3⟩, [⟨1, 2, 1⟩, ⟨5, 2, 2⟩], [], []⟩ : St), T2, A2, a2, B2, b2, C2, c2⟩ : Sm) by rw [hu2]; exact sets7_sat hS (fun h => h rfl))
  have l2 := W2.lt
  skip
  clear hX hT hE bv hS WV CD HE1 HS1 W1 HB1 l1 g1_0 g1_1 g1_2 g1_3 g1_4 g1_5 g1_6
  go_upto_region 4 with fail
  rw [show (((((((v2.setCell ⟨N, 0, none⟩ (.int .i64 3)).setCell ⟨N, 1, none⟩ (.int .i64 3)).setCell ⟨N, 2, none⟩ (.int .i64 3)).setCell ⟨N, 3, none⟩ (.int .i64 3)).setCell ⟨N, 4, none⟩ (.slice A2 2 a2)).setCell ⟨N, 5, none⟩ (.slice B2 0 b2)).setCell ⟨N, 6, none⟩ (.slice C2 0 c2)) = u2 from hu2.symm]
  clear hu2 z0 y0 z1 y1 z2 y2 z3 y3 z4 y4 z5 y5 z6 y6 lv
  have g2_0 : u2.cell? ⟨N, 0, none⟩ = some (.int .i64 3) := (W2.cell 0).trans rfl
  have g2_1 : u2.cell? ⟨N, 1, none⟩ = some (.int .i64 3) := (W2.cell 1).trans rfl
  have g2_2 : u2.cell? ⟨N, 2, none⟩ = some (.int .i64 3) := (W2.cell 2).trans rfl
  have g2_3 : u2.cell? ⟨N, 3, none⟩ = some (.int .i64 3) := (W2.cell 3).trans rfl
  have g2_4 : u2.cell? ⟨N, 4, none⟩ = some (.slice A2 2 a2) := (W2.cell 4).trans rfl
  have g2_5 : u2.cell? ⟨N, 5, none⟩ = some (.slice B2 0 b2) := (W2.cell 5).trans rfl
  have g2_6 : u2.cell? ⟨N, 6, none⟩ = some (.slice C2 0 c2) := (W2.cell 6).trans rfl
  replace W2 := Lib.hid W2
  obtain ⟨uc2, huc2⟩ : ∃ z, z = u2.alloc (.cells #[.int .u32 4] 64) := ⟨_, rfl⟩
  have hbc : Below u2.heap.size u2 uc2 := by rw [huc2]; exact (Below.refl _ _).alloc (Nat.le_refl _) _
  have hrc : Row uc2 uc2.heap.size 1 (some ⟨u2.heap.size, 0, none⟩) 1 (n32 [4]) := by rw [huc2]; exact Row.fresh u2 64 #[.int .u32 4] 1 1 _ rfl rfl
  have HBc := Lib.hid (HB2.out.trans (hbc.mono HB2.out.size))
  have Wc := Lib.hid (W2.out.below hbc W2.out.lt)
  have CD := cdo_any (fun k => k ≠ N) (⟨(⟨⟨3, 3, 3, 3⟩, [⟨1, 2, 1⟩, ⟨5, 2, 2⟩], [], []⟩ : St), T2, A2, a2, B2, b2, C2, c2⟩ : Sm) ⟨⟨2, 1, 0, 0, 7, [4], 0, 0⟩, some ⟨u2.heap.size, 0, none⟩, 1⟩ uc2 (HS2.out.next hbc) ⟨hrc, by show 1 ≤ 4096; omega, ⟨fun _ a ha e => by injection ha with ha; subst ha; have e2 : u2.heap.size = N := e; omega, Nat.le_refl _, by show 1 ≤ maxLen; unfold maxLen; omega⟩, fun y hy => by simp at hy; omega⟩ (fun k hk e => by have := hbc.size; omega)
  unfold DoTold at CD
  rw [HE2.out, show (qmV ⟨⟨2, 1, 0, 0, 7, [4], 0, 0⟩, some ⟨u2.heap.size, 0, none⟩, 1⟩).toArray = #[.int .i64 2, .int .i64 1, .int .i64 0, .int .i64 0, .int .i64 7, .slice (some ⟨u2.heap.size, 0, none⟩) 1 1, .int .i64 0, .int .i64 0] from rfl] at CD
  dsimp only at CD
  replace CD := Lib.hid CD
  clear hrc
  have hbs := hbc.size
  clear hbc
  rw [huc2] at CD
  go_wp2_with fail
  refine CD.out.mono ?_
  rw [← huc2]
  rintro e v3 ⟨bv, s, hX, hS, rfl⟩
  obtain ⟨X3, T3, A3, a3, B3, b3, C3, c3⟩ := s
  dsimp only at hX
  obtain rfl : X3 = (⟨⟨3, 3, 3, 3⟩, [⟨1, 2, 1⟩, ⟨5, 2, 2⟩], [⟨7, 1, 0, [4]⟩], []⟩ : St) := hX.trans rfl
  have hT : T3.length = 1 := by have h2 := hS.ts; have h3 := congrArg List.length h2; simpa [tks] using h3.symm
  have hE : smA (⟨(⟨⟨3, 3, 3, 3⟩, [⟨1, 2, 1⟩, ⟨5, 2, 2⟩], [⟨7, 1, 0, [4]⟩], []⟩ : St), T3, A3, a3, B3, b3, C3, c3⟩ : Sm) = #[.int .i64 3, .int .i64 3, .int .i64 3, .int .i64 3, .slice A3 2 a3, .slice B3 1 b3, .slice C3 0 c3] := by unfold smA; dsimp only; rw [hT]; rfl
  rw [hE, show (doS (⟨⟨3, 3, 3, 3⟩, [⟨1, 2, 1⟩, ⟨5, 2, 2⟩], [], []⟩ : St) ⟨2, 1, 0, 0, 7, [4], 0, 0⟩).2 = 0 from rfl]
  have HE3 := Lib.hid hE
  have WV := Wc.out.below bv Wc.out.lt
  have z0 := WV.cell 0
  have z1 := WV.cell 1
  have z2 := WV.cell 2
  have z3 := WV.cell 3
  have z4 := WV.cell 4
  have z5 := WV.cell 5
  have z6 := WV.cell 6
  have y0 := WV.free 0
  have y1 := WV.free 1
  have y2 := WV.free 2
  have y3 := WV.free 3
  have y4 := WV.free 4
  have y5 := WV.free 5
  have y6 := WV.free 6
  have lv := WV.lt
  obtain ⟨u3, hu3⟩ : ∃ z, z = sets7 v3 N (.int .i64 3) (.int .i64 3) (.int .i64 3) (.int .i64 3) (.slice A3 2 a3) (.slice B3 1 b3) (.slice C3 0 c3) := ⟨_, rfl⟩
  have W3 : Whole u3 N 31 #[.int .i64 3, .int .i64 3, .int .i64 3, .int .i64 3, .slice A3 2 a3, .slice B3 1 b3, .slice C3 0 c3] := by rw [hu3]; exact sets7_whole WV rfl
  have HB3 := Lib.hid (show Below w.heap.size w u3 by rw [hu3]; exact sets7_below (HBc.out.trans (bv.mono HBc.out.size)) hlo)
  have HS3 := Lib.hid (show SAt (fun k => k ≠ N) u3 (⟨(⟨⟨3, 3, 3, 3⟩, [⟨1, 2, 1⟩, ⟨5, 2, 2⟩], [⟨7, 1, 0, [4]⟩], []⟩ : St), T3, A3, a3, B3, b3, C3, c3⟩ : Sm) by rw [hu3]; exact sets7_sat hS (fun h => h rfl))
  have l3 := W3.lt
  skip
  clear hX hT hE bv hS WV CD HE2 HS2 W2 HB2 l2 g2_0 g2_1 g2_2 g2_3 g2_4 g2_5 g2_6 HBc Wc huc2 hbs
  go_upto_region 5 with fail
  rw [show (((((((v3.setCell ⟨N, 0, none⟩ (.int .i64 3)).setCell ⟨N, 1, none⟩ (.int .i64 3)).setCell ⟨N, 2, none⟩ (.int .i64 3)).setCell ⟨N, 3, none⟩ (.int .i64 3)).setCell ⟨N, 4, none⟩ (.slice A3 2 a3)).setCell ⟨N, 5, none⟩ (.slice B3 1 b3)).setCell ⟨N, 6, none⟩ (.slice C3 0 c3)) = u3 from hu3.symm]
  clear hu3 z0 y0 z1 y1 z2 y2 z3 y3 z4 y4 z5 y5 z6 y6 lv
  have g3_0 : u3.cell? ⟨N, 0, none⟩ = some (.int .i64 3) := (W3.cell 0).trans rfl
  have g3_1 : u3.cell? ⟨N, 1, none⟩ = some (.int .i64 3) := (W3.cell 1).trans rfl
  have g3_2 : u3.cell? ⟨N, 2, none⟩ = some (.int .i64 3) := (W3.cell 2).trans rfl
  have g3_3 : u3.cell? ⟨N, 3, none⟩ = some (.int .i64 3) := (W3.cell 3).trans rfl
  have g3_4 : u3.cell? ⟨N, 4, none⟩ = some (.slice A3 2 a3) := (W3.cell 4).trans rfl
  have g3_5 : u3.cell? ⟨N, 5, none⟩ = some (.slice B3 1 b3) := (W3.cell 5).trans rfl
  have g3_6 : u3.cell? ⟨N, 6, none⟩ = some (.slice C3 0 c3) := (W3.cell 6).trans rfl
  replace W3 := Lib.hid W3
  have CD := cdo_any (fun k => k ≠ N) (⟨(⟨⟨3, 3, 3, 3⟩, [⟨1, 2, 1⟩, ⟨5, 2, 2⟩], [⟨7, 1, 0, [4]⟩], []⟩ : St), T3, A3, a3, B3, b3, C3, c3⟩ : Sm) ⟨⟨5, 5, 0, 0, 7, [], 0, 0⟩, none, 0⟩ u3 HS3.out ⟨Row.nil, by decide, ⟨fun h => by simp at h, Nat.le_refl _, by decide⟩, fun y hy => by cases hy⟩ (fun k hk e => by omega)
  unfold DoTold at CD
  rw [HE3.out, show (qmV ⟨⟨5, 5, 0, 0, 7, [], 0, 0⟩, none, 0⟩).toArray = #[.int .i64 5, .int .i64 5, .int .i64 0, .int .i64 0, .int .i64 7, .slice none 0 0, .int .i64 0, .int .i64 0] from rfl] at CD
  dsimp only at CD
  replace CD := Lib.hid CD
  go_wp2_with fail
  refine CD.out.mono ?_
  rintro e v4 ⟨bv, s, hX, hS, rfl⟩
  obtain ⟨X4, T4, A4, a4, B4, b4, C4, c4⟩ := s
  dsimp only at hX
  obtain rfl : X4 = (⟨⟨3, 3, 3, 3⟩, [⟨1, 2, 1⟩, ⟨5, 2, 2⟩], [⟨7, 1, 0, [4]⟩], [⟨5, 7, 0, 0, false⟩]⟩ : St) := hX.trans rfl
  have hT : T4.length = 1 := by have h2 := hS.ts; have h3 := congrArg List.length h2; simpa [tks] using h3.symm
  have hE : smA (⟨(⟨⟨3, 3, 3, 3⟩, [⟨1, 2, 1⟩, ⟨5, 2, 2⟩], [⟨7, 1, 0, [4]⟩], [⟨5, 7, 0, 0, false⟩]⟩ : St), T4, A4, a4, B4, b4, C4, c4⟩ : Sm) = #[.int .i64 3, .int .i64 3, .int .i64 3, .int .i64 3, .slice A4 2 a4, .slice B4 1 b4, .slice C4 1 c4] := by unfold smA; dsimp only; rw [hT]; rfl
  rw [hE, show (doS (⟨⟨3, 3, 3, 3⟩, [⟨1, 2, 1⟩, ⟨5, 2, 2⟩], [⟨7, 1, 0, [4]⟩], []⟩ : St) ⟨5, 5, 0, 0, 7, [], 0, 0⟩).2 = 0 from rfl]
  have HE4 := Lib.hid hE
  have WV := W3.out.below bv W3.out.lt
  have z0 := WV.cell 0
  have z1 := WV.cell 1
  have z2 := WV.cell 2
  have z3 := WV.cell 3
  have z4 := WV.cell 4
  have z5 := WV.cell 5
  have z6 := WV.cell 6
  have y0 := WV.free 0
  have y1 := WV.free 1
  have y2 := WV.free 2
  have y3 := WV.free 3
  have y4 := WV.free 4
  have y5 := WV.free 5
  have y6 := WV.free 6
  have lv := WV.lt
  obtain ⟨u4, hu4⟩ : ∃ z, z = sets7 v4 N (.int .i64 3) (.int .i64 3) (.int .i64 3) (.int .i64 3) (.slice A4 2 a4) (.slice B4 1 b4) (.slice C4 1 c4) := ⟨_, rfl⟩
  have W4 : Whole u4 N 31 #[.int .i64 3, .int .i64 3, .int .i64 3, .int .i64 3, .slice A4 2 a4, .slice B4 1 b4, .slice C4 1 c4] := by rw [hu4]; exact sets7_whole WV rfl
  have HB4 := Lib.hid (show Below w.heap.size w u4 by rw [hu4]; exact sets7_below (HB3.out.trans (bv.mono HB3.out.size)) hlo)
  have HS4 := Lib.hid (show SAt (fun k => k ≠ N) u4 (⟨(⟨⟨3, 3, 3, 3⟩, [⟨1, 2, 1⟩, ⟨5, 2, 2⟩], [⟨7, 1, 0, [4]⟩], [⟨5, 7, 0, 0, false⟩]⟩ : St), T4, A4, a4, B4, b4, C4, c4⟩ : Sm) by rw [hu4]; exact sets7_sat hS (fun h => h rfl))
  have l4 := W4.lt
  skip
  clear hX hT hE bv hS WV CD HE3 HS3 W3 HB3 l3 g3_0 g3_1 g3_2 g3_3 g3_4 g3_5 g3_6
  go_upto_region 6 with fail
  rw [show (((((((v4.setCell ⟨N, 0, none⟩ (.int .i64 3)).setCell ⟨N, 1, none⟩ (.int .i64 3)).setCell ⟨N, 2, none⟩ (.int .i64 3)).setCell ⟨N, 3, none⟩ (.int .i64 3)).setCell ⟨N, 4, none⟩ (.slice A4 2 a4)).setCell ⟨N, 5, none⟩ (.slice B4 1 b4)).setCell ⟨N, 6, none⟩ (.slice C4 1 c4)) = u4 from hu4.symm]
  clear hu4 z0 y0 z1 y1 z2 y2 z3 y3 z4 y4 z5 y5 z6 y6 lv
  have g4_0 : u4.cell? ⟨N, 0, none⟩ = some (.int .i64 3) := (W4.cell 0).trans rfl
  have g4_1 : u4.cell? ⟨N, 1, none⟩ = some (.int .i64 3) := (W4.cell 1).trans rfl
  have g4_2 : u4.cell? ⟨N, 2, none⟩ = some (.int .i64 3) := (W4.cell 2).trans rfl
  have g4_3 : u4.cell? ⟨N, 3, none⟩ = some (.int .i64 3) := (W4.cell 3).trans rfl
  have g4_4 : u4.cell? ⟨N, 4, none⟩ = some (.slice A4 2 a4) := (W4.cell 4).trans rfl
  have g4_5 : u4.cell? ⟨N, 5, none⟩ = some (.slice B4 1 b4) := (W4.cell 5).trans rfl
  have g4_6 : u4.cell? ⟨N, 6, none⟩ = some (.slice C4 1 c4) := (W4.cell 6).trans rfl
  replace W4 := Lib.hid W4
  have CD := cdo_any (fun k => k ≠ N) (⟨(⟨⟨3, 3, 3, 3⟩, [⟨1, 2, 1⟩, ⟨5, 2, 2⟩], [⟨7, 1, 0, [4]⟩], [⟨5, 7, 0, 0, false⟩]⟩ : St), T4, A4, a4, B4, b4, C4, c4⟩ : Sm) ⟨⟨1, 1, 0, 0, 0, [], 0, 0⟩, none, 0⟩ u4 HS4.out ⟨Row.nil, by decide, ⟨fun h => by simp at h, Nat.le_refl _, by decide⟩, fun y hy => by cases hy⟩ (fun k hk e => by omega)
  unfold DoTold at CD
  rw [HE4.out, show (qmV ⟨⟨1, 1, 0, 0, 0, [], 0, 0⟩, none, 0⟩).toArray = #[.int .i64 1, .int .i64 1, .int .i64 0, .int .i64 0, .int .i64 0, .slice none 0 0, .int .i64 0, .int .i64 0] from rfl] at CD
  dsimp only at CD
  replace CD := Lib.hid CD
  go_wp2_with fail
  refine CD.out.mono ?_
  rintro e v5 ⟨bv, s, hX, hS, rfl⟩
  obtain ⟨X5, T5, A5, a5, B5, b5, C5, c5⟩ := s
  dsimp only at hX
  obtain rfl : X5 = (⟨⟨3, 3, 3, 3⟩, [⟨5, 2, 2⟩], [], []⟩ : St) := hX.trans rfl
  have hT : T5.length = 0 := by have h2 := hS.ts; have h3 := congrArg List.length h2; simpa [tks] using h3.symm
  have hE : smA (⟨(⟨⟨3, 3, 3, 3⟩, [⟨5, 2, 2⟩], [], []⟩ : St), T5, A5, a5, B5, b5, C5, c5⟩ : Sm) = #[.int .i64 3, .int .i64 3, .int .i64 3, .int .i64 3, .slice A5 1 a5, .slice B5 0 b5, .slice C5 0 c5] := by unfold smA; dsimp only; rw [hT]; rfl
  rw [hE, show (doS (⟨⟨3, 3, 3, 3⟩, [⟨1, 2, 1⟩, ⟨5, 2, 2⟩], [⟨7, 1, 0, [4]⟩], [⟨5, 7, 0, 0, false⟩]⟩ : St) ⟨1, 1, 0, 0, 0, [], 0, 0⟩).2 = 0 from rfl]
  have HE5 := Lib.hid hE
  obtain ⟨u5, hu5⟩ : ∃ z, z = v5.alloc (.cells #[.int .i64 3, .int .i64 3, .int .i64 3, .int .i64 3, .slice A5 1 a5, .slice B5 0 b5, .slice C5 0 c5] 31) := ⟨_, rfl⟩
  obtain ⟨M, hM⟩ : ∃ M, M = v5.heap.size := ⟨_, rfl⟩
  have ba : Below v5.heap.size v5 u5 := by rw [hu5]; exact (Below.refl _ _).alloc (Nat.le_refl _) _
  have V5 : Whole u5 M 31 #[.int .i64 3, .int .i64 3, .int .i64 3, .int .i64 3, .slice A5 1 a5, .slice B5 0 b5, .slice C5 0 c5] := by rw [hu5, hM]; exact Whole.new v5 _ _
  have b45 : Below u4.heap.size u4 u5 := bv.trans (ba.mono bv.size)
  have W5 := W4.out.below b45 W4.out.lt
  have HB5 := Lib.hid (HB4.out.trans (b45.mono HB4.out.size))
  have HS45 := Lib.hid (HS4.out.next b45)
  have HS5 := Lib.hid (hS.next ba)
  have l5 := W5.lt
  have m5 := V5.lt
  have HM := Lib.hid hM
  clear hX hT hE bv hS CD HS4 W4 HB4 l4 ba b45 g4_0 g4_1 g4_2 g4_3 g4_4 g4_5 g4_6
  go_upto_region 7 with fail
  rw [← hu5, ← hM]
  clear hu5 hM
  have g5_0 : u5.cell? ⟨N, 0, none⟩ = some (.int .i64 3) := (W5.cell 0).trans rfl
  have g5_1 : u5.cell? ⟨N, 1, none⟩ = some (.int .i64 3) := (W5.cell 1).trans rfl
  have g5_2 : u5.cell? ⟨N, 2, none⟩ = some (.int .i64 3) := (W5.cell 2).trans rfl
  have g5_3 : u5.cell? ⟨N, 3, none⟩ = some (.int .i64 3) := (W5.cell 3).trans rfl
  have g5_4 : u5.cell? ⟨N, 4, none⟩ = some (.slice A4 2 a4) := (W5.cell 4).trans rfl
  have g5_5 : u5.cell? ⟨N, 5, none⟩ = some (.slice B4 1 b4) := (W5.cell 5).trans rfl
  have g5_6 : u5.cell? ⟨N, 6, none⟩ = some (.slice C4 1 c4) := (W5.cell 6).trans rfl
  have h5_0 : u5.cell? ⟨M, 0, none⟩ = some (.int .i64 3) := (V5.cell 0).trans rfl
  have h5_1 : u5.cell? ⟨M, 1, none⟩ = some (.int .i64 3) := (V5.cell 1).trans rfl
  have h5_2 : u5.cell? ⟨M, 2, none⟩ = some (.int .i64 3) := (V5.cell 2).trans rfl
  have h5_3 : u5.cell? ⟨M, 3, none⟩ = some (.int .i64 3) := (V5.cell 3).trans rfl
  have h5_4 : u5.cell? ⟨M, 4, none⟩ = some (.slice A5 1 a5) := (V5.cell 4).trans rfl
  have h5_5 : u5.cell? ⟨M, 5, none⟩ = some (.slice B5 0 b5) := (V5.cell 5).trans rfl
  have h5_6 : u5.cell? ⟨M, 6, none⟩ = some (.slice C5 0 c5) := (V5.cell 6).trans rfl
  have CG := cgone_any (fun k => k ≠ N) (⟨(⟨⟨3, 3, 3, 3⟩, [⟨1, 2, 1⟩, ⟨5, 2, 2⟩], [⟨7, 1, 0, [4]⟩], [⟨5, 7, 0, 0, false⟩]⟩ : St), T4, A4, a4, B4, b4, C4, c4⟩ : Sm) (⟨(⟨⟨3, 3, 3, 3⟩, [⟨5, 2, 2⟩], [], []⟩ : St), T5, A5, a5, B5, b5, C5, c5⟩ : Sm) u5 HS45.out HS5.out
  rw [HE4.out, HE5.out] at CG
  rw [show goneS (⟨(⟨⟨3, 3, 3, 3⟩, [⟨1, 2, 1⟩, ⟨5, 2, 2⟩], [⟨7, 1, 0, [4]⟩], [⟨5, 7, 0, 0, false⟩]⟩ : St), T4, A4, a4, B4, b4, C4, c4⟩ : Sm).X (⟨(⟨⟨3, 3, 3, 3⟩, [⟨5, 2, 2⟩], [], []⟩ : St), T5, A5, a5, B5, b5, C5, c5⟩ : Sm).X = [⟨5, 7, 0, 0, false⟩] from rfl] at CG
  replace CG := Lib.hid CG
  replace W5 := Lib.hid W5
  replace V5 := Lib.hid V5
  go_wp2_with fail
  refine CG.out.mono ?_
  rintro e v6 ⟨GA, gc, rfl, oG, b6⟩
  have hz6 := b6.size
  have HS6 := Lib.hid (HS45.out.next b6)
  have W6 := W5.out.below b6 W5.out.lt
  have V6 := V5.out.below b6 V5.out.lt
  have HB6 := Lib.hid (HB5.out.trans (b6.mono HB5.out.size))
  have l6 := W6.lt
  have HG6 := Lib.hid (Row.of_own oG)
  clear CG b6 oG W5 V5 HB5 HS45 HS5 HE5 l5 m5 g5_0 h5_0 g5_1 h5_1 g5_2 h5_2 g5_3 h5_3 g5_4 h5_4 g5_5 h5_5 g5_6 h5_6
  have g6_0 : v6.cell? ⟨N, 0, none⟩ = some (.int .i64 3) := (W6.cell 0).trans rfl
  have g6_1 : v6.cell? ⟨N, 1, none⟩ = some (.int .i64 3) := (W6.cell 1).trans rfl
  have g6_2 : v6.cell? ⟨N, 2, none⟩ = some (.int .i64 3) := (W6.cell 2).trans rfl
  have g6_3 : v6.cell? ⟨N, 3, none⟩ = some (.int .i64 3) := (W6.cell 3).trans rfl
  have g6_4 : v6.cell? ⟨N, 4, none⟩ = some (.slice A4 2 a4) := (W6.cell 4).trans rfl
  have g6_5 : v6.cell? ⟨N, 5, none⟩ = some (.slice B4 1 b4) := (W6.cell 5).trans rfl
  have g6_6 : v6.cell? ⟨N, 6, none⟩ = some (.slice C4 1 c4) := (W6.cell 6).trans rfl
  replace W6 := Lib.hid W6
  replace V6 := Lib.hid V6
  obtain ⟨uc5, huc5⟩ : ∃ z, z = v6.alloc (.cells #[.int .u32 5] 64) := ⟨_, rfl⟩
  have hbc : Below v6.heap.size v6 uc5 := by rw [huc5]; exact (Below.refl _ _).alloc (Nat.le_refl _) _
  have hrc : Row uc5 uc5.heap.size 1 (some ⟨v6.heap.size, 0, none⟩) 1 (n32 [5]) := by rw [huc5]; exact Row.fresh v6 64 #[.int .u32 5] 1 1 _ rfl rfl
  have CD := cdo_any (fun k => k ≠ N) (⟨(⟨⟨3, 3, 3, 3⟩, [⟨1, 2, 1⟩, ⟨5, 2, 2⟩], [⟨7, 1, 0, [4]⟩], [⟨5, 7, 0, 0, false⟩]⟩ : St), T4, A4, a4, B4, b4, C4, c4⟩ : Sm) ⟨⟨2, 5, 0, 0, 8, [5], 0, 0⟩, some ⟨v6.heap.size, 0, none⟩, 1⟩ uc5 (HS6.out.next hbc) ⟨hrc, by show 1 ≤ 4096; omega, ⟨fun _ a ha e => by injection ha with ha; subst ha; have e2 : v6.heap.size = N := e; omega, Nat.le_refl _, by show 1 ≤ maxLen; unfold maxLen; omega⟩, fun y hy => by simp at hy; omega⟩ (fun k hk e => by have := hbc.size; omega)
  unfold DoTold at CD
  rw [HE4.out, show (qmV ⟨⟨2, 5, 0, 0, 8, [5], 0, 0⟩, some ⟨v6.heap.size, 0, none⟩, 1⟩).toArray = #[.int .i64 2, .int .i64 5, .int .i64 0, .int .i64 0, .int .i64 8, .slice (some ⟨v6.heap.size, 0, none⟩) 1 1, .int .i64 0, .int .i64 0] from rfl] at CD
  dsimp only at CD
  replace CD := Lib.hid CD
  have Wc := Lib.hid (W6.out.below hbc W6.out.lt)
  have Vc := Lib.hid (V6.out.below hbc V6.out.lt)
  have HBc := Lib.hid (HB6.out.trans (hbc.mono HB6.out.size))
  have HGc := Lib.hid ((HG6.out.below hbc (Nat.le_refl _)).more hbc.size)
  clear hrc hbc
  rw [huc5] at CD
  go_wp2_with fail
  refine CD.out.mono ?_
  rw [← huc5]
  rintro e v7 ⟨bv, s, hX, hS, rfl⟩
  obtain ⟨X6, T6, A6, a6, B6, b6, C6, c6⟩ := s
  dsimp only at hX
  obtain rfl : X6 = (⟨⟨3, 3, 3, 3⟩, [⟨1, 2, 1⟩, ⟨5, 2, 2⟩], [⟨7, 1, 0, [4]⟩], [⟨5, 7, 0, 0, false⟩]⟩ : St) := hX.trans rfl
  have hT : T6.length = 1 := by have h2 := hS.ts; have h3 := congrArg List.length h2; simpa [tks] using h3.symm
  have hE : smA (⟨(⟨⟨3, 3, 3, 3⟩, [⟨1, 2, 1⟩, ⟨5, 2, 2⟩], [⟨7, 1, 0, [4]⟩], [⟨5, 7, 0, 0, false⟩]⟩ : St), T6, A6, a6, B6, b6, C6, c6⟩ : Sm) = #[.int .i64 3, .int .i64 3, .int .i64 3, .int .i64 3, .slice A6 2 a6, .slice B6 1 b6, .slice C6 1 c6] := by unfold smA; dsimp only; rw [hT]; rfl
  rw [hE, show (doS (⟨⟨3, 3, 3, 3⟩, [⟨1, 2, 1⟩, ⟨5, 2, 2⟩], [⟨7, 1, 0, [4]⟩], [⟨5, 7, 0, 0, false⟩]⟩ : St) ⟨2, 5, 0, 0, 8, [5], 0, 0⟩).2 = 24 from rfl]
  have ba := bv.alloc bv.size (.cells #[.int .i64 3, .int .i64 3, .int .i64 3, .int .i64 3, .slice A6 2 a6, .slice B6 1 b6, .slice C6 1 c6] 31)
  have WF := Wc.out.below ba Wc.out.lt
  have VF := Vc.out.below ba Vc.out.lt
  have HGF := (HGc.out.below ba (Nat.le_refl _))
  obtain ⟨gg, go, rfl, hgl, hgc⟩ := HGF.2 (by decide)
  have k0 := hgc 0 (.int .i64 5) rfl
  have HBF := Lib.hid (HBc.out.trans (ba.mono HBc.out.size))
  have lgg : gg < (v7.alloc (.cells #[.int .i64 3, .int .i64 3, .int .i64 3, .int .i64 3, .slice A6 2 a6, .slice B6 1 b6, .slice C6 1 c6] 31)).heap.size := Nat.lt_of_lt_of_le hgl ba.size
  have n6 := (WF.cell 6).trans (show _ = some (.slice C4 1 c4) from rfl)
  have p4 := (VF.cell 4).trans (show _ = some (.slice A5 1 a5) from rfl)
  have p5 := (VF.cell 5).trans (show _ = some (.slice B5 0 b5) from rfl)
  have p6 := (VF.cell 6).trans (show _ = some (.slice C5 0 c5) from rfl)
  have lW := WF.lt
  have lV := VF.lt
  rw [Nat.add_zero] at k0
  clear hX hT hE bv hS CD ba WF VF HGF hgc Wc Vc HBc HGc W6 V6 HB6 HG6 HS6 HE4 huc5 g6_0 g6_1 g6_2 g6_3 g6_4 g6_5 g6_6
  go_wp2_with fail
  go_ret
  exact ⟨rfl, HBF.out⟩
end Go.Proofs.Ytmmeceehfdbdoaa
