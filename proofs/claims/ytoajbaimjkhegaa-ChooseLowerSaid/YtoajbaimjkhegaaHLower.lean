/-
  Proved: ChooseLower returns true for every state, whatever is wanted, and every packet: where less is wanted, what begins a frame of the stream is sent up to that, at once; where more is wanted, it is at the next frame at which that can begin. Conditions: none.
-/
import Derived.Test.YtoajbaimjkhegaaChD
import Derived.Test.YtoajbaimjkhegaaChO
import Derived.Test.YtoajbaimjkhegaaLift
import Derived.Deep.CutBlock
namespace Go.Proofs.Ytoajbaimjkhegaa.HLower
open Go.ChangeShapes Go.WideShapes Go.ChangeAt Go.RowKit
set_option linter.unusedSimpArgs false
set_option linter.unusedVariables false

set_option maxRecDepth 100000 in
set_option maxHeartbeats 6400000 in
theorem walk (w : World) (s : Cs) (u : Cw) (x : Cx) :
    Calls Try.prog 8 #[.agg s.cells, .agg u.cells, .agg x.cells] w fun e w' => e = .returned (.bool true) ∧ Below w.heap.size w w' := by
  have CA := Lib.hid (fun w => awake_any w)
  obtain ⟨on, ss, sl, st⟩ := s
  obtain ⟨xs, xl, beg, who, has, xt, syn⟩ := x
  obtain ⟨ws, wl, wt⟩ := u
  have hn : Cs.next ⟨true, ss, sl, st⟩ ⟨ss, sl, true, who, has, xt, syn⟩ ⟨ws, wl, wt⟩ = ⟨true, ss, sl, Cs.tidS ⟨true, ss, sl, st⟩ ⟨ss, sl, true, who, has, xt, syn⟩ ⟨ws, wl, wt⟩⟩ := Cs.next_own (Cs.own_iff.2 ⟨rfl, rfl, rfl⟩)
  have hk : Cs.kind ⟨true, ss, sl, st⟩ ⟨ss, sl, true, who, has, xt, syn⟩ ⟨ws, wl, wt⟩ = if has = true ∧ Cs.tidS ⟨true, ss, sl, st⟩ ⟨ss, sl, true, who, has, xt, syn⟩ ⟨ws, wl, wt⟩ < xt then 2 else 1 := Cs.kind_own (Cs.own_iff.2 ⟨rfl, rfl, rfl⟩)
  dsimp only [Cs.cells, Cx.cells, Cw.cells]
  have N1 := (Whole.new w 23 #[.bool on, .int .i64 ss, .int .i64 sl, .int .i64 st]).alloc (.cells #[.int .i64 ws, .int .i64 wl, .int .i64 wt] 27)
  have N2 := Whole.new2 w (.cells #[.bool on, .int .i64 ss, .int .i64 sl, .int .i64 st] 23) 27 #[.int .i64 ws, .int .i64 wl, .int .i64 wt]
  have N3 : Whole (((w.alloc (.cells #[.bool on, .int .i64 ss, .int .i64 sl, .int .i64 st] 23)).alloc (.cells #[.int .i64 ws, .int .i64 wl, .int .i64 wt] 27)).alloc (.cells #[.int .i64 xs, .int .i64 xl, .bool beg, .bool who, .bool has, .int .i64 xt, .bool syn] 25)) (w.heap.size + 1 + 1) 25 #[.int .i64 xs, .int .i64 xl, .bool beg, .bool who, .bool has, .int .i64 xt, .bool syn] := by have := Whole.new2 (w.alloc (.cells #[.bool on, .int .i64 ss, .int .i64 sl, .int .i64 st] 23)) (.cells #[.int .i64 ws, .int .i64 wl, .int .i64 wt] 27) 25 #[.int .i64 xs, .int .i64 xl, .bool beg, .bool who, .bool has, .int .i64 xt, .bool syn]; simpa using this
  have NB := (((Below.refl w.heap.size w).alloc (Nat.le_refl _) (.cells #[.bool on, .int .i64 ss, .int .i64 sl, .int .i64 st] 23)).alloc (by simp) (.cells #[.int .i64 ws, .int .i64 wl, .int .i64 wt] 27)).alloc (by simp; omega) (.cells #[.int .i64 xs, .int .i64 xl, .bool beg, .bool who, .bool has, .int .i64 xt, .bool syn] 25)
  have S0 := Lib.hid (N1.alloc (.cells #[.int .i64 xs, .int .i64 xl, .bool beg, .bool who, .bool has, .int .i64 xt, .bool syn] 25))
  have U0 := Lib.hid (N2.alloc (.cells #[.int .i64 xs, .int .i64 xl, .bool beg, .bool who, .bool has, .int .i64 xt, .bool syn] 25))
  have X0 := Lib.hid N3
  have B0 := Lib.hid NB
  clear N1 N2 N3 NB
  go_enter Try.func8, Try.ntmps8
  go_wp2_with fail
  refine (CA.out _).mono ?_
  rintro e w1 ⟨rfl, b1⟩
  have S1 := S0.out.below b1 S0.out.lt
  have U1 := U0.out.below b1 U0.out.lt
  have X1 := X0.out.below b1 X0.out.lt
  have HB := Lib.hid (B0.out.trans (b1.mono B0.out.size))
  have k0 := S1.cell 0
  have k1 := S1.cell 1
  have k2 := S1.cell 2
  have k3 := S1.cell 3
  have u0 := U1.cell 0
  have u1 := U1.cell 1
  have u2 := U1.cell 2
  have x0 := X1.cell 0
  have x1 := X1.cell 1
  have x2 := X1.cell 2
  have x3 := X1.cell 3
  have x4 := X1.cell 4
  have x5 := X1.cell 5
  have x6 := X1.cell 6
  have f0 := S1.free 0
  have fx0 := X1.free 0
  have fx1 := X1.free 1
  have fx2 := X1.free 2
  have HS := Lib.hid ((((S1.set 0 (.bool true)).far (p := ⟨w.heap.size + 1 + 1, 0, none⟩) (show w.heap.size ≠ w.heap.size + 1 + 1 by omega) (.int .i64 ss)).far (p := ⟨w.heap.size + 1 + 1, 1, none⟩) (show w.heap.size ≠ w.heap.size + 1 + 1 by omega) (.int .i64 sl)).far (p := ⟨w.heap.size + 1 + 1, 2, none⟩) (show w.heap.size ≠ w.heap.size + 1 + 1 by omega) (.bool true))
  have HU := Lib.hid ((((U1.far (p := ⟨w.heap.size, 0, none⟩) (show w.heap.size + 1 ≠ w.heap.size by omega) (.bool true)).far (p := ⟨w.heap.size + 1 + 1, 0, none⟩) (show w.heap.size + 1 ≠ w.heap.size + 1 + 1 by omega) (.int .i64 ss)).far (p := ⟨w.heap.size + 1 + 1, 1, none⟩) (show w.heap.size + 1 ≠ w.heap.size + 1 + 1 by omega) (.int .i64 sl)).far (p := ⟨w.heap.size + 1 + 1, 2, none⟩) (show w.heap.size + 1 ≠ w.heap.size + 1 + 1 by omega) (.bool true))
  have HX := Lib.hid ((((X1.far (p := ⟨w.heap.size, 0, none⟩) (show w.heap.size + 1 + 1 ≠ w.heap.size by omega) (.bool true)).set 0 (.int .i64 ss)).set 1 (.int .i64 sl)).set 2 (.bool true))
  have HB2 := Lib.hid ((((HB.out.setCell (p := ⟨w.heap.size, 0, none⟩) (Nat.le_refl _) (.bool true)).setCell (p := ⟨w.heap.size + 1 + 1, 0, none⟩) (show w.heap.size ≤ w.heap.size + 1 + 1 by omega) (.int .i64 ss)).setCell (p := ⟨w.heap.size + 1 + 1, 1, none⟩) (show w.heap.size ≤ w.heap.size + 1 + 1 by omega) (.int .i64 sl)).setCell (p := ⟨w.heap.size + 1 + 1, 2, none⟩) (show w.heap.size ≤ w.heap.size + 1 + 1 by omega) (.bool true))
  have hg1 := X1.lt
  clear b1 S1 U1 X1 S0 U0 X0 B0 CA HB
  go_upto_region 8 with fail
  obtain ⟨wq, hwq⟩ : ∃ wq, wq = (((w1.setCell ⟨w.heap.size, 0, none⟩ (.bool true)).setCell ⟨w.heap.size + 1 + 1, 0, none⟩ (.int .i64 ss)).setCell ⟨w.heap.size + 1 + 1, 1, none⟩ (.int .i64 sl)).setCell ⟨w.heap.size + 1 + 1, 2, none⟩ (.bool true) := ⟨_, rfl⟩
  rw [← hwq] at HS HU HX HB2 ⊢
  clear hwq k0 k1 k2 k3 u0 u1 u2 x0 x1 x2 x3 x4 x5 x6 f0 fx0 fx1 fx2 hg1
  have k0 : wq.cell? ⟨w.heap.size, 0, none⟩ = some (.bool true) := HS.out.cell 0
  have k1 : wq.cell? ⟨w.heap.size, 1, none⟩ = some (.int .i64 ss) := HS.out.cell 1
  have k2 : wq.cell? ⟨w.heap.size, 2, none⟩ = some (.int .i64 sl) := HS.out.cell 2
  have k3 : wq.cell? ⟨w.heap.size, 3, none⟩ = some (.int .i64 st) := HS.out.cell 3
  have u0 : wq.cell? ⟨w.heap.size + 1, 0, none⟩ = some (.int .i64 ws) := HU.out.cell 0
  have u1 : wq.cell? ⟨w.heap.size + 1, 1, none⟩ = some (.int .i64 wl) := HU.out.cell 1
  have u2 : wq.cell? ⟨w.heap.size + 1, 2, none⟩ = some (.int .i64 wt) := HU.out.cell 2
  have x0 : wq.cell? ⟨w.heap.size + 1 + 1, 0, none⟩ = some (.int .i64 ss) := HX.out.cell 0
  have x1 : wq.cell? ⟨w.heap.size + 1 + 1, 1, none⟩ = some (.int .i64 sl) := HX.out.cell 1
  have x2 : wq.cell? ⟨w.heap.size + 1 + 1, 2, none⟩ = some (.bool true) := HX.out.cell 2
  have x3 : wq.cell? ⟨w.heap.size + 1 + 1, 3, none⟩ = some (.bool who) := HX.out.cell 3
  have x4 : wq.cell? ⟨w.heap.size + 1 + 1, 4, none⟩ = some (.bool has) := HX.out.cell 4
  have x5 : wq.cell? ⟨w.heap.size + 1 + 1, 5, none⟩ = some (.int .i64 xt) := HX.out.cell 5
  have x6 : wq.cell? ⟨w.heap.size + 1 + 1, 6, none⟩ = some (.bool syn) := HX.out.cell 6
  cases who with
  | true =>
    by_cases c1 : wt ≤ st
    · cases has with
      | false =>
        have e0 : True := trivial
        have htd : Cs.tidS ⟨true, ss, sl, st⟩ ⟨ss, sl, true, true, false, xt, syn⟩ ⟨ws, wl, wt⟩ = wt := by simp [Cs.tidS, e0]
        rw [htd] at hn hk
        replace hk : Cs.kind ⟨true, ss, sl, st⟩ ⟨ss, sl, true, true, false, xt, syn⟩ ⟨ws, wl, wt⟩ = 1 := by rw [hk]; simp [e0]
        have C := fun w => ct_lit _ _ _ true ss sl wt 1 hn hk w
        dsimp only [Cs.cells, Cx.cells, Cw.cells] at C
        have C := Lib.hid C
        clear htd hn hk
        have HE := fun w => eql_state w ⟨true, ss, sl, st⟩
        dsimp only [Cs.cells] at HE
        go_wp2_with fail
        refine (C.out _).mono ?_
        rintro e w2 ⟨rfl, b2⟩
        have S2 := HS.out.below b2 HS.out.lt
        have U2 := HU.out.below b2 HU.out.lt
        have X2 := HX.out.below b2 HX.out.lt
        have HB3 := Lib.hid (HB2.out.trans (b2.mono HB2.out.size))
        have l1 := S2.lt
        have l2 := U2.lt
        have l3 := X2.lt
        clear k0 k1 k2 k3 u0 u1 u2 x0 x1 x2 x3 x4 x5 x6 b2 C
        have k0 : w2.cell? ⟨w.heap.size, 0, none⟩ = some (.bool true) := S2.cell 0
        have k1 : w2.cell? ⟨w.heap.size, 1, none⟩ = some (.int .i64 ss) := S2.cell 1
        have k2 : w2.cell? ⟨w.heap.size, 2, none⟩ = some (.int .i64 sl) := S2.cell 2
        have k3 : w2.cell? ⟨w.heap.size, 3, none⟩ = some (.int .i64 st) := S2.cell 3
        have u0 : w2.cell? ⟨w.heap.size + 1, 0, none⟩ = some (.int .i64 ws) := U2.cell 0
        have u1 : w2.cell? ⟨w.heap.size + 1, 1, none⟩ = some (.int .i64 wl) := U2.cell 1
        have u2 : w2.cell? ⟨w.heap.size + 1, 2, none⟩ = some (.int .i64 wt) := U2.cell 2
        have x0 : w2.cell? ⟨w.heap.size + 1 + 1, 0, none⟩ = some (.int .i64 ss) := X2.cell 0
        have x1 : w2.cell? ⟨w.heap.size + 1 + 1, 1, none⟩ = some (.int .i64 sl) := X2.cell 1
        have x2 : w2.cell? ⟨w.heap.size + 1 + 1, 2, none⟩ = some (.bool true) := X2.cell 2
        have x3 : w2.cell? ⟨w.heap.size + 1 + 1, 3, none⟩ = some (.bool true) := X2.cell 3
        have x4 : w2.cell? ⟨w.heap.size + 1 + 1, 4, none⟩ = some (.bool false) := X2.cell 4
        have x5 : w2.cell? ⟨w.heap.size + 1 + 1, 5, none⟩ = some (.int .i64 xt) := X2.cell 5
        have x6 : w2.cell? ⟨w.heap.size + 1 + 1, 6, none⟩ = some (.bool syn) := X2.cell 6
        clear S2 U2 X2 HS HU HX
        go_wp2
        go_ret
        exact ⟨ret_bool (by simp <;> omega), HB3.out.alloc HB3.out.size _⟩
      | true =>
        by_cases c2 : wt < xt
        · have e0 : True := trivial
          have htd : Cs.tidS ⟨true, ss, sl, st⟩ ⟨ss, sl, true, true, true, xt, syn⟩ ⟨ws, wl, wt⟩ = wt := by simp [Cs.tidS, e0, c2]
          rw [htd] at hn hk
          replace hk : Cs.kind ⟨true, ss, sl, st⟩ ⟨ss, sl, true, true, true, xt, syn⟩ ⟨ws, wl, wt⟩ = 2 := by rw [hk]; simp [e0, c2]
          have C := fun w => ct_lit _ _ _ true ss sl wt 2 hn hk w
          dsimp only [Cs.cells, Cx.cells, Cw.cells] at C
          have C := Lib.hid C
          clear htd hn hk
          have HE := fun w => eql_state w ⟨true, ss, sl, st⟩
          dsimp only [Cs.cells] at HE
          go_wp2_with fail
          refine (C.out _).mono ?_
          rintro e w2 ⟨rfl, b2⟩
          have S2 := HS.out.below b2 HS.out.lt
          have U2 := HU.out.below b2 HU.out.lt
          have X2 := HX.out.below b2 HX.out.lt
          have HB3 := Lib.hid (HB2.out.trans (b2.mono HB2.out.size))
          have l1 := S2.lt
          have l2 := U2.lt
          have l3 := X2.lt
          clear k0 k1 k2 k3 u0 u1 u2 x0 x1 x2 x3 x4 x5 x6 b2 C
          have k0 : w2.cell? ⟨w.heap.size, 0, none⟩ = some (.bool true) := S2.cell 0
          have k1 : w2.cell? ⟨w.heap.size, 1, none⟩ = some (.int .i64 ss) := S2.cell 1
          have k2 : w2.cell? ⟨w.heap.size, 2, none⟩ = some (.int .i64 sl) := S2.cell 2
          have k3 : w2.cell? ⟨w.heap.size, 3, none⟩ = some (.int .i64 st) := S2.cell 3
          have u0 : w2.cell? ⟨w.heap.size + 1, 0, none⟩ = some (.int .i64 ws) := U2.cell 0
          have u1 : w2.cell? ⟨w.heap.size + 1, 1, none⟩ = some (.int .i64 wl) := U2.cell 1
          have u2 : w2.cell? ⟨w.heap.size + 1, 2, none⟩ = some (.int .i64 wt) := U2.cell 2
          have x0 : w2.cell? ⟨w.heap.size + 1 + 1, 0, none⟩ = some (.int .i64 ss) := X2.cell 0
          have x1 : w2.cell? ⟨w.heap.size + 1 + 1, 1, none⟩ = some (.int .i64 sl) := X2.cell 1
          have x2 : w2.cell? ⟨w.heap.size + 1 + 1, 2, none⟩ = some (.bool true) := X2.cell 2
          have x3 : w2.cell? ⟨w.heap.size + 1 + 1, 3, none⟩ = some (.bool true) := X2.cell 3
          have x4 : w2.cell? ⟨w.heap.size + 1 + 1, 4, none⟩ = some (.bool true) := X2.cell 4
          have x5 : w2.cell? ⟨w.heap.size + 1 + 1, 5, none⟩ = some (.int .i64 xt) := X2.cell 5
          have x6 : w2.cell? ⟨w.heap.size + 1 + 1, 6, none⟩ = some (.bool syn) := X2.cell 6
          clear S2 U2 X2 HS HU HX
          go_wp2
          go_ret
          exact ⟨ret_bool (by simp <;> omega), HB3.out.alloc HB3.out.size _⟩
        · have e0 : True := trivial
          have htd : Cs.tidS ⟨true, ss, sl, st⟩ ⟨ss, sl, true, true, true, xt, syn⟩ ⟨ws, wl, wt⟩ = wt := by simp [Cs.tidS, e0, c2]
          rw [htd] at hn hk
          replace hk : Cs.kind ⟨true, ss, sl, st⟩ ⟨ss, sl, true, true, true, xt, syn⟩ ⟨ws, wl, wt⟩ = 1 := by rw [hk]; simp [e0, c2]
          have C := fun w => ct_lit _ _ _ true ss sl wt 1 hn hk w
          dsimp only [Cs.cells, Cx.cells, Cw.cells] at C
          have C := Lib.hid C
          clear htd hn hk
          have HE := fun w => eql_state w ⟨true, ss, sl, st⟩
          dsimp only [Cs.cells] at HE
          go_wp2_with fail
          refine (C.out _).mono ?_
          rintro e w2 ⟨rfl, b2⟩
          have S2 := HS.out.below b2 HS.out.lt
          have U2 := HU.out.below b2 HU.out.lt
          have X2 := HX.out.below b2 HX.out.lt
          have HB3 := Lib.hid (HB2.out.trans (b2.mono HB2.out.size))
          have l1 := S2.lt
          have l2 := U2.lt
          have l3 := X2.lt
          clear k0 k1 k2 k3 u0 u1 u2 x0 x1 x2 x3 x4 x5 x6 b2 C
          have k0 : w2.cell? ⟨w.heap.size, 0, none⟩ = some (.bool true) := S2.cell 0
          have k1 : w2.cell? ⟨w.heap.size, 1, none⟩ = some (.int .i64 ss) := S2.cell 1
          have k2 : w2.cell? ⟨w.heap.size, 2, none⟩ = some (.int .i64 sl) := S2.cell 2
          have k3 : w2.cell? ⟨w.heap.size, 3, none⟩ = some (.int .i64 st) := S2.cell 3
          have u0 : w2.cell? ⟨w.heap.size + 1, 0, none⟩ = some (.int .i64 ws) := U2.cell 0
          have u1 : w2.cell? ⟨w.heap.size + 1, 1, none⟩ = some (.int .i64 wl) := U2.cell 1
          have u2 : w2.cell? ⟨w.heap.size + 1, 2, none⟩ = some (.int .i64 wt) := U2.cell 2
          have x0 : w2.cell? ⟨w.heap.size + 1 + 1, 0, none⟩ = some (.int .i64 ss) := X2.cell 0
          have x1 : w2.cell? ⟨w.heap.size + 1 + 1, 1, none⟩ = some (.int .i64 sl) := X2.cell 1
          have x2 : w2.cell? ⟨w.heap.size + 1 + 1, 2, none⟩ = some (.bool true) := X2.cell 2
          have x3 : w2.cell? ⟨w.heap.size + 1 + 1, 3, none⟩ = some (.bool true) := X2.cell 3
          have x4 : w2.cell? ⟨w.heap.size + 1 + 1, 4, none⟩ = some (.bool true) := X2.cell 4
          have x5 : w2.cell? ⟨w.heap.size + 1 + 1, 5, none⟩ = some (.int .i64 xt) := X2.cell 5
          have x6 : w2.cell? ⟨w.heap.size + 1 + 1, 6, none⟩ = some (.bool syn) := X2.cell 6
          clear S2 U2 X2 HS HU HX
          go_wp2
          go_ret
          exact ⟨ret_bool (by simp <;> omega), HB3.out.alloc HB3.out.size _⟩
    · cases has with
      | false =>
        have e0 : True := trivial
        have htd : Cs.tidS ⟨true, ss, sl, st⟩ ⟨ss, sl, true, true, false, xt, syn⟩ ⟨ws, wl, wt⟩ = wt := by simp [Cs.tidS, e0]
        rw [htd] at hn hk
        replace hk : Cs.kind ⟨true, ss, sl, st⟩ ⟨ss, sl, true, true, false, xt, syn⟩ ⟨ws, wl, wt⟩ = 1 := by rw [hk]; simp [e0]
        have C := fun w => ct_lit _ _ _ true ss sl wt 1 hn hk w
        dsimp only [Cs.cells, Cx.cells, Cw.cells] at C
        have C := Lib.hid C
        clear htd hn hk
        have HE := fun w => eql_state w ⟨true, ss, sl, st⟩
        dsimp only [Cs.cells] at HE
        go_wp2_with fail
        refine (C.out _).mono ?_
        rintro e w2 ⟨rfl, b2⟩
        have S2 := HS.out.below b2 HS.out.lt
        have U2 := HU.out.below b2 HU.out.lt
        have X2 := HX.out.below b2 HX.out.lt
        have HB3 := Lib.hid (HB2.out.trans (b2.mono HB2.out.size))
        have l1 := S2.lt
        have l2 := U2.lt
        have l3 := X2.lt
        clear k0 k1 k2 k3 u0 u1 u2 x0 x1 x2 x3 x4 x5 x6 b2 C
        have k0 : w2.cell? ⟨w.heap.size, 0, none⟩ = some (.bool true) := S2.cell 0
        have k1 : w2.cell? ⟨w.heap.size, 1, none⟩ = some (.int .i64 ss) := S2.cell 1
        have k2 : w2.cell? ⟨w.heap.size, 2, none⟩ = some (.int .i64 sl) := S2.cell 2
        have k3 : w2.cell? ⟨w.heap.size, 3, none⟩ = some (.int .i64 st) := S2.cell 3
        have u0 : w2.cell? ⟨w.heap.size + 1, 0, none⟩ = some (.int .i64 ws) := U2.cell 0
        have u1 : w2.cell? ⟨w.heap.size + 1, 1, none⟩ = some (.int .i64 wl) := U2.cell 1
        have u2 : w2.cell? ⟨w.heap.size + 1, 2, none⟩ = some (.int .i64 wt) := U2.cell 2
        have x0 : w2.cell? ⟨w.heap.size + 1 + 1, 0, none⟩ = some (.int .i64 ss) := X2.cell 0
        have x1 : w2.cell? ⟨w.heap.size + 1 + 1, 1, none⟩ = some (.int .i64 sl) := X2.cell 1
        have x2 : w2.cell? ⟨w.heap.size + 1 + 1, 2, none⟩ = some (.bool true) := X2.cell 2
        have x3 : w2.cell? ⟨w.heap.size + 1 + 1, 3, none⟩ = some (.bool true) := X2.cell 3
        have x4 : w2.cell? ⟨w.heap.size + 1 + 1, 4, none⟩ = some (.bool false) := X2.cell 4
        have x5 : w2.cell? ⟨w.heap.size + 1 + 1, 5, none⟩ = some (.int .i64 xt) := X2.cell 5
        have x6 : w2.cell? ⟨w.heap.size + 1 + 1, 6, none⟩ = some (.bool syn) := X2.cell 6
        clear S2 U2 X2 HS HU HX
        go_wp2
        go_ret
        exact ⟨ret_bool (by simp <;> omega), HB3.out.alloc HB3.out.size _⟩
      | true =>
        by_cases c2 : wt < xt
        · have e0 : True := trivial
          have htd : Cs.tidS ⟨true, ss, sl, st⟩ ⟨ss, sl, true, true, true, xt, syn⟩ ⟨ws, wl, wt⟩ = wt := by simp [Cs.tidS, e0, c2]
          rw [htd] at hn hk
          replace hk : Cs.kind ⟨true, ss, sl, st⟩ ⟨ss, sl, true, true, true, xt, syn⟩ ⟨ws, wl, wt⟩ = 2 := by rw [hk]; simp [e0, c2]
          have C := fun w => ct_lit _ _ _ true ss sl wt 2 hn hk w
          dsimp only [Cs.cells, Cx.cells, Cw.cells] at C
          have C := Lib.hid C
          clear htd hn hk
          have HE := fun w => eql_state w ⟨true, ss, sl, st⟩
          dsimp only [Cs.cells] at HE
          go_wp2_with fail
          refine (C.out _).mono ?_
          rintro e w2 ⟨rfl, b2⟩
          have S2 := HS.out.below b2 HS.out.lt
          have U2 := HU.out.below b2 HU.out.lt
          have X2 := HX.out.below b2 HX.out.lt
          have HB3 := Lib.hid (HB2.out.trans (b2.mono HB2.out.size))
          have l1 := S2.lt
          have l2 := U2.lt
          have l3 := X2.lt
          clear k0 k1 k2 k3 u0 u1 u2 x0 x1 x2 x3 x4 x5 x6 b2 C
          have k0 : w2.cell? ⟨w.heap.size, 0, none⟩ = some (.bool true) := S2.cell 0
          have k1 : w2.cell? ⟨w.heap.size, 1, none⟩ = some (.int .i64 ss) := S2.cell 1
          have k2 : w2.cell? ⟨w.heap.size, 2, none⟩ = some (.int .i64 sl) := S2.cell 2
          have k3 : w2.cell? ⟨w.heap.size, 3, none⟩ = some (.int .i64 st) := S2.cell 3
          have u0 : w2.cell? ⟨w.heap.size + 1, 0, none⟩ = some (.int .i64 ws) := U2.cell 0
          have u1 : w2.cell? ⟨w.heap.size + 1, 1, none⟩ = some (.int .i64 wl) := U2.cell 1
          have u2 : w2.cell? ⟨w.heap.size + 1, 2, none⟩ = some (.int .i64 wt) := U2.cell 2
          have x0 : w2.cell? ⟨w.heap.size + 1 + 1, 0, none⟩ = some (.int .i64 ss) := X2.cell 0
          have x1 : w2.cell? ⟨w.heap.size + 1 + 1, 1, none⟩ = some (.int .i64 sl) := X2.cell 1
          have x2 : w2.cell? ⟨w.heap.size + 1 + 1, 2, none⟩ = some (.bool true) := X2.cell 2
          have x3 : w2.cell? ⟨w.heap.size + 1 + 1, 3, none⟩ = some (.bool true) := X2.cell 3
          have x4 : w2.cell? ⟨w.heap.size + 1 + 1, 4, none⟩ = some (.bool true) := X2.cell 4
          have x5 : w2.cell? ⟨w.heap.size + 1 + 1, 5, none⟩ = some (.int .i64 xt) := X2.cell 5
          have x6 : w2.cell? ⟨w.heap.size + 1 + 1, 6, none⟩ = some (.bool syn) := X2.cell 6
          clear S2 U2 X2 HS HU HX
          go_wp2
          go_ret
          exact ⟨ret_bool (by simp <;> omega), HB3.out.alloc HB3.out.size _⟩
        · have e0 : True := trivial
          have htd : Cs.tidS ⟨true, ss, sl, st⟩ ⟨ss, sl, true, true, true, xt, syn⟩ ⟨ws, wl, wt⟩ = wt := by simp [Cs.tidS, e0, c2]
          rw [htd] at hn hk
          replace hk : Cs.kind ⟨true, ss, sl, st⟩ ⟨ss, sl, true, true, true, xt, syn⟩ ⟨ws, wl, wt⟩ = 1 := by rw [hk]; simp [e0, c2]
          have C := fun w => ct_lit _ _ _ true ss sl wt 1 hn hk w
          dsimp only [Cs.cells, Cx.cells, Cw.cells] at C
          have C := Lib.hid C
          clear htd hn hk
          have HE := fun w => eql_state w ⟨true, ss, sl, st⟩
          dsimp only [Cs.cells] at HE
          go_wp2_with fail
          refine (C.out _).mono ?_
          rintro e w2 ⟨rfl, b2⟩
          have S2 := HS.out.below b2 HS.out.lt
          have U2 := HU.out.below b2 HU.out.lt
          have X2 := HX.out.below b2 HX.out.lt
          have HB3 := Lib.hid (HB2.out.trans (b2.mono HB2.out.size))
          have l1 := S2.lt
          have l2 := U2.lt
          have l3 := X2.lt
          clear k0 k1 k2 k3 u0 u1 u2 x0 x1 x2 x3 x4 x5 x6 b2 C
          have k0 : w2.cell? ⟨w.heap.size, 0, none⟩ = some (.bool true) := S2.cell 0
          have k1 : w2.cell? ⟨w.heap.size, 1, none⟩ = some (.int .i64 ss) := S2.cell 1
          have k2 : w2.cell? ⟨w.heap.size, 2, none⟩ = some (.int .i64 sl) := S2.cell 2
          have k3 : w2.cell? ⟨w.heap.size, 3, none⟩ = some (.int .i64 st) := S2.cell 3
          have u0 : w2.cell? ⟨w.heap.size + 1, 0, none⟩ = some (.int .i64 ws) := U2.cell 0
          have u1 : w2.cell? ⟨w.heap.size + 1, 1, none⟩ = some (.int .i64 wl) := U2.cell 1
          have u2 : w2.cell? ⟨w.heap.size + 1, 2, none⟩ = some (.int .i64 wt) := U2.cell 2
          have x0 : w2.cell? ⟨w.heap.size + 1 + 1, 0, none⟩ = some (.int .i64 ss) := X2.cell 0
          have x1 : w2.cell? ⟨w.heap.size + 1 + 1, 1, none⟩ = some (.int .i64 sl) := X2.cell 1
          have x2 : w2.cell? ⟨w.heap.size + 1 + 1, 2, none⟩ = some (.bool true) := X2.cell 2
          have x3 : w2.cell? ⟨w.heap.size + 1 + 1, 3, none⟩ = some (.bool true) := X2.cell 3
          have x4 : w2.cell? ⟨w.heap.size + 1 + 1, 4, none⟩ = some (.bool true) := X2.cell 4
          have x5 : w2.cell? ⟨w.heap.size + 1 + 1, 5, none⟩ = some (.int .i64 xt) := X2.cell 5
          have x6 : w2.cell? ⟨w.heap.size + 1 + 1, 6, none⟩ = some (.bool syn) := X2.cell 6
          clear S2 U2 X2 HS HU HX
          go_wp2
          go_ret
          exact ⟨ret_bool (by simp <;> omega), HB3.out.alloc HB3.out.size _⟩
  | false =>
    by_cases c1 : wt ≤ st
    · by_cases c0 : wt < st
      · cases has with
        | false =>
          have e0 := c0
          have htd : Cs.tidS ⟨true, ss, sl, st⟩ ⟨ss, sl, true, false, false, xt, syn⟩ ⟨ws, wl, wt⟩ = wt := by simp [Cs.tidS, e0]
          rw [htd] at hn hk
          replace hk : Cs.kind ⟨true, ss, sl, st⟩ ⟨ss, sl, true, false, false, xt, syn⟩ ⟨ws, wl, wt⟩ = 1 := by rw [hk]; simp [e0]
          have C := fun w => ct_lit _ _ _ true ss sl wt 1 hn hk w
          dsimp only [Cs.cells, Cx.cells, Cw.cells] at C
          have C := Lib.hid C
          clear htd hn hk
          have HE := fun w => eql_state w ⟨true, ss, sl, st⟩
          dsimp only [Cs.cells] at HE
          go_wp2_with fail
          refine (C.out _).mono ?_
          rintro e w2 ⟨rfl, b2⟩
          have S2 := HS.out.below b2 HS.out.lt
          have U2 := HU.out.below b2 HU.out.lt
          have X2 := HX.out.below b2 HX.out.lt
          have HB3 := Lib.hid (HB2.out.trans (b2.mono HB2.out.size))
          have l1 := S2.lt
          have l2 := U2.lt
          have l3 := X2.lt
          clear k0 k1 k2 k3 u0 u1 u2 x0 x1 x2 x3 x4 x5 x6 b2 C
          have k0 : w2.cell? ⟨w.heap.size, 0, none⟩ = some (.bool true) := S2.cell 0
          have k1 : w2.cell? ⟨w.heap.size, 1, none⟩ = some (.int .i64 ss) := S2.cell 1
          have k2 : w2.cell? ⟨w.heap.size, 2, none⟩ = some (.int .i64 sl) := S2.cell 2
          have k3 : w2.cell? ⟨w.heap.size, 3, none⟩ = some (.int .i64 st) := S2.cell 3
          have u0 : w2.cell? ⟨w.heap.size + 1, 0, none⟩ = some (.int .i64 ws) := U2.cell 0
          have u1 : w2.cell? ⟨w.heap.size + 1, 1, none⟩ = some (.int .i64 wl) := U2.cell 1
          have u2 : w2.cell? ⟨w.heap.size + 1, 2, none⟩ = some (.int .i64 wt) := U2.cell 2
          have x0 : w2.cell? ⟨w.heap.size + 1 + 1, 0, none⟩ = some (.int .i64 ss) := X2.cell 0
          have x1 : w2.cell? ⟨w.heap.size + 1 + 1, 1, none⟩ = some (.int .i64 sl) := X2.cell 1
          have x2 : w2.cell? ⟨w.heap.size + 1 + 1, 2, none⟩ = some (.bool true) := X2.cell 2
          have x3 : w2.cell? ⟨w.heap.size + 1 + 1, 3, none⟩ = some (.bool false) := X2.cell 3
          have x4 : w2.cell? ⟨w.heap.size + 1 + 1, 4, none⟩ = some (.bool false) := X2.cell 4
          have x5 : w2.cell? ⟨w.heap.size + 1 + 1, 5, none⟩ = some (.int .i64 xt) := X2.cell 5
          have x6 : w2.cell? ⟨w.heap.size + 1 + 1, 6, none⟩ = some (.bool syn) := X2.cell 6
          clear S2 U2 X2 HS HU HX
          go_wp2
          go_ret
          exact ⟨ret_bool (by simp <;> omega), HB3.out.alloc HB3.out.size _⟩
        | true =>
          by_cases c2 : wt < xt
          · have e0 := c0
            have htd : Cs.tidS ⟨true, ss, sl, st⟩ ⟨ss, sl, true, false, true, xt, syn⟩ ⟨ws, wl, wt⟩ = wt := by simp [Cs.tidS, e0, c2]
            rw [htd] at hn hk
            replace hk : Cs.kind ⟨true, ss, sl, st⟩ ⟨ss, sl, true, false, true, xt, syn⟩ ⟨ws, wl, wt⟩ = 2 := by rw [hk]; simp [e0, c2]
            have C := fun w => ct_lit _ _ _ true ss sl wt 2 hn hk w
            dsimp only [Cs.cells, Cx.cells, Cw.cells] at C
            have C := Lib.hid C
            clear htd hn hk
            have HE := fun w => eql_state w ⟨true, ss, sl, st⟩
            dsimp only [Cs.cells] at HE
            go_wp2_with fail
            refine (C.out _).mono ?_
            rintro e w2 ⟨rfl, b2⟩
            have S2 := HS.out.below b2 HS.out.lt
            have U2 := HU.out.below b2 HU.out.lt
            have X2 := HX.out.below b2 HX.out.lt
            have HB3 := Lib.hid (HB2.out.trans (b2.mono HB2.out.size))
            have l1 := S2.lt
            have l2 := U2.lt
            have l3 := X2.lt
            clear k0 k1 k2 k3 u0 u1 u2 x0 x1 x2 x3 x4 x5 x6 b2 C
            have k0 : w2.cell? ⟨w.heap.size, 0, none⟩ = some (.bool true) := S2.cell 0
            have k1 : w2.cell? ⟨w.heap.size, 1, none⟩ = some (.int .i64 ss) := S2.cell 1
            have k2 : w2.cell? ⟨w.heap.size, 2, none⟩ = some (.int .i64 sl) := S2.cell 2
            have k3 : w2.cell? ⟨w.heap.size, 3, none⟩ = some (.int .i64 st) := S2.cell 3
            have u0 : w2.cell? ⟨w.heap.size + 1, 0, none⟩ = some (.int .i64 ws) := U2.cell 0
            have u1 : w2.cell? ⟨w.heap.size + 1, 1, none⟩ = some (.int .i64 wl) := U2.cell 1
            have u2 : w2.cell? ⟨w.heap.size + 1, 2, none⟩ = some (.int .i64 wt) := U2.cell 2
            have x0 : w2.cell? ⟨w.heap.size + 1 + 1, 0, none⟩ = some (.int .i64 ss) := X2.cell 0
            have x1 : w2.cell? ⟨w.heap.size + 1 + 1, 1, none⟩ = some (.int .i64 sl) := X2.cell 1
            have x2 : w2.cell? ⟨w.heap.size + 1 + 1, 2, none⟩ = some (.bool true) := X2.cell 2
            have x3 : w2.cell? ⟨w.heap.size + 1 + 1, 3, none⟩ = some (.bool false) := X2.cell 3
            have x4 : w2.cell? ⟨w.heap.size + 1 + 1, 4, none⟩ = some (.bool true) := X2.cell 4
            have x5 : w2.cell? ⟨w.heap.size + 1 + 1, 5, none⟩ = some (.int .i64 xt) := X2.cell 5
            have x6 : w2.cell? ⟨w.heap.size + 1 + 1, 6, none⟩ = some (.bool syn) := X2.cell 6
            clear S2 U2 X2 HS HU HX
            go_wp2
            go_ret
            exact ⟨ret_bool (by simp <;> omega), HB3.out.alloc HB3.out.size _⟩
          · have e0 := c0
            have htd : Cs.tidS ⟨true, ss, sl, st⟩ ⟨ss, sl, true, false, true, xt, syn⟩ ⟨ws, wl, wt⟩ = wt := by simp [Cs.tidS, e0, c2]
            rw [htd] at hn hk
            replace hk : Cs.kind ⟨true, ss, sl, st⟩ ⟨ss, sl, true, false, true, xt, syn⟩ ⟨ws, wl, wt⟩ = 1 := by rw [hk]; simp [e0, c2]
            have C := fun w => ct_lit _ _ _ true ss sl wt 1 hn hk w
            dsimp only [Cs.cells, Cx.cells, Cw.cells] at C
            have C := Lib.hid C
            clear htd hn hk
            have HE := fun w => eql_state w ⟨true, ss, sl, st⟩
            dsimp only [Cs.cells] at HE
            go_wp2_with fail
            refine (C.out _).mono ?_
            rintro e w2 ⟨rfl, b2⟩
            have S2 := HS.out.below b2 HS.out.lt
            have U2 := HU.out.below b2 HU.out.lt
            have X2 := HX.out.below b2 HX.out.lt
            have HB3 := Lib.hid (HB2.out.trans (b2.mono HB2.out.size))
            have l1 := S2.lt
            have l2 := U2.lt
            have l3 := X2.lt
            clear k0 k1 k2 k3 u0 u1 u2 x0 x1 x2 x3 x4 x5 x6 b2 C
            have k0 : w2.cell? ⟨w.heap.size, 0, none⟩ = some (.bool true) := S2.cell 0
            have k1 : w2.cell? ⟨w.heap.size, 1, none⟩ = some (.int .i64 ss) := S2.cell 1
            have k2 : w2.cell? ⟨w.heap.size, 2, none⟩ = some (.int .i64 sl) := S2.cell 2
            have k3 : w2.cell? ⟨w.heap.size, 3, none⟩ = some (.int .i64 st) := S2.cell 3
            have u0 : w2.cell? ⟨w.heap.size + 1, 0, none⟩ = some (.int .i64 ws) := U2.cell 0
            have u1 : w2.cell? ⟨w.heap.size + 1, 1, none⟩ = some (.int .i64 wl) := U2.cell 1
            have u2 : w2.cell? ⟨w.heap.size + 1, 2, none⟩ = some (.int .i64 wt) := U2.cell 2
            have x0 : w2.cell? ⟨w.heap.size + 1 + 1, 0, none⟩ = some (.int .i64 ss) := X2.cell 0
            have x1 : w2.cell? ⟨w.heap.size + 1 + 1, 1, none⟩ = some (.int .i64 sl) := X2.cell 1
            have x2 : w2.cell? ⟨w.heap.size + 1 + 1, 2, none⟩ = some (.bool true) := X2.cell 2
            have x3 : w2.cell? ⟨w.heap.size + 1 + 1, 3, none⟩ = some (.bool false) := X2.cell 3
            have x4 : w2.cell? ⟨w.heap.size + 1 + 1, 4, none⟩ = some (.bool true) := X2.cell 4
            have x5 : w2.cell? ⟨w.heap.size + 1 + 1, 5, none⟩ = some (.int .i64 xt) := X2.cell 5
            have x6 : w2.cell? ⟨w.heap.size + 1 + 1, 6, none⟩ = some (.bool syn) := X2.cell 6
            clear S2 U2 X2 HS HU HX
            go_wp2
            go_ret
            exact ⟨ret_bool (by simp <;> omega), HB3.out.alloc HB3.out.size _⟩
      · obtain rfl : wt = st := by omega
        have hno : ¬ (wt < xt ∧ xt ≤ wt) := by omega
        clear c0
        cases has with
        | false =>
          have htd : Cs.tidS ⟨true, ss, sl, wt⟩ ⟨ss, sl, true, false, false, xt, syn⟩ ⟨ws, wl, wt⟩ = wt := by simp [Cs.tidS]
          rw [htd] at hn hk
          replace hk : Cs.kind ⟨true, ss, sl, wt⟩ ⟨ss, sl, true, false, false, xt, syn⟩ ⟨ws, wl, wt⟩ = 1 := by rw [hk]; simp
          have C := fun w => ct_lit _ _ _ true ss sl wt 1 hn hk w
          dsimp only [Cs.cells, Cx.cells, Cw.cells] at C
          have C := Lib.hid C
          clear htd hn hk
          have HE := fun w => eql_state w ⟨true, ss, sl, wt⟩
          dsimp only [Cs.cells] at HE
          go_wp2_with fail
          refine (C.out _).mono ?_
          rintro e w2 ⟨rfl, b2⟩
          have S2 := HS.out.below b2 HS.out.lt
          have U2 := HU.out.below b2 HU.out.lt
          have X2 := HX.out.below b2 HX.out.lt
          have HB3 := Lib.hid (HB2.out.trans (b2.mono HB2.out.size))
          have l1 := S2.lt
          have l2 := U2.lt
          have l3 := X2.lt
          clear k0 k1 k2 k3 u0 u1 u2 x0 x1 x2 x3 x4 x5 x6 b2 C
          have k0 : w2.cell? ⟨w.heap.size, 0, none⟩ = some (.bool true) := S2.cell 0
          have k1 : w2.cell? ⟨w.heap.size, 1, none⟩ = some (.int .i64 ss) := S2.cell 1
          have k2 : w2.cell? ⟨w.heap.size, 2, none⟩ = some (.int .i64 sl) := S2.cell 2
          have k3 : w2.cell? ⟨w.heap.size, 3, none⟩ = some (.int .i64 wt) := S2.cell 3
          have u0 : w2.cell? ⟨w.heap.size + 1, 0, none⟩ = some (.int .i64 ws) := U2.cell 0
          have u1 : w2.cell? ⟨w.heap.size + 1, 1, none⟩ = some (.int .i64 wl) := U2.cell 1
          have u2 : w2.cell? ⟨w.heap.size + 1, 2, none⟩ = some (.int .i64 wt) := U2.cell 2
          have x0 : w2.cell? ⟨w.heap.size + 1 + 1, 0, none⟩ = some (.int .i64 ss) := X2.cell 0
          have x1 : w2.cell? ⟨w.heap.size + 1 + 1, 1, none⟩ = some (.int .i64 sl) := X2.cell 1
          have x2 : w2.cell? ⟨w.heap.size + 1 + 1, 2, none⟩ = some (.bool true) := X2.cell 2
          have x3 : w2.cell? ⟨w.heap.size + 1 + 1, 3, none⟩ = some (.bool false) := X2.cell 3
          have x4 : w2.cell? ⟨w.heap.size + 1 + 1, 4, none⟩ = some (.bool false) := X2.cell 4
          have x5 : w2.cell? ⟨w.heap.size + 1 + 1, 5, none⟩ = some (.int .i64 xt) := X2.cell 5
          have x6 : w2.cell? ⟨w.heap.size + 1 + 1, 6, none⟩ = some (.bool syn) := X2.cell 6
          clear S2 U2 X2 HS HU HX
          go_wp2
          go_ret
          exact ⟨ret_bool (by simp <;> omega), HB3.out.alloc HB3.out.size _⟩
        | true =>
          by_cases c2 : wt < xt
          · have c3 : ¬ xt ≤ wt := by omega
            have htd : Cs.tidS ⟨true, ss, sl, wt⟩ ⟨ss, sl, true, false, true, xt, syn⟩ ⟨ws, wl, wt⟩ = wt := by simp [Cs.tidS, c2, c3]
            rw [htd] at hn hk
            replace hk : Cs.kind ⟨true, ss, sl, wt⟩ ⟨ss, sl, true, false, true, xt, syn⟩ ⟨ws, wl, wt⟩ = 2 := by rw [hk]; simp [c2, c3]
            have C := fun w => ct_lit _ _ _ true ss sl wt 2 hn hk w
            dsimp only [Cs.cells, Cx.cells, Cw.cells] at C
            have C := Lib.hid C
            clear htd hn hk
            have HE := fun w => eql_state w ⟨true, ss, sl, wt⟩
            dsimp only [Cs.cells] at HE
            go_wp2_with fail
            refine (C.out _).mono ?_
            rintro e w2 ⟨rfl, b2⟩
            have S2 := HS.out.below b2 HS.out.lt
            have U2 := HU.out.below b2 HU.out.lt
            have X2 := HX.out.below b2 HX.out.lt
            have HB3 := Lib.hid (HB2.out.trans (b2.mono HB2.out.size))
            have l1 := S2.lt
            have l2 := U2.lt
            have l3 := X2.lt
            clear k0 k1 k2 k3 u0 u1 u2 x0 x1 x2 x3 x4 x5 x6 b2 C
            have k0 : w2.cell? ⟨w.heap.size, 0, none⟩ = some (.bool true) := S2.cell 0
            have k1 : w2.cell? ⟨w.heap.size, 1, none⟩ = some (.int .i64 ss) := S2.cell 1
            have k2 : w2.cell? ⟨w.heap.size, 2, none⟩ = some (.int .i64 sl) := S2.cell 2
            have k3 : w2.cell? ⟨w.heap.size, 3, none⟩ = some (.int .i64 wt) := S2.cell 3
            have u0 : w2.cell? ⟨w.heap.size + 1, 0, none⟩ = some (.int .i64 ws) := U2.cell 0
            have u1 : w2.cell? ⟨w.heap.size + 1, 1, none⟩ = some (.int .i64 wl) := U2.cell 1
            have u2 : w2.cell? ⟨w.heap.size + 1, 2, none⟩ = some (.int .i64 wt) := U2.cell 2
            have x0 : w2.cell? ⟨w.heap.size + 1 + 1, 0, none⟩ = some (.int .i64 ss) := X2.cell 0
            have x1 : w2.cell? ⟨w.heap.size + 1 + 1, 1, none⟩ = some (.int .i64 sl) := X2.cell 1
            have x2 : w2.cell? ⟨w.heap.size + 1 + 1, 2, none⟩ = some (.bool true) := X2.cell 2
            have x3 : w2.cell? ⟨w.heap.size + 1 + 1, 3, none⟩ = some (.bool false) := X2.cell 3
            have x4 : w2.cell? ⟨w.heap.size + 1 + 1, 4, none⟩ = some (.bool true) := X2.cell 4
            have x5 : w2.cell? ⟨w.heap.size + 1 + 1, 5, none⟩ = some (.int .i64 xt) := X2.cell 5
            have x6 : w2.cell? ⟨w.heap.size + 1 + 1, 6, none⟩ = some (.bool syn) := X2.cell 6
            clear S2 U2 X2 HS HU HX
            go_wp2
            go_ret
            exact ⟨ret_bool (by simp <;> omega), HB3.out.alloc HB3.out.size _⟩
          · have htd : Cs.tidS ⟨true, ss, sl, wt⟩ ⟨ss, sl, true, false, true, xt, syn⟩ ⟨ws, wl, wt⟩ = wt := by simp [Cs.tidS, c2]
            rw [htd] at hn hk
            replace hk : Cs.kind ⟨true, ss, sl, wt⟩ ⟨ss, sl, true, false, true, xt, syn⟩ ⟨ws, wl, wt⟩ = 1 := by rw [hk]; simp [c2]
            have C := fun w => ct_lit _ _ _ true ss sl wt 1 hn hk w
            dsimp only [Cs.cells, Cx.cells, Cw.cells] at C
            have C := Lib.hid C
            clear htd hn hk
            have HE := fun w => eql_state w ⟨true, ss, sl, wt⟩
            dsimp only [Cs.cells] at HE
            go_wp2_with fail
            refine (C.out _).mono ?_
            rintro e w2 ⟨rfl, b2⟩
            have S2 := HS.out.below b2 HS.out.lt
            have U2 := HU.out.below b2 HU.out.lt
            have X2 := HX.out.below b2 HX.out.lt
            have HB3 := Lib.hid (HB2.out.trans (b2.mono HB2.out.size))
            have l1 := S2.lt
            have l2 := U2.lt
            have l3 := X2.lt
            clear k0 k1 k2 k3 u0 u1 u2 x0 x1 x2 x3 x4 x5 x6 b2 C
            have k0 : w2.cell? ⟨w.heap.size, 0, none⟩ = some (.bool true) := S2.cell 0
            have k1 : w2.cell? ⟨w.heap.size, 1, none⟩ = some (.int .i64 ss) := S2.cell 1
            have k2 : w2.cell? ⟨w.heap.size, 2, none⟩ = some (.int .i64 sl) := S2.cell 2
            have k3 : w2.cell? ⟨w.heap.size, 3, none⟩ = some (.int .i64 wt) := S2.cell 3
            have u0 : w2.cell? ⟨w.heap.size + 1, 0, none⟩ = some (.int .i64 ws) := U2.cell 0
            have u1 : w2.cell? ⟨w.heap.size + 1, 1, none⟩ = some (.int .i64 wl) := U2.cell 1
            have u2 : w2.cell? ⟨w.heap.size + 1, 2, none⟩ = some (.int .i64 wt) := U2.cell 2
            have x0 : w2.cell? ⟨w.heap.size + 1 + 1, 0, none⟩ = some (.int .i64 ss) := X2.cell 0
            have x1 : w2.cell? ⟨w.heap.size + 1 + 1, 1, none⟩ = some (.int .i64 sl) := X2.cell 1
            have x2 : w2.cell? ⟨w.heap.size + 1 + 1, 2, none⟩ = some (.bool true) := X2.cell 2
            have x3 : w2.cell? ⟨w.heap.size + 1 + 1, 3, none⟩ = some (.bool false) := X2.cell 3
            have x4 : w2.cell? ⟨w.heap.size + 1 + 1, 4, none⟩ = some (.bool true) := X2.cell 4
            have x5 : w2.cell? ⟨w.heap.size + 1 + 1, 5, none⟩ = some (.int .i64 xt) := X2.cell 5
            have x6 : w2.cell? ⟨w.heap.size + 1 + 1, 6, none⟩ = some (.bool syn) := X2.cell 6
            clear S2 U2 X2 HS HU HX
            go_wp2
            go_ret
            exact ⟨ret_bool (by simp <;> omega), HB3.out.alloc HB3.out.size _⟩
    · have c0 : ¬ wt < st := by omega
      cases has with
      | false =>
        have htd : Cs.tidS ⟨true, ss, sl, st⟩ ⟨ss, sl, true, false, false, xt, syn⟩ ⟨ws, wl, wt⟩ = st := by simp [Cs.tidS, c0]
        rw [htd] at hn hk
        replace hk : Cs.kind ⟨true, ss, sl, st⟩ ⟨ss, sl, true, false, false, xt, syn⟩ ⟨ws, wl, wt⟩ = 1 := by rw [hk]; simp [c0]
        have C := fun w => ct_lit _ _ _ true ss sl st 1 hn hk w
        dsimp only [Cs.cells, Cx.cells, Cw.cells] at C
        have C := Lib.hid C
        clear htd hn hk
        have HE := fun w => eql_state w ⟨true, ss, sl, st⟩
        dsimp only [Cs.cells] at HE
        go_wp2_with fail
        refine (C.out _).mono ?_
        rintro e w2 ⟨rfl, b2⟩
        have S2 := HS.out.below b2 HS.out.lt
        have U2 := HU.out.below b2 HU.out.lt
        have X2 := HX.out.below b2 HX.out.lt
        have HB3 := Lib.hid (HB2.out.trans (b2.mono HB2.out.size))
        have l1 := S2.lt
        have l2 := U2.lt
        have l3 := X2.lt
        clear k0 k1 k2 k3 u0 u1 u2 x0 x1 x2 x3 x4 x5 x6 b2 C
        have k0 : w2.cell? ⟨w.heap.size, 0, none⟩ = some (.bool true) := S2.cell 0
        have k1 : w2.cell? ⟨w.heap.size, 1, none⟩ = some (.int .i64 ss) := S2.cell 1
        have k2 : w2.cell? ⟨w.heap.size, 2, none⟩ = some (.int .i64 sl) := S2.cell 2
        have k3 : w2.cell? ⟨w.heap.size, 3, none⟩ = some (.int .i64 st) := S2.cell 3
        have u0 : w2.cell? ⟨w.heap.size + 1, 0, none⟩ = some (.int .i64 ws) := U2.cell 0
        have u1 : w2.cell? ⟨w.heap.size + 1, 1, none⟩ = some (.int .i64 wl) := U2.cell 1
        have u2 : w2.cell? ⟨w.heap.size + 1, 2, none⟩ = some (.int .i64 wt) := U2.cell 2
        have x0 : w2.cell? ⟨w.heap.size + 1 + 1, 0, none⟩ = some (.int .i64 ss) := X2.cell 0
        have x1 : w2.cell? ⟨w.heap.size + 1 + 1, 1, none⟩ = some (.int .i64 sl) := X2.cell 1
        have x2 : w2.cell? ⟨w.heap.size + 1 + 1, 2, none⟩ = some (.bool true) := X2.cell 2
        have x3 : w2.cell? ⟨w.heap.size + 1 + 1, 3, none⟩ = some (.bool false) := X2.cell 3
        have x4 : w2.cell? ⟨w.heap.size + 1 + 1, 4, none⟩ = some (.bool false) := X2.cell 4
        have x5 : w2.cell? ⟨w.heap.size + 1 + 1, 5, none⟩ = some (.int .i64 xt) := X2.cell 5
        have x6 : w2.cell? ⟨w.heap.size + 1 + 1, 6, none⟩ = some (.bool syn) := X2.cell 6
        clear S2 U2 X2 HS HU HX
        go_wp2
        go_ret
        exact ⟨ret_bool (by simp <;> omega), HB3.out.alloc HB3.out.size _⟩
      | true =>
        by_cases c2 : st < xt
        · cases syn with
          | false =>
            have htd : Cs.tidS ⟨true, ss, sl, st⟩ ⟨ss, sl, true, false, true, xt, false⟩ ⟨ws, wl, wt⟩ = st := by simp [Cs.tidS, c0, c2]
            rw [htd] at hn hk
            replace hk : Cs.kind ⟨true, ss, sl, st⟩ ⟨ss, sl, true, false, true, xt, false⟩ ⟨ws, wl, wt⟩ = 2 := by rw [hk]; simp [c0, c2]
            have C := fun w => ct_lit _ _ _ true ss sl st 2 hn hk w
            dsimp only [Cs.cells, Cx.cells, Cw.cells] at C
            have C := Lib.hid C
            clear htd hn hk
            have HE := fun w => eql_state w ⟨true, ss, sl, st⟩
            dsimp only [Cs.cells] at HE
            go_wp2_with fail
            refine (C.out _).mono ?_
            rintro e w2 ⟨rfl, b2⟩
            have S2 := HS.out.below b2 HS.out.lt
            have U2 := HU.out.below b2 HU.out.lt
            have X2 := HX.out.below b2 HX.out.lt
            have HB3 := Lib.hid (HB2.out.trans (b2.mono HB2.out.size))
            have l1 := S2.lt
            have l2 := U2.lt
            have l3 := X2.lt
            clear k0 k1 k2 k3 u0 u1 u2 x0 x1 x2 x3 x4 x5 x6 b2 C
            have k0 : w2.cell? ⟨w.heap.size, 0, none⟩ = some (.bool true) := S2.cell 0
            have k1 : w2.cell? ⟨w.heap.size, 1, none⟩ = some (.int .i64 ss) := S2.cell 1
            have k2 : w2.cell? ⟨w.heap.size, 2, none⟩ = some (.int .i64 sl) := S2.cell 2
            have k3 : w2.cell? ⟨w.heap.size, 3, none⟩ = some (.int .i64 st) := S2.cell 3
            have u0 : w2.cell? ⟨w.heap.size + 1, 0, none⟩ = some (.int .i64 ws) := U2.cell 0
            have u1 : w2.cell? ⟨w.heap.size + 1, 1, none⟩ = some (.int .i64 wl) := U2.cell 1
            have u2 : w2.cell? ⟨w.heap.size + 1, 2, none⟩ = some (.int .i64 wt) := U2.cell 2
            have x0 : w2.cell? ⟨w.heap.size + 1 + 1, 0, none⟩ = some (.int .i64 ss) := X2.cell 0
            have x1 : w2.cell? ⟨w.heap.size + 1 + 1, 1, none⟩ = some (.int .i64 sl) := X2.cell 1
            have x2 : w2.cell? ⟨w.heap.size + 1 + 1, 2, none⟩ = some (.bool true) := X2.cell 2
            have x3 : w2.cell? ⟨w.heap.size + 1 + 1, 3, none⟩ = some (.bool false) := X2.cell 3
            have x4 : w2.cell? ⟨w.heap.size + 1 + 1, 4, none⟩ = some (.bool true) := X2.cell 4
            have x5 : w2.cell? ⟨w.heap.size + 1 + 1, 5, none⟩ = some (.int .i64 xt) := X2.cell 5
            have x6 : w2.cell? ⟨w.heap.size + 1 + 1, 6, none⟩ = some (.bool false) := X2.cell 6
            clear S2 U2 X2 HS HU HX
            go_wp2
            go_ret
            exact ⟨ret_bool (by simp <;> omega), HB3.out.alloc HB3.out.size _⟩
          | true =>
            by_cases c3 : xt ≤ wt
            · have htd : Cs.tidS ⟨true, ss, sl, st⟩ ⟨ss, sl, true, false, true, xt, true⟩ ⟨ws, wl, wt⟩ = xt := by simp [Cs.tidS, c0, c2, c3]
              rw [htd] at hn hk
              replace hk : Cs.kind ⟨true, ss, sl, st⟩ ⟨ss, sl, true, false, true, xt, true⟩ ⟨ws, wl, wt⟩ = 1 := by rw [hk]; simp [c0, c2, c3]
              have C := fun w => ct_lit _ _ _ true ss sl xt 1 hn hk w
              dsimp only [Cs.cells, Cx.cells, Cw.cells] at C
              have C := Lib.hid C
              clear htd hn hk
              have HE := fun w => eql_state w ⟨true, ss, sl, st⟩
              dsimp only [Cs.cells] at HE
              go_wp2_with fail
              refine (C.out _).mono ?_
              rintro e w2 ⟨rfl, b2⟩
              have S2 := HS.out.below b2 HS.out.lt
              have U2 := HU.out.below b2 HU.out.lt
              have X2 := HX.out.below b2 HX.out.lt
              have HB3 := Lib.hid (HB2.out.trans (b2.mono HB2.out.size))
              have l1 := S2.lt
              have l2 := U2.lt
              have l3 := X2.lt
              clear k0 k1 k2 k3 u0 u1 u2 x0 x1 x2 x3 x4 x5 x6 b2 C
              have k0 : w2.cell? ⟨w.heap.size, 0, none⟩ = some (.bool true) := S2.cell 0
              have k1 : w2.cell? ⟨w.heap.size, 1, none⟩ = some (.int .i64 ss) := S2.cell 1
              have k2 : w2.cell? ⟨w.heap.size, 2, none⟩ = some (.int .i64 sl) := S2.cell 2
              have k3 : w2.cell? ⟨w.heap.size, 3, none⟩ = some (.int .i64 st) := S2.cell 3
              have u0 : w2.cell? ⟨w.heap.size + 1, 0, none⟩ = some (.int .i64 ws) := U2.cell 0
              have u1 : w2.cell? ⟨w.heap.size + 1, 1, none⟩ = some (.int .i64 wl) := U2.cell 1
              have u2 : w2.cell? ⟨w.heap.size + 1, 2, none⟩ = some (.int .i64 wt) := U2.cell 2
              have x0 : w2.cell? ⟨w.heap.size + 1 + 1, 0, none⟩ = some (.int .i64 ss) := X2.cell 0
              have x1 : w2.cell? ⟨w.heap.size + 1 + 1, 1, none⟩ = some (.int .i64 sl) := X2.cell 1
              have x2 : w2.cell? ⟨w.heap.size + 1 + 1, 2, none⟩ = some (.bool true) := X2.cell 2
              have x3 : w2.cell? ⟨w.heap.size + 1 + 1, 3, none⟩ = some (.bool false) := X2.cell 3
              have x4 : w2.cell? ⟨w.heap.size + 1 + 1, 4, none⟩ = some (.bool true) := X2.cell 4
              have x5 : w2.cell? ⟨w.heap.size + 1 + 1, 5, none⟩ = some (.int .i64 xt) := X2.cell 5
              have x6 : w2.cell? ⟨w.heap.size + 1 + 1, 6, none⟩ = some (.bool true) := X2.cell 6
              clear S2 U2 X2 HS HU HX
              go_wp2
              go_ret
              exact ⟨ret_bool (by simp <;> omega), HB3.out.alloc HB3.out.size _⟩
            · have htd : Cs.tidS ⟨true, ss, sl, st⟩ ⟨ss, sl, true, false, true, xt, true⟩ ⟨ws, wl, wt⟩ = st := by simp [Cs.tidS, c0, c2, c3]
              rw [htd] at hn hk
              replace hk : Cs.kind ⟨true, ss, sl, st⟩ ⟨ss, sl, true, false, true, xt, true⟩ ⟨ws, wl, wt⟩ = 2 := by rw [hk]; simp [c0, c2, c3]
              have C := fun w => ct_lit _ _ _ true ss sl st 2 hn hk w
              dsimp only [Cs.cells, Cx.cells, Cw.cells] at C
              have C := Lib.hid C
              clear htd hn hk
              have HE := fun w => eql_state w ⟨true, ss, sl, st⟩
              dsimp only [Cs.cells] at HE
              go_wp2_with fail
              refine (C.out _).mono ?_
              rintro e w2 ⟨rfl, b2⟩
              have S2 := HS.out.below b2 HS.out.lt
              have U2 := HU.out.below b2 HU.out.lt
              have X2 := HX.out.below b2 HX.out.lt
              have HB3 := Lib.hid (HB2.out.trans (b2.mono HB2.out.size))
              have l1 := S2.lt
              have l2 := U2.lt
              have l3 := X2.lt
              clear k0 k1 k2 k3 u0 u1 u2 x0 x1 x2 x3 x4 x5 x6 b2 C
              have k0 : w2.cell? ⟨w.heap.size, 0, none⟩ = some (.bool true) := S2.cell 0
              have k1 : w2.cell? ⟨w.heap.size, 1, none⟩ = some (.int .i64 ss) := S2.cell 1
              have k2 : w2.cell? ⟨w.heap.size, 2, none⟩ = some (.int .i64 sl) := S2.cell 2
              have k3 : w2.cell? ⟨w.heap.size, 3, none⟩ = some (.int .i64 st) := S2.cell 3
              have u0 : w2.cell? ⟨w.heap.size + 1, 0, none⟩ = some (.int .i64 ws) := U2.cell 0
              have u1 : w2.cell? ⟨w.heap.size + 1, 1, none⟩ = some (.int .i64 wl) := U2.cell 1
              have u2 : w2.cell? ⟨w.heap.size + 1, 2, none⟩ = some (.int .i64 wt) := U2.cell 2
              have x0 : w2.cell? ⟨w.heap.size + 1 + 1, 0, none⟩ = some (.int .i64 ss) := X2.cell 0
              have x1 : w2.cell? ⟨w.heap.size + 1 + 1, 1, none⟩ = some (.int .i64 sl) := X2.cell 1
              have x2 : w2.cell? ⟨w.heap.size + 1 + 1, 2, none⟩ = some (.bool true) := X2.cell 2
              have x3 : w2.cell? ⟨w.heap.size + 1 + 1, 3, none⟩ = some (.bool false) := X2.cell 3
              have x4 : w2.cell? ⟨w.heap.size + 1 + 1, 4, none⟩ = some (.bool true) := X2.cell 4
              have x5 : w2.cell? ⟨w.heap.size + 1 + 1, 5, none⟩ = some (.int .i64 xt) := X2.cell 5
              have x6 : w2.cell? ⟨w.heap.size + 1 + 1, 6, none⟩ = some (.bool true) := X2.cell 6
              clear S2 U2 X2 HS HU HX
              go_wp2
              go_ret
              exact ⟨ret_bool (by simp <;> omega), HB3.out.alloc HB3.out.size _⟩
        · cases syn with
          | false =>
            have htd : Cs.tidS ⟨true, ss, sl, st⟩ ⟨ss, sl, true, false, true, xt, false⟩ ⟨ws, wl, wt⟩ = st := by simp [Cs.tidS, c0, c2]
            rw [htd] at hn hk
            replace hk : Cs.kind ⟨true, ss, sl, st⟩ ⟨ss, sl, true, false, true, xt, false⟩ ⟨ws, wl, wt⟩ = 1 := by rw [hk]; simp [c0, c2]
            have C := fun w => ct_lit _ _ _ true ss sl st 1 hn hk w
            dsimp only [Cs.cells, Cx.cells, Cw.cells] at C
            have C := Lib.hid C
            clear htd hn hk
            have HE := fun w => eql_state w ⟨true, ss, sl, st⟩
            dsimp only [Cs.cells] at HE
            go_wp2_with fail
            refine (C.out _).mono ?_
            rintro e w2 ⟨rfl, b2⟩
            have S2 := HS.out.below b2 HS.out.lt
            have U2 := HU.out.below b2 HU.out.lt
            have X2 := HX.out.below b2 HX.out.lt
            have HB3 := Lib.hid (HB2.out.trans (b2.mono HB2.out.size))
            have l1 := S2.lt
            have l2 := U2.lt
            have l3 := X2.lt
            clear k0 k1 k2 k3 u0 u1 u2 x0 x1 x2 x3 x4 x5 x6 b2 C
            have k0 : w2.cell? ⟨w.heap.size, 0, none⟩ = some (.bool true) := S2.cell 0
            have k1 : w2.cell? ⟨w.heap.size, 1, none⟩ = some (.int .i64 ss) := S2.cell 1
            have k2 : w2.cell? ⟨w.heap.size, 2, none⟩ = some (.int .i64 sl) := S2.cell 2
            have k3 : w2.cell? ⟨w.heap.size, 3, none⟩ = some (.int .i64 st) := S2.cell 3
            have u0 : w2.cell? ⟨w.heap.size + 1, 0, none⟩ = some (.int .i64 ws) := U2.cell 0
            have u1 : w2.cell? ⟨w.heap.size + 1, 1, none⟩ = some (.int .i64 wl) := U2.cell 1
            have u2 : w2.cell? ⟨w.heap.size + 1, 2, none⟩ = some (.int .i64 wt) := U2.cell 2
            have x0 : w2.cell? ⟨w.heap.size + 1 + 1, 0, none⟩ = some (.int .i64 ss) := X2.cell 0
            have x1 : w2.cell? ⟨w.heap.size + 1 + 1, 1, none⟩ = some (.int .i64 sl) := X2.cell 1
            have x2 : w2.cell? ⟨w.heap.size + 1 + 1, 2, none⟩ = some (.bool true) := X2.cell 2
            have x3 : w2.cell? ⟨w.heap.size + 1 + 1, 3, none⟩ = some (.bool false) := X2.cell 3
            have x4 : w2.cell? ⟨w.heap.size + 1 + 1, 4, none⟩ = some (.bool true) := X2.cell 4
            have x5 : w2.cell? ⟨w.heap.size + 1 + 1, 5, none⟩ = some (.int .i64 xt) := X2.cell 5
            have x6 : w2.cell? ⟨w.heap.size + 1 + 1, 6, none⟩ = some (.bool false) := X2.cell 6
            clear S2 U2 X2 HS HU HX
            go_wp2
            go_ret
            exact ⟨ret_bool (by simp <;> omega), HB3.out.alloc HB3.out.size _⟩
          | true =>
            have htd : Cs.tidS ⟨true, ss, sl, st⟩ ⟨ss, sl, true, false, true, xt, true⟩ ⟨ws, wl, wt⟩ = st := by simp [Cs.tidS, c0, c2]
            rw [htd] at hn hk
            replace hk : Cs.kind ⟨true, ss, sl, st⟩ ⟨ss, sl, true, false, true, xt, true⟩ ⟨ws, wl, wt⟩ = 1 := by rw [hk]; simp [c0, c2]
            have C := fun w => ct_lit _ _ _ true ss sl st 1 hn hk w
            dsimp only [Cs.cells, Cx.cells, Cw.cells] at C
            have C := Lib.hid C
            clear htd hn hk
            have HE := fun w => eql_state w ⟨true, ss, sl, st⟩
            dsimp only [Cs.cells] at HE
            go_wp2_with fail
            refine (C.out _).mono ?_
            rintro e w2 ⟨rfl, b2⟩
            have S2 := HS.out.below b2 HS.out.lt
            have U2 := HU.out.below b2 HU.out.lt
            have X2 := HX.out.below b2 HX.out.lt
            have HB3 := Lib.hid (HB2.out.trans (b2.mono HB2.out.size))
            have l1 := S2.lt
            have l2 := U2.lt
            have l3 := X2.lt
            clear k0 k1 k2 k3 u0 u1 u2 x0 x1 x2 x3 x4 x5 x6 b2 C
            have k0 : w2.cell? ⟨w.heap.size, 0, none⟩ = some (.bool true) := S2.cell 0
            have k1 : w2.cell? ⟨w.heap.size, 1, none⟩ = some (.int .i64 ss) := S2.cell 1
            have k2 : w2.cell? ⟨w.heap.size, 2, none⟩ = some (.int .i64 sl) := S2.cell 2
            have k3 : w2.cell? ⟨w.heap.size, 3, none⟩ = some (.int .i64 st) := S2.cell 3
            have u0 : w2.cell? ⟨w.heap.size + 1, 0, none⟩ = some (.int .i64 ws) := U2.cell 0
            have u1 : w2.cell? ⟨w.heap.size + 1, 1, none⟩ = some (.int .i64 wl) := U2.cell 1
            have u2 : w2.cell? ⟨w.heap.size + 1, 2, none⟩ = some (.int .i64 wt) := U2.cell 2
            have x0 : w2.cell? ⟨w.heap.size + 1 + 1, 0, none⟩ = some (.int .i64 ss) := X2.cell 0
            have x1 : w2.cell? ⟨w.heap.size + 1 + 1, 1, none⟩ = some (.int .i64 sl) := X2.cell 1
            have x2 : w2.cell? ⟨w.heap.size + 1 + 1, 2, none⟩ = some (.bool true) := X2.cell 2
            have x3 : w2.cell? ⟨w.heap.size + 1 + 1, 3, none⟩ = some (.bool false) := X2.cell 3
            have x4 : w2.cell? ⟨w.heap.size + 1 + 1, 4, none⟩ = some (.bool true) := X2.cell 4
            have x5 : w2.cell? ⟨w.heap.size + 1 + 1, 5, none⟩ = some (.int .i64 xt) := X2.cell 5
            have x6 : w2.cell? ⟨w.heap.size + 1 + 1, 6, none⟩ = some (.bool true) := X2.cell 6
            clear S2 U2 X2 HS HU HX
            go_wp2
            go_ret
            exact ⟨ret_bool (by simp <;> omega), HB3.out.alloc HB3.out.size _⟩

set_option maxRecDepth 100000 in
theorem lifted (os : Os) (started : os.Started) (H : Type) (enc : TypeId × Value → H) :
    ReturnsInHanded {} Try.checked os 8 .any (Rows.chooseLowerSpec.pre6 enc Try.prog Try.f8 Rows.chooseLowerRow.domain false) (Rows.chooseLowerSpec.post enc Try.prog Try.f8 false true false false) := by
  refine returnsInHanded_of_change (C := Try.checked) own started (by kernel_rfl) Try.func8
    (ChangeSpec.witness6 (enc := enc) (C := Try.checked) false ⟨#[], #[.agg #[.bool false, .int .i64 0, .int .i64 0, .int .i64 0], .agg #[.int .i64 0, .int .i64 0, .int .i64 0], .agg #[.int .i64 0, .int .i64 0, .bool false, .bool false, .bool false, .int .i64 0, .bool false]], []⟩ 8 (by kernel_rfl) (by kernel_rfl) (by kernel_rfl) (by kernel_rfl)) ?_
  intro W base args ds gs before hval0 hW _ _
  have hval : ∀ (j : Nat) t v, Try.f8.params[j]? = some t → args[j]? = some v → Value.okWide Try.prog W .any base t v := hval0
  have hW' := hW
  obtain ⟨p, q, hA0, hV, _, _, _⟩ := hW
  have hA : DataW.TrodAll enc Try.prog W 0 (fun _ => true) true Try.f8.params.toList args.toList ds p := hA0
  rw [Try.params8] at hA hval
  obtain ⟨v0, vs0, d0, ds0, p0, q0, hargs, rfl, _, h0, r0⟩ := trodAll_cons hA
  obtain ⟨v1, vs1, d1, ds1, p1, q1, rfl, rfl, _, h1, r1⟩ := trodAll_cons r0
  obtain ⟨v2, vs2, d2, ds2, p2, q2, rfl, rfl, _, h2, r2⟩ := trodAll_cons r1
  obtain ⟨rfl, rfl, _⟩ := trodAll_nil r2
  obtain rfl : args = #[v0, v1, v2] := by cases args; simp_all
  obtain ⟨rfl, _⟩ := trodVars_none hV
  refine law_post (s := Rows.chooseLowerSpec) rfl rfl (by rw [Try.params8]; intro t ht; simp at ht; rcases ht with rfl | rfl | rfl <;> exact ⟨by kernel_rfl, of_decide_eq_true (by kernel_rfl)⟩) rfl hW' ?_
  obtain ⟨s0, rfl⟩ := open_state (hval 0 23 v0 rfl rfl) h0
  obtain ⟨u1, rfl⟩ := open_want (hval 1 27 v1 rfl rfl) h1
  obtain ⟨x2, rfl⟩ := open_in (hval 2 25 v2 rfl rfl) h2
  exact walk W s0 u1 x2

theorem over : Rows.chooseLowerRow.holds Try.pinned (OpenSpec.ofChange Rows.chooseLowerSpec) :=
  OpenClaim.holds_of_wide 8 Try.f8 rfl rfl rfl rfl rfl rfl rfl ⟨rfl, rfl, rfl, rfl, rfl⟩ rfl rfl rfl rfl rfl (by kernel_rfl) Try.func8 (by kernel_rfl)
    (of_decide_eq_true (by kernel_rfl)) (by unfold Func.isWrapper; first | (rw [if_pos (by decide +kernel)]; kernel_rfl) | (rw [if_neg (by decide +kernel)]; exact ⟨rfl, rfl⟩))
    (fun os started H enc _ => lifted os started H enc)

/-- The statement. -/
theorem chooseLower_holds : Rows.ChooseLowerSaid := over

end Go.Proofs.Ytoajbaimjkhegaa.HLower
