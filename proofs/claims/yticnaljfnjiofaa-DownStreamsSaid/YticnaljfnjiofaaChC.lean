/-
  The code's Take and Asks (layer 12): contracts.
-/
import Derived.Test.YticnaljfnjiofaaEqS
import Derived.Test.YticnaljfnjiofaaProg
import Derived.Test.YticnaljfnjiofaaGpl
import Derived.Deep.DeepCutAuto
import Derived.Deep.CutBlock
import Derived.IntWalk
import Derived.ChangeAlike
import Derived.ChangeKeysEq
namespace Go.Proofs.Yticnaljfnjiofaa
open Go.RowKit
set_option linter.unusedSimpArgs false
set_option linter.unusedVariables false

/-! ### '==' of states -/
def Cw.eqb (d e : Cw) : Bool := d.src == e.src && (d.lay == e.lay && (d.tid == e.tid && true))
theorem eqs_want (w : World) (d e : Cw) : (Op.equalIn 10000 37 (.agg d.cells) (.agg e.cells)).run Try.prog w = .ok (d.eqb e) w := by
  exact eqs_struct Try.underlying37 (by kernel_rfl) (eqs_cons (by decide) (by kernel_rfl) rfl rfl (run_equalIn_int w 9998 3 .i64 .i64 d.src e.src Try.underlying3)
    (eqs_cons (by decide) (by kernel_rfl) rfl rfl (run_equalIn_int w 9998 3 .i64 .i64 d.lay e.lay Try.underlying3)
    (eqs_cons (by decide) (by kernel_rfl) rfl rfl (run_equalIn_int w 9998 3 .i64 .i64 d.tid e.tid Try.underlying3)
    (eqs_nil))))
theorem eql_want (w : World) (a b c d : Int) (v : Int) (r : Bool) (h : (a == c && b == d) = r) : (binOp .eql 37 (.agg #[.int .i64 a, .int .i64 b, .int .i64 v]) (.agg #[.int .i64 c, .int .i64 d, .int .i64 v])).run Try.prog w = .ok (.bool r) w := by
  have h2 := eqs_want w ⟨a, b, v⟩ ⟨c, d, v⟩
  dsimp only [Cw.cells] at h2
  rw [run_eql_struct, h2, ← h]
  simp [Cw.eqb]

set_option maxRecDepth 100000 in
theorem above_any (x : Cx) (t : Int) (w : World) : Calls Try.prog 79 #[.agg x.cells, .int .i64 t] w fun e w' => e = .returned (.bool (x.over t)) ∧ Below w.heap.size w w' := by
  obtain ⟨xs, xl, beg, who, has, xt, syn⟩ := x
  dsimp only [Cx.cells]
  have B0 := Lib.hid ((Below.refl w.heap.size w).alloc (Nat.le_refl _) (.cells #[.int .i64 xs, .int .i64 xl, .bool beg, .bool who, .bool has, .int .i64 xt, .bool syn] 107))
  cases has
  · go_enter Try.func79, Try.ntmps79
    go_wp2
    go_ret
    exact ⟨by simp [Cx.over], B0.out⟩
  · by_cases h : t < xt
    · go_enter Try.func79, Try.ntmps79
      go_wp2
      go_ret
      exact ⟨by simp [Cx.over, h], B0.out⟩
    · go_enter Try.func79, Try.ntmps79
      go_wp2
      go_ret
      exact ⟨by simp [Cx.over, h], B0.out⟩

set_option maxRecDepth 100000 in
theorem cof_any (u : Cw) (a b : Int) (w : World) : Calls Try.prog 43 #[.agg u.cells, .int .i64 a, .int .i64 b] w fun e w' => e = .returned (.bool (u.src == a && u.lay == b)) ∧ Below w.heap.size w w' := by
  obtain ⟨ws, wl, wt⟩ := u
  dsimp only [Cw.cells]
  obtain ⟨r, hr⟩ : ∃ r, (ws == a && wl == b) = r := ⟨_, rfl⟩
  rw [hr]
  have HE := fun w => eql_want w ws wl a b wt r hr
  clear hr
  go_enter Try.func43, Try.ntmps43
  go_wp2
  go_ret
  exact ⟨rfl, (Below.refl w.heap.size w).alloc (Nat.le_refl _) _⟩

set_option maxRecDepth 100000 in
theorem casks_any (s : Cs) (x : Cw) (w : World) : Calls Try.prog 24 #[.agg s.cells, .agg x.cells] w fun e w' => e = .returned (.bool (s.asks x)) ∧ Below w.heap.size w w' := by
  have C := Lib.hid (fun w => cof_any x s.src s.lay w)
  have HA := Lib.hid (show s.asks x = (!s.on || !(x.src == s.src && x.lay == s.lay)) by
    unfold Cs.asks
    rw [Bool.beq_comm (a := x.src), Bool.beq_comm (a := x.lay)]
    cases s.on <;> simp [bne])
  obtain ⟨on, ss, sl, st⟩ := s
  obtain ⟨ws, wl, wt⟩ := x
  dsimp only [Cs.cells, Cw.cells] at *
  have B0 := Lib.hid (((Below.refl w.heap.size w).alloc (Nat.le_refl _) (.cells #[.bool on, .int .i64 ss, .int .i64 sl, .int .i64 st] 72)).alloc (by simp) (.cells #[.int .i64 ws, .int .i64 wl, .int .i64 wt] 37))
  obtain ⟨r, hr⟩ : ∃ r, (ws == ss && wl == sl) = r := ⟨_, rfl⟩
  rw [hr] at C HA
  clear hr
  cases on
  · go_enter Try.func24, Try.ntmps24
    go_wp2
    go_ret
    exact ⟨by rw [HA.out]; rfl, B0.out⟩
  · go_enter Try.func24, Try.ntmps24
    go_wp2_with fail
    refine (C.out _).mono ?_
    rintro e w1 ⟨rfl, b1⟩
    have HB := Lib.hid (B0.out.trans (b1.mono B0.out.size))
    clear b1 B0 C
    go_wp2
    go_ret
    exact ⟨by rw [HA.out]; rfl, HB.out⟩

set_option maxRecDepth 100000 in
theorem cstreams_any (s : Cs) (x : Cx) (w : World) : Calls Try.prog 53 #[.agg s.cells, .agg x.cells] w fun e w' => e = .returned (.bool (s.own x)) ∧ Below w.heap.size w w' := by
  have C := Lib.hid (fun w => casks_any s ⟨x.src, x.lay, 0⟩ w)
  have HA := Lib.hid (show s.own x = !s.asks ⟨x.src, x.lay, 0⟩ by
    unfold Cs.asks Cs.own
    rw [Bool.beq_comm (a := x.src), Bool.beq_comm (a := x.lay)]
    cases s.on <;> simp [bne])
  obtain ⟨r, hr⟩ : ∃ r, s.asks ⟨x.src, x.lay, 0⟩ = r := ⟨_, rfl⟩
  rw [hr] at C HA
  clear hr
  rw [HA.out]
  clear HA
  obtain ⟨on, ss, sl, st⟩ := s
  obtain ⟨xs, xl, beg, who, has, xt, syn⟩ := x
  dsimp only [Cs.cells, Cx.cells, Cw.cells] at *
  have B0 := Lib.hid (((Below.refl w.heap.size w).alloc (Nat.le_refl _) (.cells #[.bool on, .int .i64 ss, .int .i64 sl, .int .i64 st] 72)).alloc (by simp) (.cells #[.int .i64 xs, .int .i64 xl, .bool beg, .bool who, .bool has, .int .i64 xt, .bool syn] 107))
  go_enter Try.func53, Try.ntmps53
  go_wp2_with fail
  refine (C.out _).mono ?_
  rintro e w1 ⟨rfl, b1⟩
  have HB := Lib.hid (B0.out.trans (b1.mono B0.out.size))
  clear b1 B0 C
  go_wp2
  go_ret
  exact ⟨rfl, HB.out⟩

set_option maxRecDepth 100000 in
theorem ctakes_any (u : Cw) (x : Cx) (w : World) : Calls Try.prog 55 #[.agg u.cells, .agg x.cells] w fun e w' => e = .returned (.bool (x.fit u)) ∧ Below w.heap.size w w' := by
  have C1 := Lib.hid (fun w => cof_any u x.src x.lay w)
  have C2 := Lib.hid (fun w => above_any x u.tid w)
  have HA := Lib.hid (show x.fit u = ((u.src == x.src && u.lay == x.lay) && !x.over u.tid) by
    unfold Cx.fit Cx.wanted
    rw [Bool.beq_comm (a := x.src), Bool.beq_comm (a := x.lay)])
  obtain ⟨r, hr⟩ : ∃ r, (u.src == x.src && u.lay == x.lay) = r := ⟨_, rfl⟩
  obtain ⟨q, hq⟩ : ∃ q, x.over u.tid = q := ⟨_, rfl⟩
  rw [hr, hq] at HA
  rw [hr] at C1
  rw [hq] at C2
  clear hr hq
  rw [HA.out]
  clear HA
  obtain ⟨ws, wl, wt⟩ := u
  obtain ⟨xs, xl, beg, who, has, xt, syn⟩ := x
  dsimp only [Cs.cells, Cx.cells, Cw.cells] at *
  have X0 := Lib.hid (Whole.new2 w (.cells #[.int .i64 ws, .int .i64 wl, .int .i64 wt] 37) 107 #[.int .i64 xs, .int .i64 xl, .bool beg, .bool who, .bool has, .int .i64 xt, .bool syn])
  have U0 := Lib.hid ((Whole.new w 37 #[.int .i64 ws, .int .i64 wl, .int .i64 wt]).alloc (.cells #[.int .i64 xs, .int .i64 xl, .bool beg, .bool who, .bool has, .int .i64 xt, .bool syn] 107))
  have B0 := Lib.hid (((Below.refl w.heap.size w).alloc (Nat.le_refl _) (.cells #[.int .i64 ws, .int .i64 wl, .int .i64 wt] 37)).alloc (by simp) (.cells #[.int .i64 xs, .int .i64 xl, .bool beg, .bool who, .bool has, .int .i64 xt, .bool syn] 107))
  go_enter Try.func55, Try.ntmps55
  go_wp2_with fail
  refine (C1.out _).mono ?_
  rintro e w1 ⟨rfl, b1⟩
  have X1 := X0.out.below b1 X0.out.lt
  have U1 := U0.out.below b1 U0.out.lt
  have HB := Lib.hid (B0.out.trans (b1.mono B0.out.size))
  clear b1 B0 C1 X0 U0
  have x0 := X1.cell 0
  have x1 := X1.cell 1
  have x2 := X1.cell 2
  have x3 := X1.cell 3
  have x4 := X1.cell 4
  have x5 := X1.cell 5
  have x6 := X1.cell 6
  have u2 := U1.cell 2
  clear X1 U1
  cases r
  · go_wp2
    go_ret
    exact ⟨rfl, HB.out⟩
  · go_wp2_with fail
    refine (C2.out _).mono ?_
    rintro e w2 ⟨rfl, b2⟩
    have HB2 := Lib.hid (HB.out.trans (b2.mono HB.out.size))
    clear b2 x0 x1 x2 x3 x4 x5 x6 u2
    go_wp2
    go_ret
    exact ⟨by simp, HB2.out⟩

/-- The temporal layer behind a packet that begins a frame. -/
def Cs.tidN (s : Cs) (x : Cx) (t : Int) : Int := if x.who = true ∨ t < s.tid then t else if x.syn = true ∧ x.over s.tid = true ∧ x.over t = false then x.tid else s.tid
theorem Cs.tidS_N (s : Cs) (x : Cx) (u : Cw) (h : x.beg = true) : s.tidS x u = s.tidN x u.tid := by
  unfold Cs.tidS Cs.tidN Cx.over
  rw [if_pos h]
  by_cases h1 : x.who = true
  · rw [if_pos h1, if_pos (.inl h1)]
  · rw [if_neg h1]
    by_cases h2 : u.tid < s.tid
    · rw [if_pos h2, if_pos (.inr h2)]
    · have e : ¬ (x.who = true ∨ u.tid < s.tid) := fun h => h.elim h1 h2
      rw [if_neg h2, if_neg e]
      cases x.has <;> cases x.syn <;> simp

set_option maxRecDepth 100000 in
theorem cnext_any (s : Cs) (x : Cx) (t : Int) (w : World) : Calls Try.prog 78 #[.agg s.cells, .agg x.cells, .int .i64 t] w fun e w' => e = .returned (.int .i64 (s.tidN x t)) ∧ Below w.heap.size w w' := by
  have C1 := Lib.hid (fun w => above_any x s.tid w)
  have C2 := Lib.hid (fun w => above_any x t w)
  have HA := Lib.hid (show s.tidN x t = _ from rfl)
  obtain ⟨d, hd⟩ : ∃ d, s.tidN x t = d := ⟨_, rfl⟩
  rw [hd]
  have HD := Lib.hid hd
  clear hd HA
  obtain ⟨r, hr⟩ : ∃ r, x.over s.tid = r := ⟨_, rfl⟩
  obtain ⟨q, hq⟩ : ∃ q, x.over t = q := ⟨_, rfl⟩
  rw [hr] at C1
  rw [hq] at C2
  have HRQ := Lib.hid (And.intro hr hq)
  clear hr hq
  obtain ⟨on, ss, sl, st⟩ := s
  obtain ⟨xs, xl, beg, who, has, xt, syn⟩ := x
  dsimp only [Cs.cells, Cx.cells, Cw.cells] at *
  have X0 := Lib.hid (Whole.new2 w (.cells #[.bool on, .int .i64 ss, .int .i64 sl, .int .i64 st] 72) 107 #[.int .i64 xs, .int .i64 xl, .bool beg, .bool who, .bool has, .int .i64 xt, .bool syn])
  have U0 := Lib.hid ((Whole.new w 72 #[.bool on, .int .i64 ss, .int .i64 sl, .int .i64 st]).alloc (.cells #[.int .i64 xs, .int .i64 xl, .bool beg, .bool who, .bool has, .int .i64 xt, .bool syn] 107))
  have B0 := Lib.hid (((Below.refl w.heap.size w).alloc (Nat.le_refl _) (.cells #[.bool on, .int .i64 ss, .int .i64 sl, .int .i64 st] 72)).alloc (by simp) (.cells #[.int .i64 xs, .int .i64 xl, .bool beg, .bool who, .bool has, .int .i64 xt, .bool syn] 107))
  cases who
  case true =>
    obtain rfl : t = d := by rw [← HD.out]; simp [Cs.tidN]
    go_enter Try.func78, Try.ntmps78
    go_wp2
    go_ret
    exact ⟨rfl, B0.out⟩
  by_cases h1 : t < st
  · obtain rfl : t = d := by rw [← HD.out]; simp [Cs.tidN, h1]
    go_enter Try.func78, Try.ntmps78
    go_wp2
    go_ret
    exact ⟨rfl, B0.out⟩
  cases syn
  case false =>
    obtain rfl : st = d := by rw [← HD.out]; simp [Cs.tidN, h1]
    go_enter Try.func78, Try.ntmps78
    go_wp2
    go_ret
    exact ⟨rfl, B0.out⟩
  go_enter Try.func78, Try.ntmps78
  go_wp2_with fail
  refine (C1.out _).mono ?_
  rintro e w1 ⟨rfl, b1⟩
  have X1 := X0.out.below b1 X0.out.lt
  have U1 := U0.out.below b1 U0.out.lt
  have HB := Lib.hid (B0.out.trans (b1.mono B0.out.size))
  clear b1 B0 C1 X0 U0
  have x0 := X1.cell 0
  have x1 := X1.cell 1
  have x2 := X1.cell 2
  have x3 := X1.cell 3
  have x4 := X1.cell 4
  have x5 := X1.cell 5
  have x6 := X1.cell 6
  have u3 := U1.cell 3
  have HX := Lib.hid X1
  have HU := Lib.hid U1
  clear X1 U1
  cases r
  · obtain rfl : st = d := by rw [← HD.out]; simp [Cs.tidN, HRQ.out.1]; omega
    go_wp2
    go_ret
    exact ⟨rfl, HB.out⟩
  · go_wp2_with fail
    refine (C2.out _).mono ?_
    rintro e w2 ⟨rfl, b2⟩
    have HB2 := Lib.hid (HB.out.trans (b2.mono HB.out.size))
    have X1 := HX.out.below b2 HX.out.lt
    have U1 := HU.out.below b2 HU.out.lt
    clear b2 x0 x1 x2 x3 x4 x5 x6 u3 HX HU HB
    have x5 := X1.cell 5
    have u3 := U1.cell 3
    clear X1 U1
    cases q
    · obtain rfl : xt = d := by rw [← HD.out]; simp [Cs.tidN, HRQ.out.1, HRQ.out.2]; omega
      go_wp2
      go_ret
      exact ⟨rfl, HB2.out⟩
    · obtain rfl : st = d := by rw [← HD.out]; simp [Cs.tidN, HRQ.out.1, HRQ.out.2]; omega
      go_wp2
      go_ret
      exact ⟨rfl, HB2.out⟩
/-- A state whose temporal layer is another one. -/
def Cs.at (s : Cs) (t : Int) : Cs := ⟨s.on, s.src, s.lay, t⟩
set_option maxRecDepth 100000 in
theorem cfollow_any (s : Cs) (x : Cx) (u : Cw) (w : World) : Calls Try.prog 54 #[.agg s.cells, .agg x.cells, .agg u.cells] w fun e w' => e = .returned (.tuple #[.agg (s.at (s.tidS x u)).cells, .int .i64 (if x.over (s.tidS x u) = true then 2 else 1)]) ∧ Below w.heap.size w w' := by
  obtain ⟨td, htd⟩ : ∃ d, s.tidS x u = d := ⟨_, rfl⟩
  rw [htd]
  have CN := Lib.hid (fun (h : x.beg = true) w => by
    have C := cnext_any s x u.tid w
    rw [← Cs.tidS_N s x u h, htd] at C
    exact C)
  have HS := Lib.hid (show x.beg = false → s.tid = td from fun h => by rw [← htd]; exact (Cs.tidS_still h).symm)
  clear htd
  have C2 := Lib.hid (fun w => above_any x td w)
  obtain ⟨q, hq⟩ : ∃ q, x.over td = q := ⟨_, rfl⟩
  rw [hq] at C2 ⊢
  clear hq
  obtain ⟨kd, hkd⟩ : ∃ k : Int, (if q = true then 2 else 1) = k := ⟨_, rfl⟩
  rw [hkd]
  have HK := Lib.hid hkd
  clear hkd
  obtain ⟨on, ss, sl, st⟩ := s
  obtain ⟨xs, xl, beg, who, has, xt, syn⟩ := x
  obtain ⟨ws, wl, wt⟩ := u
  dsimp only [Cs.cells, Cx.cells, Cw.cells] at *
  obtain ⟨N1, N2, N3, N4, NB⟩ := four_new (w := w) (t := 72) (t1 := 107) (t2 := 37) (t3 := 72) #[.bool on, .int .i64 ss, .int .i64 sl, .int .i64 st] #[.int .i64 xs, .int .i64 xl, .bool beg, .bool who, .bool has, .int .i64 xt, .bool syn] #[.int .i64 ws, .int .i64 wl, .int .i64 wt] #[.bool false, .int .i64 0, .int .i64 0, .int .i64 0]
  have HS1 := Lib.hid N1
  have HX1 := Lib.hid N2
  have HR1 := Lib.hid N4
  have HB1 := Lib.hid NB
  clear N1 N2 N3 N4 NB
  go_enter Try.func54, Try.ntmps54
  cases beg
  · obtain rfl : st = td := HS.out rfl
    go_wp2_with fail
    refine (C2.out _).mono ?_
    rintro e w2 ⟨rfl, b2⟩
    have S1 := HS1.out.below b2 HS1.out.lt
    have R1 := HR1.out.below b2 HR1.out.lt
    have HB2 := Lib.hid (HB1.out.trans (b2.mono HB1.out.size))
    clear b2 HX1 HS CN HB1 HS1 HR1 C2
    have s0 := S1.cell 0
    have s1 := S1.cell 1
    have s2 := S1.cell 2
    have s3 := S1.cell 3
    have r0 := R1.cell 0
    have r1 := R1.cell 1
    have r2 := R1.cell 2
    have r3 := R1.cell 3
    have fr0 := R1.free 0
    have fr1 := R1.free 1
    have fr2 := R1.free 2
    have fr3 := R1.free 3
    clear S1 R1
    cases q
    · obtain rfl : 1 = kd := HK.out
      clear HK
      go_wp2_with fail
      exact bodyPost_ret (v := .tuple #[.agg #[.bool on, .int .i64 ss, .int .i64 sl, .int .i64 st], .int .i64 1]) (by simp [results, Try.results54, go_sem, r0, r1, r2, r3]) rfl ⟨rfl, four_set HB2.out (show w.heap.size ≤ w.heap.size + 1 + 1 + 1 by omega) _ _ _ _⟩
    · obtain rfl : 2 = kd := HK.out
      clear HK
      go_wp2_with fail
      exact bodyPost_ret (v := .tuple #[.agg #[.bool on, .int .i64 ss, .int .i64 sl, .int .i64 st], .int .i64 2]) (by simp [results, Try.results54, go_sem, r0, r1, r2, r3]) rfl ⟨rfl, four_set HB2.out (show w.heap.size ≤ w.heap.size + 1 + 1 + 1 by omega) _ _ _ _⟩
  · go_wp2_with fail
    refine (CN.out trivial _).mono ?_
    rintro e w1 ⟨rfl, b1⟩
    have S1 := HS1.out.below b1 HS1.out.lt
    have R1 := HR1.out.below b1 HR1.out.lt
    have X1 := HX1.out.below b1 HX1.out.lt
    have HB0 := Lib.hid (HB1.out.trans (b1.mono HB1.out.size))
    clear b1 HB1 HS1 HR1 CN HX1 HS
    have s0 := S1.cell 0
    have s1 := S1.cell 1
    have s2 := S1.cell 2
    have s3 := S1.cell 3
    have fs3 := S1.free 3
    have x0 := X1.cell 0
    have x1 := X1.cell 1
    have x2 := X1.cell 2
    have x3 := X1.cell 3
    have x4 := X1.cell 4
    have x5 := X1.cell 5
    have x6 := X1.cell 6
    have r0 := R1.cell 0
    have r1 := R1.cell 1
    have r2 := R1.cell 2
    have r3 := R1.cell 3
    have fr0 := R1.free 0
    have fr1 := R1.free 1
    have fr2 := R1.free 2
    have fr3 := R1.free 3
    have hl := S1.lt
    have HS1 := Lib.hid (show Whole _ _ _ #[.bool on, .int .i64 ss, .int .i64 sl, .int .i64 td] from S1.set 3 (.int .i64 td))
    have HR1 := Lib.hid (R1.far (p := ⟨w.heap.size, 3, none⟩) (show w.heap.size + 1 + 1 + 1 ≠ w.heap.size by omega) (.int .i64 td))
    have HB1 := Lib.hid (HB0.out.setCell (p := ⟨w.heap.size, 3, none⟩) (Nat.le_refl _) (.int .i64 td))
    clear S1 R1 X1
    go_wp2_with fail
    refine (C2.out _).mono ?_
    rintro e w2 ⟨rfl, b2⟩
    have S1 := HS1.out.below b2 HS1.out.lt
    have R1 := HR1.out.below b2 HR1.out.lt
    have HB2 := Lib.hid (HB1.out.trans (b2.mono HB1.out.size))
    clear b2 HB0 s0 s1 s2 s3 fs3 x0 x1 x2 x3 x4 x5 x6 r0 r1 r2 r3 fr0 fr1 fr2 fr3 hl HB1 HS1 HR1 C2
    have s0 := S1.cell 0
    have s1 := S1.cell 1
    have s2 := S1.cell 2
    have s3 := S1.cell 3
    have r0 := R1.cell 0
    have r1 := R1.cell 1
    have r2 := R1.cell 2
    have r3 := R1.cell 3
    have fr0 := R1.free 0
    have fr1 := R1.free 1
    have fr2 := R1.free 2
    have fr3 := R1.free 3
    clear S1 R1
    cases q
    · obtain rfl : 1 = kd := HK.out
      clear HK
      go_wp2_with fail
      exact bodyPost_ret (v := .tuple #[.agg #[.bool on, .int .i64 ss, .int .i64 sl, .int .i64 td], .int .i64 1]) (by simp [results, Try.results54, go_sem, r0, r1, r2, r3]) rfl ⟨rfl, four_set HB2.out (show w.heap.size ≤ w.heap.size + 1 + 1 + 1 by omega) _ _ _ _⟩
    · obtain rfl : 2 = kd := HK.out
      clear HK
      go_wp2_with fail
      exact bodyPost_ret (v := .tuple #[.agg #[.bool on, .int .i64 ss, .int .i64 sl, .int .i64 td], .int .i64 2]) (by simp [results, Try.results54, go_sem, r0, r1, r2, r3]) rfl ⟨rfl, four_set HB2.out (show w.heap.size ≤ w.heap.size + 1 + 1 + 1 by omega) _ _ _ _⟩

set_option maxRecDepth 100000 in
theorem ctake_any (s : Cs) (x : Cx) (u : Cw) (w : World) : Calls Try.prog 40 #[.agg s.cells, .agg x.cells, .agg u.cells] w (ChOut s x u w) := by
  have C1 := Lib.hid (fun w => cstreams_any s x w)
  have C2 := Lib.hid (fun w => ctakes_any u x w)
  have C3 := Lib.hid (fun w => cfollow_any s x u w)
  obtain ⟨ow, how⟩ : ∃ b, s.own x = b := ⟨_, rfl⟩
  obtain ⟨ft, hft⟩ : ∃ b, x.fit u = b := ⟨_, rfl⟩
  obtain ⟨nx, hnx⟩ : ∃ d, s.next x u = d := ⟨_, rfl⟩
  obtain ⟨kd, hkd⟩ : ∃ d, s.kind x u = d := ⟨_, rfl⟩
  obtain ⟨fx, hfx⟩ : ∃ d, s.at (s.tidS x u) = d := ⟨_, rfl⟩
  obtain ⟨fk, hfk⟩ : ∃ d : Int, (if x.over (s.tidS x u) = true then 2 else 1) = d := ⟨_, rfl⟩
  have P1 : Hid (ow = false → ft = true → x.beg = true → x.who = true → nx = ⟨true, u.src, u.lay, u.tid⟩ ∧ kd = 3) := Lib.hid (fun h h1 h2 h3 => ⟨hnx ▸ Cs.next_switch (how.trans h) (hft.trans h1) h2 h3, hkd ▸ Cs.kind_switch (how.trans h) (hft.trans h1) h2 h3⟩)
  have P2 : Hid (ow = false → ¬ (ft = true ∧ x.beg = true ∧ x.who = true) → nx = s ∧ kd = 0) := Lib.hid (fun h h1 => ⟨hnx ▸ Cs.next_leave (how.trans h) (by rw [hft]; exact h1), hkd ▸ Cs.kind_leave (how.trans h) (by rw [hft]; exact h1)⟩)
  have P3 : Hid (ow = true → nx = fx ∧ kd = fk) := Lib.hid (fun h => by
    have h1 := how.trans h
    refine ⟨?_, ?_⟩
    · rw [← hnx, ← hfx, Cs.next_own h1]
      unfold Cs.at
      rw [(Cs.own_iff.1 h1).1]
    · rw [← hkd, ← hfk, Cs.kind_own h1]
      unfold Cx.over
      simp)
  rw [how] at C1
  rw [hft] at C2
  rw [hfx, hfk] at C3
  unfold ChOut
  rw [hnx, hkd]
  clear how hft hnx hkd hfx hfk
  obtain ⟨fo, fs, fl, ftd⟩ := fx
  obtain ⟨on, ss, sl, st⟩ := s
  obtain ⟨xs, xl, beg, who, has, xt, syn⟩ := x
  obtain ⟨ws, wl, wt⟩ := u
  dsimp only [Cs.cells, Cx.cells, Cw.cells] at *
  obtain ⟨N1, N2, N3, N4, NB⟩ := four_new (w := w) (t := 72) (t1 := 107) (t2 := 37) (t3 := 72) #[.bool on, .int .i64 ss, .int .i64 sl, .int .i64 st] #[.int .i64 xs, .int .i64 xl, .bool beg, .bool who, .bool has, .int .i64 xt, .bool syn] #[.int .i64 ws, .int .i64 wl, .int .i64 wt] #[.bool false, .int .i64 0, .int .i64 0, .int .i64 0]
  have HS1 := Lib.hid N1
  have HX1 := Lib.hid N2
  have HU1 := Lib.hid N3
  have HR1 := Lib.hid N4
  have HB1 := Lib.hid NB
  clear N1 N2 N3 N4 NB
  go_enter Try.func40, Try.ntmps40
  go_wp2_with fail
  refine (C1.out _).mono ?_
  rintro e w1 ⟨rfl, b1⟩
  have S1 := HS1.out.below b1 HS1.out.lt
  have X1 := HX1.out.below b1 HX1.out.lt
  have U1 := HU1.out.below b1 HU1.out.lt
  have R1 := HR1.out.below b1 HR1.out.lt
  have HB2 := Lib.hid (HB1.out.trans (b1.mono HB1.out.size))
  clear b1 HB1 HS1 HR1 HX1 HU1
  have HB1 := HB2
  clear HB2
  have s0 := S1.cell 0
  have s1 := S1.cell 1
  have s2 := S1.cell 2
  have s3 := S1.cell 3
  have x0 := X1.cell 0
  have x1 := X1.cell 1
  have x2 := X1.cell 2
  have x3 := X1.cell 3
  have x4 := X1.cell 4
  have x5 := X1.cell 5
  have x6 := X1.cell 6
  have u0 := U1.cell 0
  have u1 := U1.cell 1
  have u2 := U1.cell 2
  have r0 := R1.cell 0
  have r1 := R1.cell 1
  have r2 := R1.cell 2
  have r3 := R1.cell 3
  have fr0 := R1.free 0
  have fr1 := R1.free 1
  have fr2 := R1.free 2
  have fr3 := R1.free 3
  have HS1 := Lib.hid S1
  have HX1 := Lib.hid X1
  have HU1 := Lib.hid U1
  have HR1 := Lib.hid R1
  clear S1 X1 U1 R1
  clear C1
  cases ow with
  | true =>
    obtain ⟨hn, hk⟩ := P3.out rfl
    subst hn
    subst hk
    clear P1 P2 P3 C2
    go_wp2_with fail
    refine (C3.out _).mono ?_
    rintro e w2 ⟨rfl, b2⟩
    clear s0 s1 s2 s3 x0 x1 x2 x3 x4 x5 x6 u0 u1 u2 r0 r1 r2 r3 fr0 fr1 fr2 fr3 C3
    have S1 := HS1.out.below b2 HS1.out.lt
    have X1 := HX1.out.below b2 HX1.out.lt
    have U1 := HU1.out.below b2 HU1.out.lt
    have R1 := HR1.out.below b2 HR1.out.lt
    have HB2 := Lib.hid (HB1.out.trans (b2.mono HB1.out.size))
    clear b2 HB1 HS1 HR1 HX1 HU1
    have HB1 := HB2
    clear HB2
    have s0 := S1.cell 0
    have s1 := S1.cell 1
    have s2 := S1.cell 2
    have s3 := S1.cell 3
    have x0 := X1.cell 0
    have x1 := X1.cell 1
    have x2 := X1.cell 2
    have x3 := X1.cell 3
    have x4 := X1.cell 4
    have x5 := X1.cell 5
    have x6 := X1.cell 6
    have u0 := U1.cell 0
    have u1 := U1.cell 1
    have u2 := U1.cell 2
    have r0 := R1.cell 0
    have r1 := R1.cell 1
    have r2 := R1.cell 2
    have r3 := R1.cell 3
    have fr0 := R1.free 0
    have fr1 := R1.free 1
    have fr2 := R1.free 2
    have fr3 := R1.free 3
    have HS1 := Lib.hid S1
    have HX1 := Lib.hid X1
    have HU1 := Lib.hid U1
    have HR1 := Lib.hid R1
    clear S1 X1 U1 R1
    clear HS1 HX1 HU1 HR1
    go_wp2_with fail
    exact bodyPost_ret (v := .tuple #[.agg #[.bool fo, .int .i64 fs, .int .i64 fl, .int .i64 ftd], .int .i64 kd]) (by simp [results, Try.results40, go_sem, r0, r1, r2, r3]) rfl ⟨rfl, four_set HB1.out (show w.heap.size ≤ w.heap.size + 1 + 1 + 1 by omega) _ _ _ _⟩
  | false =>
    clear C3
    cases beg with
    | false =>
      obtain ⟨hn, hk⟩ := P2.out rfl (fun h => by cases h.2.1)
      subst hn
      subst hk
      clear P1 P2 P3 C2 HS1 HX1 HU1 HR1
      go_wp2_with fail
      exact bodyPost_ret (v := .tuple #[.agg #[.bool on, .int .i64 ss, .int .i64 sl, .int .i64 st], .int .i64 0]) (by simp [results, Try.results40, go_sem, r0, r1, r2, r3]) rfl ⟨rfl, four_set HB1.out (show w.heap.size ≤ w.heap.size + 1 + 1 + 1 by omega) _ _ _ _⟩
    | true =>
      cases who with
      | false =>
        obtain ⟨hn, hk⟩ := P2.out rfl (fun h => by cases h.2.2)
        subst hn
        subst hk
        clear P1 P2 P3 C2 HS1 HX1 HU1 HR1
        go_wp2_with fail
        exact bodyPost_ret (v := .tuple #[.agg #[.bool on, .int .i64 ss, .int .i64 sl, .int .i64 st], .int .i64 0]) (by simp [results, Try.results40, go_sem, r0, r1, r2, r3]) rfl ⟨rfl, four_set HB1.out (show w.heap.size ≤ w.heap.size + 1 + 1 + 1 by omega) _ _ _ _⟩
      | true =>
        go_wp2_with fail
        refine (C2.out _).mono ?_
        rintro e w2 ⟨rfl, b2⟩
        clear s0 s1 s2 s3 x0 x1 x2 x3 x4 x5 x6 u0 u1 u2 r0 r1 r2 r3 fr0 fr1 fr2 fr3 C2
        have S1 := HS1.out.below b2 HS1.out.lt
        have X1 := HX1.out.below b2 HX1.out.lt
        have U1 := HU1.out.below b2 HU1.out.lt
        have R1 := HR1.out.below b2 HR1.out.lt
        have HB2 := Lib.hid (HB1.out.trans (b2.mono HB1.out.size))
        clear b2 HB1 HS1 HR1 HX1 HU1
        have HB1 := HB2
        clear HB2
        have s0 := S1.cell 0
        have s1 := S1.cell 1
        have s2 := S1.cell 2
        have s3 := S1.cell 3
        have x0 := X1.cell 0
        have x1 := X1.cell 1
        have x2 := X1.cell 2
        have x3 := X1.cell 3
        have x4 := X1.cell 4
        have x5 := X1.cell 5
        have x6 := X1.cell 6
        have u0 := U1.cell 0
        have u1 := U1.cell 1
        have u2 := U1.cell 2
        have r0 := R1.cell 0
        have r1 := R1.cell 1
        have r2 := R1.cell 2
        have r3 := R1.cell 3
        have fr0 := R1.free 0
        have fr1 := R1.free 1
        have fr2 := R1.free 2
        have fr3 := R1.free 3
        have HS1 := Lib.hid S1
        have HX1 := Lib.hid X1
        have HU1 := Lib.hid U1
        have HR1 := Lib.hid R1
        clear S1 X1 U1 R1
        clear HS1 HX1 HU1 HR1
        cases ft with
        | false =>
          obtain ⟨hn, hk⟩ := P2.out (by simp) (by simp)
          subst hn
          subst hk
          clear P1 P2 P3
          go_wp2_with fail
          exact bodyPost_ret (v := .tuple #[.agg #[.bool on, .int .i64 ss, .int .i64 sl, .int .i64 st], .int .i64 0]) (by simp [results, Try.results40, go_sem, r0, r1, r2, r3]) rfl ⟨rfl, four_set HB1.out (show w.heap.size ≤ w.heap.size + 1 + 1 + 1 by omega) _ _ _ _⟩
        | true =>
          obtain ⟨hn, hk⟩ := P1.out (by simp) (by simp) (by simp) (by simp)
          subst hn
          subst hk
          clear P1 P2 P3
          go_wp2_with fail
          exact bodyPost_ret (v := .tuple #[.agg #[.bool true, .int .i64 ws, .int .i64 wl, .int .i64 wt], .int .i64 3]) (by simp [results, Try.results40, go_sem, r0, r1, r2, r3]) rfl ⟨rfl, four_set HB1.out (show w.heap.size ≤ w.heap.size + 1 + 1 + 1 by omega) _ _ _ _⟩
end Go.Proofs.Yticnaljfnjiofaa
