/-
  Proved: ChooseSwitches returns true for every row of steps: another stream begins only where it is wanted, at a frame that leans on none; behind that nothing is asked for; what is sent is of one stream at a time. Conditions: none.
-/
import Derived.Test.YtoajbaimjkhegaaChD
import Derived.Test.YtoajbaimjkhegaaChO
import Derived.Test.YtoajbaimjkhegaaLift
import Derived.Deep.CutBlock
namespace Go.Proofs.Ytoajbaimjkhegaa.HSwitches
open Go.ChangeShapes Go.WideShapes Go.ChangeAt Go.RowKit
set_option linter.unusedSimpArgs false
set_option linter.unusedVariables false

set_option maxRecDepth 100000 in
set_option maxHeartbeats 6400000 in
theorem walk (w : World) (A : Option Addr) (c : Nat) (l : List (Cx × Cw)) (hl : l.length ≤ maxLen) (hr : Row w w.heap.size 10 A l.length (rowC stepCs l)) :
    Calls Try.prog 4 #[.slice A l.length c] w fun e w' => e = .returned (.bool true) ∧ Below w.heap.size w w' := by
  unfold maxLen at hl
  obtain ⟨n, hn⟩ : ∃ n, l.length = n := ⟨_, rfl⟩
  rw [hn] at hl hr ⊢
  have CA := Lib.hid (fun w => awake_any w)
  have HR := Lib.hid hr
  have HN := Lib.hid hn
  clear hr hn
  go_enter Try.func4, Try.ntmps4
  go_wp2_with fail
  refine (CA.out _).mono ?_
  rintro e w1 ⟨rfl, b1⟩
  by_cases h1 : 200 < n
  · go_wp2
    go_ret
    exact ⟨rfl, b1⟩
  have HW := Lib.hid (Whole.new w1 23 #[.bool false, .int .i64 0, .int .i64 0, .int .i64 0])
  have HB := Lib.hid (b1.alloc b1.size (.cells #[.bool false, .int .i64 0, .int .i64 0, .int .i64 0] 23))
  obtain ⟨gs, hgs⟩ : ∃ g, g = w1.heap.size := ⟨_, rfl⟩
  have hg := b1.size
  rw [← hgs] at hg HW
  clear b1 CA
  go_wp2_with fail
  rw [← hgs]
  go_loopw [5] (fun i wr => ∃ (k : Nat) (s : Cs), k ≤ n ∧ i = .int .i64 (k : Int) ∧ Hid (Whole wr gs 23 s.cells) ∧ Below w.heap.size w wr) (fun i _ => n - (intOf i).toNat)
  case atStart => exact ⟨0, ⟨false, 0, 0, 0⟩, Nat.zero_le _, rfl, HW, HB.out⟩
  case round =>
    clear HW HB hgs
    obtain ⟨k, s, hk, rfl, HW, hb⟩ := hrel
    obtain ⟨wo, rfl⟩ : ∃ wo : World, wo = wr := ⟨_, rfl⟩
    have HB := Lib.hid hb
    have hsz := hb.size
    have hgl := HW.out.lt
    clear hb
    by_cases hlt : k < n
    · obtain ⟨⟨x, u⟩, hx⟩ : ∃ x, l[k]? = some x := ⟨l[k]'(by rw [HN.out]; exact hlt), by simp⟩
      obtain ⟨g, o, rfl, hg0, hat⟩ := row_at stepCs_length HR.out (by omega)
      have hat := hat _ HB.out k (x, u)
      have r0 := hat 0 _ hx rfl
      have r1 := hat 1 _ hx rfl
      have r2 := hat 2 _ hx rfl
      have r3 := hat 3 _ hx rfl
      have r4 := hat 4 _ hx rfl
      have r5 := hat 5 _ hx rfl
      have r6 := hat 6 _ hx rfl
      have r7 := hat 7 _ hx rfl
      have r8 : wo.cell? ⟨g, o + k * 10 + 7 + 1, none⟩ = some (.int .i64 u.lay) := hat 8 _ hx rfl
      have r9 : wo.cell? ⟨g, o + k * 10 + 7 + 2, none⟩ = some (.int .i64 u.tid) := hat 9 _ hx rfl
      clear hat hx
      have hgo : g < wo.heap.size := by omega
      have hi1 : (0 : Int) ≤ (k : Int) := by omega
      have hi2 : (k : Int) < (n : Int) := by omega
      have h3 := Cs.three s x u
      have hle : x.beg = true → s.tidS x u ≤ u.tid := fun h => Cs.tidS_le h
      have hst : x.beg = false → s.tidS x u = s.tid := fun h => Cs.tidS_still h
      have hnow := fun h => Cs.own_iff.1 (show s.own x = true from h)
      obtain ⟨on, ss, sl, st⟩ := s
      obtain ⟨xs, xl, beg, who, has, xt, syn⟩ := x
      obtain ⟨ws, wl, wt⟩ := u
      obtain ⟨td, htd⟩ : ∃ d, Cs.tidS ⟨on, ss, sl, st⟩ ⟨xs, xl, beg, who, has, xt, syn⟩ ⟨ws, wl, wt⟩ = d := ⟨_, rfl⟩
      rw [htd] at h3 hle hst
      dsimp only [Cs.cells] at h3 hle hst hnow r0 r1 r2 r3 r4 r5 r6 r7 r8 r9 HW
      rw [Nat.add_zero] at r0
      clear htd
      rcases h3 with ⟨how, hnx, hkd⟩ | ⟨how, hwn, rfl, rfl, hnx, hkd⟩ | ⟨how, hnx, hkd⟩
      · obtain ⟨rfl, hsrc, hlay⟩ := hnow how
        rcases hkd with ⟨rfl, hlt2, hkd⟩ | ⟨hno, hkd⟩
        · have C := fun w => ct_lit _ _ _ true ss sl td 2 hnx hkd w
          dsimp only [Cs.cells, Cx.cells, Cw.cells] at C
          have C := Lib.hid C
          have d1 : (xs != ss) = false := by simp [hsrc]
          have d2 : (xl != sl) = false := by simp [hlay]
          have d3 : (xs == ss) = true := by simp [hsrc]
          have d4 : (xl == sl) = true := by simp [hlay]
          clear hsrc hlay
          clear hnx hkd how hle hst hnow
          have k0 := HW.out.cell 0
          have k1 := HW.out.cell 1
          have k2 := HW.out.cell 2
          have k3 := HW.out.cell 3
          go_wp2_with fail
          refine (C.out _).mono ?_
          rintro e w2 ⟨rfl, b2⟩
          have X0 := Whole.new wo 25 #[.int .i64 xs, .int .i64 xl, .bool beg, .bool who, .bool true, .int .i64 xt, .bool syn]
          have U0 := Whole.new2 wo (.cells #[.int .i64 xs, .int .i64 xl, .bool beg, .bool who, .bool true, .int .i64 xt, .bool syn] 25) 27 #[.int .i64 ws, .int .i64 wl, .int .i64 wt]
          have B0 := (HB.out.alloc hsz (.cells #[.int .i64 xs, .int .i64 xl, .bool beg, .bool who, .bool true, .int .i64 xt, .bool syn] 25)).alloc (by simp; omega) (.cells #[.int .i64 ws, .int .i64 wl, .int .i64 wt] 27)
          have S2 := ((HW.out.alloc (.cells #[.int .i64 xs, .int .i64 xl, .bool beg, .bool who, .bool true, .int .i64 xt, .bool syn] 25)).alloc (.cells #[.int .i64 ws, .int .i64 wl, .int .i64 wt] 27)).below b2 (by simp; omega)
          have X2 := (X0.alloc (.cells #[.int .i64 ws, .int .i64 wl, .int .i64 wt] 27)).below b2 (by simp; omega)
          have U2 := U0.below b2 (by simp)
          have HB2 := Lib.hid (B0.trans (b2.mono B0.size))
          have hs2 := HB2.out.size
          have l1 := S2.lt
          have l2 := X2.lt
          have l3 := U2.lt
          clear hgo k0 k1 k2 k3 r0 r1 r2 r3 r4 r5 r6 r7 r8 r9 b2 B0 X0 U0 C
          have k0 := S2.cell 0
          have k1 := S2.cell 1
          have k2 := S2.cell 2
          have k3 := S2.cell 3
          have f0 := S2.free 0
          have f1 := S2.free 1
          have f2 := S2.free 2
          have f3 := S2.free 3
          have x0 := X2.cell 0
          have x1 := X2.cell 1
          have x2 := X2.cell 2
          have x3 := X2.cell 3
          have x4 := X2.cell 4
          have x5 := X2.cell 5
          have x6 := X2.cell 6
          have u0 := U2.cell 0
          have u1 := U2.cell 1
          have u2 := U2.cell 2
          have HW2 := Lib.hid S2
          clear S2 X2 U2 HW HB
          go_wp2
          go_roundw
          case rel => exact ⟨k + 1, ⟨true, ss, sl, td⟩, by omega, by go_num, Lib.hid ((HW2.out.four (.bool true) (.int .i64 ss) (.int .i64 sl) (.int .i64 td)).alloc _), (four_set HB2.out hg (.bool true) (.int .i64 ss) (.int .i64 sl) (.int .i64 td)).alloc (four_set HB2.out hg (.bool true) (.int .i64 ss) (.int .i64 sl) (.int .i64 td)).size _⟩
          case measure => simp [intOf]; omega
        · have C := fun w => ct_lit _ _ _ true ss sl td 1 hnx hkd w
          dsimp only [Cs.cells, Cx.cells, Cw.cells] at C
          have C := Lib.hid C
          have d1 : (xs != ss) = false := by simp [hsrc]
          have d2 : (xl != sl) = false := by simp [hlay]
          have d3 : (xs == ss) = true := by simp [hsrc]
          have d4 : (xl == sl) = true := by simp [hlay]
          clear hsrc hlay
          clear hnx hkd how hle hst hnow
          have k0 := HW.out.cell 0
          have k1 := HW.out.cell 1
          have k2 := HW.out.cell 2
          have k3 := HW.out.cell 3
          go_wp2_with fail
          refine (C.out _).mono ?_
          rintro e w2 ⟨rfl, b2⟩
          have X0 := Whole.new wo 25 #[.int .i64 xs, .int .i64 xl, .bool beg, .bool who, .bool has, .int .i64 xt, .bool syn]
          have U0 := Whole.new2 wo (.cells #[.int .i64 xs, .int .i64 xl, .bool beg, .bool who, .bool has, .int .i64 xt, .bool syn] 25) 27 #[.int .i64 ws, .int .i64 wl, .int .i64 wt]
          have B0 := (HB.out.alloc hsz (.cells #[.int .i64 xs, .int .i64 xl, .bool beg, .bool who, .bool has, .int .i64 xt, .bool syn] 25)).alloc (by simp; omega) (.cells #[.int .i64 ws, .int .i64 wl, .int .i64 wt] 27)
          have S2 := ((HW.out.alloc (.cells #[.int .i64 xs, .int .i64 xl, .bool beg, .bool who, .bool has, .int .i64 xt, .bool syn] 25)).alloc (.cells #[.int .i64 ws, .int .i64 wl, .int .i64 wt] 27)).below b2 (by simp; omega)
          have X2 := (X0.alloc (.cells #[.int .i64 ws, .int .i64 wl, .int .i64 wt] 27)).below b2 (by simp; omega)
          have U2 := U0.below b2 (by simp)
          have HB2 := Lib.hid (B0.trans (b2.mono B0.size))
          have hs2 := HB2.out.size
          have l1 := S2.lt
          have l2 := X2.lt
          have l3 := U2.lt
          clear hgo k0 k1 k2 k3 r0 r1 r2 r3 r4 r5 r6 r7 r8 r9 b2 B0 X0 U0 C
          have k0 := S2.cell 0
          have k1 := S2.cell 1
          have k2 := S2.cell 2
          have k3 := S2.cell 3
          have f0 := S2.free 0
          have f1 := S2.free 1
          have f2 := S2.free 2
          have f3 := S2.free 3
          have x0 := X2.cell 0
          have x1 := X2.cell 1
          have x2 := X2.cell 2
          have x3 := X2.cell 3
          have x4 := X2.cell 4
          have x5 := X2.cell 5
          have x6 := X2.cell 6
          have u0 := U2.cell 0
          have u1 := U2.cell 1
          have u2 := U2.cell 2
          have HW2 := Lib.hid S2
          clear S2 X2 U2 HW HB
          go_wp2
          go_roundw
          case rel => exact ⟨k + 1, ⟨true, ss, sl, td⟩, by omega, by go_num, Lib.hid ((HW2.out.four (.bool true) (.int .i64 ss) (.int .i64 sl) (.int .i64 td)).alloc _), (four_set HB2.out hg (.bool true) (.int .i64 ss) (.int .i64 sl) (.int .i64 td)).alloc (four_set HB2.out hg (.bool true) (.int .i64 ss) (.int .i64 sl) (.int .i64 td)).size _⟩
          case measure => simp [intOf]; omega
      · have C := fun w => ct_lit _ _ _ true ws wl wt 3 hnx hkd w
        dsimp only [Cs.cells, Cx.cells, Cw.cells] at C
        have C := Lib.hid C
        have A1 := fun w => casks_any ⟨true, ws, wl, wt⟩ ⟨ws, wl, wt⟩ w
        rw [show Cs.asks ⟨true, ws, wl, wt⟩ ⟨ws, wl, wt⟩ = false from by simp [Cs.asks]] at A1
        dsimp only [Cs.cells, Cw.cells] at A1
        have A1 := Lib.hid A1
        obtain ⟨hw1, hw2⟩ := Cx.wanted_iff.1 hwn
        dsimp only at hw1 hw2
        have d1 : (xs != ws) = false := by simp [hw1]
        have d2 : (xl != wl) = false := by simp [hw2]
        have hmv : on = false ∨ ws ≠ ss ∨ wl ≠ sl := by
          cases on
          · exact .inl rfl
          · right
            by_cases c1 : ws = ss
            · right
              intro c2
              have : Cs.own ⟨true, ss, sl, st⟩ ⟨xs, xl, true, true, has, xt, syn⟩ = true := Cs.own_iff.2 ⟨rfl, hw1.trans c1, hw2.trans c2⟩
              rw [how] at this
              cases this
            · exact .inl c1
        clear hwn hw1 hw2
        clear hnx hkd how hle hst hnow
        have k0 := HW.out.cell 0
        have k1 := HW.out.cell 1
        have k2 := HW.out.cell 2
        have k3 := HW.out.cell 3
        go_wp2_with fail
        refine (C.out _).mono ?_
        rintro e w2 ⟨rfl, b2⟩
        have X0 := Whole.new wo 25 #[.int .i64 xs, .int .i64 xl, .bool true, .bool true, .bool has, .int .i64 xt, .bool syn]
        have U0 := Whole.new2 wo (.cells #[.int .i64 xs, .int .i64 xl, .bool true, .bool true, .bool has, .int .i64 xt, .bool syn] 25) 27 #[.int .i64 ws, .int .i64 wl, .int .i64 wt]
        have B0 := (HB.out.alloc hsz (.cells #[.int .i64 xs, .int .i64 xl, .bool true, .bool true, .bool has, .int .i64 xt, .bool syn] 25)).alloc (by simp; omega) (.cells #[.int .i64 ws, .int .i64 wl, .int .i64 wt] 27)
        have S2 := ((HW.out.alloc (.cells #[.int .i64 xs, .int .i64 xl, .bool true, .bool true, .bool has, .int .i64 xt, .bool syn] 25)).alloc (.cells #[.int .i64 ws, .int .i64 wl, .int .i64 wt] 27)).below b2 (by simp; omega)
        have X2 := (X0.alloc (.cells #[.int .i64 ws, .int .i64 wl, .int .i64 wt] 27)).below b2 (by simp; omega)
        have U2 := U0.below b2 (by simp)
        have HB2 := Lib.hid (B0.trans (b2.mono B0.size))
        have hs2 := HB2.out.size
        have l1 := S2.lt
        have l2 := X2.lt
        have l3 := U2.lt
        clear hgo k0 k1 k2 k3 r0 r1 r2 r3 r4 r5 r6 r7 r8 r9 b2 B0 X0 U0 C
        have k0 := S2.cell 0
        have k1 := S2.cell 1
        have k2 := S2.cell 2
        have k3 := S2.cell 3
        have f0 := S2.free 0
        have f1 := S2.free 1
        have f2 := S2.free 2
        have f3 := S2.free 3
        have x0 := X2.cell 0
        have x1 := X2.cell 1
        have x2 := X2.cell 2
        have x3 := X2.cell 3
        have x4 := X2.cell 4
        have x5 := X2.cell 5
        have x6 := X2.cell 6
        have u0 := U2.cell 0
        have u1 := U2.cell 1
        have u2 := U2.cell 2
        have HW2 := Lib.hid S2
        clear S2 X2 U2 HW HB
        go_upto_region 13 with fail
        obtain ⟨w3, hw3⟩ : ∃ w3, w3 = w2.alloc (.cells #[.bool true, .int .i64 ws, .int .i64 wl, .int .i64 wt] 23) := ⟨_, rfl⟩
        rw [← hw3]
        go_cut [10] (fun v wx => v = .bool true ∧ wx = w3)
        case first =>
          subst hw3
          cases on with
          | false =>
            clear hmv
            go_wp2_with fail
            go_meet
            exact ⟨rfl, rfl⟩
          | true =>
            by_cases c1 : ws = ss
            · have e1 : (ws != ss) = false := by simp [c1]
              have e2 : (wl != sl) = true := by rcases hmv with h | h | h; cases h; exact absurd c1 h; simpa using h
              clear c1 hmv
              go_wp2_with fail
              go_meet
              exact ⟨rfl, rfl⟩
            · have e1 : (ws != ss) = true := by simpa using c1
              clear c1 hmv
              go_wp2_with fail
              go_meet
              exact ⟨rfl, rfl⟩
        case rest =>
          obtain ⟨rfl, hw3b⟩ := hcut
          subst hw3b
          subst hw3
          clear hmv
          go_wp2_with fail
          refine (A1.out _).mono ?_
          rintro e w4 ⟨rfl, b4⟩
          have S4 := (HW2.out.alloc (.cells #[.bool true, .int .i64 ws, .int .i64 wl, .int .i64 wt] 23)).below b4 (by simp; omega)
          have T4 := (Whole.new w2 23 #[.bool true, .int .i64 ws, .int .i64 wl, .int .i64 wt]).below b4 (by simp)
          have B4 := HB2.out.alloc hs2 (.cells #[.bool true, .int .i64 ws, .int .i64 wl, .int .i64 wt] 23)
          have HB4 := Lib.hid (B4.trans (b4.mono B4.size))
          have hl4 := S4.lt
          have hl5 := T4.lt
          clear b4 B4 k0 k1 k2 k3 f0 f1 f2 f3 x0 x1 x2 x3 x4 x5 x6 u0 u1 u2
          have k0 := S4.cell 0
          have k1 := S4.cell 1
          have k2 := S4.cell 2
          have k3 := S4.cell 3
          have f0 := S4.free 0
          have f1 := S4.free 1
          have f2 := S4.free 2
          have f3 := S4.free 3
          have t0 := T4.cell 0
          have t1 := T4.cell 1
          have t2 := T4.cell 2
          have t3 := T4.cell 3
          have HW4 := Lib.hid S4
          clear S4 T4 A1
          go_wp2
          go_roundw
          case rel => exact ⟨k + 1, ⟨true, ws, wl, wt⟩, by omega, by go_num, Lib.hid (HW4.out.four (.bool true) (.int .i64 ws) (.int .i64 wl) (.int .i64 wt)), four_set HB4.out hg (.bool true) (.int .i64 ws) (.int .i64 wl) (.int .i64 wt)⟩
          case measure => simp [intOf]; omega
      · have C := fun w => ct_lit _ _ _ on ss sl st 0 hnx hkd w
        dsimp only [Cs.cells, Cx.cells, Cw.cells] at C
        have C := Lib.hid C
        have HE := fun w => neq_state w ⟨on, ss, sl, st⟩
        dsimp only [Cs.cells] at HE
        clear hnx hkd how hle hst hnow
        have k0 := HW.out.cell 0
        have k1 := HW.out.cell 1
        have k2 := HW.out.cell 2
        have k3 := HW.out.cell 3
        go_wp2_with fail
        refine (C.out _).mono ?_
        rintro e w2 ⟨rfl, b2⟩
        have X0 := Whole.new wo 25 #[.int .i64 xs, .int .i64 xl, .bool beg, .bool who, .bool has, .int .i64 xt, .bool syn]
        have U0 := Whole.new2 wo (.cells #[.int .i64 xs, .int .i64 xl, .bool beg, .bool who, .bool has, .int .i64 xt, .bool syn] 25) 27 #[.int .i64 ws, .int .i64 wl, .int .i64 wt]
        have B0 := (HB.out.alloc hsz (.cells #[.int .i64 xs, .int .i64 xl, .bool beg, .bool who, .bool has, .int .i64 xt, .bool syn] 25)).alloc (by simp; omega) (.cells #[.int .i64 ws, .int .i64 wl, .int .i64 wt] 27)
        have S2 := ((HW.out.alloc (.cells #[.int .i64 xs, .int .i64 xl, .bool beg, .bool who, .bool has, .int .i64 xt, .bool syn] 25)).alloc (.cells #[.int .i64 ws, .int .i64 wl, .int .i64 wt] 27)).below b2 (by simp; omega)
        have X2 := (X0.alloc (.cells #[.int .i64 ws, .int .i64 wl, .int .i64 wt] 27)).below b2 (by simp; omega)
        have U2 := U0.below b2 (by simp)
        have HB2 := Lib.hid (B0.trans (b2.mono B0.size))
        have hs2 := HB2.out.size
        have l1 := S2.lt
        have l2 := X2.lt
        have l3 := U2.lt
        clear hgo k0 k1 k2 k3 r0 r1 r2 r3 r4 r5 r6 r7 r8 r9 b2 B0 X0 U0 C
        have k0 := S2.cell 0
        have k1 := S2.cell 1
        have k2 := S2.cell 2
        have k3 := S2.cell 3
        have f0 := S2.free 0
        have f1 := S2.free 1
        have f2 := S2.free 2
        have f3 := S2.free 3
        have x0 := X2.cell 0
        have x1 := X2.cell 1
        have x2 := X2.cell 2
        have x3 := X2.cell 3
        have x4 := X2.cell 4
        have x5 := X2.cell 5
        have x6 := X2.cell 6
        have u0 := U2.cell 0
        have u1 := U2.cell 1
        have u2 := U2.cell 2
        have HW2 := Lib.hid S2
        clear S2 X2 U2 HW HB
        go_wp2
        go_roundw
        case rel => exact ⟨k + 1, ⟨on, ss, sl, st⟩, by omega, by go_num, Lib.hid ((HW2.out.four (.bool on) (.int .i64 ss) (.int .i64 sl) (.int .i64 st)).alloc _), (four_set HB2.out hg (.bool on) (.int .i64 ss) (.int .i64 sl) (.int .i64 st)).alloc (four_set HB2.out hg (.bool on) (.int .i64 ss) (.int .i64 sl) (.int .i64 st)).size _⟩
        case measure => simp [intOf]; omega
    · obtain rfl : k = n := by omega
      go_wp2
      go_ret
      exact ⟨rfl, HB.out⟩

set_option maxRecDepth 100000 in
theorem lifted (os : Os) (started : os.Started) (H : Type) (enc : TypeId × Value → H) :
    ReturnsInHanded {} Try.checked os 4 .any (Rows.chooseSwitchesSpec.pre6 enc Try.prog Try.f4 Rows.chooseSwitchesRow.domain false) (Rows.chooseSwitchesSpec.post enc Try.prog Try.f4 false true false false) := by
  refine returnsInHanded_of_change (C := Try.checked) own started (by kernel_rfl) Try.func4
    (ChangeSpec.witness6 (enc := enc) (C := Try.checked) false ⟨#[], #[.slice none 0 0], []⟩ 8 (by kernel_rfl) (by kernel_rfl) (by kernel_rfl) (by kernel_rfl)) ?_
  intro W base args ds gs before hval0 hW _ _
  have hval : ∀ (j : Nat) t v, Try.f4.params[j]? = some t → args[j]? = some v → Value.okWide Try.prog W .any base t v := hval0
  have hW' := hW
  obtain ⟨p, q, hA0, hV, _, _, _⟩ := hW
  have hA : DataW.TrodAll enc Try.prog W 0 (fun _ => true) true Try.f4.params.toList args.toList ds p := hA0
  rw [Try.params4] at hA hval
  obtain ⟨v0, vs0, d0, ds0, p0, q0, hargs, rfl, _, h0, r0⟩ := trodAll_cons hA
  obtain ⟨rfl, rfl, _⟩ := trodAll_nil r0
  obtain rfl : args = #[v0] := by cases args; simp_all
  obtain ⟨rfl, _⟩ := trodVars_none hV
  refine law_post (s := Rows.chooseSwitchesSpec) rfl rfl (by rw [Try.params4]; intro t ht; simp at ht; rcases ht with rfl <;> exact ⟨by kernel_rfl, of_decide_eq_true (by kernel_rfl)⟩) rfl hW' ?_
  obtain ⟨A0, c0, l0, rfl, hl0, hr0⟩ := open_steps (hval 0 42 v0 rfl rfl) h0
  exact walk W A0 c0 l0 hl0 hr0

theorem over : Rows.chooseSwitchesRow.holds Try.pinned (OpenSpec.ofChange Rows.chooseSwitchesSpec) :=
  OpenClaim.holds_of_wide 4 Try.f4 rfl rfl rfl rfl rfl rfl rfl ⟨rfl, rfl, rfl, rfl, rfl⟩ rfl rfl rfl rfl rfl (by kernel_rfl) Try.func4 (by kernel_rfl)
    (of_decide_eq_true (by kernel_rfl)) (by unfold Func.isWrapper; first | (rw [if_pos (by decide +kernel)]; kernel_rfl) | (rw [if_neg (by decide +kernel)]; exact ⟨rfl, rfl⟩))
    (fun os started H enc _ => lifted os started H enc)

/-- The statement. -/
theorem chooseSwitches_holds : Rows.ChooseSwitchesSaid := over

end Go.Proofs.Ytoajbaimjkhegaa.HSwitches
