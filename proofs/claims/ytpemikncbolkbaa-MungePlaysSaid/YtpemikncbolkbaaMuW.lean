/-
  Contract of the document's answers of layer 13: Send.
-/
import Derived.Test.YtpemikncbolkbaaMuT
import Derived.RegionTactic
namespace Go.Proofs.Ytpemikncbolkbaa
open Go.RowKit
set_option linter.unusedSimpArgs false

theorem bdrewM {w w' : World} {B : Nat} (h : Below B w w') (m : Nat) : Below B w (w'.drewN m) := ⟨h.os, h.tape, h.output, h.size, h.block⟩
theorem mfrom_any (a b : Int) (ha : 0 ≤ a ∧ a < 4294967296) (hb : 0 ≤ b ∧ b < 4294967296) (w : World) : Calls Try.prog 28 #[.int .i64 a, .int .i64 b, .int .i64 4294967296] w fun e w' => e = .returned (.int .i64 (far32 a b)) ∧ Below w.heap.size w w' := by
  refine (refFrom_any a b 4294967296 2147483648 (by decide) (by decide) (by decide) ha hb w).mono ?_
  rintro e w' ⟨rfl, rfl⟩
  rw [refD_32 _ _ ha hb]
  exact ⟨rfl, Below.refl _ _⟩
set_option maxRecDepth 100000 in
set_option maxHeartbeats 3200000 in
theorem refSend_any (s : Mst) (x : Mn) (hs : s.Fit 1000000000000000) (hx : x.Fit) (w : World) : Calls Try.prog 16 #[.agg s.plain, .agg x.plain] w fun e w' => e = .returned (.tuple #[.agg (s.sendS x).plain, .agg (s.told x).plain, .bool (s.tells x)]) ∧ Below w.heap.size w w' := by
  have h1 := hs.high
  have hb := nearM_bd s.high x.seq
  have CN := fun w => mnear_any s.high x.seq (by omega) (by omega) hx.seq w
  have CL := fun w => less_any x s.off hx hs.off w
  have CF := fun w => mfrom_any (x.less s.off).time s.out.time (Mn.less_fit _ _).time hs.out.time w
  obtain ⟨nn, hn⟩ : ∃ nn, nearM s.high x.seq = nn := ⟨_, rfl⟩
  rw [hn] at CN hb
  obtain ⟨l, hl⟩ : ∃ l, x.less s.off = l := ⟨_, rfl⟩
  rw [hl] at CL CF
  obtain ⟨fr, hfr⟩ : ∃ f, far32 l.time s.out.time = f := ⟨_, rfl⟩
  rw [hfr] at CF
  obtain ⟨tl, htl⟩ : ∃ b, s.tells x = b := ⟨_, rfl⟩
  obtain ⟨sd, hsd⟩ : ∃ b, s.sendS x = b := ⟨_, rfl⟩
  obtain ⟨td, hto⟩ : ∃ b, s.told x = b := ⟨_, rfl⟩
  have PT : Hid ((s.on && !(decide (nn ≤ s.high) && decide (nn ≤ s.since))) = tl) := Lib.hid (by rw [← htl]; unfold Mst.tells Mst.num; rw [hn])
  have P0 : Hid (tl = false → sd = s ∧ td = Mn.zero) := Lib.hid (fun h => by rw [← hsd, ← hto]; unfold Mst.sendS Mst.told; rw [htl, h]; exact ⟨rfl, rfl⟩)
  have P1 : Hid (tl = true → nn ≤ s.high → sd = s ∧ td = l) := Lib.hid (fun h h' => by rw [← hsd, ← hto]; unfold Mst.sendS Mst.told Mst.num; rw [htl, h, hn, if_pos rfl, if_pos h', if_pos rfl, if_pos h', hl]; exact ⟨rfl, rfl⟩)
  have P2 : Hid (tl = true → ¬ nn ≤ s.high → td = (if 0 < fr then ⟨l.seq, s.out.time, l.pic, l.tl0⟩ else l) ∧ sd = ⟨s.on, nn, s.since, s.off, td⟩) := Lib.hid (fun h h' => by
    have e : s.ahead x = (if 0 < fr then ⟨l.seq, s.out.time, l.pic, l.tl0⟩ else l) := by unfold Mst.ahead; rw [hl, hfr]
    have e2 : td = s.ahead x := by rw [← hto]; unfold Mst.told Mst.num; rw [htl, h, hn, if_pos rfl, if_neg h']
    refine ⟨e2.trans e, ?_⟩
    rw [e2, ← hsd]
    unfold Mst.sendS Mst.num
    rw [htl, h, hn, if_pos rfl, if_neg h'])
  rw [hsd, hto, htl]
  clear hs hx hn hl hfr htl hsd hto
  obtain ⟨on, hi, sc, ⟨oq, ot, op, ol⟩, ⟨uq, ut, up, ul⟩⟩ := s
  obtain ⟨xq, xt, xp, xl⟩ := x
  obtain ⟨lq, lt, lp, ll⟩ := l
  dsimp only [Mst.plain, Mn.plain] at *
  have CN := Lib.hid CN
  have CL := Lib.hid CL
  have CF := Lib.hid CF
  have HS := Lib.hid ((((Whole.new w 36 #[.bool on, .int .i64 hi, .int .i64 sc, .int .i64 oq, .int .i64 ot, .int .i64 op, .int .i64 ol, .int .i64 uq, .int .i64 ut, .int .i64 up, .int .i64 ul]).alloc (.cells #[.int .i64 xq, .int .i64 xt, .int .i64 xp, .int .i64 xl] 34)).alloc (.cells #[.bool false, .int .i64 0, .int .i64 0, .int .i64 0, .int .i64 0, .int .i64 0, .int .i64 0, .int .i64 0, .int .i64 0, .int .i64 0, .int .i64 0] 36)).alloc (.cells #[.int .i64 0, .int .i64 0, .int .i64 0, .int .i64 0] 34))
  have HX := Lib.hid (((Whole.new2 w (.cells #[.bool on, .int .i64 hi, .int .i64 sc, .int .i64 oq, .int .i64 ot, .int .i64 op, .int .i64 ol, .int .i64 uq, .int .i64 ut, .int .i64 up, .int .i64 ul] 36) 34 #[.int .i64 xq, .int .i64 xt, .int .i64 xp, .int .i64 xl]).alloc (.cells #[.bool false, .int .i64 0, .int .i64 0, .int .i64 0, .int .i64 0, .int .i64 0, .int .i64 0, .int .i64 0, .int .i64 0, .int .i64 0, .int .i64 0] 36)).alloc (.cells #[.int .i64 0, .int .i64 0, .int .i64 0, .int .i64 0] 34))
  have HR : Hid (Whole ((((w.alloc (.cells #[.bool on, .int .i64 hi, .int .i64 sc, .int .i64 oq, .int .i64 ot, .int .i64 op, .int .i64 ol, .int .i64 uq, .int .i64 ut, .int .i64 up, .int .i64 ul] 36)).alloc (.cells #[.int .i64 xq, .int .i64 xt, .int .i64 xp, .int .i64 xl] 34)).alloc (.cells #[.bool false, .int .i64 0, .int .i64 0, .int .i64 0, .int .i64 0, .int .i64 0, .int .i64 0, .int .i64 0, .int .i64 0, .int .i64 0, .int .i64 0] 36)).alloc (.cells #[.int .i64 0, .int .i64 0, .int .i64 0, .int .i64 0] 34)) (w.heap.size + 1 + 1) 36 #[.bool false, .int .i64 0, .int .i64 0, .int .i64 0, .int .i64 0, .int .i64 0, .int .i64 0, .int .i64 0, .int .i64 0, .int .i64 0, .int .i64 0]) := Lib.hid (by have := (Whole.new2 (w.alloc (.cells #[.bool on, .int .i64 hi, .int .i64 sc, .int .i64 oq, .int .i64 ot, .int .i64 op, .int .i64 ol, .int .i64 uq, .int .i64 ut, .int .i64 up, .int .i64 ul] 36)) (.cells #[.int .i64 xq, .int .i64 xt, .int .i64 xp, .int .i64 xl] 34) 36 #[.bool false, .int .i64 0, .int .i64 0, .int .i64 0, .int .i64 0, .int .i64 0, .int .i64 0, .int .i64 0, .int .i64 0, .int .i64 0, .int .i64 0]).alloc (.cells #[.int .i64 0, .int .i64 0, .int .i64 0, .int .i64 0] 34); simpa using this)
  have HN : Hid (Whole ((((w.alloc (.cells #[.bool on, .int .i64 hi, .int .i64 sc, .int .i64 oq, .int .i64 ot, .int .i64 op, .int .i64 ol, .int .i64 uq, .int .i64 ut, .int .i64 up, .int .i64 ul] 36)).alloc (.cells #[.int .i64 xq, .int .i64 xt, .int .i64 xp, .int .i64 xl] 34)).alloc (.cells #[.bool false, .int .i64 0, .int .i64 0, .int .i64 0, .int .i64 0, .int .i64 0, .int .i64 0, .int .i64 0, .int .i64 0, .int .i64 0, .int .i64 0] 36)).alloc (.cells #[.int .i64 0, .int .i64 0, .int .i64 0, .int .i64 0] 34)) (w.heap.size + 1 + 1 + 1) 34 #[.int .i64 0, .int .i64 0, .int .i64 0, .int .i64 0]) := Lib.hid (by have := Whole.new2 ((w.alloc (.cells #[.bool on, .int .i64 hi, .int .i64 sc, .int .i64 oq, .int .i64 ot, .int .i64 op, .int .i64 ol, .int .i64 uq, .int .i64 ut, .int .i64 up, .int .i64 ul] 36)).alloc (.cells #[.int .i64 xq, .int .i64 xt, .int .i64 xp, .int .i64 xl] 34)) (.cells #[.bool false, .int .i64 0, .int .i64 0, .int .i64 0, .int .i64 0, .int .i64 0, .int .i64 0, .int .i64 0, .int .i64 0, .int .i64 0, .int .i64 0] 36) 34 #[.int .i64 0, .int .i64 0, .int .i64 0, .int .i64 0]; simpa using this)
  have HB := Lib.hid (((((Below.refl w.heap.size w).alloc (Nat.le_refl _) (.cells #[.bool on, .int .i64 hi, .int .i64 sc, .int .i64 oq, .int .i64 ot, .int .i64 op, .int .i64 ol, .int .i64 uq, .int .i64 ut, .int .i64 up, .int .i64 ul] 36)).alloc (by simp) (.cells #[.int .i64 xq, .int .i64 xt, .int .i64 xp, .int .i64 xl] 34)).alloc (by simp; omega) (.cells #[.bool false, .int .i64 0, .int .i64 0, .int .i64 0, .int .i64 0, .int .i64 0, .int .i64 0, .int .i64 0, .int .i64 0, .int .i64 0, .int .i64 0] 36)).alloc (by simp; omega) (.cells #[.int .i64 0, .int .i64 0, .int .i64 0, .int .i64 0] 34))
  go_enter Try.func16, Try.ntmps16
  go_wp2_with fail
  refine (CN.out _).mono ?_
  rintro e w1 ⟨rfl, b1⟩
  have S1 := HS.out.below b1 HS.out.lt
  have X1 := HX.out.below b1 HX.out.lt
  have R1 := HR.out.below b1 HR.out.lt
  have N1 := HN.out.below b1 HN.out.lt
  have HB1 := Lib.hid (HB.out.trans (b1.mono HB.out.size))
  have k0 := S1.cell 0
  have k1 := S1.cell 1
  have k2 := S1.cell 2
  have k3 := S1.cell 3
  have k4 := S1.cell 4
  have k5 := S1.cell 5
  have k6 := S1.cell 6
  have k7 := S1.cell 7
  have k8 := S1.cell 8
  have k9 := S1.cell 9
  have k10 := S1.cell 10
  have f0 := S1.free 0
  have f1 := S1.free 1
  have f2 := S1.free 2
  have f3 := S1.free 3
  have f4 := S1.free 4
  have f5 := S1.free 5
  have f6 := S1.free 6
  have f7 := S1.free 7
  have f8 := S1.free 8
  have f9 := S1.free 9
  have f10 := S1.free 10
  have x0 := X1.cell 0
  have x1 := X1.cell 1
  have x2 := X1.cell 2
  have x3 := X1.cell 3
  have r_0 := R1.cell 0
  have r_1 := R1.cell 1
  have r_2 := R1.cell 2
  have r_3 := R1.cell 3
  have r_4 := R1.cell 4
  have r_5 := R1.cell 5
  have r_6 := R1.cell 6
  have r_7 := R1.cell 7
  have r_8 := R1.cell 8
  have r_9 := R1.cell 9
  have r_10 := R1.cell 10
  have y0 := R1.free 0
  have y1 := R1.free 1
  have y2 := R1.free 2
  have y3 := R1.free 3
  have y4 := R1.free 4
  have y5 := R1.free 5
  have y6 := R1.free 6
  have y7 := R1.free 7
  have y8 := R1.free 8
  have y9 := R1.free 9
  have y10 := R1.free 10
  have n_0 := N1.cell 0
  have n_1 := N1.cell 1
  have n_2 := N1.cell 2
  have n_3 := N1.cell 3
  have z0 := N1.free 0
  have z1 := N1.free 1
  have z2 := N1.free 2
  have z3 := N1.free 3
  have HS1 := Lib.hid S1
  have HR1 := Lib.hid R1
  have HN1 := Lib.hid N1
  have hg := N1.lt
  clear b1 S1 X1 R1 N1 HS HX HR HN HB CN
  cases on with
  | false =>
    obtain rfl : false = tl := PT.out
    obtain ⟨rfl, rfl⟩ := P0.out rfl
    clear P0 P1 P2 PT
    go_wp2
    exact bodyPost_ret (v := .tuple #[.agg #[.bool false, .int .i64 hi, .int .i64 sc, .int .i64 oq, .int .i64 ot, .int .i64 op, .int .i64 ol, .int .i64 uq, .int .i64 ut, .int .i64 up, .int .i64 ul], .agg #[.int .i64 0, .int .i64 0, .int .i64 0, .int .i64 0], .bool false]) (by simp [results, Try.results16, go_sem, r_0, r_1, r_2, r_3, r_4, r_5, r_6, r_7, r_8, r_9, r_10, n_0, n_1, n_2, n_3]) rfl ⟨rfl, four_set (eleven_set (HB1.out) (by omega) _ _ _ _ _ _ _ _ _ _ _) (by omega) _ _ _ _⟩
  | true =>
    by_cases c1 : nn ≤ hi
    · by_cases c2 : nn ≤ sc
      · obtain rfl : false = tl := by rw [← PT.out]; simp [c1, c2]
        obtain ⟨rfl, rfl⟩ := P0.out rfl
        clear P0 P1 P2 PT
        go_wp2
        exact bodyPost_ret (v := .tuple #[.agg #[.bool true, .int .i64 hi, .int .i64 sc, .int .i64 oq, .int .i64 ot, .int .i64 op, .int .i64 ol, .int .i64 uq, .int .i64 ut, .int .i64 up, .int .i64 ul], .agg #[.int .i64 0, .int .i64 0, .int .i64 0, .int .i64 0], .bool false]) (by simp [results, Try.results16, go_sem, r_0, r_1, r_2, r_3, r_4, r_5, r_6, r_7, r_8, r_9, r_10, n_0, n_1, n_2, n_3]) rfl ⟨rfl, four_set (eleven_set (HB1.out) (by omega) _ _ _ _ _ _ _ _ _ _ _) (by omega) _ _ _ _⟩
      · obtain rfl : true = tl := by rw [← PT.out]; simp [c1, c2]
        obtain ⟨rfl, rfl⟩ := P1.out rfl (by omega)
        clear P0 P1 P2 PT CF
        go_wp2_with fail
        refine (CL.out _).mono ?_
        rintro e w2 ⟨rfl, b2⟩
        have S2 := HS1.out.below b2 HS1.out.lt
        have R2 := HR1.out.below b2 HR1.out.lt
        have N2 := HN1.out.below b2 HN1.out.lt
        have HB2 := Lib.hid (HB1.out.trans (b2.mono HB1.out.size))
        clear k0 k1 k2 k3 k4 k5 k6 k7 k8 k9 k10 f0 f1 f2 f3 f4 f5 f6 f7 f8 f9 f10 x0 x1 x2 x3 r_0 r_1 r_2 r_3 r_4 r_5 r_6 r_7 r_8 r_9 r_10 y0 y1 y2 y3 y4 y5 y6 y7 y8 y9 y10 n_0 n_1 n_2 n_3 z0 z1 z2 z3 b2 CL HS1 HR1 HN1 HB1 hg
        have k0 := S2.cell 0
        have k1 := S2.cell 1
        have k2 := S2.cell 2
        have k3 := S2.cell 3
        have k4 := S2.cell 4
        have k5 := S2.cell 5
        have k6 := S2.cell 6
        have k7 := S2.cell 7
        have k8 := S2.cell 8
        have k9 := S2.cell 9
        have k10 := S2.cell 10
        have f0 := S2.free 0
        have f1 := S2.free 1
        have f2 := S2.free 2
        have f3 := S2.free 3
        have f4 := S2.free 4
        have f5 := S2.free 5
        have f6 := S2.free 6
        have f7 := S2.free 7
        have f8 := S2.free 8
        have f9 := S2.free 9
        have f10 := S2.free 10
        have r_0 := R2.cell 0
        have r_1 := R2.cell 1
        have r_2 := R2.cell 2
        have r_3 := R2.cell 3
        have r_4 := R2.cell 4
        have r_5 := R2.cell 5
        have r_6 := R2.cell 6
        have r_7 := R2.cell 7
        have r_8 := R2.cell 8
        have r_9 := R2.cell 9
        have r_10 := R2.cell 10
        have y0 := R2.free 0
        have y1 := R2.free 1
        have y2 := R2.free 2
        have y3 := R2.free 3
        have y4 := R2.free 4
        have y5 := R2.free 5
        have y6 := R2.free 6
        have y7 := R2.free 7
        have y8 := R2.free 8
        have y9 := R2.free 9
        have y10 := R2.free 10
        have n_0 := N2.cell 0
        have n_1 := N2.cell 1
        have n_2 := N2.cell 2
        have n_3 := N2.cell 3
        have z0 := N2.free 0
        have z1 := N2.free 1
        have z2 := N2.free 2
        have z3 := N2.free 3
        have hg := N2.lt
        have hs2 := S2.lt
        have hr2 := R2.lt
        clear S2 R2 N2
        go_wp2_with fail
        go_region
        go_wp2_with fail
        have HBB := Lib.hid (HB2.out)
        have F := Lib.hid (four_set (r := (w.heap.size + 1 + 1 + 1)) (eleven_set (r := (w.heap.size + 1 + 1)) HBB.out (by omega) (.bool true) (.int .i64 hi) (.int .i64 sc) (.int .i64 oq) (.int .i64 ot) (.int .i64 op) (.int .i64 ol) (.int .i64 uq) (.int .i64 ut) (.int .i64 up) (.int .i64 ul)) (by omega) (.int .i64 lq) (.int .i64 lt) (.int .i64 lp) (.int .i64 ll))
        exact bodyPost_ret (v := .tuple #[.agg #[.bool true, .int .i64 hi, .int .i64 sc, .int .i64 oq, .int .i64 ot, .int .i64 op, .int .i64 ol, .int .i64 uq, .int .i64 ut, .int .i64 up, .int .i64 ul], .agg #[.int .i64 lq, .int .i64 lt, .int .i64 lp, .int .i64 ll], .bool true]) (by simp [results, Try.results16, go_sem, r_0, r_1, r_2, r_3, r_4, r_5, r_6, r_7, r_8, r_9, r_10, n_0, n_1, n_2, n_3, hg, hr2]) rfl ⟨rfl, (F.out.alloc F.out.size _).drew⟩
    · obtain rfl : true = tl := by rw [← PT.out]; simp [c1]
      have P := P2.out rfl (by omega)
      clear P0 P1 P2 PT
      go_wp2_with fail
      refine (CL.out _).mono ?_
      rintro e w2 ⟨rfl, b2⟩
      have S2 := HS1.out.below b2 HS1.out.lt
      have R2 := HR1.out.below b2 HR1.out.lt
      have N2 := HN1.out.below b2 HN1.out.lt
      have HB2 := Lib.hid (HB1.out.trans (b2.mono HB1.out.size))
      clear k0 k1 k2 k3 k4 k5 k6 k7 k8 k9 k10 f0 f1 f2 f3 f4 f5 f6 f7 f8 f9 f10 x0 x1 x2 x3 r_0 r_1 r_2 r_3 r_4 r_5 r_6 r_7 r_8 r_9 r_10 y0 y1 y2 y3 y4 y5 y6 y7 y8 y9 y10 n_0 n_1 n_2 n_3 z0 z1 z2 z3 b2 CL HS1 HR1 HN1 HB1 hg
      have k0 := S2.cell 0
      have k1 := S2.cell 1
      have k2 := S2.cell 2
      have k3 := S2.cell 3
      have k4 := S2.cell 4
      have k5 := S2.cell 5
      have k6 := S2.cell 6
      have k7 := S2.cell 7
      have k8 := S2.cell 8
      have k9 := S2.cell 9
      have k10 := S2.cell 10
      have f0 := S2.free 0
      have f1 := S2.free 1
      have f2 := S2.free 2
      have f3 := S2.free 3
      have f4 := S2.free 4
      have f5 := S2.free 5
      have f6 := S2.free 6
      have f7 := S2.free 7
      have f8 := S2.free 8
      have f9 := S2.free 9
      have f10 := S2.free 10
      have r_0 := R2.cell 0
      have r_1 := R2.cell 1
      have r_2 := R2.cell 2
      have r_3 := R2.cell 3
      have r_4 := R2.cell 4
      have r_5 := R2.cell 5
      have r_6 := R2.cell 6
      have r_7 := R2.cell 7
      have r_8 := R2.cell 8
      have r_9 := R2.cell 9
      have r_10 := R2.cell 10
      have y0 := R2.free 0
      have y1 := R2.free 1
      have y2 := R2.free 2
      have y3 := R2.free 3
      have y4 := R2.free 4
      have y5 := R2.free 5
      have y6 := R2.free 6
      have y7 := R2.free 7
      have y8 := R2.free 8
      have y9 := R2.free 9
      have y10 := R2.free 10
      have n_0 := N2.cell 0
      have n_1 := N2.cell 1
      have n_2 := N2.cell 2
      have n_3 := N2.cell 3
      have z0 := N2.free 0
      have z1 := N2.free 1
      have z2 := N2.free 2
      have z3 := N2.free 3
      have hg := N2.lt
      have hs2 := S2.lt
      have hr2 := R2.lt
      have HS2 := Lib.hid S2
      have HR2 := Lib.hid R2
      have HN2 := Lib.hid N2
      clear S2 R2 N2
      go_wp2_with fail
      refine (CF.out _).mono ?_
      rintro e w3 ⟨rfl, b3⟩
      have S3 := (HS2.out.alloc (.cells #[.int .i64 lq, .int .i64 lt, .int .i64 lp, .int .i64 ll] 34)).below b3 (by simp; omega)
      have R3 := (HR2.out.alloc (.cells #[.int .i64 lq, .int .i64 lt, .int .i64 lp, .int .i64 ll] 34)).below b3 (by simp; omega)
      have N3 := (HN2.out.alloc (.cells #[.int .i64 lq, .int .i64 lt, .int .i64 lp, .int .i64 ll] 34)).below b3 (by simp; omega)
      have T3 := (Whole.new w2 34 #[.int .i64 lq, .int .i64 lt, .int .i64 lp, .int .i64 ll]).below b3 (by simp)
      have B3 := HB2.out.alloc HB2.out.size (.cells #[.int .i64 lq, .int .i64 lt, .int .i64 lp, .int .i64 ll] 34)
      have HB3 := Lib.hid (B3.trans (b3.mono B3.size))
      obtain ⟨gt, hgt⟩ : ∃ g, g = w2.heap.size := ⟨_, rfl⟩
      rw [← hgt] at T3 ⊢
      have hge : w.heap.size + 1 + 1 + 1 < gt := by omega
      clear hgt k0 k1 k2 k3 k4 k5 k6 k7 k8 k9 k10 f0 f1 f2 f3 f4 f5 f6 f7 f8 f9 f10 r_0 r_1 r_2 r_3 r_4 r_5 r_6 r_7 r_8 r_9 r_10 y0 y1 y2 y3 y4 y5 y6 y7 y8 y9 y10 n_0 n_1 n_2 n_3 z0 z1 z2 z3 b3 B3 CF HS2 HR2 HN2 HB2 hg hs2 hr2
      have k0 := S3.cell 0
      have k1 := S3.cell 1
      have k2 := S3.cell 2
      have k3 := S3.cell 3
      have k4 := S3.cell 4
      have k5 := S3.cell 5
      have k6 := S3.cell 6
      have k7 := S3.cell 7
      have k8 := S3.cell 8
      have k9 := S3.cell 9
      have k10 := S3.cell 10
      have f0 := S3.free 0
      have f1 := S3.free 1
      have f2 := S3.free 2
      have f3 := S3.free 3
      have f4 := S3.free 4
      have f5 := S3.free 5
      have f6 := S3.free 6
      have f7 := S3.free 7
      have f8 := S3.free 8
      have f9 := S3.free 9
      have f10 := S3.free 10
      have r_0 := R3.cell 0
      have r_1 := R3.cell 1
      have r_2 := R3.cell 2
      have r_3 := R3.cell 3
      have r_4 := R3.cell 4
      have r_5 := R3.cell 5
      have r_6 := R3.cell 6
      have r_7 := R3.cell 7
      have r_8 := R3.cell 8
      have r_9 := R3.cell 9
      have r_10 := R3.cell 10
      have y0 := R3.free 0
      have y1 := R3.free 1
      have y2 := R3.free 2
      have y3 := R3.free 3
      have y4 := R3.free 4
      have y5 := R3.free 5
      have y6 := R3.free 6
      have y7 := R3.free 7
      have y8 := R3.free 8
      have y9 := R3.free 9
      have y10 := R3.free 10
      have n_0 := N3.cell 0
      have n_1 := N3.cell 1
      have n_2 := N3.cell 2
      have n_3 := N3.cell 3
      have z0 := N3.free 0
      have z1 := N3.free 1
      have z2 := N3.free 2
      have z3 := N3.free 3
      have t0 := T3.cell 0
      have t1 := T3.cell 1
      have t2 := T3.cell 2
      have t3 := T3.cell 3
      have tf0 := T3.free 0
      have tf1 := T3.free 1
      have tf2 := T3.free 2
      have tf3 := T3.free 3
      have hl1 := S3.lt
      have hl2 := R3.lt
      have hl3 := N3.lt
      have hl4 := T3.lt
      clear S3 R3 N3 T3
      by_cases c3 : 0 < fr
      · rw [if_pos c3] at P
        obtain ⟨rfl, rfl⟩ := P
        go_wp2_with fail
        go_region
        go_wp2_with fail
        have HBB := Lib.hid (((((((HB3.out.setCell (p := ⟨gt, 1, none⟩) (show w.heap.size ≤ gt by omega) (.int .i64 ut)).setCell (p := ⟨w.heap.size, 1, none⟩) (Nat.le_refl _) (.int .i64 nn)).setCell (p := ⟨w.heap.size, 7, none⟩) (Nat.le_refl _) (.int .i64 lq)).setCell (p := ⟨w.heap.size, 8, none⟩) (Nat.le_refl _) (.int .i64 ut)).setCell (p := ⟨w.heap.size, 9, none⟩) (Nat.le_refl _) (.int .i64 lp)).setCell (p := ⟨w.heap.size, 10, none⟩) (Nat.le_refl _) (.int .i64 ll)))
        have F := Lib.hid (four_set (r := (w.heap.size + 1 + 1 + 1)) (eleven_set (r := (w.heap.size + 1 + 1)) HBB.out (by omega) (.bool true) (.int .i64 nn) (.int .i64 sc) (.int .i64 oq) (.int .i64 ot) (.int .i64 op) (.int .i64 ol) (.int .i64 lq) (.int .i64 ut) (.int .i64 lp) (.int .i64 ll)) (by omega) (.int .i64 lq) (.int .i64 ut) (.int .i64 lp) (.int .i64 ll))
        exact bodyPost_ret (v := .tuple #[.agg #[.bool true, .int .i64 nn, .int .i64 sc, .int .i64 oq, .int .i64 ot, .int .i64 op, .int .i64 ol, .int .i64 lq, .int .i64 ut, .int .i64 lp, .int .i64 ll], .agg #[.int .i64 lq, .int .i64 ut, .int .i64 lp, .int .i64 ll], .bool true]) (by simp [results, Try.results16, go_sem, r_0, r_1, r_2, r_3, r_4, r_5, r_6, r_7, r_8, r_9, r_10, n_0, n_1, n_2, n_3]) rfl ⟨rfl, F.out.drew⟩
      · rw [if_neg c3] at P
        obtain ⟨rfl, rfl⟩ := P
        go_wp2_with fail
        go_region
        go_wp2_with fail
        have HBB := Lib.hid ((((((HB3.out.setCell (p := ⟨w.heap.size, 1, none⟩) (Nat.le_refl _) (.int .i64 nn)).setCell (p := ⟨w.heap.size, 7, none⟩) (Nat.le_refl _) (.int .i64 lq)).setCell (p := ⟨w.heap.size, 8, none⟩) (Nat.le_refl _) (.int .i64 lt)).setCell (p := ⟨w.heap.size, 9, none⟩) (Nat.le_refl _) (.int .i64 lp)).setCell (p := ⟨w.heap.size, 10, none⟩) (Nat.le_refl _) (.int .i64 ll)))
        have F := Lib.hid (four_set (r := (w.heap.size + 1 + 1 + 1)) (eleven_set (r := (w.heap.size + 1 + 1)) HBB.out (by omega) (.bool true) (.int .i64 nn) (.int .i64 sc) (.int .i64 oq) (.int .i64 ot) (.int .i64 op) (.int .i64 ol) (.int .i64 lq) (.int .i64 lt) (.int .i64 lp) (.int .i64 ll)) (by omega) (.int .i64 lq) (.int .i64 lt) (.int .i64 lp) (.int .i64 ll))
        exact bodyPost_ret (v := .tuple #[.agg #[.bool true, .int .i64 nn, .int .i64 sc, .int .i64 oq, .int .i64 ot, .int .i64 op, .int .i64 ol, .int .i64 lq, .int .i64 lt, .int .i64 lp, .int .i64 ll], .agg #[.int .i64 lq, .int .i64 lt, .int .i64 lp, .int .i64 ll], .bool true]) (by simp [results, Try.results16, go_sem, r_0, r_1, r_2, r_3, r_4, r_5, r_6, r_7, r_8, r_9, r_10, n_0, n_1, n_2, n_3]) rfl ⟨rfl, F.out.drew⟩
end Go.Proofs.Ytpemikncbolkbaa
