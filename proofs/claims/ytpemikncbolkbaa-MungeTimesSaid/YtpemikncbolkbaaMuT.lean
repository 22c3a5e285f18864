/-
  Contracts of the document's answers of layer 13: Drop.
-/
import Derived.Test.YtpemikncbolkbaaMuS
namespace Go.Proofs.Ytpemikncbolkbaa
open Go.RowKit
set_option linter.unusedSimpArgs false

theorem mnear_any (h s : Int) (h1 : -4611686018427387904 ≤ h) (h2 : h ≤ 4611686018427387904) (hs : 0 ≤ s ∧ s < 65536) (w : World) : Calls Try.prog 27 #[.int .i64 h, .int .i64 s, .int .i64 65536] w fun e w' => e = .returned (.int .i64 (nearM h s)) ∧ Below w.heap.size w w' := by
  refine (refNear_any h s 65536 32768 (by decide) (by decide) (by decide) h1 h2 hs w).mono ?_
  rintro e w' ⟨rfl, rfl⟩
  rw [refNear_16 _ _ hs]
  exact ⟨rfl, Below.refl _ _⟩
theorem eleven_set {b : Nat} {w0 w : World} {r : Nat} (h : Below b w0 w) (hr : b ≤ r) (u0 u1 u2 u3 u4 u5 u6 u7 u8 u9 u10 : Value) : Below b w0 (((((((((((w.setCell ⟨r, 0, none⟩ u0).setCell ⟨r, 1, none⟩ u1).setCell ⟨r, 2, none⟩ u2).setCell ⟨r, 3, none⟩ u3).setCell ⟨r, 4, none⟩ u4).setCell ⟨r, 5, none⟩ u5).setCell ⟨r, 6, none⟩ u6).setCell ⟨r, 7, none⟩ u7).setCell ⟨r, 8, none⟩ u8).setCell ⟨r, 9, none⟩ u9).setCell ⟨r, 10, none⟩ u10) := by
  have h := h.setCell (p := ⟨r, 0, none⟩) hr u0
  have h := h.setCell (p := ⟨r, 1, none⟩) hr u1
  have h := h.setCell (p := ⟨r, 2, none⟩) hr u2
  have h := h.setCell (p := ⟨r, 3, none⟩) hr u3
  have h := h.setCell (p := ⟨r, 4, none⟩) hr u4
  have h := h.setCell (p := ⟨r, 5, none⟩) hr u5
  have h := h.setCell (p := ⟨r, 6, none⟩) hr u6
  have h := h.setCell (p := ⟨r, 7, none⟩) hr u7
  have h := h.setCell (p := ⟨r, 8, none⟩) hr u8
  have h := h.setCell (p := ⟨r, 9, none⟩) hr u9
  have h := h.setCell (p := ⟨r, 10, none⟩) hr u10
  exact h
theorem Whole.eleven {w : World} {g : Nat} {t : TypeId} {x0 x1 x2 x3 x4 x5 x6 x7 x8 x9 x10 : Value} (h : Whole w g t #[x0, x1, x2, x3, x4, x5, x6, x7, x8, x9, x10]) (u0 u1 u2 u3 u4 u5 u6 u7 u8 u9 u10 : Value) : Whole (((((((((((w.setCell ⟨g, 0, none⟩ u0).setCell ⟨g, 1, none⟩ u1).setCell ⟨g, 2, none⟩ u2).setCell ⟨g, 3, none⟩ u3).setCell ⟨g, 4, none⟩ u4).setCell ⟨g, 5, none⟩ u5).setCell ⟨g, 6, none⟩ u6).setCell ⟨g, 7, none⟩ u7).setCell ⟨g, 8, none⟩ u8).setCell ⟨g, 9, none⟩ u9).setCell ⟨g, 10, none⟩ u10) g t #[u0, u1, u2, u3, u4, u5, u6, u7, u8, u9, u10] := by
  have h : Whole _ g t #[u0, x1, x2, x3, x4, x5, x6, x7, x8, x9, x10] := h.set 0 u0
  have h : Whole _ g t #[u0, u1, x2, x3, x4, x5, x6, x7, x8, x9, x10] := h.set 1 u1
  have h : Whole _ g t #[u0, u1, u2, x3, x4, x5, x6, x7, x8, x9, x10] := h.set 2 u2
  have h : Whole _ g t #[u0, u1, u2, u3, x4, x5, x6, x7, x8, x9, x10] := h.set 3 u3
  have h : Whole _ g t #[u0, u1, u2, u3, u4, x5, x6, x7, x8, x9, x10] := h.set 4 u4
  have h : Whole _ g t #[u0, u1, u2, u3, u4, u5, x6, x7, x8, x9, x10] := h.set 5 u5
  have h : Whole _ g t #[u0, u1, u2, u3, u4, u5, u6, x7, x8, x9, x10] := h.set 6 u6
  have h : Whole _ g t #[u0, u1, u2, u3, u4, u5, u6, u7, x8, x9, x10] := h.set 7 u7
  have h : Whole _ g t #[u0, u1, u2, u3, u4, u5, u6, u7, u8, x9, x10] := h.set 8 u8
  have h : Whole _ g t #[u0, u1, u2, u3, u4, u5, u6, u7, u8, u9, x10] := h.set 9 u9
  have h : Whole _ g t #[u0, u1, u2, u3, u4, u5, u6, u7, u8, u9, u10] := h.set 10 u10
  exact h
theorem Whole.eleven_far {w : World} {g r : Nat} {t : TypeId} {cs : Array Value} (h : Whole w g t cs) (hg : g ≠ r) (u0 u1 u2 u3 u4 u5 u6 u7 u8 u9 u10 : Value) : Whole (((((((((((w.setCell ⟨r, 0, none⟩ u0).setCell ⟨r, 1, none⟩ u1).setCell ⟨r, 2, none⟩ u2).setCell ⟨r, 3, none⟩ u3).setCell ⟨r, 4, none⟩ u4).setCell ⟨r, 5, none⟩ u5).setCell ⟨r, 6, none⟩ u6).setCell ⟨r, 7, none⟩ u7).setCell ⟨r, 8, none⟩ u8).setCell ⟨r, 9, none⟩ u9).setCell ⟨r, 10, none⟩ u10) g t cs := by
  have h := h.far (p := ⟨r, 0, none⟩) hg u0
  have h := h.far (p := ⟨r, 1, none⟩) hg u1
  have h := h.far (p := ⟨r, 2, none⟩) hg u2
  have h := h.far (p := ⟨r, 3, none⟩) hg u3
  have h := h.far (p := ⟨r, 4, none⟩) hg u4
  have h := h.far (p := ⟨r, 5, none⟩) hg u5
  have h := h.far (p := ⟨r, 6, none⟩) hg u6
  have h := h.far (p := ⟨r, 7, none⟩) hg u7
  have h := h.far (p := ⟨r, 8, none⟩) hg u8
  have h := h.far (p := ⟨r, 9, none⟩) hg u9
  have h := h.far (p := ⟨r, 10, none⟩) hg u10
  exact h

set_option maxRecDepth 100000 in
set_option maxHeartbeats 3200000 in
theorem refDrop_any (s : Mst) (x : Mn) (b : Bool) (hs : s.Fit 1000000000000000) (hx : x.Fit) (w : World) : Calls Try.prog 18 #[.agg s.plain, .agg x.plain, .bool b] w fun e w' => e = .returned (.agg (s.dropS x b).plain) ∧ Below w.heap.size w w' := by
  have h1 := hs.high
  have q1 := hs.off.seq
  have q2 := hs.off.pic
  have hb := nearM_bd s.high x.seq
  have CN := fun w => mnear_any s.high x.seq (by omega) (by omega) hx.seq w
  obtain ⟨nn, hn⟩ : ∃ nn, nearM s.high x.seq = nn := ⟨_, rfl⟩
  rw [hn] at CN hb
  have P0 : Hid (s.on = false → s.dropS x b = s) := Lib.hid (fun h => by unfold Mst.dropS; rw [if_neg (by simp [h])])
  have P1 : Hid (s.on = true → nn ≤ s.high → s.dropS x b = s) := Lib.hid (fun h h' => by unfold Mst.dropS Mst.num; rw [if_pos h, hn, if_pos h'])
  have P2 : Hid (s.on = true → ¬ nn ≤ s.high → s.dropS x b = ⟨true, nn, nn, ⟨(s.off.seq + 1) % 65536, s.off.time, if b = true then (s.off.pic + 1) % 65536 else s.off.pic, s.off.tl0⟩, s.out⟩) := Lib.hid (fun h h' => by unfold Mst.dropS Mst.num; rw [if_pos h, hn, if_neg h'])
  have C1 := fun w => mrest_any (s.off.seq + 1) 65536 (by decide) (by decide) w
  have C2 := fun w => mrest_any (s.off.pic + 1) 65536 (by decide) (by decide) w
  obtain ⟨r1, e1⟩ : ∃ r, (s.off.seq + 1) % 65536 = r := ⟨_, rfl⟩
  obtain ⟨r2, e2⟩ : ∃ r, (s.off.pic + 1) % 65536 = r := ⟨_, rfl⟩
  rw [e1] at C1 P2
  rw [e2] at C2 P2
  obtain ⟨D, hD⟩ : ∃ d, s.dropS x b = d := ⟨_, rfl⟩
  rw [hD] at P0 P1 P2 ⊢
  clear hs hx hn e1 e2 hD
  obtain ⟨on, hi, sc, ⟨oq, ot, op, ol⟩, ⟨uq, ut, up, ul⟩⟩ := s
  obtain ⟨xq, xt, xp, xl⟩ := x
  dsimp only [Mst.plain, Mn.plain] at *
  have CN := Lib.hid CN
  have C1 := Lib.hid C1
  have C2 := Lib.hid C2
  have HS := Lib.hid (((Whole.new w 36 #[.bool on, .int .i64 hi, .int .i64 sc, .int .i64 oq, .int .i64 ot, .int .i64 op, .int .i64 ol, .int .i64 uq, .int .i64 ut, .int .i64 up, .int .i64 ul]).alloc (.cells #[.int .i64 xq, .int .i64 xt, .int .i64 xp, .int .i64 xl] 34)).alloc (.cells #[.bool false, .int .i64 0, .int .i64 0, .int .i64 0, .int .i64 0, .int .i64 0, .int .i64 0, .int .i64 0, .int .i64 0, .int .i64 0, .int .i64 0] 36))
  have HX := Lib.hid ((Whole.new2 w (.cells #[.bool on, .int .i64 hi, .int .i64 sc, .int .i64 oq, .int .i64 ot, .int .i64 op, .int .i64 ol, .int .i64 uq, .int .i64 ut, .int .i64 up, .int .i64 ul] 36) 34 #[.int .i64 xq, .int .i64 xt, .int .i64 xp, .int .i64 xl]).alloc (.cells #[.bool false, .int .i64 0, .int .i64 0, .int .i64 0, .int .i64 0, .int .i64 0, .int .i64 0, .int .i64 0, .int .i64 0, .int .i64 0, .int .i64 0] 36))
  have HR : Hid (Whole (((w.alloc (.cells #[.bool on, .int .i64 hi, .int .i64 sc, .int .i64 oq, .int .i64 ot, .int .i64 op, .int .i64 ol, .int .i64 uq, .int .i64 ut, .int .i64 up, .int .i64 ul] 36)).alloc (.cells #[.int .i64 xq, .int .i64 xt, .int .i64 xp, .int .i64 xl] 34)).alloc (.cells #[.bool false, .int .i64 0, .int .i64 0, .int .i64 0, .int .i64 0, .int .i64 0, .int .i64 0, .int .i64 0, .int .i64 0, .int .i64 0, .int .i64 0] 36)) (w.heap.size + 1 + 1) 36 #[.bool false, .int .i64 0, .int .i64 0, .int .i64 0, .int .i64 0, .int .i64 0, .int .i64 0, .int .i64 0, .int .i64 0, .int .i64 0, .int .i64 0]) := Lib.hid (by have := Whole.new2 (w.alloc (.cells #[.bool on, .int .i64 hi, .int .i64 sc, .int .i64 oq, .int .i64 ot, .int .i64 op, .int .i64 ol, .int .i64 uq, .int .i64 ut, .int .i64 up, .int .i64 ul] 36)) (.cells #[.int .i64 xq, .int .i64 xt, .int .i64 xp, .int .i64 xl] 34) 36 #[.bool false, .int .i64 0, .int .i64 0, .int .i64 0, .int .i64 0, .int .i64 0, .int .i64 0, .int .i64 0, .int .i64 0, .int .i64 0, .int .i64 0]; simpa using this)
  have HB := Lib.hid (((((Below.refl w.heap.size w).alloc (Nat.le_refl _) (.cells #[.bool on, .int .i64 hi, .int .i64 sc, .int .i64 oq, .int .i64 ot, .int .i64 op, .int .i64 ol, .int .i64 uq, .int .i64 ut, .int .i64 up, .int .i64 ul] 36)).alloc (by simp) (.cells #[.int .i64 xq, .int .i64 xt, .int .i64 xp, .int .i64 xl] 34))).alloc (by simp; omega) (.cells #[.bool false, .int .i64 0, .int .i64 0, .int .i64 0, .int .i64 0, .int .i64 0, .int .i64 0, .int .i64 0, .int .i64 0, .int .i64 0, .int .i64 0] 36))
  go_enter Try.func18, Try.ntmps18
  go_wp2_with fail
  refine (CN.out _).mono ?_
  rintro e w1 ⟨rfl, b1⟩
  have S1 := HS.out.below b1 HS.out.lt
  have R1 := HR.out.below b1 HR.out.lt
  have HB1 := Lib.hid (HB.out.trans (b1.mono HB.out.size))
  have k0 := S1.cell 0
  have k1 := S1.cell 1
  have k2 := S1.cell 2
  have k3 := S1.cell 3
  have k4 := S1.cell 4
  have k5 := S1.cell 5
  have k6 := S1.cell 6
  have k7 := S1.cell 7
  have k8 := S1.cell 8
  have k9 := S1.cell 9
  have k10 := S1.cell 10
  have f0 := S1.free 0
  have f1 := S1.free 1
  have f2 := S1.free 2
  have f3 := S1.free 3
  have f4 := S1.free 4
  have f5 := S1.free 5
  have f6 := S1.free 6
  have f7 := S1.free 7
  have f8 := S1.free 8
  have f9 := S1.free 9
  have f10 := S1.free 10
  have r_0 := R1.cell 0
  have r_1 := R1.cell 1
  have r_2 := R1.cell 2
  have r_3 := R1.cell 3
  have r_4 := R1.cell 4
  have r_5 := R1.cell 5
  have r_6 := R1.cell 6
  have r_7 := R1.cell 7
  have r_8 := R1.cell 8
  have r_9 := R1.cell 9
  have r_10 := R1.cell 10
  have y0 := R1.free 0
  have y1 := R1.free 1
  have y2 := R1.free 2
  have y3 := R1.free 3
  have y4 := R1.free 4
  have y5 := R1.free 5
  have y6 := R1.free 6
  have y7 := R1.free 7
  have y8 := R1.free 8
  have y9 := R1.free 9
  have y10 := R1.free 10
  have HS1 := Lib.hid S1
  have HR1 := Lib.hid R1
  have hl := R1.lt
  clear b1 S1 R1 HS HX HR HB CN
  cases on with
  | false =>
    obtain rfl := P0.out rfl
    clear P0 P1 P2
    go_wp2
    exact bodyPost_ret (v := .agg #[.bool false, .int .i64 hi, .int .i64 sc, .int .i64 oq, .int .i64 ot, .int .i64 op, .int .i64 ol, .int .i64 uq, .int .i64 ut, .int .i64 up, .int .i64 ul]) (by simp [results, Try.results18, go_sem, r_0, r_1, r_2, r_3, r_4, r_5, r_6, r_7, r_8, r_9, r_10]) rfl ⟨rfl, eleven_set HB1.out (by omega) _ _ _ _ _ _ _ _ _ _ _⟩
  | true =>
    by_cases c1 : nn ≤ hi
    · obtain rfl := P1.out rfl (by omega)
      clear P0 P1 P2
      go_wp2
      exact bodyPost_ret (v := .agg #[.bool true, .int .i64 hi, .int .i64 sc, .int .i64 oq, .int .i64 ot, .int .i64 op, .int .i64 ol, .int .i64 uq, .int .i64 ut, .int .i64 up, .int .i64 ul]) (by simp [results, Try.results18, go_sem, r_0, r_1, r_2, r_3, r_4, r_5, r_6, r_7, r_8, r_9, r_10]) rfl ⟨rfl, eleven_set HB1.out (by omega) _ _ _ _ _ _ _ _ _ _ _⟩
    obtain rfl := P2.out rfl (by omega)
    clear P0 P1 P2
    go_wp2_with fail
    refine (C1.out _).mono ?_
    rintro e w2 ⟨rfl, b2⟩
    have S2 := ((HS1.out.set 1 (.int .i64 nn)).set 2 (.int .i64 nn)).below b2 (by simp; omega)
    have R2 := ((HR1.out.far (p := ⟨w.heap.size, 1, none⟩) (show w.heap.size + 1 + 1 ≠ w.heap.size by omega) (.int .i64 nn)).far (p := ⟨w.heap.size, 2, none⟩) (show w.heap.size + 1 + 1 ≠ w.heap.size by omega) (.int .i64 nn)).below b2 (by simp; omega)
    have B1 := (HB1.out.setCell (p := ⟨w.heap.size, 1, none⟩) (Nat.le_refl _) (.int .i64 nn)).setCell (p := ⟨w.heap.size, 2, none⟩) (Nat.le_refl _) (.int .i64 nn)
    have HB2 := Lib.hid (B1.trans (b2.mono B1.size))
    clear k0 k1 k2 k3 k4 k5 k6 k7 k8 k9 k10 f0 f1 f2 f3 f4 f5 f6 f7 f8 f9 f10 r_0 r_1 r_2 r_3 r_4 r_5 r_6 r_7 r_8 r_9 r_10 y0 y1 y2 y3 y4 y5 y6 y7 y8 y9 y10 b2 B1 C1 hl HS1 HR1 HB1
    have k0 := S2.cell 0
    have k1 := S2.cell 1
    have k2 := S2.cell 2
    have k3 := S2.cell 3
    have k4 := S2.cell 4
    have k5 := S2.cell 5
    have k6 := S2.cell 6
    have k7 := S2.cell 7
    have k8 := S2.cell 8
    have k9 := S2.cell 9
    have k10 := S2.cell 10
    have f0 := S2.free 0
    have f1 := S2.free 1
    have f2 := S2.free 2
    have f3 := S2.free 3
    have f4 := S2.free 4
    have f5 := S2.free 5
    have f6 := S2.free 6
    have f7 := S2.free 7
    have f8 := S2.free 8
    have f9 := S2.free 9
    have f10 := S2.free 10
    have r_0 := R2.cell 0
    have r_1 := R2.cell 1
    have r_2 := R2.cell 2
    have r_3 := R2.cell 3
    have r_4 := R2.cell 4
    have r_5 := R2.cell 5
    have r_6 := R2.cell 6
    have r_7 := R2.cell 7
    have r_8 := R2.cell 8
    have r_9 := R2.cell 9
    have r_10 := R2.cell 10
    have y0 := R2.free 0
    have y1 := R2.free 1
    have y2 := R2.free 2
    have y3 := R2.free 3
    have y4 := R2.free 4
    have y5 := R2.free 5
    have y6 := R2.free 6
    have y7 := R2.free 7
    have y8 := R2.free 8
    have y9 := R2.free 9
    have y10 := R2.free 10
    have hl := R2.lt
    have HS2 := Lib.hid S2
    have HR2 := Lib.hid R2
    clear S2 R2
    cases b with
    | false =>
      clear C2
      go_wp2
      exact bodyPost_ret (v := .agg #[.bool true, .int .i64 nn, .int .i64 nn, .int .i64 r1, .int .i64 ot, .int .i64 op, .int .i64 ol, .int .i64 uq, .int .i64 ut, .int .i64 up, .int .i64 ul]) (by simp [results, Try.results18, go_sem, r_0, r_1, r_2, r_3, r_4, r_5, r_6, r_7, r_8, r_9, r_10]) rfl ⟨rfl, eleven_set (HB2.out.setCell (p := ⟨w.heap.size, 3, none⟩) (Nat.le_refl _) _) (by omega) _ _ _ _ _ _ _ _ _ _ _⟩
    | true =>
      go_wp2_with fail
      refine (C2.out _).mono ?_
      rintro e w3 ⟨rfl, b3⟩
      have S3 := (HS2.out.set 3 (.int .i64 r1)).below b3 (by simp; omega)
      have R3 := (HR2.out.far (p := ⟨w.heap.size, 3, none⟩) (show w.heap.size + 1 + 1 ≠ w.heap.size by omega) (.int .i64 r1)).below b3 (by simp; omega)
      have B2 := HB2.out.setCell (p := ⟨w.heap.size, 3, none⟩) (Nat.le_refl _) (.int .i64 r1)
      have HB3 := Lib.hid (B2.trans (b3.mono B2.size))
      clear k0 k1 k2 k3 k4 k5 k6 k7 k8 k9 k10 f0 f1 f2 f3 f4 f5 f6 f7 f8 f9 f10 r_0 r_1 r_2 r_3 r_4 r_5 r_6 r_7 r_8 r_9 r_10 y0 y1 y2 y3 y4 y5 y6 y7 y8 y9 y10 b3 B2 C2 hl HS2 HR2 HB2
      have k0 := S3.cell 0
      have k1 := S3.cell 1
      have k2 := S3.cell 2
      have k3 := S3.cell 3
      have k4 := S3.cell 4
      have k5 := S3.cell 5
      have k6 := S3.cell 6
      have k7 := S3.cell 7
      have k8 := S3.cell 8
      have k9 := S3.cell 9
      have k10 := S3.cell 10
      have f0 := S3.free 0
      have f1 := S3.free 1
      have f2 := S3.free 2
      have f3 := S3.free 3
      have f4 := S3.free 4
      have f5 := S3.free 5
      have f6 := S3.free 6
      have f7 := S3.free 7
      have f8 := S3.free 8
      have f9 := S3.free 9
      have f10 := S3.free 10
      have r_0 := R3.cell 0
      have r_1 := R3.cell 1
      have r_2 := R3.cell 2
      have r_3 := R3.cell 3
      have r_4 := R3.cell 4
      have r_5 := R3.cell 5
      have r_6 := R3.cell 6
      have r_7 := R3.cell 7
      have r_8 := R3.cell 8
      have r_9 := R3.cell 9
      have r_10 := R3.cell 10
      have y0 := R3.free 0
      have y1 := R3.free 1
      have y2 := R3.free 2
      have y3 := R3.free 3
      have y4 := R3.free 4
      have y5 := R3.free 5
      have y6 := R3.free 6
      have y7 := R3.free 7
      have y8 := R3.free 8
      have y9 := R3.free 9
      have y10 := R3.free 10
      clear S3 R3
      go_wp2
      exact bodyPost_ret (v := .agg #[.bool true, .int .i64 nn, .int .i64 nn, .int .i64 r1, .int .i64 ot, .int .i64 r2, .int .i64 ol, .int .i64 uq, .int .i64 ut, .int .i64 up, .int .i64 ul]) (by simp [results, Try.results18, go_sem, r_0, r_1, r_2, r_3, r_4, r_5, r_6, r_7, r_8, r_9, r_10]) rfl ⟨rfl, eleven_set (HB3.out.setCell (p := ⟨w.heap.size, 5, none⟩) (Nat.le_refl _) _) (by omega) _ _ _ _ _ _ _ _ _ _ _⟩
end Go.Proofs.Ytpemikncbolkbaa
