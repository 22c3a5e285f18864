/-
  Seven cells of a struct stored at once; the law's begun (layer 18).
-/
import Derived.Test.YtmmeceehfdbdoaaDcV
namespace Go.Proofs.Ytmmeceehfdbdoaa
open Go.RowKit
open Dl
set_option linter.unusedSimpArgs false
set_option linter.unusedVariables false
set_option maxRecDepth 100000
def sets7 (w : World) (g : Nat) (v0 v1 v2 v3 v4 v5 v6 : Value) : World := (((((((w.setCell ⟨g, 0, none⟩ v0).setCell ⟨g, 1, none⟩ v1).setCell ⟨g, 2, none⟩ v2).setCell ⟨g, 3, none⟩ v3).setCell ⟨g, 4, none⟩ v4).setCell ⟨g, 5, none⟩ v5).setCell ⟨g, 6, none⟩ v6)
section
variable {w w0 : World} {g : Nat} {v0 v1 v2 v3 v4 v5 v6 : Value}
theorem sets7_whole {t : TypeId} {cs : Array Value} (h : Whole w g t cs) (hs : cs.size = 7) : Whole (sets7 w g v0 v1 v2 v3 v4 v5 v6) g t #[v0, v1, v2, v3, v4, v5, v6] := by
  have h2 := (((((((h.set 0 v0).set 1 v1).set 2 v2).set 3 v3).set 4 v4).set 5 v5).set 6 v6)
  have e : (((((((cs.setIfInBounds 0 v0).setIfInBounds 1 v1).setIfInBounds 2 v2).setIfInBounds 3 v3).setIfInBounds 4 v4).setIfInBounds 5 v5).setIfInBounds 6 v6) = #[v0, v1, v2, v3, v4, v5, v6] := by
    apply Array.ext
    · simp [hs]
    · intro i h1 h3
      simp at h3
      have hi : i = 0 ∨ i = 1 ∨ i = 2 ∨ i = 3 ∨ i = 4 ∨ i = 5 ∨ i = 6 := by omega
      rcases hi with rfl | rfl | rfl | rfl | rfl | rfl | rfl <;> simp [Array.getElem_setIfInBounds, hs]
  rw [e] at h2
  exact h2
theorem sets7_far {t : TypeId} {b : Nat} {cs : Array Value} (h : Whole w b t cs) (hb : b ≠ g) : Whole (sets7 w g v0 v1 v2 v3 v4 v5 v6) b t cs := (((((((h.far (p := ⟨g, 0, none⟩) hb v0).far (p := ⟨g, 1, none⟩) hb v1).far (p := ⟨g, 2, none⟩) hb v2).far (p := ⟨g, 3, none⟩) hb v3).far (p := ⟨g, 4, none⟩) hb v4).far (p := ⟨g, 5, none⟩) hb v5).far (p := ⟨g, 6, none⟩) hb v6)
theorem sets7_below {B : Nat} (h : Below B w0 w) (hg : B ≤ g) : Below B w0 (sets7 w g v0 v1 v2 v3 v4 v5 v6) := (((((((h.setCell (p := ⟨g, 0, none⟩) hg v0).setCell (p := ⟨g, 1, none⟩) hg v1).setCell (p := ⟨g, 2, none⟩) hg v2).setCell (p := ⟨g, 3, none⟩) hg v3).setCell (p := ⟨g, 4, none⟩) hg v4).setCell (p := ⟨g, 5, none⟩) hg v5).setCell (p := ⟨g, 6, none⟩) hg v6)
theorem sets7_sat {P : Nat → Prop} {s : Sm} (h : SAt P w s) (hg : ¬ P g) : SAt P (sets7 w g v0 v1 v2 v3 v4 v5 v6) s := (((((((h.set (p := ⟨g, 0, none⟩) hg v0).set (p := ⟨g, 1, none⟩) hg v1).set (p := ⟨g, 2, none⟩) hg v2).set (p := ⟨g, 3, none⟩) hg v3).set (p := ⟨g, 4, none⟩) hg v4).set (p := ⟨g, 5, none⟩) hg v5).set (p := ⟨g, 6, none⟩) hg v6)
theorem sets7_size : (sets7 w g v0 v1 v2 v3 v4 v5 v6).heap.size = w.heap.size := by unfold sets7; simp
end
theorem smA_size (s : Sm) : (smA s).size = 7 := rfl
/-- A state is stored into a variable. -/
def setS (w : World) (g : Nat) (s : Sm) : World := sets7 w g (.int .i64 s.X.cf.ps) (.int .i64 s.X.cf.ts) (.int .i64 s.X.cf.bs) (.int .i64 s.X.cf.sl) (.slice s.A s.X.ps.length s.a) (.slice s.B s.T.length s.b) (.slice s.C s.X.bs.length s.c)
theorem setS_whole {w : World} {g : Nat} {s : Sm} {t : TypeId} {cs : Array Value} (h : Whole w g t cs) (hs : cs.size = 7) : Whole (setS w g s) g t (smA s) := sets7_whole h hs
set_option maxHeartbeats 12800000 in
theorem begun18 (c : Cf) (w : World) : Calls Try.prog 11 #[.agg #[.int .i64 c.ps, .int .i64 c.ts, .int .i64 c.bs, .int .i64 c.sl]] w fun e w' =>
    e = .returned (.tuple #[if confL c = true then .agg (smA (zeroM c)) else .agg #[.int .i64 0, .int .i64 0, .int .i64 0, .int .i64 0, .slice none 0 0, .slice none 0 0, .slice none 0 0], .agg #[.int .i64 c.ps, .int .i64 c.ts, .int .i64 c.bs, .int .i64 c.sl, .slice none 0 0, .slice none 0 0, .slice none 0 0], .bool (confL c)]) ∧ Below w.heap.size w w' := by
  have CN := fun w => cnew_any c w
  obtain ⟨f1, f2, f3, f4⟩ := c
  rw [show smA (zeroM ⟨f1, f2, f3, f4⟩) = #[.int .i64 f1, .int .i64 f2, .int .i64 f3, .int .i64 f4, .slice none 0 0, .slice none 0 0, .slice none 0 0] from rfl] at CN ⊢
  dsimp only at CN ⊢
  obtain ⟨w1, hw1⟩ : ∃ z, z = ((w.alloc (.cells #[.int .i64 f1, .int .i64 f2, .int .i64 f3, .int .i64 f4] 23)).alloc (.cells #[.int .i64 0, .int .i64 0, .int .i64 0, .int .i64 0, .slice none 0 0, .slice none 0 0, .slice none 0 0] 31)).alloc (.cells #[.int .i64 0, .int .i64 0, .int .i64 0, .int .i64 0, .slice none 0 0, .slice none 0 0, .slice none 0 0] 37) := ⟨_, rfl⟩
  have b1 : Below w.heap.size w w1 := by rw [hw1]; exact (((Below.refl _ _).alloc (Nat.le_refl _) _).alloc (by simp) _).alloc (by simp; omega) _
  have hC : Whole w1 w.heap.size 23 #[.int .i64 f1, .int .i64 f2, .int .i64 f3, .int .i64 f4] := by rw [hw1]; exact ((Whole.new w _ _).alloc _).alloc _
  have hS : Whole w1 (w.heap.size + 1) 31 #[.int .i64 0, .int .i64 0, .int .i64 0, .int .i64 0, .slice none 0 0, .slice none 0 0, .slice none 0 0] := by rw [hw1]; exact (Whole.new2 w _ _ _).alloc _
  have hR : Whole w1 (w.heap.size + 2) 37 #[.int .i64 0, .int .i64 0, .int .i64 0, .int .i64 0, .slice none 0 0, .slice none 0 0, .slice none 0 0] := by rw [hw1]; have := Whole.new2 (w.alloc (.cells #[.int .i64 f1, .int .i64 f2, .int .i64 f3, .int .i64 f4] 23)) (.cells #[.int .i64 0, .int .i64 0, .int .i64 0, .int .i64 0, .slice none 0 0, .slice none 0 0, .slice none 0 0] 31) 37 #[.int .i64 0, .int .i64 0, .int .i64 0, .int .i64 0, .slice none 0 0, .slice none 0 0, .slice none 0 0]; simpa using this
  obtain ⟨M, hM⟩ : ∃ M, w.heap.size + 1 = M := ⟨_, rfl⟩
  obtain ⟨N, hN⟩ : ∃ N, M + 1 = N := ⟨_, rfl⟩
  rw [hM] at hS
  rw [show w.heap.size + 2 = N by omega] at hR
  have n1 : M ≠ w.heap.size := by omega
  have n2 : N ≠ w.heap.size := by omega
  have n3 : N ≠ M := by omega
  have n4 : M ≠ N := by omega
  have lo1 : w.heap.size ≤ M := by omega
  have lo2 : w.heap.size ≤ N := by omega
  have lC := hC.lt
  have lS := hS.lt
  have lR := hR.lt
  have HC := Lib.hid hC
  have HS := Lib.hid hS
  have HR := Lib.hid hR
  have HB1 := Lib.hid b1
  have c0 := (hC.cell 0).trans rfl
  have c1 := (hC.cell 1).trans rfl
  have c2 := (hC.cell 2).trans rfl
  have c3 := (hC.cell 3).trans rfl
  replace CN := Lib.hid (CN w1)
  clear hC hS hR b1
  cases hc : confL ⟨f1, f2, f3, f4⟩ with
  | true =>
    rw [hc] at CN
    have HCC := Lib.hid hc
    clear hc
    simp only [if_true, if_false, Bool.false_eq_true, reduceIte] at CN ⊢
    go_enter Try.func11, Try.ntmps11
    go_upto_region 1 with fail
    rw [← hw1]
    clear hw1 hM hN
    go_wp2_with fail
    refine CN.out.mono ?_
    rintro e w2 ⟨rfl, b2⟩
    have hz := b2.size
    obtain ⟨w3, hw3⟩ : ∃ z, z = w2.alloc (.cells #[.int .i64 f1, .int .i64 f2, .int .i64 f3, .int .i64 f4, .slice none 0 0, .slice none 0 0, .slice none 0 0] 31) := ⟨_, rfl⟩
    have b3 : Below w1.heap.size w1 w3 := by rw [hw3]; exact b2.alloc hz _
    have hX : Whole w3 w2.heap.size 31 #[.int .i64 f1, .int .i64 f2, .int .i64 f3, .int .i64 f4, .slice none 0 0, .slice none 0 0, .slice none 0 0] := by rw [hw3]; exact Whole.new w2 _ _
    have hC3 := HC.out.below b3 lC
    have hS3 := HS.out.below b3 lS
    have hR3 := HR.out.below b3 lR
    have HB3 := Lib.hid (HB1.out.trans (b3.mono HB1.out.size))
    have HS3 := Lib.hid hS3
    have HR3 := Lib.hid hR3
    have m1 : M ≠ w2.heap.size := by omega
    have m2 : N ≠ w2.heap.size := by omega
    clear c0 c1 c2 c3
    have d0 := (hC3.cell 0).trans rfl
    have d1 := (hC3.cell 1).trans rfl
    have d2 := (hC3.cell 2).trans rfl
    have d3 := (hC3.cell 3).trans rfl
    have x0 := (hX.cell 0).trans rfl
    have x1 := (hX.cell 1).trans rfl
    have x2 := (hX.cell 2).trans rfl
    have x3 := (hX.cell 3).trans rfl
    have x4 := (hX.cell 4).trans rfl
    have x5 := (hX.cell 5).trans rfl
    have x6 := (hX.cell 6).trans rfl
    have s0 := hS3.cell 0
    have t0 := hS3.free 0
    have s1 := hS3.cell 1
    have t1 := hS3.free 1
    have s2 := hS3.cell 2
    have t2 := hS3.free 2
    have s3 := hS3.cell 3
    have t3 := hS3.free 3
    have s4 := hS3.cell 4
    have t4 := hS3.free 4
    have s5 := hS3.cell 5
    have t5 := hS3.free 5
    have s6 := hS3.cell 6
    have t6 := hS3.free 6
    have r0 := hR3.cell 0
    have u0 := hR3.free 0
    have r1 := hR3.cell 1
    have u1 := hR3.free 1
    have r2 := hR3.cell 2
    have u2 := hR3.free 2
    have r3 := hR3.cell 3
    have u3 := hR3.free 3
    have r4 := hR3.cell 4
    have u4 := hR3.free 4
    have r5 := hR3.cell 5
    have u5 := hR3.free 5
    have r6 := hR3.cell 6
    have u6 := hR3.free 6
    have ls3 := hS3.lt
    have lr3 := hR3.lt
    have lx3 := hX.lt
    have lc3 := hC3.lt
    go_upto_region 2 with fail
    rw [← hw3]
    clear hw3 b2 b3 hX hC3 hS3 hR3 CN
    go_region
    go_wp2_with fail
    show bodyPost _ _ _ _ _ (sets7 (sets7 w3 M (.int .i64 f1) (.int .i64 f2) (.int .i64 f3) (.int .i64 f4) (.slice none 0 0) (.slice none 0 0) (.slice none 0 0)) N (.int .i64 f1) (.int .i64 f2) (.int .i64 f3) (.int .i64 f4) (.slice none 0 0) (.slice none 0 0) (.slice none 0 0)).drew
    have WM := (sets7_far (v0 := .int .i64 f1) (v1 := .int .i64 f2) (v2 := .int .i64 f3) (v3 := .int .i64 f4) (v4 := .slice none 0 0) (v5 := .slice none 0 0) (v6 := .slice none 0 0) (sets7_whole (v0 := .int .i64 f1) (v1 := .int .i64 f2) (v2 := .int .i64 f3) (v3 := .int .i64 f4) (v4 := .slice none 0 0) (v5 := .slice none 0 0) (v6 := .slice none 0 0) HS3.out rfl) n4).drew
    have WN := (sets7_whole (v0 := .int .i64 f1) (v1 := .int .i64 f2) (v2 := .int .i64 f3) (v3 := .int .i64 f4) (v4 := .slice none 0 0) (v5 := .slice none 0 0) (v6 := .slice none 0 0) (sets7_far (v0 := .int .i64 f1) (v1 := .int .i64 f2) (v2 := .int .i64 f3) (v3 := .int .i64 f4) (v4 := .slice none 0 0) (v5 := .slice none 0 0) (v6 := .slice none 0 0) HR3.out n3) rfl).drew
    have a0 := WM.cell 0
    have a1 := WM.cell 1
    have a2 := WM.cell 2
    have a3 := WM.cell 3
    have a4 := WM.cell 4
    have a5 := WM.cell 5
    have a6 := WM.cell 6
    have b0 := WN.cell 0
    have b1 := WN.cell 1
    have b2 := WN.cell 2
    have b3 := WN.cell 3
    have b4 := WN.cell 4
    have b5 := WN.cell 5
    have b6 := WN.cell 6
    exact bodyPost_ret (v := .tuple #[.agg #[.int .i64 f1, .int .i64 f2, .int .i64 f3, .int .i64 f4, .slice none 0 0, .slice none 0 0, .slice none 0 0], .agg #[.int .i64 f1, .int .i64 f2, .int .i64 f3, .int .i64 f4, .slice none 0 0, .slice none 0 0, .slice none 0 0], .bool true]) (by simp [results, Try.results11, go_sem, a0, a1, a2, a3, a4, a5, a6, b0, b1, b2, b3, b4, b5, b6]) rfl ⟨rfl, (sets7_below (sets7_below HB3.out lo1) lo2).drew⟩
  | false =>
    rw [hc] at CN
    have HCC := Lib.hid hc
    clear hc
    simp only [if_true, if_false, Bool.false_eq_true, reduceIte] at CN ⊢
    go_enter Try.func11, Try.ntmps11
    go_upto_region 1 with fail
    rw [← hw1]
    clear hw1 hM hN
    go_wp2_with fail
    refine CN.out.mono ?_
    rintro e w2 ⟨rfl, b2⟩
    have hz := b2.size
    obtain ⟨w3, hw3⟩ : ∃ z, z = w2.alloc (.cells #[.int .i64 0, .int .i64 0, .int .i64 0, .int .i64 0, .slice none 0 0, .slice none 0 0, .slice none 0 0] 31) := ⟨_, rfl⟩
    have b3 : Below w1.heap.size w1 w3 := by rw [hw3]; exact b2.alloc hz _
    have hX : Whole w3 w2.heap.size 31 #[.int .i64 0, .int .i64 0, .int .i64 0, .int .i64 0, .slice none 0 0, .slice none 0 0, .slice none 0 0] := by rw [hw3]; exact Whole.new w2 _ _
    have hC3 := HC.out.below b3 lC
    have hS3 := HS.out.below b3 lS
    have hR3 := HR.out.below b3 lR
    have HB3 := Lib.hid (HB1.out.trans (b3.mono HB1.out.size))
    have HS3 := Lib.hid hS3
    have HR3 := Lib.hid hR3
    have m1 : M ≠ w2.heap.size := by omega
    have m2 : N ≠ w2.heap.size := by omega
    clear c0 c1 c2 c3
    have d0 := (hC3.cell 0).trans rfl
    have d1 := (hC3.cell 1).trans rfl
    have d2 := (hC3.cell 2).trans rfl
    have d3 := (hC3.cell 3).trans rfl
    have x0 := (hX.cell 0).trans rfl
    have x1 := (hX.cell 1).trans rfl
    have x2 := (hX.cell 2).trans rfl
    have x3 := (hX.cell 3).trans rfl
    have x4 := (hX.cell 4).trans rfl
    have x5 := (hX.cell 5).trans rfl
    have x6 := (hX.cell 6).trans rfl
    have s0 := hS3.cell 0
    have t0 := hS3.free 0
    have s1 := hS3.cell 1
    have t1 := hS3.free 1
    have s2 := hS3.cell 2
    have t2 := hS3.free 2
    have s3 := hS3.cell 3
    have t3 := hS3.free 3
    have s4 := hS3.cell 4
    have t4 := hS3.free 4
    have s5 := hS3.cell 5
    have t5 := hS3.free 5
    have s6 := hS3.cell 6
    have t6 := hS3.free 6
    have r0 := hR3.cell 0
    have u0 := hR3.free 0
    have r1 := hR3.cell 1
    have u1 := hR3.free 1
    have r2 := hR3.cell 2
    have u2 := hR3.free 2
    have r3 := hR3.cell 3
    have u3 := hR3.free 3
    have r4 := hR3.cell 4
    have u4 := hR3.free 4
    have r5 := hR3.cell 5
    have u5 := hR3.free 5
    have r6 := hR3.cell 6
    have u6 := hR3.free 6
    have ls3 := hS3.lt
    have lr3 := hR3.lt
    have lx3 := hX.lt
    have lc3 := hC3.lt
    go_upto_region 2 with fail
    rw [← hw3]
    clear hw3 b2 b3 hX hC3 hS3 hR3 CN
    go_region
    go_wp2_with fail
    show bodyPost _ _ _ _ _ (sets7 (sets7 w3 M (.int .i64 0) (.int .i64 0) (.int .i64 0) (.int .i64 0) (.slice none 0 0) (.slice none 0 0) (.slice none 0 0)) N (.int .i64 f1) (.int .i64 f2) (.int .i64 f3) (.int .i64 f4) (.slice none 0 0) (.slice none 0 0) (.slice none 0 0)).drew
    have WM := (sets7_far (v0 := .int .i64 f1) (v1 := .int .i64 f2) (v2 := .int .i64 f3) (v3 := .int .i64 f4) (v4 := .slice none 0 0) (v5 := .slice none 0 0) (v6 := .slice none 0 0) (sets7_whole (v0 := .int .i64 0) (v1 := .int .i64 0) (v2 := .int .i64 0) (v3 := .int .i64 0) (v4 := .slice none 0 0) (v5 := .slice none 0 0) (v6 := .slice none 0 0) HS3.out rfl) n4).drew
    have WN := (sets7_whole (v0 := .int .i64 f1) (v1 := .int .i64 f2) (v2 := .int .i64 f3) (v3 := .int .i64 f4) (v4 := .slice none 0 0) (v5 := .slice none 0 0) (v6 := .slice none 0 0) (sets7_far (v0 := .int .i64 0) (v1 := .int .i64 0) (v2 := .int .i64 0) (v3 := .int .i64 0) (v4 := .slice none 0 0) (v5 := .slice none 0 0) (v6 := .slice none 0 0) HR3.out n3) rfl).drew
    have a0 := WM.cell 0
    have a1 := WM.cell 1
    have a2 := WM.cell 2
    have a3 := WM.cell 3
    have a4 := WM.cell 4
    have a5 := WM.cell 5
    have a6 := WM.cell 6
    have b0 := WN.cell 0
    have b1 := WN.cell 1
    have b2 := WN.cell 2
    have b3 := WN.cell 3
    have b4 := WN.cell 4
    have b5 := WN.cell 5
    have b6 := WN.cell 6
    exact bodyPost_ret (v := .tuple #[.agg #[.int .i64 0, .int .i64 0, .int .i64 0, .int .i64 0, .slice none 0 0, .slice none 0 0, .slice none 0 0], .agg #[.int .i64 f1, .int .i64 f2, .int .i64 f3, .int .i64 f4, .slice none 0 0, .slice none 0 0, .slice none 0 0], .bool false]) (by simp [results, Try.results11, go_sem, a0, a1, a2, a3, a4, a5, a6, b0, b1, b2, b3, b4, b5, b6]) rfl ⟨rfl, (sets7_below (sets7_below HB3.out lo1) lo2).drew⟩
end Go.Proofs.Ytmmeceehfdbdoaa
