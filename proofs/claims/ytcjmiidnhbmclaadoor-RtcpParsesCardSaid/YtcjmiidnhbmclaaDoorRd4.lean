/-
  The document's read, kind 4 (layer 9).
-/
import Derived.Test.YtcjmiidnhbmclaaDoorRdA
import Derived.Deep.AppendLies
namespace Go.Proofs.YtcjmiidnhbmclaaDoor
set_option maxRecDepth 1000000
set_option linter.unusedSimpArgs false
open Go.RowKit

set_option maxHeartbeats 12800000 in
theorem dread4_any (s : List UInt8) (w : World) (hl : s.length ≤ 1500) :
    Calls Tryd.prog 29 #[.int .i64 206, .int .i64 1, .string (str s)] w (RdR (readM 206 1 s) w) := by
  by_cases h8 : (s.length : Int) < 8
  · have HP : Hid (readM 206 1 s = (zeroM, 10)) := Lib.hid (by unfold readM; simp [show s.length < 8 by omega])
    go_enter Tryd.func29, Tryd.ntmps29
    go_wp2_with fail
    exact bodyPost_ret (v := .tuple #[.agg #[.int .i64 0, .int .u32 0, .int .u32 0, .int .u64 0, .int .u32 0, .int .u32 0, .int .u32 0, .slice none 0 0, .slice none 0 0, .slice none 0 0, .slice none 0 0, .int .u8 0], .int .i64 10]) (by simp [results, Tryd.results29, go_sem]) rfl (RdR.plain zeroM 10 (((Below.refl _ _).alloc (Nat.le_refl _) _).alloc (by simp) _) HP.out rfl rfl rfl rfl)
  · obtain ⟨x1, hx1⟩ : ∃ x, numAt s 0 4 = x := ⟨_, rfl⟩
    obtain ⟨x2, hx2⟩ : ∃ x, numAt s 4 4 = x := ⟨_, rfl⟩
    have HP : Hid (readM 206 1 s = (⟨4, x1, x2, 0, 0, 0, 0, [], [], [], [], 0⟩, 0)) := Lib.hid (by unfold readM; simp [show ¬ s.length < 8 by omega, hx1, hx2])
    have b1 : (x1 : Int) < 4294967296 := by have := numAt_lt s 0 4; rw [hx1] at this; omega
    have C1 := Lib.hid (fun w => rnum_any s 0 4 x1 hx1 w (by unfold maxLen; omega) (by decide) (by decide) (by omega))
    have b2 : (x2 : Int) < 4294967296 := by have := numAt_lt s 4 4; rw [hx2] at this; omega
    have C2 := Lib.hid (fun w => rnum_any s 4 4 x2 hx2 w (by unfold maxLen; omega) (by decide) (by decide) (by omega))
    clear hx1 hx2
    go_enter Tryd.func29, Tryd.ntmps29
    go_wp2_with fail
    have WZ := (Whole.new w 50 #[.int .i64 0, .int .u32 0, .int .u32 0, .int .u64 0, .int .u32 0, .int .u32 0, .int .u32 0, .slice none 0 0, .slice none 0 0, .slice none 0 0, .slice none 0 0, .int .u8 0]).alloc (.cells #[.int .i64 4, .int .u32 0, .int .u32 0, .int .u64 0, .int .u32 0, .int .u32 0, .int .u32 0, .slice none 0 0, .slice none 0 0, .slice none 0 0, .slice none 0 0, .int .u8 0] 50)
    have WM := Whole.new2 w (.cells #[.int .i64 0, .int .u32 0, .int .u32 0, .int .u64 0, .int .u32 0, .int .u32 0, .int .u32 0, .slice none 0 0, .slice none 0 0, .slice none 0 0, .slice none 0 0, .int .u8 0] 50) 50 #[.int .i64 4, .int .u32 0, .int .u32 0, .int .u64 0, .int .u32 0, .int .u32 0, .int .u32 0, .slice none 0 0, .slice none 0 0, .slice none 0 0, .slice none 0 0, .int .u8 0]
    have B0 := ((Below.refl w.heap.size w).alloc (Nat.le_refl _) (.cells #[.int .i64 0, .int .u32 0, .int .u32 0, .int .u64 0, .int .u32 0, .int .u32 0, .int .u32 0, .slice none 0 0, .slice none 0 0, .slice none 0 0, .slice none 0 0, .int .u8 0] 50)).alloc (by simp) (.cells #[.int .i64 4, .int .u32 0, .int .u32 0, .int .u64 0, .int .u32 0, .int .u32 0, .int .u32 0, .slice none 0 0, .slice none 0 0, .slice none 0 0, .slice none 0 0, .int .u8 0] 50)
    obtain ⟨v0, hv0⟩ : ∃ w0, w0 = (w.alloc (.cells #[.int .i64 0, .int .u32 0, .int .u32 0, .int .u64 0, .int .u32 0, .int .u32 0, .int .u32 0, .slice none 0 0, .slice none 0 0, .slice none 0 0, .slice none 0 0, .int .u8 0] 50)).alloc (.cells #[.int .i64 4, .int .u32 0, .int .u32 0, .int .u64 0, .int .u32 0, .int .u32 0, .int .u32 0, .slice none 0 0, .slice none 0 0, .slice none 0 0, .slice none 0 0, .int .u8 0] 50) := ⟨_, rfl⟩
    rw [← hv0] at WZ WM B0 ⊢
    clear hv0
    obtain ⟨gz, hgz⟩ : ∃ g, g = w.heap.size := ⟨_, rfl⟩
    rw [← hgz] at WZ WM ⊢
    have HGZ := Lib.hid hgz
    have HZ := Lib.hid WZ
    have HB := Lib.hid B0
    have HM := Lib.hid WM
    clear hgz WZ B0 WM
    refine (C1.out v0).mono ?_
    rintro e w1 ⟨rfl, k1⟩
    have W1 := HM.out.below k1 HM.out.lt
    have HB1 := Lib.hid (bnext HB.out k1)
    have HZ1 := Lib.hid (HZ.out.below k1 HZ.out.lt)
    have q0 : w1.cell? ⟨gz + 1, 0, none⟩ = some (.int .i64 4) := W1.cell 0
    have q1 : w1.cell? ⟨gz + 1, 1, none⟩ = some (.int .u32 0) := W1.cell 1
    have f1 := W1.free 1
    have HW1 := Lib.hid W1
    clear k1 HB HZ HM W1
    go_wp2_with fail
    obtain ⟨v1, hv1⟩ : ∃ v, v = w1.setCell ⟨gz + 1, 1, none⟩ (.int .u32 (x1 : Int)) := ⟨_, rfl⟩
    have HM : Hid (Whole v1 (gz + 1) 50 #[.int .i64 4, .int .u32 (x1 : Int), .int .u32 0, .int .u64 0, .int .u32 0, .int .u32 0, .int .u32 0, .slice none 0 0, .slice none 0 0, .slice none 0 0, .slice none 0 0, .int .u8 0]) := Lib.hid (by rw [hv1]; exact HW1.out.set 1 (.int .u32 (x1 : Int)))
    have HZ : Hid (Whole v1 gz 50 #[.int .i64 0, .int .u32 0, .int .u32 0, .int .u64 0, .int .u32 0, .int .u32 0, .int .u32 0, .slice none 0 0, .slice none 0 0, .slice none 0 0, .slice none 0 0, .int .u8 0]) := Lib.hid (by rw [hv1]; exact HZ1.out.far (show gz ≠ gz + 1 by omega) (.int .u32 (x1 : Int)))
    have HB : Hid (Below w.heap.size w v1) := Lib.hid (by rw [hv1]; exact HB1.out.setCell (show w.heap.size ≤ gz + 1 by have := HGZ.out; omega) (.int .u32 (x1 : Int)))
    rw [← hv1]
    clear hv1 q0 q1 f1 HW1 HZ1 HB1
    refine (C2.out v1).mono ?_
    rintro e w2 ⟨rfl, k2⟩
    have W2 := HM.out.below k2 HM.out.lt
    have HB2 := Lib.hid (bnext HB.out k2)
    have HZ2 := Lib.hid (HZ.out.below k2 HZ.out.lt)
    have q0 : w2.cell? ⟨gz + 1, 0, none⟩ = some (.int .i64 4) := W2.cell 0
    have q1 : w2.cell? ⟨gz + 1, 2, none⟩ = some (.int .u32 0) := W2.cell 2
    have f1 := W2.free 2
    have HW2 := Lib.hid W2
    clear k2 HB HZ HM W2
    go_wp2_with fail
    obtain ⟨v2, hv2⟩ : ∃ v, v = w2.setCell ⟨gz + 1, 2, none⟩ (.int .u32 (x2 : Int)) := ⟨_, rfl⟩
    have HM : Hid (Whole v2 (gz + 1) 50 #[.int .i64 4, .int .u32 (x1 : Int), .int .u32 (x2 : Int), .int .u64 0, .int .u32 0, .int .u32 0, .int .u32 0, .slice none 0 0, .slice none 0 0, .slice none 0 0, .slice none 0 0, .int .u8 0]) := Lib.hid (by rw [hv2]; exact HW2.out.set 2 (.int .u32 (x2 : Int)))
    have HZ : Hid (Whole v2 gz 50 #[.int .i64 0, .int .u32 0, .int .u32 0, .int .u64 0, .int .u32 0, .int .u32 0, .int .u32 0, .slice none 0 0, .slice none 0 0, .slice none 0 0, .slice none 0 0, .int .u8 0]) := Lib.hid (by rw [hv2]; exact HZ2.out.far (show gz ≠ gz + 1 by omega) (.int .u32 (x2 : Int)))
    have HB : Hid (Below w.heap.size w v2) := Lib.hid (by rw [hv2]; exact HB2.out.setCell (show w.heap.size ≤ gz + 1 by have := HGZ.out; omega) (.int .u32 (x2 : Int)))
    rw [← hv2]
    clear hv2 q0 q1 f1 HW2 HZ2 HB2
    have q0 : v2.cell? ⟨gz + 1, 0, none⟩ = some (.int .i64 4) := HM.out.cell 0
    refine wp_loop_rounds 1 ?_
    rw [rounds_succ]
    go_wp2_with fail
    refine wp_loop_rounds 1 ?_
    rw [rounds_succ]
    have WM := HM.out
    have WZ := HZ.out
    have hb := HB.out
    clear HM HZ HB q0
    have c0 := WM.cell 0
    have e0 := WZ.cell 0
    have f0 := WZ.free 0
    have c1 := WM.cell 1
    have e1 := WZ.cell 1
    have f1 := WZ.free 1
    have c2 := WM.cell 2
    have e2 := WZ.cell 2
    have f2 := WZ.free 2
    have c3 := WM.cell 3
    have e3 := WZ.cell 3
    have f3 := WZ.free 3
    have c4 := WM.cell 4
    have e4 := WZ.cell 4
    have f4 := WZ.free 4
    have c5 := WM.cell 5
    have e5 := WZ.cell 5
    have f5 := WZ.free 5
    have c6 := WM.cell 6
    have e6 := WZ.cell 6
    have f6 := WZ.free 6
    have c7 := WM.cell 7
    have e7 := WZ.cell 7
    have f7 := WZ.free 7
    have c8 := WM.cell 8
    have e8 := WZ.cell 8
    have f8 := WZ.free 8
    have c9 := WM.cell 9
    have e9 := WZ.cell 9
    have f9 := WZ.free 9
    have c10 := WM.cell 10
    have e10 := WZ.cell 10
    have f10 := WZ.free 10
    have c11 := WM.cell 11
    have e11 := WZ.cell 11
    have f11 := WZ.free 11
    simp at c0 e0 c1 e1 c2 e2 c3 e3 c4 e4 c5 e5 c6 e6 c7 e7 c8 e8 c9 e9 c10 e10 c11 e11
    have hgz := HGZ.out
    have hle : w.heap.size ≤ gz := by omega
    clear hgz
    have HBB := Lib.hid (below12 (r := gz) hb hle (.int .i64 4) (.int .u32 (x1 : Int)) (.int .u32 (x2 : Int)) (.int .u64 0) (.int .u32 0) (.int .u32 0) (.int .u32 0) (.slice none 0 0) (.slice none 0 0) (.slice none 0 0) (.slice none 0 0) (.int .u8 0))
    have HW := Lib.hid (whole12 WZ (.int .i64 4) (.int .u32 (x1 : Int)) (.int .u32 (x2 : Int)) (.int .u64 0) (.int .u32 0) (.int .u32 0) (.int .u32 0) (.slice none 0 0) (.slice none 0 0) (.slice none 0 0) (.slice none 0 0) (.int .u8 0))
    clear WM WZ hb
    go_wp2_with fail
    obtain ⟨we, hwe⟩ : ∃ we, we = ((((((((((((v2.setCell ⟨gz, 0, none⟩ (.int .i64 4)).setCell ⟨gz, 1, none⟩ (.int .u32 (x1 : Int))).setCell ⟨gz, 2, none⟩ (.int .u32 (x2 : Int))).setCell ⟨gz, 3, none⟩ (.int .u64 0)).setCell ⟨gz, 4, none⟩ (.int .u32 0)).setCell ⟨gz, 5, none⟩ (.int .u32 0)).setCell ⟨gz, 6, none⟩ (.int .u32 0)).setCell ⟨gz, 7, none⟩ (.slice none 0 0)).setCell ⟨gz, 8, none⟩ (.slice none 0 0)).setCell ⟨gz, 9, none⟩ (.slice none 0 0)).setCell ⟨gz, 10, none⟩ (.slice none 0 0)).setCell ⟨gz, 11, none⟩ (.int .u8 0)) := ⟨_, rfl⟩
    rw [← hwe] at HW HBB ⊢
    clear hwe c0 e0 f0 c1 e1 f1 c2 e2 f2 c3 e3 f3 c4 e4 f4 c5 e5 f5 c6 e6 f6 c7 e7 f7 c8 e8 f8 c9 e9 f9 c10 e10 f10 c11 e11 f11
    have e0 : we.cell? ⟨gz, 0, none⟩ = some (.int .i64 4) := HW.out.cell 0
    have e1 : we.cell? ⟨gz, 1, none⟩ = some (.int .u32 (x1 : Int)) := HW.out.cell 1
    have e2 : we.cell? ⟨gz, 2, none⟩ = some (.int .u32 (x2 : Int)) := HW.out.cell 2
    have e3 : we.cell? ⟨gz, 3, none⟩ = some (.int .u64 0) := HW.out.cell 3
    have e4 : we.cell? ⟨gz, 4, none⟩ = some (.int .u32 0) := HW.out.cell 4
    have e5 : we.cell? ⟨gz, 5, none⟩ = some (.int .u32 0) := HW.out.cell 5
    have e6 : we.cell? ⟨gz, 6, none⟩ = some (.int .u32 0) := HW.out.cell 6
    have e7 : we.cell? ⟨gz, 7, none⟩ = some (.slice none 0 0) := HW.out.cell 7
    have e8 : we.cell? ⟨gz, 8, none⟩ = some (.slice none 0 0) := HW.out.cell 8
    have e9 : we.cell? ⟨gz, 9, none⟩ = some (.slice none 0 0) := HW.out.cell 9
    have e10 : we.cell? ⟨gz, 10, none⟩ = some (.slice none 0 0) := HW.out.cell 10
    have e11 : we.cell? ⟨gz, 11, none⟩ = some (.int .u8 0) := HW.out.cell 11
    refine bodyPost_ret (v := .tuple #[.agg #[.int .i64 4, .int .u32 (x1 : Int), .int .u32 (x2 : Int), .int .u64 0, .int .u32 0, .int .u32 0, .int .u32 0, .slice none 0 0, .slice none 0 0, .slice none 0 0, .slice none 0 0, .int .u8 0], .int .i64 0]) (by simp [results, Tryd.results29, e0, e1, e2, e3, e4, e5, e6, e7, e8, e9, e10, e11, go_sem]) rfl ?_
    rw [HP.out]
    exact ⟨⟨none, 0, none, 0, none, 0, none, 0⟩, by simp [Ms.cells], ⟨Row.nil, Row.nil, Row.nil, Row.nil⟩, ⟨no_new _, no_new _, no_new _, no_new _⟩, HBB.out⟩
end Go.Proofs.YtcjmiidnhbmclaaDoor
