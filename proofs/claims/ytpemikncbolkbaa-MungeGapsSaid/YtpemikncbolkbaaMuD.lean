/-
  The example of layer 13; the law's of.
-/
import Derived.Test.YtpemikncbolkbaaMuC
import Derived.Test.YtpemikncbolkbaaMuE
import Derived.Test.YtpemikncbolkbaaHang
import Derived.Deep.CutBlock
import Derived.Deep.QuietTactic
import Derived.BigQuiet
import Derived.Deep.RegionHeld3
import Derived.RegionTactic
namespace Go.Proofs.Ytpemikncbolkbaa
open Go.RowKit
set_option linter.unusedSimpArgs false
set_option linter.unusedVariables false

/-- Calls with literal answers. -/
theorem msw_lit {s : Mst} {x : Mn} {st : Int} {t : Mst} {n : Mn} (h1 : s.switchS x st = t) (h2 : s.begins x st = n) (hs : s.Parts) (hx : x.Fit) (ht : 0 ≤ st ∧ st < 4294967296) (w : World) : Calls Try.prog 11 #[.agg s.cells, .agg x.cells, .int .u32 st] w fun e w' => e = .returned (.tuple #[.agg t.cells, .agg n.cells]) ∧ Below w.heap.size w w' := by
  have h := mswitch_any s x st hs hx ht w
  rw [h1, h2] at h
  exact h
theorem mse_lit {s : Mst} {x : Mn} {t : Mst} {n : Mn} {b : Bool} (h1 : s.sendS x = t) (h2 : s.told x = n) (h3 : s.tells x = b) (hs : s.Fit 1000000000000000) (hx : x.Fit) (w : World) : Calls Try.prog 15 #[.agg s.cells, .agg x.cells] w fun e w' => e = .returned (.tuple #[.agg t.cells, .agg n.cells, .bool b]) ∧ Below w.heap.size w w' := by
  have h := msend_any s x hs hx w
  rw [h1, h2, h3] at h
  exact h
theorem mdr_lit {s : Mst} {x : Mn} {b : Bool} {t : Mst} (h1 : s.dropS x b = t) (hs : s.Fit 1000000000000000) (hx : x.Fit) (w : World) : Calls Try.prog 17 #[.agg s.cells, .agg x.cells, .bool b] w fun e w' => e = .returned (.agg t.cells) ∧ Below w.heap.size w w' := by
  have h := mdrop_any s x b hs hx w
  rw [h1] at h
  exact h
theorem mfit (a b c d : Int) (h : (decide (0 ≤ a) && decide (a < 65536) && (decide (0 ≤ b) && decide (b < 4294967296)) && (decide (0 ≤ c) && decide (c < 65536)) && (decide (0 ≤ d) && decide (d < 256))) = true) : Mn.Fit ⟨a, b, c, d⟩ := by
  simp only [Bool.and_eq_true, decide_eq_true_eq] at h
  exact ⟨h.1.1.1, h.1.1.2, h.1.2, h.2⟩

set_option maxRecDepth 100000 in
set_option maxHeartbeats 1600000 in
theorem awake_any (w : World) : Calls Try.prog 10 #[] w fun e w' => e = .returned (.bool true) ∧ Below w.heap.size w w' := by
  have C1 := fun w => msw_lit (s := ⟨false, 0, 0, ⟨0, 0, 0, 0⟩, ⟨0, 0, 0, 0⟩⟩) (x := ⟨100, 0, 0, 0⟩) (st := 3000) (t := ⟨true, 100, 100, ⟨0, 0, 0, 0⟩, ⟨100, 0, 0, 0⟩⟩) (n := ⟨100, 0, 0, 0⟩) (by decide) (by decide) ⟨by decide, mfit _ _ _ _ rfl, mfit _ _ _ _ rfl⟩ (mfit _ _ _ _ rfl) (by decide) w
  have C2 := fun w => mdr_lit (s := ⟨true, 100, 100, ⟨0, 0, 0, 0⟩, ⟨100, 0, 0, 0⟩⟩) (x := ⟨101, 0, 0, 0⟩) (b := true) (t := ⟨true, 101, 101, ⟨1, 0, 1, 0⟩, ⟨100, 0, 0, 0⟩⟩) (by decide) ⟨by decide, mfit _ _ _ _ rfl, mfit _ _ _ _ rfl⟩ (mfit _ _ _ _ rfl) w
  have C3 := fun w => mse_lit (s := ⟨true, 101, 101, ⟨1, 0, 1, 0⟩, ⟨100, 0, 0, 0⟩⟩) (x := ⟨102, 0, 9, 0⟩) (t := ⟨true, 102, 101, ⟨1, 0, 1, 0⟩, ⟨101, 0, 8, 0⟩⟩) (n := ⟨101, 0, 8, 0⟩) (b := true) (by decide) (by decide) (by decide) ⟨by decide, mfit _ _ _ _ rfl, mfit _ _ _ _ rfl⟩ (mfit _ _ _ _ rfl) w
  have C4 := fun w => msw_lit (s := ⟨true, 102, 101, ⟨1, 0, 1, 0⟩, ⟨101, 0, 8, 0⟩⟩) (x := ⟨7, 5, 0, 0⟩) (st := 3000) (t := ⟨true, 7, 7, ⟨65441, 4294964301, 65527, 255⟩, ⟨102, 3000, 9, 1⟩⟩) (n := ⟨102, 3000, 9, 1⟩) (by decide) (by decide) ⟨by decide, mfit _ _ _ _ rfl, mfit _ _ _ _ rfl⟩ (mfit _ _ _ _ rfl) (by decide) w
  have C5 := fun w => mse_lit (s := ⟨true, 7, 7, ⟨65441, 4294964301, 65527, 255⟩, ⟨102, 3000, 9, 1⟩⟩) (x := ⟨6, 0, 0, 0⟩) (t := ⟨true, 7, 7, ⟨65441, 4294964301, 65527, 255⟩, ⟨102, 3000, 9, 1⟩⟩) (n := ⟨0, 0, 0, 0⟩) (b := false) (by decide) (by decide) (by decide) ⟨by decide, mfit _ _ _ _ rfl, mfit _ _ _ _ rfl⟩ (mfit _ _ _ _ rfl) w
  dsimp only [Mst.cells, Mn.cells] at C1 C2 C3 C4 C5
  replace C1 := Lib.hid C1
  replace C2 := Lib.hid C2
  replace C3 := Lib.hid C3
  replace C4 := Lib.hid C4
  replace C5 := Lib.hid C5
  go_enter Try.func10, Try.ntmps10
  go_wp2_with fail
  refine (C1.out _).mono ?_
  rintro e w1 ⟨rfl, b1⟩
  have Ns : Whole (w.alloc (.cells #[.bool false, .int .i64 0, .int .i64 0, .int .u16 0, .int .u32 0, .int .u16 0, .int .u8 0, .int .u16 0, .int .u32 0, .int .u16 0, .int .u8 0] 27)) (w.heap.size) 27 #[.bool false, .int .i64 0, .int .i64 0, .int .u16 0, .int .u32 0, .int .u16 0, .int .u8 0, .int .u16 0, .int .u32 0, .int .u16 0, .int .u8 0] := by have := Whole.new w 27 #[.bool false, .int .i64 0, .int .i64 0, .int .u16 0, .int .u32 0, .int .u16 0, .int .u8 0, .int .u16 0, .int .u32 0, .int .u16 0, .int .u8 0]; first | with_reducible exact this | simpa using this
  have Ss1 := (Ns).below b1 (by have := (Ns).lt; first | with_reducible exact this | simpa using this)
  have HB1 := Lib.hid ((((Below.refl w.heap.size w).alloc ((Below.refl w.heap.size w)).size (.cells #[.bool false, .int .i64 0, .int .i64 0, .int .u16 0, .int .u32 0, .int .u16 0, .int .u8 0, .int .u16 0, .int .u32 0, .int .u16 0, .int .u8 0] 27))).trans (b1.mono (((Below.refl w.heap.size w).alloc ((Below.refl w.heap.size w)).size (.cells #[.bool false, .int .i64 0, .int .i64 0, .int .u16 0, .int .u32 0, .int .u16 0, .int .u8 0, .int .u16 0, .int .u32 0, .int .u16 0, .int .u8 0] 27))).size))
  have ls1 := Ss1.lt
  clear b1 Ns C1
  have s1_0 := Ss1.cell 0
  have fs1_0 := Ss1.free 0
  have s1_1 := Ss1.cell 1
  have fs1_1 := Ss1.free 1
  have s1_2 := Ss1.cell 2
  have fs1_2 := Ss1.free 2
  have s1_3 := Ss1.cell 3
  have fs1_3 := Ss1.free 3
  have s1_4 := Ss1.cell 4
  have fs1_4 := Ss1.free 4
  have s1_5 := Ss1.cell 5
  have fs1_5 := Ss1.free 5
  have s1_6 := Ss1.cell 6
  have fs1_6 := Ss1.free 6
  have s1_7 := Ss1.cell 7
  have fs1_7 := Ss1.free 7
  have s1_8 := Ss1.cell 8
  have fs1_8 := Ss1.free 8
  have s1_9 := Ss1.cell 9
  have fs1_9 := Ss1.free 9
  have s1_10 := Ss1.cell 10
  have fs1_10 := Ss1.free 10
  replace Ss1 := Lib.hid Ss1
  go_wp2_with fail
  refine (C2.out _).mono ?_
  rintro e w2 ⟨rfl, b2⟩
  have Na : Whole ((((((((((((w1.setCell ⟨w.heap.size, 0, none⟩ (.bool true)).setCell ⟨w.heap.size, 1, none⟩ (.int .i64 100)).setCell ⟨w.heap.size, 2, none⟩ (.int .i64 100)).setCell ⟨w.heap.size, 3, none⟩ (.int .u16 0)).setCell ⟨w.heap.size, 4, none⟩ (.int .u32 0)).setCell ⟨w.heap.size, 5, none⟩ (.int .u16 0)).setCell ⟨w.heap.size, 6, none⟩ (.int .u8 0)).setCell ⟨w.heap.size, 7, none⟩ (.int .u16 100)).setCell ⟨w.heap.size, 8, none⟩ (.int .u32 0)).setCell ⟨w.heap.size, 9, none⟩ (.int .u16 0)).setCell ⟨w.heap.size, 10, none⟩ (.int .u8 0)).alloc (.cells #[.int .u16 100, .int .u32 0, .int .u16 0, .int .u8 0] 25)) (w1.heap.size) 25 #[.int .u16 100, .int .u32 0, .int .u16 0, .int .u8 0] := by have := Whole.new (((((((((((w1.setCell ⟨w.heap.size, 0, none⟩ (.bool true)).setCell ⟨w.heap.size, 1, none⟩ (.int .i64 100)).setCell ⟨w.heap.size, 2, none⟩ (.int .i64 100)).setCell ⟨w.heap.size, 3, none⟩ (.int .u16 0)).setCell ⟨w.heap.size, 4, none⟩ (.int .u32 0)).setCell ⟨w.heap.size, 5, none⟩ (.int .u16 0)).setCell ⟨w.heap.size, 6, none⟩ (.int .u8 0)).setCell ⟨w.heap.size, 7, none⟩ (.int .u16 100)).setCell ⟨w.heap.size, 8, none⟩ (.int .u32 0)).setCell ⟨w.heap.size, 9, none⟩ (.int .u16 0)).setCell ⟨w.heap.size, 10, none⟩ (.int .u8 0)) 25 #[.int .u16 100, .int .u32 0, .int .u16 0, .int .u8 0]; first | with_reducible exact this | simpa using this
  have Ss2 := (((Whole.eleven (Ss1.out) (.bool true) (.int .i64 100) (.int .i64 100) (.int .u16 0) (.int .u32 0) (.int .u16 0) (.int .u8 0) (.int .u16 100) (.int .u32 0) (.int .u16 0) (.int .u8 0)).alloc (.cells #[.int .u16 100, .int .u32 0, .int .u16 0, .int .u8 0] 25))).below b2 (by have := (((Whole.eleven (Ss1.out) (.bool true) (.int .i64 100) (.int .i64 100) (.int .u16 0) (.int .u32 0) (.int .u16 0) (.int .u8 0) (.int .u16 100) (.int .u32 0) (.int .u16 0) (.int .u8 0)).alloc (.cells #[.int .u16 100, .int .u32 0, .int .u16 0, .int .u8 0] 25))).lt; first | with_reducible exact this | simpa using this)
  have Sa2 := (Na).below b2 (by have := (Na).lt; first | with_reducible exact this | simpa using this)
  have HB2 := Lib.hid ((((eleven_set (HB1.out) (show w.heap.size ≤ w.heap.size from by omega) (.bool true) (.int .i64 100) (.int .i64 100) (.int .u16 0) (.int .u32 0) (.int .u16 0) (.int .u8 0) (.int .u16 100) (.int .u32 0) (.int .u16 0) (.int .u8 0)).alloc ((eleven_set (HB1.out) (show w.heap.size ≤ w.heap.size from by omega) (.bool true) (.int .i64 100) (.int .i64 100) (.int .u16 0) (.int .u32 0) (.int .u16 0) (.int .u8 0) (.int .u16 100) (.int .u32 0) (.int .u16 0) (.int .u8 0))).size (.cells #[.int .u16 100, .int .u32 0, .int .u16 0, .int .u8 0] 25))).trans (b2.mono (((eleven_set (HB1.out) (show w.heap.size ≤ w.heap.size from by omega) (.bool true) (.int .i64 100) (.int .i64 100) (.int .u16 0) (.int .u32 0) (.int .u16 0) (.int .u8 0) (.int .u16 100) (.int .u32 0) (.int .u16 0) (.int .u8 0)).alloc ((eleven_set (HB1.out) (show w.heap.size ≤ w.heap.size from by omega) (.bool true) (.int .i64 100) (.int .i64 100) (.int .u16 0) (.int .u32 0) (.int .u16 0) (.int .u8 0) (.int .u16 100) (.int .u32 0) (.int .u16 0) (.int .u8 0))).size (.cells #[.int .u16 100, .int .u32 0, .int .u16 0, .int .u8 0] 25))).size))
  have ls2 := Ss2.lt
  have la2 := Sa2.lt
  clear b2 s1_0 fs1_0 s1_1 fs1_1 s1_2 fs1_2 s1_3 fs1_3 s1_4 fs1_4 s1_5 fs1_5 s1_6 fs1_6 s1_7 fs1_7 s1_8 fs1_8 s1_9 fs1_9 s1_10 fs1_10 Ss1 Na HB1 C2
  have s2_0 := Ss2.cell 0
  have fs2_0 := Ss2.free 0
  have s2_1 := Ss2.cell 1
  have fs2_1 := Ss2.free 1
  have s2_2 := Ss2.cell 2
  have fs2_2 := Ss2.free 2
  have s2_3 := Ss2.cell 3
  have fs2_3 := Ss2.free 3
  have s2_4 := Ss2.cell 4
  have fs2_4 := Ss2.free 4
  have s2_5 := Ss2.cell 5
  have fs2_5 := Ss2.free 5
  have s2_6 := Ss2.cell 6
  have fs2_6 := Ss2.free 6
  have s2_7 := Ss2.cell 7
  have fs2_7 := Ss2.free 7
  have s2_8 := Ss2.cell 8
  have fs2_8 := Ss2.free 8
  have s2_9 := Ss2.cell 9
  have fs2_9 := Ss2.free 9
  have s2_10 := Ss2.cell 10
  have fs2_10 := Ss2.free 10
  have a2_0 := Sa2.cell 0
  have fa2_0 := Sa2.free 0
  have a2_1 := Sa2.cell 1
  have fa2_1 := Sa2.free 1
  have a2_2 := Sa2.cell 2
  have fa2_2 := Sa2.free 2
  have a2_3 := Sa2.cell 3
  have fa2_3 := Sa2.free 3
  replace Ss2 := Lib.hid Ss2
  replace Sa2 := Lib.hid Sa2
  go_wp2_with fail
  refine (C3.out _).mono ?_
  rintro e w3 ⟨rfl, b3⟩
  have Ss3 := ((Whole.eleven (Ss2.out) (.bool true) (.int .i64 101) (.int .i64 101) (.int .u16 1) (.int .u32 0) (.int .u16 1) (.int .u8 0) (.int .u16 100) (.int .u32 0) (.int .u16 0) (.int .u8 0))).below b3 (by have := ((Whole.eleven (Ss2.out) (.bool true) (.int .i64 101) (.int .i64 101) (.int .u16 1) (.int .u32 0) (.int .u16 1) (.int .u8 0) (.int .u16 100) (.int .u32 0) (.int .u16 0) (.int .u8 0))).lt; first | with_reducible exact this | simpa using this)
  have Sa3 := ((Whole.eleven_far (Sa2.out) (show w1.heap.size ≠ w.heap.size from by omega) (.bool true) (.int .i64 101) (.int .i64 101) (.int .u16 1) (.int .u32 0) (.int .u16 1) (.int .u8 0) (.int .u16 100) (.int .u32 0) (.int .u16 0) (.int .u8 0))).below b3 (by have := ((Whole.eleven_far (Sa2.out) (show w1.heap.size ≠ w.heap.size from by omega) (.bool true) (.int .i64 101) (.int .i64 101) (.int .u16 1) (.int .u32 0) (.int .u16 1) (.int .u8 0) (.int .u16 100) (.int .u32 0) (.int .u16 0) (.int .u8 0))).lt; first | with_reducible exact this | simpa using this)
  have HB3 := Lib.hid (((eleven_set (HB2.out) (show w.heap.size ≤ w.heap.size from by omega) (.bool true) (.int .i64 101) (.int .i64 101) (.int .u16 1) (.int .u32 0) (.int .u16 1) (.int .u8 0) (.int .u16 100) (.int .u32 0) (.int .u16 0) (.int .u8 0))).trans (b3.mono ((eleven_set (HB2.out) (show w.heap.size ≤ w.heap.size from by omega) (.bool true) (.int .i64 101) (.int .i64 101) (.int .u16 1) (.int .u32 0) (.int .u16 1) (.int .u8 0) (.int .u16 100) (.int .u32 0) (.int .u16 0) (.int .u8 0))).size))
  have ls3 := Ss3.lt
  have la3 := Sa3.lt
  clear b3 s2_0 fs2_0 s2_1 fs2_1 s2_2 fs2_2 s2_3 fs2_3 s2_4 fs2_4 s2_5 fs2_5 s2_6 fs2_6 s2_7 fs2_7 s2_8 fs2_8 s2_9 fs2_9 s2_10 fs2_10 a2_0 fa2_0 a2_1 fa2_1 a2_2 fa2_2 a2_3 fa2_3 Ss2 Sa2 HB2 C3 ls2 la2
  have s3_0 := Ss3.cell 0
  have fs3_0 := Ss3.free 0
  have s3_1 := Ss3.cell 1
  have fs3_1 := Ss3.free 1
  have s3_2 := Ss3.cell 2
  have fs3_2 := Ss3.free 2
  have s3_3 := Ss3.cell 3
  have fs3_3 := Ss3.free 3
  have s3_4 := Ss3.cell 4
  have fs3_4 := Ss3.free 4
  have s3_5 := Ss3.cell 5
  have fs3_5 := Ss3.free 5
  have s3_6 := Ss3.cell 6
  have fs3_6 := Ss3.free 6
  have s3_7 := Ss3.cell 7
  have fs3_7 := Ss3.free 7
  have s3_8 := Ss3.cell 8
  have fs3_8 := Ss3.free 8
  have s3_9 := Ss3.cell 9
  have fs3_9 := Ss3.free 9
  have s3_10 := Ss3.cell 10
  have fs3_10 := Ss3.free 10
  have a3_0 := Sa3.cell 0
  have fa3_0 := Sa3.free 0
  have a3_1 := Sa3.cell 1
  have fa3_1 := Sa3.free 1
  have a3_2 := Sa3.cell 2
  have fa3_2 := Sa3.free 2
  have a3_3 := Sa3.cell 3
  have fa3_3 := Sa3.free 3
  replace Ss3 := Lib.hid Ss3
  replace Sa3 := Lib.hid Sa3
  go_wp2_with fail
  refine (C4.out _).mono ?_
  rintro e w4 ⟨rfl, b4⟩
  have Nb : Whole ((((((((((((w3.setCell ⟨w.heap.size, 0, none⟩ (.bool true)).setCell ⟨w.heap.size, 1, none⟩ (.int .i64 102)).setCell ⟨w.heap.size, 2, none⟩ (.int .i64 101)).setCell ⟨w.heap.size, 3, none⟩ (.int .u16 1)).setCell ⟨w.heap.size, 4, none⟩ (.int .u32 0)).setCell ⟨w.heap.size, 5, none⟩ (.int .u16 1)).setCell ⟨w.heap.size, 6, none⟩ (.int .u8 0)).setCell ⟨w.heap.size, 7, none⟩ (.int .u16 101)).setCell ⟨w.heap.size, 8, none⟩ (.int .u32 0)).setCell ⟨w.heap.size, 9, none⟩ (.int .u16 8)).setCell ⟨w.heap.size, 10, none⟩ (.int .u8 0)).alloc (.cells #[.int .u16 101, .int .u32 0, .int .u16 8, .int .u8 0] 25)) (w3.heap.size) 25 #[.int .u16 101, .int .u32 0, .int .u16 8, .int .u8 0] := by have := Whole.new (((((((((((w3.setCell ⟨w.heap.size, 0, none⟩ (.bool true)).setCell ⟨w.heap.size, 1, none⟩ (.int .i64 102)).setCell ⟨w.heap.size, 2, none⟩ (.int .i64 101)).setCell ⟨w.heap.size, 3, none⟩ (.int .u16 1)).setCell ⟨w.heap.size, 4, none⟩ (.int .u32 0)).setCell ⟨w.heap.size, 5, none⟩ (.int .u16 1)).setCell ⟨w.heap.size, 6, none⟩ (.int .u8 0)).setCell ⟨w.heap.size, 7, none⟩ (.int .u16 101)).setCell ⟨w.heap.size, 8, none⟩ (.int .u32 0)).setCell ⟨w.heap.size, 9, none⟩ (.int .u16 8)).setCell ⟨w.heap.size, 10, none⟩ (.int .u8 0)) 25 #[.int .u16 101, .int .u32 0, .int .u16 8, .int .u8 0]; first | with_reducible exact this | simpa using this
  have Ss4 := (((Whole.eleven (Ss3.out) (.bool true) (.int .i64 102) (.int .i64 101) (.int .u16 1) (.int .u32 0) (.int .u16 1) (.int .u8 0) (.int .u16 101) (.int .u32 0) (.int .u16 8) (.int .u8 0)).alloc (.cells #[.int .u16 101, .int .u32 0, .int .u16 8, .int .u8 0] 25))).below b4 (by have := (((Whole.eleven (Ss3.out) (.bool true) (.int .i64 102) (.int .i64 101) (.int .u16 1) (.int .u32 0) (.int .u16 1) (.int .u8 0) (.int .u16 101) (.int .u32 0) (.int .u16 8) (.int .u8 0)).alloc (.cells #[.int .u16 101, .int .u32 0, .int .u16 8, .int .u8 0] 25))).lt; first | with_reducible exact this | simpa using this)
  have Sa4 := (((Whole.eleven_far (Sa3.out) (show w1.heap.size ≠ w.heap.size from by omega) (.bool true) (.int .i64 102) (.int .i64 101) (.int .u16 1) (.int .u32 0) (.int .u16 1) (.int .u8 0) (.int .u16 101) (.int .u32 0) (.int .u16 8) (.int .u8 0)).alloc (.cells #[.int .u16 101, .int .u32 0, .int .u16 8, .int .u8 0] 25))).below b4 (by have := (((Whole.eleven_far (Sa3.out) (show w1.heap.size ≠ w.heap.size from by omega) (.bool true) (.int .i64 102) (.int .i64 101) (.int .u16 1) (.int .u32 0) (.int .u16 1) (.int .u8 0) (.int .u16 101) (.int .u32 0) (.int .u16 8) (.int .u8 0)).alloc (.cells #[.int .u16 101, .int .u32 0, .int .u16 8, .int .u8 0] 25))).lt; first | with_reducible exact this | simpa using this)
  have Sb4 := (Nb).below b4 (by have := (Nb).lt; first | with_reducible exact this | simpa using this)
  have HB4 := Lib.hid ((((eleven_set (HB3.out) (show w.heap.size ≤ w.heap.size from by omega) (.bool true) (.int .i64 102) (.int .i64 101) (.int .u16 1) (.int .u32 0) (.int .u16 1) (.int .u8 0) (.int .u16 101) (.int .u32 0) (.int .u16 8) (.int .u8 0)).alloc ((eleven_set (HB3.out) (show w.heap.size ≤ w.heap.size from by omega) (.bool true) (.int .i64 102) (.int .i64 101) (.int .u16 1) (.int .u32 0) (.int .u16 1) (.int .u8 0) (.int .u16 101) (.int .u32 0) (.int .u16 8) (.int .u8 0))).size (.cells #[.int .u16 101, .int .u32 0, .int .u16 8, .int .u8 0] 25))).trans (b4.mono (((eleven_set (HB3.out) (show w.heap.size ≤ w.heap.size from by omega) (.bool true) (.int .i64 102) (.int .i64 101) (.int .u16 1) (.int .u32 0) (.int .u16 1) (.int .u8 0) (.int .u16 101) (.int .u32 0) (.int .u16 8) (.int .u8 0)).alloc ((eleven_set (HB3.out) (show w.heap.size ≤ w.heap.size from by omega) (.bool true) (.int .i64 102) (.int .i64 101) (.int .u16 1) (.int .u32 0) (.int .u16 1) (.int .u8 0) (.int .u16 101) (.int .u32 0) (.int .u16 8) (.int .u8 0))).size (.cells #[.int .u16 101, .int .u32 0, .int .u16 8, .int .u8 0] 25))).size))
  have ls4 := Ss4.lt
  have la4 := Sa4.lt
  have lb4 := Sb4.lt
  clear b4 s3_0 fs3_0 s3_1 fs3_1 s3_2 fs3_2 s3_3 fs3_3 s3_4 fs3_4 s3_5 fs3_5 s3_6 fs3_6 s3_7 fs3_7 s3_8 fs3_8 s3_9 fs3_9 s3_10 fs3_10 a3_0 fa3_0 a3_1 fa3_1 a3_2 fa3_2 a3_3 fa3_3 Ss3 Sa3 Nb HB3 C4
  have s4_0 := Ss4.cell 0
  have fs4_0 := Ss4.free 0
  have s4_1 := Ss4.cell 1
  have fs4_1 := Ss4.free 1
  have s4_2 := Ss4.cell 2
  have fs4_2 := Ss4.free 2
  have s4_3 := Ss4.cell 3
  have fs4_3 := Ss4.free 3
  have s4_4 := Ss4.cell 4
  have fs4_4 := Ss4.free 4
  have s4_5 := Ss4.cell 5
  have fs4_5 := Ss4.free 5
  have s4_6 := Ss4.cell 6
  have fs4_6 := Ss4.free 6
  have s4_7 := Ss4.cell 7
  have fs4_7 := Ss4.free 7
  have s4_8 := Ss4.cell 8
  have fs4_8 := Ss4.free 8
  have s4_9 := Ss4.cell 9
  have fs4_9 := Ss4.free 9
  have s4_10 := Ss4.cell 10
  have fs4_10 := Ss4.free 10
  have a4_0 := Sa4.cell 0
  have fa4_0 := Sa4.free 0
  have a4_1 := Sa4.cell 1
  have fa4_1 := Sa4.free 1
  have a4_2 := Sa4.cell 2
  have fa4_2 := Sa4.free 2
  have a4_3 := Sa4.cell 3
  have fa4_3 := Sa4.free 3
  have b4_0 := Sb4.cell 0
  have fb4_0 := Sb4.free 0
  have b4_1 := Sb4.cell 1
  have fb4_1 := Sb4.free 1
  have b4_2 := Sb4.cell 2
  have fb4_2 := Sb4.free 2
  have b4_3 := Sb4.cell 3
  have fb4_3 := Sb4.free 3
  replace Ss4 := Lib.hid Ss4
  replace Sa4 := Lib.hid Sa4
  replace Sb4 := Lib.hid Sb4
  go_wp2_with fail
  refine (C5.out _).mono ?_
  rintro e w5 ⟨rfl, b5⟩
  have Nc : Whole ((((((((((((w4.setCell ⟨w.heap.size, 0, none⟩ (.bool true)).setCell ⟨w.heap.size, 1, none⟩ (.int .i64 7)).setCell ⟨w.heap.size, 2, none⟩ (.int .i64 7)).setCell ⟨w.heap.size, 3, none⟩ (.int .u16 65441)).setCell ⟨w.heap.size, 4, none⟩ (.int .u32 4294964301)).setCell ⟨w.heap.size, 5, none⟩ (.int .u16 65527)).setCell ⟨w.heap.size, 6, none⟩ (.int .u8 255)).setCell ⟨w.heap.size, 7, none⟩ (.int .u16 102)).setCell ⟨w.heap.size, 8, none⟩ (.int .u32 3000)).setCell ⟨w.heap.size, 9, none⟩ (.int .u16 9)).setCell ⟨w.heap.size, 10, none⟩ (.int .u8 1)).alloc (.cells #[.int .u16 102, .int .u32 3000, .int .u16 9, .int .u8 1] 25)) (w4.heap.size) 25 #[.int .u16 102, .int .u32 3000, .int .u16 9, .int .u8 1] := by have := Whole.new (((((((((((w4.setCell ⟨w.heap.size, 0, none⟩ (.bool true)).setCell ⟨w.heap.size, 1, none⟩ (.int .i64 7)).setCell ⟨w.heap.size, 2, none⟩ (.int .i64 7)).setCell ⟨w.heap.size, 3, none⟩ (.int .u16 65441)).setCell ⟨w.heap.size, 4, none⟩ (.int .u32 4294964301)).setCell ⟨w.heap.size, 5, none⟩ (.int .u16 65527)).setCell ⟨w.heap.size, 6, none⟩ (.int .u8 255)).setCell ⟨w.heap.size, 7, none⟩ (.int .u16 102)).setCell ⟨w.heap.size, 8, none⟩ (.int .u32 3000)).setCell ⟨w.heap.size, 9, none⟩ (.int .u16 9)).setCell ⟨w.heap.size, 10, none⟩ (.int .u8 1)) 25 #[.int .u16 102, .int .u32 3000, .int .u16 9, .int .u8 1]; first | with_reducible exact this | simpa using this
  have Ss5 := (((Whole.eleven (Ss4.out) (.bool true) (.int .i64 7) (.int .i64 7) (.int .u16 65441) (.int .u32 4294964301) (.int .u16 65527) (.int .u8 255) (.int .u16 102) (.int .u32 3000) (.int .u16 9) (.int .u8 1)).alloc (.cells #[.int .u16 102, .int .u32 3000, .int .u16 9, .int .u8 1] 25))).below b5 (by have := (((Whole.eleven (Ss4.out) (.bool true) (.int .i64 7) (.int .i64 7) (.int .u16 65441) (.int .u32 4294964301) (.int .u16 65527) (.int .u8 255) (.int .u16 102) (.int .u32 3000) (.int .u16 9) (.int .u8 1)).alloc (.cells #[.int .u16 102, .int .u32 3000, .int .u16 9, .int .u8 1] 25))).lt; first | with_reducible exact this | simpa using this)
  have Sa5 := (((Whole.eleven_far (Sa4.out) (show w1.heap.size ≠ w.heap.size from by omega) (.bool true) (.int .i64 7) (.int .i64 7) (.int .u16 65441) (.int .u32 4294964301) (.int .u16 65527) (.int .u8 255) (.int .u16 102) (.int .u32 3000) (.int .u16 9) (.int .u8 1)).alloc (.cells #[.int .u16 102, .int .u32 3000, .int .u16 9, .int .u8 1] 25))).below b5 (by have := (((Whole.eleven_far (Sa4.out) (show w1.heap.size ≠ w.heap.size from by omega) (.bool true) (.int .i64 7) (.int .i64 7) (.int .u16 65441) (.int .u32 4294964301) (.int .u16 65527) (.int .u8 255) (.int .u16 102) (.int .u32 3000) (.int .u16 9) (.int .u8 1)).alloc (.cells #[.int .u16 102, .int .u32 3000, .int .u16 9, .int .u8 1] 25))).lt; first | with_reducible exact this | simpa using this)
  have Sb5 := (((Whole.eleven_far (Sb4.out) (show w3.heap.size ≠ w.heap.size from by omega) (.bool true) (.int .i64 7) (.int .i64 7) (.int .u16 65441) (.int .u32 4294964301) (.int .u16 65527) (.int .u8 255) (.int .u16 102) (.int .u32 3000) (.int .u16 9) (.int .u8 1)).alloc (.cells #[.int .u16 102, .int .u32 3000, .int .u16 9, .int .u8 1] 25))).below b5 (by have := (((Whole.eleven_far (Sb4.out) (show w3.heap.size ≠ w.heap.size from by omega) (.bool true) (.int .i64 7) (.int .i64 7) (.int .u16 65441) (.int .u32 4294964301) (.int .u16 65527) (.int .u8 255) (.int .u16 102) (.int .u32 3000) (.int .u16 9) (.int .u8 1)).alloc (.cells #[.int .u16 102, .int .u32 3000, .int .u16 9, .int .u8 1] 25))).lt; first | with_reducible exact this | simpa using this)
  have Sc5 := (Nc).below b5 (by have := (Nc).lt; first | with_reducible exact this | simpa using this)
  have HB5 := Lib.hid ((((eleven_set (HB4.out) (show w.heap.size ≤ w.heap.size from by omega) (.bool true) (.int .i64 7) (.int .i64 7) (.int .u16 65441) (.int .u32 4294964301) (.int .u16 65527) (.int .u8 255) (.int .u16 102) (.int .u32 3000) (.int .u16 9) (.int .u8 1)).alloc ((eleven_set (HB4.out) (show w.heap.size ≤ w.heap.size from by omega) (.bool true) (.int .i64 7) (.int .i64 7) (.int .u16 65441) (.int .u32 4294964301) (.int .u16 65527) (.int .u8 255) (.int .u16 102) (.int .u32 3000) (.int .u16 9) (.int .u8 1))).size (.cells #[.int .u16 102, .int .u32 3000, .int .u16 9, .int .u8 1] 25))).trans (b5.mono (((eleven_set (HB4.out) (show w.heap.size ≤ w.heap.size from by omega) (.bool true) (.int .i64 7) (.int .i64 7) (.int .u16 65441) (.int .u32 4294964301) (.int .u16 65527) (.int .u8 255) (.int .u16 102) (.int .u32 3000) (.int .u16 9) (.int .u8 1)).alloc ((eleven_set (HB4.out) (show w.heap.size ≤ w.heap.size from by omega) (.bool true) (.int .i64 7) (.int .i64 7) (.int .u16 65441) (.int .u32 4294964301) (.int .u16 65527) (.int .u8 255) (.int .u16 102) (.int .u32 3000) (.int .u16 9) (.int .u8 1))).size (.cells #[.int .u16 102, .int .u32 3000, .int .u16 9, .int .u8 1] 25))).size))
  have ls5 := Ss5.lt
  have la5 := Sa5.lt
  have lb5 := Sb5.lt
  have lc5 := Sc5.lt
  clear b5 s4_0 fs4_0 s4_1 fs4_1 s4_2 fs4_2 s4_3 fs4_3 s4_4 fs4_4 s4_5 fs4_5 s4_6 fs4_6 s4_7 fs4_7 s4_8 fs4_8 s4_9 fs4_9 s4_10 fs4_10 a4_0 fa4_0 a4_1 fa4_1 a4_2 fa4_2 a4_3 fa4_3 b4_0 fb4_0 b4_1 fb4_1 b4_2 fb4_2 b4_3 fb4_3 Ss4 Sa4 Sb4 Nc HB4 C5
  have s5_0 := Ss5.cell 0
  have fs5_0 := Ss5.free 0
  have s5_1 := Ss5.cell 1
  have fs5_1 := Ss5.free 1
  have s5_2 := Ss5.cell 2
  have fs5_2 := Ss5.free 2
  have s5_3 := Ss5.cell 3
  have fs5_3 := Ss5.free 3
  have s5_4 := Ss5.cell 4
  have fs5_4 := Ss5.free 4
  have s5_5 := Ss5.cell 5
  have fs5_5 := Ss5.free 5
  have s5_6 := Ss5.cell 6
  have fs5_6 := Ss5.free 6
  have s5_7 := Ss5.cell 7
  have fs5_7 := Ss5.free 7
  have s5_8 := Ss5.cell 8
  have fs5_8 := Ss5.free 8
  have s5_9 := Ss5.cell 9
  have fs5_9 := Ss5.free 9
  have s5_10 := Ss5.cell 10
  have fs5_10 := Ss5.free 10
  have a5_0 := Sa5.cell 0
  have fa5_0 := Sa5.free 0
  have a5_1 := Sa5.cell 1
  have fa5_1 := Sa5.free 1
  have a5_2 := Sa5.cell 2
  have fa5_2 := Sa5.free 2
  have a5_3 := Sa5.cell 3
  have fa5_3 := Sa5.free 3
  have b5_0 := Sb5.cell 0
  have fb5_0 := Sb5.free 0
  have b5_1 := Sb5.cell 1
  have fb5_1 := Sb5.free 1
  have b5_2 := Sb5.cell 2
  have fb5_2 := Sb5.free 2
  have b5_3 := Sb5.cell 3
  have fb5_3 := Sb5.free 3
  have c5_0 := Sc5.cell 0
  have fc5_0 := Sc5.free 0
  have c5_1 := Sc5.cell 1
  have fc5_1 := Sc5.free 1
  have c5_2 := Sc5.cell 2
  have fc5_2 := Sc5.free 2
  have c5_3 := Sc5.cell 3
  have fc5_3 := Sc5.free 3
  replace Ss5 := Lib.hid Ss5
  replace Sa5 := Lib.hid Sa5
  replace Sb5 := Lib.hid Sb5
  replace Sc5 := Lib.hid Sc5
  go_wp2
  go_ret
  exact ⟨ret_bool rfl, ((HB5.out.alloc (HB5.out).size (.cells #[.bool true, .int .i64 7, .int .i64 7, .int .u16 65441, .int .u32 4294964301, .int .u16 65527, .int .u8 255, .int .u16 102, .int .u32 3000, .int .u16 9, .int .u8 1] 27)).alloc ((HB5.out.alloc (HB5.out).size (.cells #[.bool true, .int .i64 7, .int .i64 7, .int .u16 65441, .int .u32 4294964301, .int .u16 65527, .int .u8 255, .int .u16 102, .int .u32 3000, .int .u16 9, .int .u8 1] 27))).size (.cells #[.int .u16 0, .int .u32 0, .int .u16 0, .int .u8 0] 25))⟩
end Go.Proofs.Ytpemikncbolkbaa
