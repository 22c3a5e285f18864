/-
  The document's read, kind 1 (layer 9).
-/
import Derived.Test.YtcjmiidnhbmclaaDoorRdA
import Derived.Deep.AppendLies
namespace Go.Proofs.YtcjmiidnhbmclaaDoor
set_option maxRecDepth 1000000
set_option linter.unusedSimpArgs false
open Go.RowKit

set_option maxHeartbeats 12800000 in
theorem dread1_any (s : List UInt8) (c : Nat) (w : World) (hl : s.length ≤ 1500) (hc : c < 32) :
    Calls Tryd.prog 29 #[.int .i64 201, .int .i64 (c : Int), .string (str s)] w (RdR (readM 201 c s) w) := by
  obtain ⟨nd, hnd⟩ : ∃ n, 4 + 24 * c = n := ⟨_, rfl⟩
  have hndi : 4 + 24 * (c : Int) = (nd : Int) := by omega
  by_cases h8 : (s.length : Int) < (nd : Int)
  · have HP : Hid (readM 201 c s = (zeroM, 10)) := Lib.hid (by unfold readM; simp [show s.length < 4 + 24 * c by omega])
    clear hnd
    go_enter Tryd.func29, Tryd.ntmps29
    go_wp2_with fail
    exact bodyPost_ret (v := .tuple #[.agg #[.int .i64 0, .int .u32 0, .int .u32 0, .int .u64 0, .int .u32 0, .int .u32 0, .int .u32 0, .slice none 0 0, .slice none 0 0, .slice none 0 0, .slice none 0 0, .int .u8 0], .int .i64 10]) (by simp [results, Tryd.results29, go_sem]) rfl (RdR.plain zeroM 10 (((Below.refl _ _).alloc (Nat.le_refl _) _).alloc (by simp) _) HP.out rfl rfl rfl rfl)
  · obtain ⟨x1, hx1⟩ : ∃ x, numAt s 0 4 = x := ⟨_, rfl⟩
    have HP : Hid (readM 201 c s = (⟨1, x1, 0, 0, 0, 0, 0, rdReps s 4 c, [], [], [], 0⟩, 0)) := Lib.hid (by unfold readM; simp [show ¬ s.length < 4 + 24 * c by omega, hx1])
    have b1 : (x1 : Int) < 4294967296 := by have := numAt_lt s 0 4; rw [hx1] at this; omega
    have C1 := Lib.hid (fun w => rnum_any s 0 4 x1 hx1 w (by unfold maxLen; omega) (by decide) (by decide) (by omega))
    clear hx1
    have HND := Lib.hid hnd
    clear hnd
    go_enter Tryd.func29, Tryd.ntmps29
    go_wp2_with fail
    have WZ := (Whole.new w 50 #[.int .i64 0, .int .u32 0, .int .u32 0, .int .u64 0, .int .u32 0, .int .u32 0, .int .u32 0, .slice none 0 0, .slice none 0 0, .slice none 0 0, .slice none 0 0, .int .u8 0]).alloc (.cells #[.int .i64 1, .int .u32 0, .int .u32 0, .int .u64 0, .int .u32 0, .int .u32 0, .int .u32 0, .slice none 0 0, .slice none 0 0, .slice none 0 0, .slice none 0 0, .int .u8 0] 50)
    have WM := Whole.new2 w (.cells #[.int .i64 0, .int .u32 0, .int .u32 0, .int .u64 0, .int .u32 0, .int .u32 0, .int .u32 0, .slice none 0 0, .slice none 0 0, .slice none 0 0, .slice none 0 0, .int .u8 0] 50) 50 #[.int .i64 1, .int .u32 0, .int .u32 0, .int .u64 0, .int .u32 0, .int .u32 0, .int .u32 0, .slice none 0 0, .slice none 0 0, .slice none 0 0, .slice none 0 0, .int .u8 0]
    have B0 := ((Below.refl w.heap.size w).alloc (Nat.le_refl _) (.cells #[.int .i64 0, .int .u32 0, .int .u32 0, .int .u64 0, .int .u32 0, .int .u32 0, .int .u32 0, .slice none 0 0, .slice none 0 0, .slice none 0 0, .slice none 0 0, .int .u8 0] 50)).alloc (by simp) (.cells #[.int .i64 1, .int .u32 0, .int .u32 0, .int .u64 0, .int .u32 0, .int .u32 0, .int .u32 0, .slice none 0 0, .slice none 0 0, .slice none 0 0, .slice none 0 0, .int .u8 0] 50)
    obtain ⟨v0, hv0⟩ : ∃ w0, w0 = (w.alloc (.cells #[.int .i64 0, .int .u32 0, .int .u32 0, .int .u64 0, .int .u32 0, .int .u32 0, .int .u32 0, .slice none 0 0, .slice none 0 0, .slice none 0 0, .slice none 0 0, .int .u8 0] 50)).alloc (.cells #[.int .i64 1, .int .u32 0, .int .u32 0, .int .u64 0, .int .u32 0, .int .u32 0, .int .u32 0, .slice none 0 0, .slice none 0 0, .slice none 0 0, .slice none 0 0, .int .u8 0] 50) := ⟨_, rfl⟩
    rw [← hv0] at WZ WM B0 ⊢
    clear hv0
    obtain ⟨gz, hgz⟩ : ∃ g, g = w.heap.size := ⟨_, rfl⟩
    rw [← hgz] at WZ WM ⊢
    have HGZ := Lib.hid hgz
    have HZ := Lib.hid WZ
    have HB := Lib.hid B0
    have HM := Lib.hid WM
    clear hgz WZ B0 WM
    refine (C1.out v0).mono ?_
    rintro e w1 ⟨rfl, k1⟩
    have W1 := HM.out.below k1 HM.out.lt
    have HB1 := Lib.hid (bnext HB.out k1)
    have HZ1 := Lib.hid (HZ.out.below k1 HZ.out.lt)
    have q0 : w1.cell? ⟨gz + 1, 0, none⟩ = some (.int .i64 1) := W1.cell 0
    have q1 : w1.cell? ⟨gz + 1, 1, none⟩ = some (.int .u32 0) := W1.cell 1
    have f1 := W1.free 1
    have HW1 := Lib.hid W1
    clear k1 HB HZ HM W1
    go_wp2_with fail
    obtain ⟨v1, hv1⟩ : ∃ v, v = w1.setCell ⟨gz + 1, 1, none⟩ (.int .u32 (x1 : Int)) := ⟨_, rfl⟩
    have HM : Hid (Whole v1 (gz + 1) 50 #[.int .i64 1, .int .u32 (x1 : Int), .int .u32 0, .int .u64 0, .int .u32 0, .int .u32 0, .int .u32 0, .slice none 0 0, .slice none 0 0, .slice none 0 0, .slice none 0 0, .int .u8 0]) := Lib.hid (by rw [hv1]; exact HW1.out.set 1 (.int .u32 (x1 : Int)))
    have HZ : Hid (Whole v1 gz 50 #[.int .i64 0, .int .u32 0, .int .u32 0, .int .u64 0, .int .u32 0, .int .u32 0, .int .u32 0, .slice none 0 0, .slice none 0 0, .slice none 0 0, .slice none 0 0, .int .u8 0]) := Lib.hid (by rw [hv1]; exact HZ1.out.far (show gz ≠ gz + 1 by omega) (.int .u32 (x1 : Int)))
    have HB : Hid (Below w.heap.size w v1) := Lib.hid (by rw [hv1]; exact HB1.out.setCell (show w.heap.size ≤ gz + 1 by have := HGZ.out; omega) (.int .u32 (x1 : Int)))
    rw [← hv1]
    clear hv1 q0 q1 f1 HW1 HZ1 HB1
    go_loopw [12] (fun i wr => ∃ (k : Nat) (A : Option Addr) (cc : Nat), k ≤ c ∧ i = .int .i64 k ∧ Whole wr (gz + 1) 50 #[.int .i64 1, .int .u32 (x1 : Int), .int .u32 0, .int .u64 0, .int .u32 0, .int .u32 0, .int .u32 0, .slice A k cc, .slice none 0 0, .slice none 0 0, .slice none 0 0, .int .u8 0] ∧ Whole wr gz 50 #[.int .i64 0, .int .u32 0, .int .u32 0, .int .u64 0, .int .u32 0, .int .u32 0, .int .u32 0, .slice none 0 0, .slice none 0 0, .slice none 0 0, .slice none 0 0, .int .u8 0] ∧ wr.ownsRow (gz + 2) 61 7 (.slice A k cc) k (repC (rdReps s 4 k)) ∧ Below w.heap.size w wr) (fun i _ => c - (intOf i).toNat)
    case atStart => exact ⟨0, none, 0, Nat.zero_le _, rfl, HM.out, HZ.out, World.ownsRow_nil _ _ _ _, HB.out⟩
    case round =>
      clear HM HZ HB
      obtain ⟨k, A, cc, hk, rfl, WM, WZ, hown, hb⟩ := hrel
      by_cases hlt : k < c
      · have hnd := HND.out
        obtain ⟨kk, hkk⟩ : ∃ q, 4 + 24 * k = q := ⟨_, rfl⟩
        have hkki : 4 + 24 * (k : Int) = (kk : Int) := by omega
        have hkb : kk + 24 ≤ s.length := by omega
        obtain ⟨y0, hy0⟩ : ∃ x, numAt s (kk) 4 = x := ⟨_, rfl⟩
        obtain ⟨y2, hy2⟩ : ∃ x, numAt s (kk + 5) 3 = x := ⟨_, rfl⟩
        obtain ⟨y3, hy3⟩ : ∃ x, numAt s (kk + 8) 4 = x := ⟨_, rfl⟩
        obtain ⟨y4, hy4⟩ : ∃ x, numAt s (kk + 12) 4 = x := ⟨_, rfl⟩
        obtain ⟨y5, hy5⟩ : ∃ x, numAt s (kk + 16) 4 = x := ⟨_, rfl⟩
        obtain ⟨y6, hy6⟩ : ∃ x, numAt s (kk + 20) 4 = x := ⟨_, rfl⟩
        obtain ⟨y1, hy1⟩ : ∃ x, numAt s (kk + 4) 1 = x := ⟨_, rfl⟩
        have HLK : Hid (repC (rdReps s 4 (k + 1)) = repC (rdReps s 4 k) ++ [.int .u32 (y0 : Int), .int .u8 (y1 : Int), .int .u32 (y2 : Int), .int .u32 (y3 : Int), .int .u32 (y4 : Int), .int .u32 (y5 : Int), .int .u32 (y6 : Int)]) := Lib.hid (by rw [rdReps_succ, hkk]; simp [repC, rdRep, Rp.cells, hy0, hy1, hy2, hy3, hy4, hy5, hy6])
        have D0 := Lib.hid (fun w => rnum_any s kk 4 y0 hy0 w (by unfold maxLen; omega) (by decide) (by decide) (by omega))
        have g0 : IntKind.u32.wrap (y0 : Int) = (y0 : Int) := u32_nat9 y0 (by have := numAt_lt s kk 4; rw [hy0] at this; omega)
        obtain ⟨kk5, hkk5⟩ : ∃ q, kk + 5 = q := ⟨_, rfl⟩
        have e2 : IntKind.i64.wrap ((kk : Int) + 5) = (kk5 : Int) := i64_sum9 kk 5 kk5 hkk5 (by omega)
        rw [hkk5] at hy2
        have D2 := Lib.hid (fun w => rnum_any s kk5 3 y2 hy2 w (by unfold maxLen; omega) (by decide) (by decide) (by omega))
        have g2 : IntKind.u32.wrap (y2 : Int) = (y2 : Int) := u32_nat9 y2 (by have := numAt_lt s kk5 3; rw [hy2] at this; omega)
        obtain ⟨kk8, hkk8⟩ : ∃ q, kk + 8 = q := ⟨_, rfl⟩
        have e3 : IntKind.i64.wrap ((kk : Int) + 8) = (kk8 : Int) := i64_sum9 kk 8 kk8 hkk8 (by omega)
        rw [hkk8] at hy3
        have D3 := Lib.hid (fun w => rnum_any s kk8 4 y3 hy3 w (by unfold maxLen; omega) (by decide) (by decide) (by omega))
        have g3 : IntKind.u32.wrap (y3 : Int) = (y3 : Int) := u32_nat9 y3 (by have := numAt_lt s kk8 4; rw [hy3] at this; omega)
        obtain ⟨kk12, hkk12⟩ : ∃ q, kk + 12 = q := ⟨_, rfl⟩
        have e4 : IntKind.i64.wrap ((kk : Int) + 12) = (kk12 : Int) := i64_sum9 kk 12 kk12 hkk12 (by omega)
        rw [hkk12] at hy4
        have D4 := Lib.hid (fun w => rnum_any s kk12 4 y4 hy4 w (by unfold maxLen; omega) (by decide) (by decide) (by omega))
        have g4 : IntKind.u32.wrap (y4 : Int) = (y4 : Int) := u32_nat9 y4 (by have := numAt_lt s kk12 4; rw [hy4] at this; omega)
        obtain ⟨kk16, hkk16⟩ : ∃ q, kk + 16 = q := ⟨_, rfl⟩
        have e5 : IntKind.i64.wrap ((kk : Int) + 16) = (kk16 : Int) := i64_sum9 kk 16 kk16 hkk16 (by omega)
        rw [hkk16] at hy5
        have D5 := Lib.hid (fun w => rnum_any s kk16 4 y5 hy5 w (by unfold maxLen; omega) (by decide) (by decide) (by omega))
        have g5 : IntKind.u32.wrap (y5 : Int) = (y5 : Int) := u32_nat9 y5 (by have := numAt_lt s kk16 4; rw [hy5] at this; omega)
        obtain ⟨kk20, hkk20⟩ : ∃ q, kk + 20 = q := ⟨_, rfl⟩
        have e6 : IntKind.i64.wrap ((kk : Int) + 20) = (kk20 : Int) := i64_sum9 kk 20 kk20 hkk20 (by omega)
        rw [hkk20] at hy6
        have D6 := Lib.hid (fun w => rnum_any s kk20 4 y6 hy6 w (by unfold maxLen; omega) (by decide) (by decide) (by omega))
        have g6 : IntKind.u32.wrap (y6 : Int) = (y6 : Int) := u32_nat9 y6 (by have := numAt_lt s kk20 4; rw [hy6] at this; omega)
        obtain ⟨kk4, hkk4⟩ : ∃ q, kk + 4 = q := ⟨_, rfl⟩
        have e1 : IntKind.i64.wrap ((kk : Int) + 4) = (kk4 : Int) := i64_sum9 kk 4 kk4 hkk4 (by omega)
        rw [hkk4] at hy1
        have r1 := run_byte9 s kk4 y1 (by omega) hy1
        have hi1 : (0 : Int) ≤ (k : Int) := by omega
        have hi2 : (k : Int) < (c : Int) := by omega
        have HM := Lib.hid WM
        have HZ := Lib.hid WZ
        have HO := Lib.hid hown
        have HB := Lib.hid hb
        clear hnd hkk hkk4 hkk5 hkk8 hkk12 hkk16 hkk20 hkb hy0 hy1 hy2 hy3 hy4 hy5 hy6 WM WZ hown hb
        obtain ⟨i0, hi0, hz0, hz1, hz2⟩ := info_parts info_R9
        have HI0 := Lib.hid hi0
        have HZ0 := Lib.hid hz0
        have HZ1 := Lib.hid hz1
        have HZ2 := Lib.hid hz2
        have HNE : Hid (∀ q, (Value.slice A k cc).ownBlock = some q → gz + 2 ≤ q) := Lib.hid (fun q hq => (HO.out.lt q hq).1)
        clear hi0 hz0 hz1 hz2
        go_wp2_with fail
        refine wp_region_X (S := fun w' => w'.cell? ⟨gz + 1, 7, none⟩ = some (.slice A k cc)) [39] (by kernel_rfl) (HM.out.cell 7) (fun hHeld0 => ?_)
        refine wpAnyX_take (i := 0) [1, 37, 38, 39] (v := ?_) rfl (by kernel_rfl) (by kernel_rfl) (by kernel_rfl) (by kernel_rfl) (fun _ _ _ h => h) (Or.inl ⟨by kernel_rfl, ?_⟩) (by assumption) ?_
        rotate_left 1
        · (intro w hSw; have q0 := hSw; go_simp; try (with_reducible rfl))
        (try simp only [Act.put, List.getElem_toArray, List.getElem_cons_succ, List.getElem_cons_zero, List.setIfInBounds_toArray, List.set_cons_zero, List.set_cons_succ])
        refine wpAnyX_take (i := 1) [37, 38, 39] (v := ?_) rfl (by kernel_rfl) (by kernel_rfl) (by kernel_rfl) (by kernel_rfl) (fun _ _ _ h => h) (Or.inl ⟨by kernel_rfl, ?_⟩) (by assumption) ?_
        rotate_left 1
        · (intro w hSw; have q0 := hSw; go_simp; try (with_reducible rfl))
        (try simp only [Act.put, List.getElem_toArray, List.getElem_cons_succ, List.getElem_cons_zero, List.setIfInBounds_toArray, List.set_cons_zero, List.set_cons_succ])
        refine wpAnyX_take (i := 2) [4, 5, 13, 14, 18, 19, 23, 24, 28, 29, 33, 34, 35, 36, 37, 38, 39] (v := ?_) rfl (by kernel_rfl) (by kernel_rfl) (by kernel_rfl) (by kernel_rfl) (fun _ _ _ h => h) (Or.inl ⟨by kernel_rfl, ?_⟩) (by assumption) ?_
        rotate_left 1
        · (intro w hSw; have q0 := hSw; go_simp; try (with_reducible rfl))
        (try simp only [Act.put, List.getElem_toArray, List.getElem_cons_succ, List.getElem_cons_zero, List.setIfInBounds_toArray, List.set_cons_zero, List.set_cons_succ])
        refine wpAnyX_take (i := 3) [4, 5, 13, 14, 18, 19, 23, 24, 28, 29, 33, 34, 35, 36, 37, 38, 39] (v := ?_) rfl (by kernel_rfl) (by kernel_rfl) (by kernel_rfl) (by kernel_rfl) (fun _ _ _ h => h) (Or.inl ⟨by kernel_rfl, ?_⟩) (by assumption) ?_
        rotate_left 1
        · (intro w hSw; have q0 := hSw; go_simp; try (with_reducible rfl))
        (try simp only [Act.put, List.getElem_toArray, List.getElem_cons_succ, List.getElem_cons_zero, List.setIfInBounds_toArray, List.set_cons_zero, List.set_cons_succ])
        refine wpAnyX_take (i := 6) [9, 35, 36, 37, 38, 39] (v := ?_) rfl (by kernel_rfl) (by kernel_rfl) (by kernel_rfl) (by kernel_rfl) (fun _ _ _ h => h) (Or.inl ⟨by kernel_rfl, ?_⟩) (by assumption) ?_
        rotate_left 1
        · (intro w hSw; have q0 := hSw; go_simp; try (with_reducible rfl))
        (try simp only [Act.put, List.getElem_toArray, List.getElem_cons_succ, List.getElem_cons_zero, List.setIfInBounds_toArray, List.set_cons_zero, List.set_cons_succ])
        refine wpAnyX_take (i := 7) [8, 9, 35, 36, 37, 38, 39] (v := ?_) rfl (by kernel_rfl) (by kernel_rfl) (by kernel_rfl) (by kernel_rfl) (fun _ _ _ h => h) (Or.inl ⟨by kernel_rfl, ?_⟩) (by assumption) ?_
        rotate_left 1
        · (intro w hSw; have q0 := hSw; go_simp; try (with_reducible rfl))
        (try simp only [Act.put, List.getElem_toArray, List.getElem_cons_succ, List.getElem_cons_zero, List.setIfInBounds_toArray, List.set_cons_zero, List.set_cons_succ])
        refine wpAnyX_take (i := 8) [9, 35, 36, 37, 38, 39] (v := ?_) rfl (by kernel_rfl) (by kernel_rfl) (by kernel_rfl) (by kernel_rfl) (fun _ _ _ h => h) (Or.inl ⟨by kernel_rfl, ?_⟩) (by assumption) ?_
        rotate_left 1
        · (intro w hSw; have q0 := hSw; go_simp; try (with_reducible rfl))
        (try simp only [Act.put, List.getElem_toArray, List.getElem_cons_succ, List.getElem_cons_zero, List.setIfInBounds_toArray, List.set_cons_zero, List.set_cons_succ])
        refine wpAnyX_take (i := 9) [35, 36, 37, 38, 39] (v := ?_) rfl (by kernel_rfl) (by kernel_rfl) (by kernel_rfl) (by kernel_rfl) (fun _ _ _ h => h) (Or.inl ⟨by kernel_rfl, ?_⟩) (by assumption) ?_
        rotate_left 1
        · (intro w hSw; have q0 := hSw; go_simp; try (with_reducible rfl))
        (try simp only [Act.put, List.getElem_toArray, List.getElem_cons_succ, List.getElem_cons_zero, List.setIfInBounds_toArray, List.set_cons_zero, List.set_cons_succ])
        refine wpAnyX_take (i := 10) [13, 14, 18, 19, 23, 24, 28, 29, 33, 34, 35, 36, 37, 38, 39] (v := ?_) rfl (by kernel_rfl) (by kernel_rfl) (by kernel_rfl) (by kernel_rfl) (fun _ _ _ h => h) (Or.inl ⟨by kernel_rfl, ?_⟩) (by assumption) ?_
        rotate_left 1
        · (intro w hSw; have q0 := hSw; go_simp; try (with_reducible rfl))
        (try simp only [Act.put, List.getElem_toArray, List.getElem_cons_succ, List.getElem_cons_zero, List.setIfInBounds_toArray, List.set_cons_zero, List.set_cons_succ])
        refine wpAnyX_take (i := 11) [12, 13, 14, 18, 19, 23, 24, 28, 29, 33, 34, 35, 36, 37, 38, 39] (v := ?_) rfl (by kernel_rfl) (by kernel_rfl) (by kernel_rfl) (by kernel_rfl) (fun _ _ _ h => h) (Or.inl ⟨by kernel_rfl, ?_⟩) (by assumption) ?_
        rotate_left 1
        · (intro w hSw; have q0 := hSw; go_simp; try (with_reducible rfl))
        (try simp only [Act.put, List.getElem_toArray, List.getElem_cons_succ, List.getElem_cons_zero, List.setIfInBounds_toArray, List.set_cons_zero, List.set_cons_succ])
        refine wpAnyX_take (i := 12) [13, 14, 18, 19, 23, 24, 28, 29, 33, 34, 35, 36, 37, 38, 39] (v := ?_) rfl (by kernel_rfl) (by kernel_rfl) (by kernel_rfl) (by kernel_rfl) (fun _ _ _ h => h) (Or.inl ⟨by kernel_rfl, ?_⟩) (by assumption) ?_
        rotate_left 1
        · (intro w hSw; have q0 := hSw; go_simp; try (with_reducible rfl))
        (try simp only [Act.put, List.getElem_toArray, List.getElem_cons_succ, List.getElem_cons_zero, List.setIfInBounds_toArray, List.set_cons_zero, List.set_cons_succ])
        refine wpAnyX_take (i := 15) [18, 19, 23, 24, 28, 29, 33, 34, 35, 36, 37, 38, 39] (v := ?_) rfl (by kernel_rfl) (by kernel_rfl) (by kernel_rfl) (by kernel_rfl) (fun _ _ _ h => h) (Or.inl ⟨by kernel_rfl, ?_⟩) (by assumption) ?_
        rotate_left 1
        · (intro w hSw; have q0 := hSw; go_simp; try (with_reducible rfl))
        (try simp only [Act.put, List.getElem_toArray, List.getElem_cons_succ, List.getElem_cons_zero, List.setIfInBounds_toArray, List.set_cons_zero, List.set_cons_succ])
        refine wpAnyX_take (i := 16) [17, 18, 19, 23, 24, 28, 29, 33, 34, 35, 36, 37, 38, 39] (v := ?_) rfl (by kernel_rfl) (by kernel_rfl) (by kernel_rfl) (by kernel_rfl) (fun _ _ _ h => h) (Or.inl ⟨by kernel_rfl, ?_⟩) (by assumption) ?_
        rotate_left 1
        · (intro w hSw; have q0 := hSw; go_simp; try (with_reducible rfl))
        (try simp only [Act.put, List.getElem_toArray, List.getElem_cons_succ, List.getElem_cons_zero, List.setIfInBounds_toArray, List.set_cons_zero, List.set_cons_succ])
        refine wpAnyX_take (i := 17) [18, 19, 23, 24, 28, 29, 33, 34, 35, 36, 37, 38, 39] (v := ?_) rfl (by kernel_rfl) (by kernel_rfl) (by kernel_rfl) (by kernel_rfl) (fun _ _ _ h => h) (Or.inl ⟨by kernel_rfl, ?_⟩) (by assumption) ?_
        rotate_left 1
        · (intro w hSw; have q0 := hSw; go_simp; try (with_reducible rfl))
        (try simp only [Act.put, List.getElem_toArray, List.getElem_cons_succ, List.getElem_cons_zero, List.setIfInBounds_toArray, List.set_cons_zero, List.set_cons_succ])
        refine wpAnyX_take (i := 20) [23, 24, 28, 29, 33, 34, 35, 36, 37, 38, 39] (v := ?_) rfl (by kernel_rfl) (by kernel_rfl) (by kernel_rfl) (by kernel_rfl) (fun _ _ _ h => h) (Or.inl ⟨by kernel_rfl, ?_⟩) (by assumption) ?_
        rotate_left 1
        · (intro w hSw; have q0 := hSw; go_simp; try (with_reducible rfl))
        (try simp only [Act.put, List.getElem_toArray, List.getElem_cons_succ, List.getElem_cons_zero, List.setIfInBounds_toArray, List.set_cons_zero, List.set_cons_succ])
        refine wpAnyX_take (i := 21) [22, 23, 24, 28, 29, 33, 34, 35, 36, 37, 38, 39] (v := ?_) rfl (by kernel_rfl) (by kernel_rfl) (by kernel_rfl) (by kernel_rfl) (fun _ _ _ h => h) (Or.inl ⟨by kernel_rfl, ?_⟩) (by assumption) ?_
        rotate_left 1
        · (intro w hSw; have q0 := hSw; go_simp; try (with_reducible rfl))
        (try simp only [Act.put, List.getElem_toArray, List.getElem_cons_succ, List.getElem_cons_zero, List.setIfInBounds_toArray, List.set_cons_zero, List.set_cons_succ])
        refine wpAnyX_take (i := 22) [23, 24, 28, 29, 33, 34, 35, 36, 37, 38, 39] (v := ?_) rfl (by kernel_rfl) (by kernel_rfl) (by kernel_rfl) (by kernel_rfl) (fun _ _ _ h => h) (Or.inl ⟨by kernel_rfl, ?_⟩) (by assumption) ?_
        rotate_left 1
        · (intro w hSw; have q0 := hSw; go_simp; try (with_reducible rfl))
        (try simp only [Act.put, List.getElem_toArray, List.getElem_cons_succ, List.getElem_cons_zero, List.setIfInBounds_toArray, List.set_cons_zero, List.set_cons_succ])
        refine wpAnyX_take (i := 25) [28, 29, 33, 34, 35, 36, 37, 38, 39] (v := ?_) rfl (by kernel_rfl) (by kernel_rfl) (by kernel_rfl) (by kernel_rfl) (fun _ _ _ h => h) (Or.inl ⟨by kernel_rfl, ?_⟩) (by assumption) ?_
        rotate_left 1
        · (intro w hSw; have q0 := hSw; go_simp; try (with_reducible rfl))
        (try simp only [Act.put, List.getElem_toArray, List.getElem_cons_succ, List.getElem_cons_zero, List.setIfInBounds_toArray, List.set_cons_zero, List.set_cons_succ])
        refine wpAnyX_take (i := 26) [27, 28, 29, 33, 34, 35, 36, 37, 38, 39] (v := ?_) rfl (by kernel_rfl) (by kernel_rfl) (by kernel_rfl) (by kernel_rfl) (fun _ _ _ h => h) (Or.inl ⟨by kernel_rfl, ?_⟩) (by assumption) ?_
        rotate_left 1
        · (intro w hSw; have q0 := hSw; go_simp; try (with_reducible rfl))
        (try simp only [Act.put, List.getElem_toArray, List.getElem_cons_succ, List.getElem_cons_zero, List.setIfInBounds_toArray, List.set_cons_zero, List.set_cons_succ])
        refine wpAnyX_take (i := 27) [28, 29, 33, 34, 35, 36, 37, 38, 39] (v := ?_) rfl (by kernel_rfl) (by kernel_rfl) (by kernel_rfl) (by kernel_rfl) (fun _ _ _ h => h) (Or.inl ⟨by kernel_rfl, ?_⟩) (by assumption) ?_
        rotate_left 1
        · (intro w hSw; have q0 := hSw; go_simp; try (with_reducible rfl))
        (try simp only [Act.put, List.getElem_toArray, List.getElem_cons_succ, List.getElem_cons_zero, List.setIfInBounds_toArray, List.set_cons_zero, List.set_cons_succ])
        refine wpAnyX_take (i := 30) [33, 34, 35, 36, 37, 38, 39] (v := ?_) rfl (by kernel_rfl) (by kernel_rfl) (by kernel_rfl) (by kernel_rfl) (fun _ _ _ h => h) (Or.inl ⟨by kernel_rfl, ?_⟩) (by assumption) ?_
        rotate_left 1
        · (intro w hSw; have q0 := hSw; go_simp; try (with_reducible rfl))
        (try simp only [Act.put, List.getElem_toArray, List.getElem_cons_succ, List.getElem_cons_zero, List.setIfInBounds_toArray, List.set_cons_zero, List.set_cons_succ])
        refine wpAnyX_take (i := 31) [32, 33, 34, 35, 36, 37, 38, 39] (v := ?_) rfl (by kernel_rfl) (by kernel_rfl) (by kernel_rfl) (by kernel_rfl) (fun _ _ _ h => h) (Or.inl ⟨by kernel_rfl, ?_⟩) (by assumption) ?_
        rotate_left 1
        · (intro w hSw; have q0 := hSw; go_simp; try (with_reducible rfl))
        (try simp only [Act.put, List.getElem_toArray, List.getElem_cons_succ, List.getElem_cons_zero, List.setIfInBounds_toArray, List.set_cons_zero, List.set_cons_succ])
        refine wpAnyX_take (i := 32) [33, 34, 35, 36, 37, 38, 39] (v := ?_) rfl (by kernel_rfl) (by kernel_rfl) (by kernel_rfl) (by kernel_rfl) (fun _ _ _ h => h) (Or.inl ⟨by kernel_rfl, ?_⟩) (by assumption) ?_
        rotate_left 1
        · (intro w hSw; have q0 := hSw; go_simp; try (with_reducible rfl))
        (try simp only [Act.put, List.getElem_toArray, List.getElem_cons_succ, List.getElem_cons_zero, List.setIfInBounds_toArray, List.set_cons_zero, List.set_cons_succ])
        refine wpAnyX_one 4 (by kernel_rfl) rfl (fun K hK => ?_)
        go_simp
        go_wp2_with (go_at_call 28; refine (D0.out _).mono ?_; rintro e u1 ⟨rfl, k1⟩)
        have M1 := (HM.out.drew).below k1 (HM.out.drew).lt
        have Z1 := (HZ.out.drew).below k1 (HZ.out.drew).lt
        have O1 := own_below HO.out.drew k1 (Nat.le_refl _)
        have B1 := (HB.out.drew).trans (k1.mono (HB.out.drew).size)
        clear k1
        refine hK.out _ _ (.inr (M1.cell 7)) ?_
        have hHeld1 : (fun w' => w'.cell? ⟨gz + 1, 7, none⟩ = some (.slice A k cc)) u1 := M1.cell 7
        clear hK K
        (try simp only [Act.put, List.getElem_toArray, List.getElem_cons_succ, List.getElem_cons_zero, List.setIfInBounds_toArray, List.set_cons_zero, List.set_cons_succ])
        refine wpAnyX_take (i := 5) [35, 36, 37, 38, 39] (v := ?_) rfl (by kernel_rfl) (by kernel_rfl) (by kernel_rfl) (by kernel_rfl) (fun _ _ _ h => h) (Or.inl ⟨by kernel_rfl, ?_⟩) (by assumption) ?_
        rotate_left 1
        · (intro w hSw; have q0 := hSw; go_simp; try (with_reducible rfl))
        (try simp only [Act.put, List.getElem_toArray, List.getElem_cons_succ, List.getElem_cons_zero, List.setIfInBounds_toArray, List.set_cons_zero, List.set_cons_succ])
        refine wpAnyX_one 13 (by kernel_rfl) rfl (fun K hK => ?_)
        go_simp
        go_wp2_with (go_at_call 28; refine (D2.out _).mono ?_; rintro e u2 ⟨rfl, k2⟩)
        have M2 := (M1).below k2 (M1).lt
        have Z2 := (Z1).below k2 (Z1).lt
        have O2 := own_below O1 k2 (Nat.le_refl _)
        have B2 := (B1).trans (k2.mono (B1).size)
        clear k2
        refine hK.out _ _ (.inr (M2.cell 7)) ?_
        have hHeld2 : (fun w' => w'.cell? ⟨gz + 1, 7, none⟩ = some (.slice A k cc)) u2 := M2.cell 7
        clear M1 Z1 O1 B1 hHeld1
        clear hK K
        (try simp only [Act.put, List.getElem_toArray, List.getElem_cons_succ, List.getElem_cons_zero, List.setIfInBounds_toArray, List.set_cons_zero, List.set_cons_succ])
        refine wpAnyX_take (i := 14) [35, 36, 37, 38, 39] (v := ?_) rfl (by kernel_rfl) (by kernel_rfl) (by kernel_rfl) (by kernel_rfl) (fun _ _ _ h => h) (Or.inl ⟨by kernel_rfl, ?_⟩) (by assumption) ?_
        rotate_left 1
        · (intro w hSw; have q0 := hSw; go_simp; try (with_reducible rfl))
        (try simp only [Act.put, List.getElem_toArray, List.getElem_cons_succ, List.getElem_cons_zero, List.setIfInBounds_toArray, List.set_cons_zero, List.set_cons_succ])
        refine wpAnyX_one 18 (by kernel_rfl) rfl (fun K hK => ?_)
        go_simp
        go_wp2_with (go_at_call 28; refine (D3.out _).mono ?_; rintro e u3 ⟨rfl, k3⟩)
        have M3 := (M2).below k3 (M2).lt
        have Z3 := (Z2).below k3 (Z2).lt
        have O3 := own_below O2 k3 (Nat.le_refl _)
        have B3 := (B2).trans (k3.mono (B2).size)
        clear k3
        refine hK.out _ _ (.inr (M3.cell 7)) ?_
        have hHeld3 : (fun w' => w'.cell? ⟨gz + 1, 7, none⟩ = some (.slice A k cc)) u3 := M3.cell 7
        clear M2 Z2 O2 B2 hHeld2
        clear hK K
        (try simp only [Act.put, List.getElem_toArray, List.getElem_cons_succ, List.getElem_cons_zero, List.setIfInBounds_toArray, List.set_cons_zero, List.set_cons_succ])
        refine wpAnyX_take (i := 19) [35, 36, 37, 38, 39] (v := ?_) rfl (by kernel_rfl) (by kernel_rfl) (by kernel_rfl) (by kernel_rfl) (fun _ _ _ h => h) (Or.inl ⟨by kernel_rfl, ?_⟩) (by assumption) ?_
        rotate_left 1
        · (intro w hSw; have q0 := hSw; go_simp; try (with_reducible rfl))
        (try simp only [Act.put, List.getElem_toArray, List.getElem_cons_succ, List.getElem_cons_zero, List.setIfInBounds_toArray, List.set_cons_zero, List.set_cons_succ])
        refine wpAnyX_one 23 (by kernel_rfl) rfl (fun K hK => ?_)
        go_simp
        go_wp2_with (go_at_call 28; refine (D4.out _).mono ?_; rintro e u4 ⟨rfl, k4⟩)
        have M4 := (M3).below k4 (M3).lt
        have Z4 := (Z3).below k4 (Z3).lt
        have O4 := own_below O3 k4 (Nat.le_refl _)
        have B4 := (B3).trans (k4.mono (B3).size)
        clear k4
        refine hK.out _ _ (.inr (M4.cell 7)) ?_
        have hHeld4 : (fun w' => w'.cell? ⟨gz + 1, 7, none⟩ = some (.slice A k cc)) u4 := M4.cell 7
        clear M3 Z3 O3 B3 hHeld3
        clear hK K
        (try simp only [Act.put, List.getElem_toArray, List.getElem_cons_succ, List.getElem_cons_zero, List.setIfInBounds_toArray, List.set_cons_zero, List.set_cons_succ])
        refine wpAnyX_take (i := 24) [35, 36, 37, 38, 39] (v := ?_) rfl (by kernel_rfl) (by kernel_rfl) (by kernel_rfl) (by kernel_rfl) (fun _ _ _ h => h) (Or.inl ⟨by kernel_rfl, ?_⟩) (by assumption) ?_
        rotate_left 1
        · (intro w hSw; have q0 := hSw; go_simp; try (with_reducible rfl))
        (try simp only [Act.put, List.getElem_toArray, List.getElem_cons_succ, List.getElem_cons_zero, List.setIfInBounds_toArray, List.set_cons_zero, List.set_cons_succ])
        refine wpAnyX_one 28 (by kernel_rfl) rfl (fun K hK => ?_)
        go_simp
        go_wp2_with (go_at_call 28; refine (D5.out _).mono ?_; rintro e u5 ⟨rfl, k5⟩)
        have M5 := (M4).below k5 (M4).lt
        have Z5 := (Z4).below k5 (Z4).lt
        have O5 := own_below O4 k5 (Nat.le_refl _)
        have B5 := (B4).trans (k5.mono (B4).size)
        clear k5
        refine hK.out _ _ (.inr (M5.cell 7)) ?_
        have hHeld5 : (fun w' => w'.cell? ⟨gz + 1, 7, none⟩ = some (.slice A k cc)) u5 := M5.cell 7
        clear M4 Z4 O4 B4 hHeld4
        clear hK K
        (try simp only [Act.put, List.getElem_toArray, List.getElem_cons_succ, List.getElem_cons_zero, List.setIfInBounds_toArray, List.set_cons_zero, List.set_cons_succ])
        refine wpAnyX_take (i := 29) [35, 36, 37, 38, 39] (v := ?_) rfl (by kernel_rfl) (by kernel_rfl) (by kernel_rfl) (by kernel_rfl) (fun _ _ _ h => h) (Or.inl ⟨by kernel_rfl, ?_⟩) (by assumption) ?_
        rotate_left 1
        · (intro w hSw; have q0 := hSw; go_simp; try (with_reducible rfl))
        (try simp only [Act.put, List.getElem_toArray, List.getElem_cons_succ, List.getElem_cons_zero, List.setIfInBounds_toArray, List.set_cons_zero, List.set_cons_succ])
        refine wpAnyX_one 33 (by kernel_rfl) rfl (fun K hK => ?_)
        go_simp
        go_wp2_with (go_at_call 28; refine (D6.out _).mono ?_; rintro e u6 ⟨rfl, k6⟩)
        have M6 := (M5).below k6 (M5).lt
        have Z6 := (Z5).below k6 (Z5).lt
        have O6 := own_below O5 k6 (Nat.le_refl _)
        have B6 := (B5).trans (k6.mono (B5).size)
        clear k6
        refine hK.out _ _ (.inr (M6.cell 7)) ?_
        have hHeld6 : (fun w' => w'.cell? ⟨gz + 1, 7, none⟩ = some (.slice A k cc)) u6 := M6.cell 7
        clear M5 Z5 O5 B5 hHeld5
        clear hK K
        (try simp only [Act.put, List.getElem_toArray, List.getElem_cons_succ, List.getElem_cons_zero, List.setIfInBounds_toArray, List.set_cons_zero, List.set_cons_succ])
        refine wpAnyX_take (i := 34) [35, 36, 37, 38, 39] (v := ?_) rfl (by kernel_rfl) (by kernel_rfl) (by kernel_rfl) (by kernel_rfl) (fun _ _ _ h => h) (Or.inl ⟨by kernel_rfl, ?_⟩) (by assumption) ?_
        rotate_left 1
        · (intro w hSw; have q0 := hSw; go_simp; try (with_reducible rfl))
        (try simp only [Act.put, List.getElem_toArray, List.getElem_cons_succ, List.getElem_cons_zero, List.setIfInBounds_toArray, List.set_cons_zero, List.set_cons_succ])
        refine wpAnyX_take (i := 35) [36, 37, 38, 39] (v := ?_) rfl (by kernel_rfl) (by kernel_rfl) (by kernel_rfl) (by kernel_rfl) (fun _ _ _ h => h) (Or.inl ⟨by kernel_rfl, ?_⟩) (by assumption) ?_
        rotate_left 1
        · (intro w hSw; have q0 := hSw; go_simp; try (with_reducible rfl))
        (try simp only [Act.put, List.getElem_toArray, List.getElem_cons_succ, List.getElem_cons_zero, List.setIfInBounds_toArray, List.set_cons_zero, List.set_cons_succ])
        refine wpAnyX_one 36 (by kernel_rfl) rfl (fun K hK => ?_)
        go_simp
        have M7 := (M6).alloc (.cells #[.int .u32 (y0 : Int), .int .u8 (y1 : Int), .int .u32 (y2 : Int), .int .u32 (y3 : Int), .int .u32 (y4 : Int), .int .u32 (y5 : Int), .int .u32 (y6 : Int)] 61)
        have Z7 := (Z6).alloc (.cells #[.int .u32 (y0 : Int), .int .u8 (y1 : Int), .int .u32 (y2 : Int), .int .u32 (y3 : Int), .int .u32 (y4 : Int), .int .u32 (y5 : Int), .int .u32 (y6 : Int)] 61)
        have O7 := (O6).alloc (.cells #[.int .u32 (y0 : Int), .int .u8 (y1 : Int), .int .u32 (y2 : Int), .int .u32 (y3 : Int), .int .u32 (y4 : Int), .int .u32 (y5 : Int), .int .u32 (y6 : Int)] 61)
        have B7 := (B6).alloc (B6).size (.cells #[.int .u32 (y0 : Int), .int .u8 (y1 : Int), .int .u32 (y2 : Int), .int .u32 (y3 : Int), .int .u32 (y4 : Int), .int .u32 (y5 : Int), .int .u32 (y6 : Int)] 61)
        refine hK.out _ _ (.inr (M7.cell 7)) ?_
        have hHeld7 : (fun w' => w'.cell? ⟨gz + 1, 7, none⟩ = some (.slice A k cc)) (u6.alloc (.cells #[.int .u32 (y0 : Int), .int .u8 (y1 : Int), .int .u32 (y2 : Int), .int .u32 (y3 : Int), .int .u32 (y4 : Int), .int .u32 (y5 : Int), .int .u32 (y6 : Int)] 61)) := M7.cell 7
        clear hK K
        (try simp only [Act.put, List.getElem_toArray, List.getElem_cons_succ, List.getElem_cons_zero, List.setIfInBounds_toArray, List.set_cons_zero, List.set_cons_succ])
        refine wpAnyX_one 37 (by kernel_rfl) rfl (fun K hK => ?_)
        have hz8 := (M6).lt
        refine step_append_lies _ (by rfl) (.tmp 123) (.tmp 158) 45 (by rfl) (gz + 2) 61 i0 _ 7 28 Tryd.underlying45 HI0.out HZ0.out HZ1.out HZ2.out rfl (by omega) (.slice A k cc) k (repC (rdReps s 4 k)) (by rfl) O7 ⟨u6.heap.size, 0, none⟩ 1 1 [.int .u32 (y0 : Int), .int .u8 (y1 : Int), .int .u32 (y2 : Int), .int .u32 (y3 : Int), .int .u32 (y4 : Int), .int .u32 (y5 : Int), .int .u32 (y6 : Int)] (by rfl) (by rfl) (World.news_of_block (cs := #[.int .u32 (y0 : Int), .int .u8 (y1 : Int), .int .u32 (y2 : Int), .int .u32 (y3 : Int), .int .u32 (y4 : Int), .int .u32 (y5 : Int), .int .u32 (y6 : Int)]) (t := 61) (fr := (0, 0)) (heap_alloc_new u6 _)) (by simp [Value.oneCell']) (by omega) (by unfold maxLen; omega) (by omega) (by simp; omega) (u6.heap.size + 1) (by simp) ?_
        intro gg cap w2 hown2 hgrow hat hlt9
        have B8 : Below w.heap.size w w2 := (B7).grown hgrow (by have := (B7).size; simp at this ⊢; omega) (fun q hq => by have := HNE.out q hq; have := HGZ.out; omega)
        have M8 := (M7).grown hgrow (fun e => by have := HNE.out _ e.symm; omega)
        have Z8 := (Z7).grown hgrow (fun e => by have := HNE.out _ e.symm; omega)
        clear hgrow hat hlt9
        have e9 := M8.cell 7
        have f9 := M8.free 7
        simp at e9
        refine hK.out _ _ (.inr (M8.cell 7)) ?_
        have hHeld8 : (fun w' => w'.cell? ⟨gz + 1, 7, none⟩ = some (.slice A k cc)) w2 := M8.cell 7
        clear hK K
        (try simp only [Act.put, List.getElem_toArray, List.getElem_cons_succ, List.getElem_cons_zero, List.setIfInBounds_toArray, List.set_cons_zero, List.set_cons_succ])
        refine wpAnyX_take (i := 38) [39] (v := ?_) rfl (by kernel_rfl) (by kernel_rfl) (by kernel_rfl) (by kernel_rfl) (fun _ _ _ h => h) (Or.inl ⟨by kernel_rfl, ?_⟩) (by assumption) ?_
        rotate_left 1
        · (intro w hSw; have q0 := hSw; go_simp; try (with_reducible rfl))
        (try simp only [Act.put, List.getElem_toArray, List.getElem_cons_succ, List.getElem_cons_zero, List.setIfInBounds_toArray, List.set_cons_zero, List.set_cons_succ])
        refine wpAnyX_one 39 (by kernel_rfl) rfl (fun K hK => ?_)
        have HM9 := Lib.hid (M8.set 7 (.slice (some ⟨gg, 0, none⟩) (k + 1) cap))
        have HZ9 := Lib.hid (Z8.far (p := ⟨gz + 1, 7, none⟩) (show gz ≠ gz + 1 by omega) (.slice (some ⟨gg, 0, none⟩) (k + 1) cap))
        have HB9 := Lib.hid (B8.setCell (p := ⟨gz + 1, 7, none⟩) (show w.heap.size ≤ gz + 1 by have := HGZ.out; omega) (.slice (some ⟨gg, 0, none⟩) (k + 1) cap))
        have HO9 := Lib.hid (ownsRow_setCell_below hown2 (a := ⟨gz + 1, 7, none⟩) (show gz + 1 < gz + 2 by omega) (.slice (some ⟨gg, 0, none⟩) (k + 1) cap))
        go_simp
        refine hK.out _ _ (.inl (by decide)) ?_
        clear hK K
        (try simp only [Act.put, List.getElem_toArray, List.getElem_cons_succ, List.getElem_cons_zero, List.setIfInBounds_toArray, List.set_cons_zero, List.set_cons_succ])
        refine wpAnyX_done (by kernel_rfl) ?_ _
        rw [← HLK.out] at HO9
        go_wp2
        go_roundw
        case rel => exact ⟨k + 1, some ⟨gg, 0, none⟩, cap, by omega, by go_num, HM9.out, HZ9.out, HO9.out, HB9.out⟩
        case measure => simp [intOf]; omega
      · obtain rfl : c = k := by omega
        have c0 := WM.cell 0
        have e0 := WZ.cell 0
        have f0 := WZ.free 0
        have c1 := WM.cell 1
        have e1 := WZ.cell 1
        have f1 := WZ.free 1
        have c2 := WM.cell 2
        have e2 := WZ.cell 2
        have f2 := WZ.free 2
        have c3 := WM.cell 3
        have e3 := WZ.cell 3
        have f3 := WZ.free 3
        have c4 := WM.cell 4
        have e4 := WZ.cell 4
        have f4 := WZ.free 4
        have c5 := WM.cell 5
        have e5 := WZ.cell 5
        have f5 := WZ.free 5
        have c6 := WM.cell 6
        have e6 := WZ.cell 6
        have f6 := WZ.free 6
        have c7 := WM.cell 7
        have e7 := WZ.cell 7
        have f7 := WZ.free 7
        have c8 := WM.cell 8
        have e8 := WZ.cell 8
        have f8 := WZ.free 8
        have c9 := WM.cell 9
        have e9 := WZ.cell 9
        have f9 := WZ.free 9
        have c10 := WM.cell 10
        have e10 := WZ.cell 10
        have f10 := WZ.free 10
        have c11 := WM.cell 11
        have e11 := WZ.cell 11
        have f11 := WZ.free 11
        simp at c0 e0 c1 e1 c2 e2 c3 e3 c4 e4 c5 e5 c6 e6 c7 e7 c8 e8 c9 e9 c10 e10 c11 e11
        have hgz := HGZ.out
        have hle : w.heap.size ≤ gz := by omega
        clear hgz
        have HBB := Lib.hid (below12 (r := gz) hb hle (.int .i64 1) (.int .u32 (x1 : Int)) (.int .u32 0) (.int .u64 0) (.int .u32 0) (.int .u32 0) (.int .u32 0) (.slice A c cc) (.slice none 0 0) (.slice none 0 0) (.slice none 0 0) (.int .u8 0))
        have HR := Lib.hid (own12 (r := gz) hown (by omega) (.int .i64 1) (.int .u32 (x1 : Int)) (.int .u32 0) (.int .u64 0) (.int .u32 0) (.int .u32 0) (.int .u32 0) (.slice A c cc) (.slice none 0 0) (.slice none 0 0) (.slice none 0 0) (.int .u8 0))
        have HW := Lib.hid (whole12 WZ (.int .i64 1) (.int .u32 (x1 : Int)) (.int .u32 0) (.int .u64 0) (.int .u32 0) (.int .u32 0) (.int .u32 0) (.slice A c cc) (.slice none 0 0) (.slice none 0 0) (.slice none 0 0) (.int .u8 0))
        clear WM WZ hb hown
        go_wp2_with fail
        obtain ⟨we, hwe⟩ : ∃ we, we = ((((((((((((wr.setCell ⟨gz, 0, none⟩ (.int .i64 1)).setCell ⟨gz, 1, none⟩ (.int .u32 (x1 : Int))).setCell ⟨gz, 2, none⟩ (.int .u32 0)).setCell ⟨gz, 3, none⟩ (.int .u64 0)).setCell ⟨gz, 4, none⟩ (.int .u32 0)).setCell ⟨gz, 5, none⟩ (.int .u32 0)).setCell ⟨gz, 6, none⟩ (.int .u32 0)).setCell ⟨gz, 7, none⟩ (.slice A c cc)).setCell ⟨gz, 8, none⟩ (.slice none 0 0)).setCell ⟨gz, 9, none⟩ (.slice none 0 0)).setCell ⟨gz, 10, none⟩ (.slice none 0 0)).setCell ⟨gz, 11, none⟩ (.int .u8 0)) := ⟨_, rfl⟩
        rw [← hwe] at HW HBB HR ⊢
        clear hwe c0 e0 f0 c1 e1 f1 c2 e2 f2 c3 e3 f3 c4 e4 f4 c5 e5 f5 c6 e6 f6 c7 e7 f7 c8 e8 f8 c9 e9 f9 c10 e10 f10 c11 e11 f11
        have e0 : we.cell? ⟨gz, 0, none⟩ = some (.int .i64 1) := HW.out.cell 0
        have e1 : we.cell? ⟨gz, 1, none⟩ = some (.int .u32 (x1 : Int)) := HW.out.cell 1
        have e2 : we.cell? ⟨gz, 2, none⟩ = some (.int .u32 0) := HW.out.cell 2
        have e3 : we.cell? ⟨gz, 3, none⟩ = some (.int .u64 0) := HW.out.cell 3
        have e4 : we.cell? ⟨gz, 4, none⟩ = some (.int .u32 0) := HW.out.cell 4
        have e5 : we.cell? ⟨gz, 5, none⟩ = some (.int .u32 0) := HW.out.cell 5
        have e6 : we.cell? ⟨gz, 6, none⟩ = some (.int .u32 0) := HW.out.cell 6
        have e7 : we.cell? ⟨gz, 7, none⟩ = some (.slice A c cc) := HW.out.cell 7
        have e8 : we.cell? ⟨gz, 8, none⟩ = some (.slice none 0 0) := HW.out.cell 8
        have e9 : we.cell? ⟨gz, 9, none⟩ = some (.slice none 0 0) := HW.out.cell 9
        have e10 : we.cell? ⟨gz, 10, none⟩ = some (.slice none 0 0) := HW.out.cell 10
        have e11 : we.cell? ⟨gz, 11, none⟩ = some (.int .u8 0) := HW.out.cell 11
        refine bodyPost_ret (v := .tuple #[.agg #[.int .i64 1, .int .u32 (x1 : Int), .int .u32 0, .int .u64 0, .int .u32 0, .int .u32 0, .int .u32 0, .slice A c cc, .slice none 0 0, .slice none 0 0, .slice none 0 0, .int .u8 0], .int .i64 0]) (by simp [results, Tryd.results29, e0, e1, e2, e3, e4, e5, e6, e7, e8, e9, e10, e11, go_sem]) rfl ?_
        have hlen : (rdReps s 4 c).length = c := by simp [rdReps]
        rw [HP.out]
        exact ⟨⟨A, cc, none, 0, none, 0, none, 0⟩, by simp [Ms.cells, hlen], ⟨(by have hR := Row.of_own HR.out; dsimp only; rw [hlen]; exact hR), Row.nil, Row.nil, Row.nil⟩, ⟨(sl_new HR.out (by omega)), no_new _, no_new _, no_new _⟩, HBB.out⟩
end Go.Proofs.YtcjmiidnhbmclaaDoor
