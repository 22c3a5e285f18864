/-
  The document's read, kind 3 (layer 9).
-/
import Derived.Test.YtcjmiidnhbmclaaDoorRdA
import Derived.Deep.AppendLies
namespace Go.Proofs.YtcjmiidnhbmclaaDoor
set_option maxRecDepth 1000000
set_option linter.unusedSimpArgs false
open Go.RowKit

set_option maxHeartbeats 12800000 in
theorem dread3_any (s : List UInt8) (w : World) (hl : s.length ≤ 1500) :
    Calls Tryd.prog 29 #[.int .i64 205, .int .i64 1, .string (str s)] w (RdR (readM 205 1 s) w) := by
  by_cases h8 : (s.length : Int) < 8
  · have HP : Hid (readM 205 1 s = (zeroM, 10)) := Lib.hid (by unfold readM; simp [show s.length < 8 by omega])
    go_enter Tryd.func29, Tryd.ntmps29
    go_wp2_with fail
    exact bodyPost_ret (v := .tuple #[.agg #[.int .i64 0, .int .u32 0, .int .u32 0, .int .u64 0, .int .u32 0, .int .u32 0, .int .u32 0, .slice none 0 0, .slice none 0 0, .slice none 0 0, .slice none 0 0, .int .u8 0], .int .i64 10]) (by simp [results, Tryd.results29, go_sem]) rfl (RdR.plain zeroM 10 (((Below.refl _ _).alloc (Nat.le_refl _) _).alloc (by simp) _) HP.out rfl rfl rfl rfl)
  · obtain ⟨x1, hx1⟩ : ∃ x, numAt s 0 4 = x := ⟨_, rfl⟩
    obtain ⟨x2, hx2⟩ : ∃ x, numAt s 4 4 = x := ⟨_, rfl⟩
    obtain ⟨nr, hnr⟩ : ∃ n, (s.length - 8) / 4 = n := ⟨_, rfl⟩
    have HP0 : Hid (nr = 0 → readM 205 1 s = (zeroM, 11)) := Lib.hid (fun h0 => by unfold readM; simp [show ¬ s.length < 8 by omega, hnr, h0])
    have HP : Hid (nr ≠ 0 → readM 205 1 s = (⟨3, x1, x2, 0, 0, 0, 0, [], [], rdPairs s nr, [], 0⟩, 0)) := Lib.hid (fun h0 => by unfold readM; simp [show ¬ s.length < 8 by omega, hnr, h0, hx1, hx2])
    have hnr1 : 8 + 4 * nr ≤ s.length := by omega
    have hnr2 : s.length < 8 + 4 * nr + 4 := by omega
    clear hnr
    have b1 : (x1 : Int) < 4294967296 := by have := numAt_lt s 0 4; rw [hx1] at this; omega
    have C1 := Lib.hid (fun w => rnum_any s 0 4 x1 hx1 w (by unfold maxLen; omega) (by decide) (by decide) (by omega))
    have b2 : (x2 : Int) < 4294967296 := by have := numAt_lt s 4 4; rw [hx2] at this; omega
    have C2 := Lib.hid (fun w => rnum_any s 4 4 x2 hx2 w (by unfold maxLen; omega) (by decide) (by decide) (by omega))
    clear hx1 hx2
    go_enter Tryd.func29, Tryd.ntmps29
    go_wp2_with fail
    have WZ := (Whole.new w 50 #[.int .i64 0, .int .u32 0, .int .u32 0, .int .u64 0, .int .u32 0, .int .u32 0, .int .u32 0, .slice none 0 0, .slice none 0 0, .slice none 0 0, .slice none 0 0, .int .u8 0]).alloc (.cells #[.int .i64 3, .int .u32 0, .int .u32 0, .int .u64 0, .int .u32 0, .int .u32 0, .int .u32 0, .slice none 0 0, .slice none 0 0, .slice none 0 0, .slice none 0 0, .int .u8 0] 50)
    have WM := Whole.new2 w (.cells #[.int .i64 0, .int .u32 0, .int .u32 0, .int .u64 0, .int .u32 0, .int .u32 0, .int .u32 0, .slice none 0 0, .slice none 0 0, .slice none 0 0, .slice none 0 0, .int .u8 0] 50) 50 #[.int .i64 3, .int .u32 0, .int .u32 0, .int .u64 0, .int .u32 0, .int .u32 0, .int .u32 0, .slice none 0 0, .slice none 0 0, .slice none 0 0, .slice none 0 0, .int .u8 0]
    have B0 := ((Below.refl w.heap.size w).alloc (Nat.le_refl _) (.cells #[.int .i64 0, .int .u32 0, .int .u32 0, .int .u64 0, .int .u32 0, .int .u32 0, .int .u32 0, .slice none 0 0, .slice none 0 0, .slice none 0 0, .slice none 0 0, .int .u8 0] 50)).alloc (by simp) (.cells #[.int .i64 3, .int .u32 0, .int .u32 0, .int .u64 0, .int .u32 0, .int .u32 0, .int .u32 0, .slice none 0 0, .slice none 0 0, .slice none 0 0, .slice none 0 0, .int .u8 0] 50)
    obtain ⟨v0, hv0⟩ : ∃ w0, w0 = (w.alloc (.cells #[.int .i64 0, .int .u32 0, .int .u32 0, .int .u64 0, .int .u32 0, .int .u32 0, .int .u32 0, .slice none 0 0, .slice none 0 0, .slice none 0 0, .slice none 0 0, .int .u8 0] 50)).alloc (.cells #[.int .i64 3, .int .u32 0, .int .u32 0, .int .u64 0, .int .u32 0, .int .u32 0, .int .u32 0, .slice none 0 0, .slice none 0 0, .slice none 0 0, .slice none 0 0, .int .u8 0] 50) := ⟨_, rfl⟩
    rw [← hv0] at WZ WM B0 ⊢
    clear hv0
    obtain ⟨gz, hgz⟩ : ∃ g, g = w.heap.size := ⟨_, rfl⟩
    rw [← hgz] at WZ WM ⊢
    have HGZ := Lib.hid hgz
    have HZ := Lib.hid WZ
    have HB := Lib.hid B0
    have HM := Lib.hid WM
    clear hgz WZ B0 WM
    refine (C1.out v0).mono ?_
    rintro e w1 ⟨rfl, k1⟩
    have W1 := HM.out.below k1 HM.out.lt
    have HB1 := Lib.hid (bnext HB.out k1)
    have HZ1 := Lib.hid (HZ.out.below k1 HZ.out.lt)
    have q0 : w1.cell? ⟨gz + 1, 0, none⟩ = some (.int .i64 3) := W1.cell 0
    have q1 : w1.cell? ⟨gz + 1, 1, none⟩ = some (.int .u32 0) := W1.cell 1
    have f1 := W1.free 1
    have HW1 := Lib.hid W1
    clear k1 HB HZ HM W1
    go_wp2_with fail
    obtain ⟨v1, hv1⟩ : ∃ v, v = w1.setCell ⟨gz + 1, 1, none⟩ (.int .u32 (x1 : Int)) := ⟨_, rfl⟩
    have HM : Hid (Whole v1 (gz + 1) 50 #[.int .i64 3, .int .u32 (x1 : Int), .int .u32 0, .int .u64 0, .int .u32 0, .int .u32 0, .int .u32 0, .slice none 0 0, .slice none 0 0, .slice none 0 0, .slice none 0 0, .int .u8 0]) := Lib.hid (by rw [hv1]; exact HW1.out.set 1 (.int .u32 (x1 : Int)))
    have HZ : Hid (Whole v1 gz 50 #[.int .i64 0, .int .u32 0, .int .u32 0, .int .u64 0, .int .u32 0, .int .u32 0, .int .u32 0, .slice none 0 0, .slice none 0 0, .slice none 0 0, .slice none 0 0, .int .u8 0]) := Lib.hid (by rw [hv1]; exact HZ1.out.far (show gz ≠ gz + 1 by omega) (.int .u32 (x1 : Int)))
    have HB : Hid (Below w.heap.size w v1) := Lib.hid (by rw [hv1]; exact HB1.out.setCell (show w.heap.size ≤ gz + 1 by have := HGZ.out; omega) (.int .u32 (x1 : Int)))
    rw [← hv1]
    clear hv1 q0 q1 f1 HW1 HZ1 HB1
    refine (C2.out v1).mono ?_
    rintro e w2 ⟨rfl, k2⟩
    have W2 := HM.out.below k2 HM.out.lt
    have HB2 := Lib.hid (bnext HB.out k2)
    have HZ2 := Lib.hid (HZ.out.below k2 HZ.out.lt)
    have q0 : w2.cell? ⟨gz + 1, 0, none⟩ = some (.int .i64 3) := W2.cell 0
    have q1 : w2.cell? ⟨gz + 1, 2, none⟩ = some (.int .u32 0) := W2.cell 2
    have f1 := W2.free 2
    have HW2 := Lib.hid W2
    clear k2 HB HZ HM W2
    go_wp2_with fail
    obtain ⟨v2, hv2⟩ : ∃ v, v = w2.setCell ⟨gz + 1, 2, none⟩ (.int .u32 (x2 : Int)) := ⟨_, rfl⟩
    have HM : Hid (Whole v2 (gz + 1) 50 #[.int .i64 3, .int .u32 (x1 : Int), .int .u32 (x2 : Int), .int .u64 0, .int .u32 0, .int .u32 0, .int .u32 0, .slice none 0 0, .slice none 0 0, .slice none 0 0, .slice none 0 0, .int .u8 0]) := Lib.hid (by rw [hv2]; exact HW2.out.set 2 (.int .u32 (x2 : Int)))
    have HZ : Hid (Whole v2 gz 50 #[.int .i64 0, .int .u32 0, .int .u32 0, .int .u64 0, .int .u32 0, .int .u32 0, .int .u32 0, .slice none 0 0, .slice none 0 0, .slice none 0 0, .slice none 0 0, .int .u8 0]) := Lib.hid (by rw [hv2]; exact HZ2.out.far (show gz ≠ gz + 1 by omega) (.int .u32 (x2 : Int)))
    have HB : Hid (Below w.heap.size w v2) := Lib.hid (by rw [hv2]; exact HB2.out.setCell (show w.heap.size ≤ gz + 1 by have := HGZ.out; omega) (.int .u32 (x2 : Int)))
    rw [← hv2]
    clear hv2 q0 q1 f1 HW2 HZ2 HB2
    go_loopw [10] (fun i wr => ∃ (k : Nat) (A : Option Addr) (cc : Nat) (ka : Nat), k ≤ nr ∧ i = .int .i64 ka ∧ ka = 8 + 4 * k ∧ Whole wr (gz + 1) 50 #[.int .i64 3, .int .u32 (x1 : Int), .int .u32 (x2 : Int), .int .u64 0, .int .u32 0, .int .u32 0, .int .u32 0, .slice none 0 0, .slice none 0 0, .slice A k cc, .slice none 0 0, .int .u8 0] ∧ Whole wr gz 50 #[.int .i64 0, .int .u32 0, .int .u32 0, .int .u64 0, .int .u32 0, .int .u32 0, .int .u32 0, .slice none 0 0, .slice none 0 0, .slice none 0 0, .slice none 0 0, .int .u8 0] ∧ wr.ownsRow (gz + 2) 84 2 (.slice A k cc) k (dpC (rdPairs s k)) ∧ Below w.heap.size w wr) (fun i _ => 2000 - (intOf i).toNat)
    case atStart => exact ⟨0, none, 0, 8, Nat.zero_le _, rfl, rfl, HM.out, HZ.out, World.ownsRow_nil _ _ _ _, HB.out⟩
    case round =>
      clear HM HZ HB
      obtain ⟨k, A, cc, ka, hk, rfl, hka, WM, WZ, hown, hb⟩ := hrel
      have q0 : wr.cell? ⟨gz + 1, 0, none⟩ = some (.int .i64 3) := WM.cell 0
      by_cases hlt : k < nr
      · have hin : (ka : Int) + 4 ≤ (s.length : Int) := by omega
        obtain ⟨y0, hy0⟩ : ∃ x, numAt s ka 2 = x := ⟨_, rfl⟩
        obtain ⟨ka2, hka2⟩ : ∃ q, ka + 2 = q := ⟨_, rfl⟩
        obtain ⟨y1, hy1⟩ : ∃ x, numAt s ka2 2 = x := ⟨_, rfl⟩
        have HLK : Hid (dpC (rdPairs s (k + 1)) = dpC (rdPairs s k) ++ [.int .i64 (y0 : Int), .int .i64 (y1 : Int)]) := Lib.hid (by rw [rdPairs_succ, ← hka, hka2, hy0, hy1]; simp [dpC])
        have e1 : IntKind.i64.wrap ((ka : Int) + 2) = (ka2 : Int) := i64_sum9 ka 2 ka2 hka2 (by omega)
        have D0 := Lib.hid (fun w => rnum_any s ka 2 y0 hy0 w (by unfold maxLen; omega) (by decide) (by decide) (by omega))
        have D1 := Lib.hid (fun w => rnum_any s ka2 2 y1 hy1 w (by unfold maxLen; omega) (by decide) (by decide) (by omega))
        have g0 : IntKind.i64.wrap (y0 : Int) = (y0 : Int) := i64_nat9d y0 (by have := numAt_lt s ka 2; rw [hy0] at this; omega)
        have g1 : IntKind.i64.wrap (y1 : Int) = (y1 : Int) := i64_nat9d y1 (by have := numAt_lt s ka2 2; rw [hy1] at this; omega)
        have HKA := Lib.hid hka
        have hkb : ka < 1600 := by omega
        clear hka2
        have HM := Lib.hid WM
        have HZ := Lib.hid WZ
        have HO := Lib.hid hown
        have HB := Lib.hid hb
        clear hka hy0 hy1 WM WZ hown hb
        obtain ⟨i0, hi0, hz0, hz1, hz2⟩ := info_parts info_P9
        have HI0 := Lib.hid hi0
        have HZ0 := Lib.hid hz0
        have HZ1 := Lib.hid hz1
        have HZ2 := Lib.hid hz2
        have HNE : Hid (∀ q, (Value.slice A k cc).ownBlock = some q → gz + 2 ≤ q) := Lib.hid (fun q hq => (HO.out.lt q hq).1)
        clear hi0 hz0 hz1 hz2
        go_wp2_with fail
        refine wp_region_X (S := fun w' => w'.cell? ⟨gz + 1, 9, none⟩ = some (.slice A k cc)) [15] (by kernel_rfl) (HM.out.cell 9) (fun hHeld0 => ?_)
        refine wpAnyX_take (i := 0) [1, 13, 14, 15] (v := ?_) rfl (by kernel_rfl) (by kernel_rfl) (by kernel_rfl) (by kernel_rfl) (fun _ _ _ h => h) (Or.inl ⟨by kernel_rfl, ?_⟩) (by assumption) ?_
        rotate_left 1
        · (intro w hSw; have q0 := hSw; go_simp; try (with_reducible rfl))
        (try simp only [Act.put, List.getElem_toArray, List.getElem_cons_succ, List.getElem_cons_zero, List.setIfInBounds_toArray, List.set_cons_zero, List.set_cons_succ])
        refine wpAnyX_take (i := 1) [13, 14, 15] (v := ?_) rfl (by kernel_rfl) (by kernel_rfl) (by kernel_rfl) (by kernel_rfl) (fun _ _ _ h => h) (Or.inl ⟨by kernel_rfl, ?_⟩) (by assumption) ?_
        rotate_left 1
        · (intro w hSw; have q0 := hSw; go_simp; try (with_reducible rfl))
        (try simp only [Act.put, List.getElem_toArray, List.getElem_cons_succ, List.getElem_cons_zero, List.setIfInBounds_toArray, List.set_cons_zero, List.set_cons_succ])
        refine wpAnyX_take (i := 2) [4, 5, 9, 10, 11, 12, 13, 14, 15] (v := ?_) rfl (by kernel_rfl) (by kernel_rfl) (by kernel_rfl) (by kernel_rfl) (fun _ _ _ h => h) (Or.inl ⟨by kernel_rfl, ?_⟩) (by assumption) ?_
        rotate_left 1
        · (intro w hSw; have q0 := hSw; go_simp; try (with_reducible rfl))
        (try simp only [Act.put, List.getElem_toArray, List.getElem_cons_succ, List.getElem_cons_zero, List.setIfInBounds_toArray, List.set_cons_zero, List.set_cons_succ])
        refine wpAnyX_take (i := 3) [4, 5, 9, 10, 11, 12, 13, 14, 15] (v := ?_) rfl (by kernel_rfl) (by kernel_rfl) (by kernel_rfl) (by kernel_rfl) (fun _ _ _ h => h) (Or.inl ⟨by kernel_rfl, ?_⟩) (by assumption) ?_
        rotate_left 1
        · (intro w hSw; have q0 := hSw; go_simp; try (with_reducible rfl))
        (try simp only [Act.put, List.getElem_toArray, List.getElem_cons_succ, List.getElem_cons_zero, List.setIfInBounds_toArray, List.set_cons_zero, List.set_cons_succ])
        refine wpAnyX_take (i := 6) [9, 10, 11, 12, 13, 14, 15] (v := ?_) rfl (by kernel_rfl) (by kernel_rfl) (by kernel_rfl) (by kernel_rfl) (fun _ _ _ h => h) (Or.inl ⟨by kernel_rfl, ?_⟩) (by assumption) ?_
        rotate_left 1
        · (intro w hSw; have q0 := hSw; go_simp; try (with_reducible rfl))
        (try simp only [Act.put, List.getElem_toArray, List.getElem_cons_succ, List.getElem_cons_zero, List.setIfInBounds_toArray, List.set_cons_zero, List.set_cons_succ])
        refine wpAnyX_take (i := 7) [8, 9, 10, 11, 12, 13, 14, 15] (v := ?_) rfl (by kernel_rfl) (by kernel_rfl) (by kernel_rfl) (by kernel_rfl) (fun _ _ _ h => h) (Or.inl ⟨by kernel_rfl, ?_⟩) (by assumption) ?_
        rotate_left 1
        · (intro w hSw; have q0 := hSw; go_simp; try (with_reducible rfl))
        (try simp only [Act.put, List.getElem_toArray, List.getElem_cons_succ, List.getElem_cons_zero, List.setIfInBounds_toArray, List.set_cons_zero, List.set_cons_succ])
        refine wpAnyX_take (i := 8) [9, 10, 11, 12, 13, 14, 15] (v := ?_) rfl (by kernel_rfl) (by kernel_rfl) (by kernel_rfl) (by kernel_rfl) (fun _ _ _ h => h) (Or.inl ⟨by kernel_rfl, ?_⟩) (by assumption) ?_
        rotate_left 1
        · (intro w hSw; have q0 := hSw; go_simp; try (with_reducible rfl))
        (try simp only [Act.put, List.getElem_toArray, List.getElem_cons_succ, List.getElem_cons_zero, List.setIfInBounds_toArray, List.set_cons_zero, List.set_cons_succ])
        refine wpAnyX_one 4 (by kernel_rfl) rfl (fun K hK => ?_)
        go_simp
        go_wp2_with (go_at_call 28; refine (D0.out _).mono ?_; rintro e u1 ⟨rfl, k1⟩)
        have M1 := (HM.out.drew).below k1 (HM.out.drew).lt
        have Z1 := (HZ.out.drew).below k1 (HZ.out.drew).lt
        have O1 := own_below HO.out.drew k1 (Nat.le_refl _)
        have B1 := (HB.out.drew).trans (k1.mono (HB.out.drew).size)
        clear k1
        refine hK.out _ _ (.inr (M1.cell 9)) ?_
        have hHeld1 : (fun w' => w'.cell? ⟨gz + 1, 9, none⟩ = some (.slice A k cc)) u1 := M1.cell 9
        clear hK K
        (try simp only [Act.put, List.getElem_toArray, List.getElem_cons_succ, List.getElem_cons_zero, List.setIfInBounds_toArray, List.set_cons_zero, List.set_cons_succ])
        refine wpAnyX_take (i := 5) [11, 12, 13, 14, 15] (v := ?_) rfl (by kernel_rfl) (by kernel_rfl) (by kernel_rfl) (by kernel_rfl) (fun _ _ _ h => h) (Or.inl ⟨by kernel_rfl, ?_⟩) (by assumption) ?_
        rotate_left 1
        · (intro w hSw; have q0 := hSw; go_simp; try (with_reducible rfl))
        (try simp only [Act.put, List.getElem_toArray, List.getElem_cons_succ, List.getElem_cons_zero, List.setIfInBounds_toArray, List.set_cons_zero, List.set_cons_succ])
        refine wpAnyX_one 9 (by kernel_rfl) rfl (fun K hK => ?_)
        go_simp
        go_wp2_with (go_at_call 28; refine (D1.out _).mono ?_; rintro e u2 ⟨rfl, k2⟩)
        have M2 := (M1).below k2 (M1).lt
        have Z2 := (Z1).below k2 (Z1).lt
        have O2 := own_below O1 k2 (Nat.le_refl _)
        have B2 := (B1).trans (k2.mono (B1).size)
        clear k2
        refine hK.out _ _ (.inr (M2.cell 9)) ?_
        have hHeld2 : (fun w' => w'.cell? ⟨gz + 1, 9, none⟩ = some (.slice A k cc)) u2 := M2.cell 9
        clear M1 Z1 O1 B1 hHeld1
        clear hK K
        (try simp only [Act.put, List.getElem_toArray, List.getElem_cons_succ, List.getElem_cons_zero, List.setIfInBounds_toArray, List.set_cons_zero, List.set_cons_succ])
        refine wpAnyX_take (i := 10) [11, 12, 13, 14, 15] (v := ?_) rfl (by kernel_rfl) (by kernel_rfl) (by kernel_rfl) (by kernel_rfl) (fun _ _ _ h => h) (Or.inl ⟨by kernel_rfl, ?_⟩) (by assumption) ?_
        rotate_left 1
        · (intro w hSw; have q0 := hSw; go_simp; try (with_reducible rfl))
        (try simp only [Act.put, List.getElem_toArray, List.getElem_cons_succ, List.getElem_cons_zero, List.setIfInBounds_toArray, List.set_cons_zero, List.set_cons_succ])
        refine wpAnyX_take (i := 11) [12, 13, 14, 15] (v := ?_) rfl (by kernel_rfl) (by kernel_rfl) (by kernel_rfl) (by kernel_rfl) (fun _ _ _ h => h) (Or.inl ⟨by kernel_rfl, ?_⟩) (by assumption) ?_
        rotate_left 1
        · (intro w hSw; have q0 := hSw; go_simp; try (with_reducible rfl))
        (try simp only [Act.put, List.getElem_toArray, List.getElem_cons_succ, List.getElem_cons_zero, List.setIfInBounds_toArray, List.set_cons_zero, List.set_cons_succ])
        refine wpAnyX_one 12 (by kernel_rfl) rfl (fun K hK => ?_)
        go_simp
        have M3 := (M2).alloc (.cells #[.int .i64 (y0 : Int), .int .i64 (y1 : Int)] 84)
        have Z3 := (Z2).alloc (.cells #[.int .i64 (y0 : Int), .int .i64 (y1 : Int)] 84)
        have O3 := (O2).alloc (.cells #[.int .i64 (y0 : Int), .int .i64 (y1 : Int)] 84)
        have B3 := (B2).alloc (B2).size (.cells #[.int .i64 (y0 : Int), .int .i64 (y1 : Int)] 84)
        refine hK.out _ _ (.inr (M3.cell 9)) ?_
        have hHeld3 : (fun w' => w'.cell? ⟨gz + 1, 9, none⟩ = some (.slice A k cc)) (u2.alloc (.cells #[.int .i64 (y0 : Int), .int .i64 (y1 : Int)] 84)) := M3.cell 9
        clear hK K
        (try simp only [Act.put, List.getElem_toArray, List.getElem_cons_succ, List.getElem_cons_zero, List.setIfInBounds_toArray, List.set_cons_zero, List.set_cons_succ])
        refine wpAnyX_one 13 (by kernel_rfl) rfl (fun K hK => ?_)
        have hz4 := (M2).lt
        refine step_append_lies _ (by rfl) (.tmp 177) (.tmp 188) 47 (by rfl) (gz + 2) 84 i0 _ 2 16 Tryd.underlying47 HI0.out HZ0.out HZ1.out HZ2.out rfl (by omega) (.slice A k cc) k (dpC (rdPairs s k)) (by rfl) O3 ⟨u2.heap.size, 0, none⟩ 1 1 [.int .i64 (y0 : Int), .int .i64 (y1 : Int)] (by rfl) (by rfl) (World.news_of_block (cs := #[.int .i64 (y0 : Int), .int .i64 (y1 : Int)]) (t := 84) (fr := (0, 0)) (heap_alloc_new u2 _)) (by simp [Value.oneCell']) (by omega) (by unfold maxLen; omega) (by omega) (by simp; omega) (u2.heap.size + 1) (by simp) ?_
        intro gg cap w2 hown2 hgrow hat hlt9
        have B4 : Below w.heap.size w w2 := (B3).grown hgrow (by have := (B3).size; simp at this ⊢; omega) (fun q hq => by have := HNE.out q hq; have := HGZ.out; omega)
        have M4 := (M3).grown hgrow (fun e => by have := HNE.out _ e.symm; omega)
        have Z4 := (Z3).grown hgrow (fun e => by have := HNE.out _ e.symm; omega)
        clear hgrow hat hlt9
        have e9 := M4.cell 9
        have f9 := M4.free 9
        simp at e9
        refine hK.out _ _ (.inr (M4.cell 9)) ?_
        have hHeld4 : (fun w' => w'.cell? ⟨gz + 1, 9, none⟩ = some (.slice A k cc)) w2 := M4.cell 9
        clear hK K
        (try simp only [Act.put, List.getElem_toArray, List.getElem_cons_succ, List.getElem_cons_zero, List.setIfInBounds_toArray, List.set_cons_zero, List.set_cons_succ])
        refine wpAnyX_take (i := 14) [15] (v := ?_) rfl (by kernel_rfl) (by kernel_rfl) (by kernel_rfl) (by kernel_rfl) (fun _ _ _ h => h) (Or.inl ⟨by kernel_rfl, ?_⟩) (by assumption) ?_
        rotate_left 1
        · (intro w hSw; have q0 := hSw; go_simp; try (with_reducible rfl))
        (try simp only [Act.put, List.getElem_toArray, List.getElem_cons_succ, List.getElem_cons_zero, List.setIfInBounds_toArray, List.set_cons_zero, List.set_cons_succ])
        refine wpAnyX_one 15 (by kernel_rfl) rfl (fun K hK => ?_)
        have HM5 := Lib.hid (M4.set 9 (.slice (some ⟨gg, 0, none⟩) (k + 1) cap))
        have HZ5 := Lib.hid (Z4.far (p := ⟨gz + 1, 9, none⟩) (show gz ≠ gz + 1 by omega) (.slice (some ⟨gg, 0, none⟩) (k + 1) cap))
        have HB5 := Lib.hid (B4.setCell (p := ⟨gz + 1, 9, none⟩) (show w.heap.size ≤ gz + 1 by have := HGZ.out; omega) (.slice (some ⟨gg, 0, none⟩) (k + 1) cap))
        have HO5 := Lib.hid (ownsRow_setCell_below hown2 (a := ⟨gz + 1, 9, none⟩) (show gz + 1 < gz + 2 by omega) (.slice (some ⟨gg, 0, none⟩) (k + 1) cap))
        go_simp
        refine hK.out _ _ (.inl (by decide)) ?_
        clear hK K
        (try simp only [Act.put, List.getElem_toArray, List.getElem_cons_succ, List.getElem_cons_zero, List.setIfInBounds_toArray, List.set_cons_zero, List.set_cons_succ])
        refine wpAnyX_done (by kernel_rfl) ?_ _
        rw [← HLK.out] at HO5
        go_wp2
        go_roundw
        case rel => exact ⟨k + 1, some ⟨gg, 0, none⟩, cap, ka + 4, by omega, by go_num, by have := HKA.out; omega, HM5.out, HZ5.out, HO5.out, HB5.out⟩
        case measure => simp [intOf]; omega
      · obtain rfl : nr = k := by omega
        have hin : ¬ (ka : Int) + 4 ≤ (s.length : Int) := by omega
        have hkb : ka < 1600 := by omega
        have q9 : wr.cell? ⟨gz + 1, 9, none⟩ = some (.slice A nr cc) := WM.cell 9
        clear hka
        by_cases hn0 : nr = 0
        · subst hn0
          go_wp2_with fail
          refine wp_loop_rounds 1 ?_
          rw [rounds_succ]
          have c0 := WM.cell 0
          have e0 := WZ.cell 0
          have f0 := WZ.free 0
          have c1 := WM.cell 1
          have e1 := WZ.cell 1
          have f1 := WZ.free 1
          have c2 := WM.cell 2
          have e2 := WZ.cell 2
          have f2 := WZ.free 2
          have c3 := WM.cell 3
          have e3 := WZ.cell 3
          have f3 := WZ.free 3
          have c4 := WM.cell 4
          have e4 := WZ.cell 4
          have f4 := WZ.free 4
          have c5 := WM.cell 5
          have e5 := WZ.cell 5
          have f5 := WZ.free 5
          have c6 := WM.cell 6
          have e6 := WZ.cell 6
          have f6 := WZ.free 6
          have c7 := WM.cell 7
          have e7 := WZ.cell 7
          have f7 := WZ.free 7
          have c8 := WM.cell 8
          have e8 := WZ.cell 8
          have f8 := WZ.free 8
          have c9 := WM.cell 9
          have e9 := WZ.cell 9
          have f9 := WZ.free 9
          have c10 := WM.cell 10
          have e10 := WZ.cell 10
          have f10 := WZ.free 10
          have c11 := WM.cell 11
          have e11 := WZ.cell 11
          have f11 := WZ.free 11
          simp at c0 e0 c1 e1 c2 e2 c3 e3 c4 e4 c5 e5 c6 e6 c7 e7 c8 e8 c9 e9 c10 e10 c11 e11
          have hgz := HGZ.out
          have hle : w.heap.size ≤ gz := by omega
          clear hgz
          have HBB := Lib.hid (below12 (r := gz) hb hle (.int .i64 0) (.int .u32 0) (.int .u32 0) (.int .u64 0) (.int .u32 0) (.int .u32 0) (.int .u32 0) (.slice none 0 0) (.slice none 0 0) (.slice none 0 0) (.slice none 0 0) (.int .u8 0))
          have HW := Lib.hid (whole12 WZ (.int .i64 0) (.int .u32 0) (.int .u32 0) (.int .u64 0) (.int .u32 0) (.int .u32 0) (.int .u32 0) (.slice none 0 0) (.slice none 0 0) (.slice none 0 0) (.slice none 0 0) (.int .u8 0))
          clear WM WZ hb hown
          go_wp2_with fail
          obtain ⟨we, hwe⟩ : ∃ we, we = ((((((((((((wr.setCell ⟨gz, 0, none⟩ (.int .i64 0)).setCell ⟨gz, 1, none⟩ (.int .u32 0)).setCell ⟨gz, 2, none⟩ (.int .u32 0)).setCell ⟨gz, 3, none⟩ (.int .u64 0)).setCell ⟨gz, 4, none⟩ (.int .u32 0)).setCell ⟨gz, 5, none⟩ (.int .u32 0)).setCell ⟨gz, 6, none⟩ (.int .u32 0)).setCell ⟨gz, 7, none⟩ (.slice none 0 0)).setCell ⟨gz, 8, none⟩ (.slice none 0 0)).setCell ⟨gz, 9, none⟩ (.slice none 0 0)).setCell ⟨gz, 10, none⟩ (.slice none 0 0)).setCell ⟨gz, 11, none⟩ (.int .u8 0)) := ⟨_, rfl⟩
          rw [← hwe] at HW HBB ⊢
          clear hwe c0 e0 f0 c1 e1 f1 c2 e2 f2 c3 e3 f3 c4 e4 f4 c5 e5 f5 c6 e6 f6 c7 e7 f7 c8 e8 f8 c9 e9 f9 c10 e10 f10 c11 e11 f11
          have e0 : we.cell? ⟨gz, 0, none⟩ = some (.int .i64 0) := HW.out.cell 0
          have e1 : we.cell? ⟨gz, 1, none⟩ = some (.int .u32 0) := HW.out.cell 1
          have e2 : we.cell? ⟨gz, 2, none⟩ = some (.int .u32 0) := HW.out.cell 2
          have e3 : we.cell? ⟨gz, 3, none⟩ = some (.int .u64 0) := HW.out.cell 3
          have e4 : we.cell? ⟨gz, 4, none⟩ = some (.int .u32 0) := HW.out.cell 4
          have e5 : we.cell? ⟨gz, 5, none⟩ = some (.int .u32 0) := HW.out.cell 5
          have e6 : we.cell? ⟨gz, 6, none⟩ = some (.int .u32 0) := HW.out.cell 6
          have e7 : we.cell? ⟨gz, 7, none⟩ = some (.slice none 0 0) := HW.out.cell 7
          have e8 : we.cell? ⟨gz, 8, none⟩ = some (.slice none 0 0) := HW.out.cell 8
          have e9 : we.cell? ⟨gz, 9, none⟩ = some (.slice none 0 0) := HW.out.cell 9
          have e10 : we.cell? ⟨gz, 10, none⟩ = some (.slice none 0 0) := HW.out.cell 10
          have e11 : we.cell? ⟨gz, 11, none⟩ = some (.int .u8 0) := HW.out.cell 11
          refine bodyPost_ret (v := .tuple #[.agg #[.int .i64 0, .int .u32 0, .int .u32 0, .int .u64 0, .int .u32 0, .int .u32 0, .int .u32 0, .slice none 0 0, .slice none 0 0, .slice none 0 0, .slice none 0 0, .int .u8 0], .int .i64 11]) (by simp [results, Tryd.results29, e0, e1, e2, e3, e4, e5, e6, e7, e8, e9, e10, e11, go_sem]) rfl ?_
          rw [HP0.out (by simp)]
          exact ⟨⟨none, 0, none, 0, none, 0, none, 0⟩, rfl, rdzero_at _ _ zeroM rfl rfl rfl rfl, SlNew.empty _, HBB.out⟩
        · have hn0i : ¬ (nr : Int) = 0 := by omega
          have hn0b : ((nr : Int) == 0) = false := by simpa using hn0i
          have HN0 := Lib.hid hn0
          clear hn0
          go_wp2_with fail
          refine wp_loop_rounds 1 ?_
          rw [rounds_succ]
          have c0 := WM.cell 0
          have e0 := WZ.cell 0
          have f0 := WZ.free 0
          have c1 := WM.cell 1
          have e1 := WZ.cell 1
          have f1 := WZ.free 1
          have c2 := WM.cell 2
          have e2 := WZ.cell 2
          have f2 := WZ.free 2
          have c3 := WM.cell 3
          have e3 := WZ.cell 3
          have f3 := WZ.free 3
          have c4 := WM.cell 4
          have e4 := WZ.cell 4
          have f4 := WZ.free 4
          have c5 := WM.cell 5
          have e5 := WZ.cell 5
          have f5 := WZ.free 5
          have c6 := WM.cell 6
          have e6 := WZ.cell 6
          have f6 := WZ.free 6
          have c7 := WM.cell 7
          have e7 := WZ.cell 7
          have f7 := WZ.free 7
          have c8 := WM.cell 8
          have e8 := WZ.cell 8
          have f8 := WZ.free 8
          have c9 := WM.cell 9
          have e9 := WZ.cell 9
          have f9 := WZ.free 9
          have c10 := WM.cell 10
          have e10 := WZ.cell 10
          have f10 := WZ.free 10
          have c11 := WM.cell 11
          have e11 := WZ.cell 11
          have f11 := WZ.free 11
          simp at c0 e0 c1 e1 c2 e2 c3 e3 c4 e4 c5 e5 c6 e6 c7 e7 c8 e8 c9 e9 c10 e10 c11 e11
          have hgz := HGZ.out
          have hle : w.heap.size ≤ gz := by omega
          clear hgz
          have HBB := Lib.hid (below12 (r := gz) hb hle (.int .i64 3) (.int .u32 (x1 : Int)) (.int .u32 (x2 : Int)) (.int .u64 0) (.int .u32 0) (.int .u32 0) (.int .u32 0) (.slice none 0 0) (.slice none 0 0) (.slice A nr cc) (.slice none 0 0) (.int .u8 0))
          have HR := Lib.hid (own12 (r := gz) hown (by omega) (.int .i64 3) (.int .u32 (x1 : Int)) (.int .u32 (x2 : Int)) (.int .u64 0) (.int .u32 0) (.int .u32 0) (.int .u32 0) (.slice none 0 0) (.slice none 0 0) (.slice A nr cc) (.slice none 0 0) (.int .u8 0))
          have HW := Lib.hid (whole12 WZ (.int .i64 3) (.int .u32 (x1 : Int)) (.int .u32 (x2 : Int)) (.int .u64 0) (.int .u32 0) (.int .u32 0) (.int .u32 0) (.slice none 0 0) (.slice none 0 0) (.slice A nr cc) (.slice none 0 0) (.int .u8 0))
          clear WM WZ hb hown
          go_wp2_with fail
          obtain ⟨we, hwe⟩ : ∃ we, we = ((((((((((((wr.setCell ⟨gz, 0, none⟩ (.int .i64 3)).setCell ⟨gz, 1, none⟩ (.int .u32 (x1 : Int))).setCell ⟨gz, 2, none⟩ (.int .u32 (x2 : Int))).setCell ⟨gz, 3, none⟩ (.int .u64 0)).setCell ⟨gz, 4, none⟩ (.int .u32 0)).setCell ⟨gz, 5, none⟩ (.int .u32 0)).setCell ⟨gz, 6, none⟩ (.int .u32 0)).setCell ⟨gz, 7, none⟩ (.slice none 0 0)).setCell ⟨gz, 8, none⟩ (.slice none 0 0)).setCell ⟨gz, 9, none⟩ (.slice A nr cc)).setCell ⟨gz, 10, none⟩ (.slice none 0 0)).setCell ⟨gz, 11, none⟩ (.int .u8 0)) := ⟨_, rfl⟩
          rw [← hwe] at HW HBB HR ⊢
          clear hwe c0 e0 f0 c1 e1 f1 c2 e2 f2 c3 e3 f3 c4 e4 f4 c5 e5 f5 c6 e6 f6 c7 e7 f7 c8 e8 f8 c9 e9 f9 c10 e10 f10 c11 e11 f11
          have e0 : we.cell? ⟨gz, 0, none⟩ = some (.int .i64 3) := HW.out.cell 0
          have e1 : we.cell? ⟨gz, 1, none⟩ = some (.int .u32 (x1 : Int)) := HW.out.cell 1
          have e2 : we.cell? ⟨gz, 2, none⟩ = some (.int .u32 (x2 : Int)) := HW.out.cell 2
          have e3 : we.cell? ⟨gz, 3, none⟩ = some (.int .u64 0) := HW.out.cell 3
          have e4 : we.cell? ⟨gz, 4, none⟩ = some (.int .u32 0) := HW.out.cell 4
          have e5 : we.cell? ⟨gz, 5, none⟩ = some (.int .u32 0) := HW.out.cell 5
          have e6 : we.cell? ⟨gz, 6, none⟩ = some (.int .u32 0) := HW.out.cell 6
          have e7 : we.cell? ⟨gz, 7, none⟩ = some (.slice none 0 0) := HW.out.cell 7
          have e8 : we.cell? ⟨gz, 8, none⟩ = some (.slice none 0 0) := HW.out.cell 8
          have e9 : we.cell? ⟨gz, 9, none⟩ = some (.slice A nr cc) := HW.out.cell 9
          have e10 : we.cell? ⟨gz, 10, none⟩ = some (.slice none 0 0) := HW.out.cell 10
          have e11 : we.cell? ⟨gz, 11, none⟩ = some (.int .u8 0) := HW.out.cell 11
          refine bodyPost_ret (v := .tuple #[.agg #[.int .i64 3, .int .u32 (x1 : Int), .int .u32 (x2 : Int), .int .u64 0, .int .u32 0, .int .u32 0, .int .u32 0, .slice none 0 0, .slice none 0 0, .slice A nr cc, .slice none 0 0, .int .u8 0], .int .i64 0]) (by simp [results, Tryd.results29, e0, e1, e2, e3, e4, e5, e6, e7, e8, e9, e10, e11, go_sem]) rfl ?_
          have hlen : (rdPairs s nr).length = nr := by simp [rdPairs]
          rw [(HP.out HN0.out)]
          exact ⟨⟨none, 0, none, 0, A, cc, none, 0⟩, by simp [Ms.cells, hlen], ⟨Row.nil, Row.nil, (by have hR := Row.of_own HR.out; dsimp only; rw [hlen]; exact hR), Row.nil⟩, ⟨no_new _, no_new _, (sl_new HR.out (by omega)), no_new _⟩, HBB.out⟩
end Go.Proofs.YtcjmiidnhbmclaaDoor
