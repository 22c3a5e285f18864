/-
  The document's read, kind 2 (layer 9).
-/
import Derived.Test.YtcjmiidnhbmclaaDoorRdA
import Derived.Deep.AppendLies
namespace Go.Proofs.YtcjmiidnhbmclaaDoor
set_option maxRecDepth 1000000
set_option linter.unusedSimpArgs false
open Go.RowKit

set_option maxHeartbeats 12800000 in
theorem dread2_any (s : List UInt8) (c : Nat) (w : World) (hl : s.length ≤ 1500) (hc : c < 32) :
    Calls Tryd.prog 29 #[.int .i64 203, .int .i64 (c : Int), .string (str s)] w (RdR (readM 203 c s) w) := by
  obtain ⟨nd, hnd⟩ : ∃ n, 4 * c = n := ⟨_, rfl⟩
  have hndi : 4 * (c : Int) = (nd : Int) := by omega
  by_cases h8 : (s.length : Int) < (nd : Int)
  · have HP : Hid (readM 203 c s = (zeroM, 10)) := Lib.hid (by unfold readM; simp [show s.length < 4 * c by omega])
    clear hnd
    go_enter Tryd.func29, Tryd.ntmps29
    go_wp2_with fail
    exact bodyPost_ret (v := .tuple #[.agg #[.int .i64 0, .int .u32 0, .int .u32 0, .int .u64 0, .int .u32 0, .int .u32 0, .int .u32 0, .slice none 0 0, .slice none 0 0, .slice none 0 0, .slice none 0 0, .int .u8 0], .int .i64 10]) (by simp [results, Tryd.results29, go_sem]) rfl (RdR.plain zeroM 10 (((Below.refl _ _).alloc (Nat.le_refl _) _).alloc (by simp) _) HP.out rfl rfl rfl rfl)
  · have HP : Hid (readM 203 c s = (⟨2, 0, 0, 0, 0, 0, 0, [], rdWho s c, [], [], 0⟩, 0)) := Lib.hid (by unfold readM; simp [show ¬ s.length < 4 * c by omega])
    have HND := Lib.hid hnd
    clear hnd
    go_enter Tryd.func29, Tryd.ntmps29
    go_wp2_with fail
    have WZ := (Whole.new w 50 #[.int .i64 0, .int .u32 0, .int .u32 0, .int .u64 0, .int .u32 0, .int .u32 0, .int .u32 0, .slice none 0 0, .slice none 0 0, .slice none 0 0, .slice none 0 0, .int .u8 0]).alloc (.cells #[.int .i64 2, .int .u32 0, .int .u32 0, .int .u64 0, .int .u32 0, .int .u32 0, .int .u32 0, .slice none 0 0, .slice none 0 0, .slice none 0 0, .slice none 0 0, .int .u8 0] 50)
    have WM := Whole.new2 w (.cells #[.int .i64 0, .int .u32 0, .int .u32 0, .int .u64 0, .int .u32 0, .int .u32 0, .int .u32 0, .slice none 0 0, .slice none 0 0, .slice none 0 0, .slice none 0 0, .int .u8 0] 50) 50 #[.int .i64 2, .int .u32 0, .int .u32 0, .int .u64 0, .int .u32 0, .int .u32 0, .int .u32 0, .slice none 0 0, .slice none 0 0, .slice none 0 0, .slice none 0 0, .int .u8 0]
    have B0 := ((Below.refl w.heap.size w).alloc (Nat.le_refl _) (.cells #[.int .i64 0, .int .u32 0, .int .u32 0, .int .u64 0, .int .u32 0, .int .u32 0, .int .u32 0, .slice none 0 0, .slice none 0 0, .slice none 0 0, .slice none 0 0, .int .u8 0] 50)).alloc (by simp) (.cells #[.int .i64 2, .int .u32 0, .int .u32 0, .int .u64 0, .int .u32 0, .int .u32 0, .int .u32 0, .slice none 0 0, .slice none 0 0, .slice none 0 0, .slice none 0 0, .int .u8 0] 50)
    obtain ⟨v0, hv0⟩ : ∃ w0, w0 = (w.alloc (.cells #[.int .i64 0, .int .u32 0, .int .u32 0, .int .u64 0, .int .u32 0, .int .u32 0, .int .u32 0, .slice none 0 0, .slice none 0 0, .slice none 0 0, .slice none 0 0, .int .u8 0] 50)).alloc (.cells #[.int .i64 2, .int .u32 0, .int .u32 0, .int .u64 0, .int .u32 0, .int .u32 0, .int .u32 0, .slice none 0 0, .slice none 0 0, .slice none 0 0, .slice none 0 0, .int .u8 0] 50) := ⟨_, rfl⟩
    rw [← hv0] at WZ WM B0 ⊢
    clear hv0
    obtain ⟨gz, hgz⟩ : ∃ g, g = w.heap.size := ⟨_, rfl⟩
    rw [← hgz] at WZ WM ⊢
    have HGZ := Lib.hid hgz
    have HZ := Lib.hid WZ
    have HB := Lib.hid B0
    have HM := Lib.hid WM
    clear hgz WZ B0 WM
    go_loopw [11] (fun i wr => ∃ (k : Nat) (A : Option Addr) (cc : Nat), k ≤ c ∧ i = .int .i64 k ∧ Whole wr (gz + 1) 50 #[.int .i64 2, .int .u32 0, .int .u32 0, .int .u64 0, .int .u32 0, .int .u32 0, .int .u32 0, .slice none 0 0, .slice A k cc, .slice none 0 0, .slice none 0 0, .int .u8 0] ∧ Whole wr gz 50 #[.int .i64 0, .int .u32 0, .int .u32 0, .int .u64 0, .int .u32 0, .int .u32 0, .int .u32 0, .slice none 0 0, .slice none 0 0, .slice none 0 0, .slice none 0 0, .int .u8 0] ∧ wr.ownsRow (gz + 2) 43 1 (.slice A k cc) k (u32s (rdWho s k)) ∧ Below w.heap.size w wr) (fun i _ => c - (intOf i).toNat)
    case atStart => exact ⟨0, none, 0, Nat.zero_le _, rfl, HM.out, HZ.out, World.ownsRow_nil _ _ _ _, HB.out⟩
    case round =>
      clear HM HZ HB
      obtain ⟨k, A, cc, hk, rfl, WM, WZ, hown, hb⟩ := hrel
      by_cases hlt : k < c
      · have hnd := HND.out
        obtain ⟨k4, hk4⟩ : ∃ q, 4 * k = q := ⟨_, rfl⟩
        obtain ⟨x, hx⟩ : ∃ x, numAt s (4 * k) 4 = x := ⟨_, rfl⟩
        have HLK : Hid (u32s (rdWho s (k + 1)) = u32s (rdWho s k) ++ [.int .u32 (x : Int)]) := Lib.hid (by rw [rdWho_succ, hx]; simp [u32s])
        have D0 := Lib.hid (fun w => rnum_any s k4 4 x (by rw [← hk4]; exact hx) w (by unfold maxLen; omega) (by decide) (by decide) (by omega))
        have bx : x < 4294967296 := by have := numAt_lt s (4 * k) 4; rw [hx] at this; omega
        have ex := u32_nat9 x bx
        have e4 : IntKind.i64.wrap (4 * (k : Int)) = (k4 : Int) := i64_mul9 4 k k4 hk4 (by omega)
        have hi1 : (0 : Int) ≤ (k : Int) := by omega
        have hi2 : (k : Int) < (c : Int) := by omega
        have HM := Lib.hid WM
        have HZ := Lib.hid WZ
        have HO := Lib.hid hown
        have HB := Lib.hid hb
        clear hnd hk4 hx WM WZ hown hb
        obtain ⟨i0, hi0, hz0, hz1, hz2⟩ := info_parts info_u32D
        have HI0 := Lib.hid hi0
        have HZ0 := Lib.hid hz0
        have HZ1 := Lib.hid hz1
        have HZ2 := Lib.hid hz2
        have HNE : Hid (∀ q, (Value.slice A k cc).ownBlock = some q → gz + 2 ≤ q) := Lib.hid (fun q hq => (HO.out.lt q hq).1)
        clear hi0 hz0 hz1 hz2
        go_wp2_with fail
        refine wp_region_X (S := fun w' => w'.cell? ⟨gz + 1, 8, none⟩ = some (.slice A k cc)) [10] (by kernel_rfl) (HM.out.cell 8) (fun hHeld0 => ?_)
        refine wpAnyX_take (i := 0) [1, 8, 9, 10] (v := ?_) rfl (by kernel_rfl) (by kernel_rfl) (by kernel_rfl) (by kernel_rfl) (fun _ _ _ h => h) (Or.inl ⟨by kernel_rfl, ?_⟩) (by assumption) ?_
        rotate_left 1
        · (intro w hSw; have q0 := hSw; go_simp; try (with_reducible rfl))
        (try simp only [Act.put, List.getElem_toArray, List.getElem_cons_succ, List.getElem_cons_zero, List.setIfInBounds_toArray, List.set_cons_zero, List.set_cons_succ])
        refine wpAnyX_take (i := 1) [8, 9, 10] (v := ?_) rfl (by kernel_rfl) (by kernel_rfl) (by kernel_rfl) (by kernel_rfl) (fun _ _ _ h => h) (Or.inl ⟨by kernel_rfl, ?_⟩) (by assumption) ?_
        rotate_left 1
        · (intro w hSw; have q0 := hSw; go_simp; try (with_reducible rfl))
        (try simp only [Act.put, List.getElem_toArray, List.getElem_cons_succ, List.getElem_cons_zero, List.setIfInBounds_toArray, List.set_cons_zero, List.set_cons_succ])
        refine wpAnyX_take (i := 2) [5, 6, 7, 8, 9, 10] (v := ?_) rfl (by kernel_rfl) (by kernel_rfl) (by kernel_rfl) (by kernel_rfl) (fun _ _ _ h => h) (Or.inl ⟨by kernel_rfl, ?_⟩) (by assumption) ?_
        rotate_left 1
        · (intro w hSw; have q0 := hSw; go_simp; try (with_reducible rfl))
        (try simp only [Act.put, List.getElem_toArray, List.getElem_cons_succ, List.getElem_cons_zero, List.setIfInBounds_toArray, List.set_cons_zero, List.set_cons_succ])
        refine wpAnyX_take (i := 3) [4, 5, 6, 7, 8, 9, 10] (v := ?_) rfl (by kernel_rfl) (by kernel_rfl) (by kernel_rfl) (by kernel_rfl) (fun _ _ _ h => h) (Or.inl ⟨by kernel_rfl, ?_⟩) (by assumption) ?_
        rotate_left 1
        · (intro w hSw; have q0 := hSw; go_simp; try (with_reducible rfl))
        (try simp only [Act.put, List.getElem_toArray, List.getElem_cons_succ, List.getElem_cons_zero, List.setIfInBounds_toArray, List.set_cons_zero, List.set_cons_succ])
        refine wpAnyX_take (i := 4) [5, 6, 7, 8, 9, 10] (v := ?_) rfl (by kernel_rfl) (by kernel_rfl) (by kernel_rfl) (by kernel_rfl) (fun _ _ _ h => h) (Or.inl ⟨by kernel_rfl, ?_⟩) (by assumption) ?_
        rotate_left 1
        · (intro w hSw; have q0 := hSw; go_simp; try (with_reducible rfl))
        (try simp only [Act.put, List.getElem_toArray, List.getElem_cons_succ, List.getElem_cons_zero, List.setIfInBounds_toArray, List.set_cons_zero, List.set_cons_succ])
        refine wpAnyX_one 5 (by kernel_rfl) rfl (fun K hK => ?_)
        go_simp
        go_wp2_with (go_at_call 28; refine (D0.out _).mono ?_; rintro e u1 ⟨rfl, k1⟩)
        have M1 := (HM.out.drew).below k1 (HM.out.drew).lt
        have Z1 := (HZ.out.drew).below k1 (HZ.out.drew).lt
        have O1 := own_below HO.out.drew k1 (Nat.le_refl _)
        have B1 := (HB.out.drew).trans (k1.mono (HB.out.drew).size)
        clear k1
        refine hK.out _ _ (.inr (M1.cell 8)) ?_
        have hHeld1 : (fun w' => w'.cell? ⟨gz + 1, 8, none⟩ = some (.slice A k cc)) u1 := M1.cell 8
        clear hK K
        (try simp only [Act.put, List.getElem_toArray, List.getElem_cons_succ, List.getElem_cons_zero, List.setIfInBounds_toArray, List.set_cons_zero, List.set_cons_succ])
        refine wpAnyX_take (i := 6) [7, 8, 9, 10] (v := ?_) rfl (by kernel_rfl) (by kernel_rfl) (by kernel_rfl) (by kernel_rfl) (fun _ _ _ h => h) (Or.inl ⟨by kernel_rfl, ?_⟩) (by assumption) ?_
        rotate_left 1
        · (intro w hSw; have q0 := hSw; go_simp; try (with_reducible rfl))
        (try simp only [Act.put, List.getElem_toArray, List.getElem_cons_succ, List.getElem_cons_zero, List.setIfInBounds_toArray, List.set_cons_zero, List.set_cons_succ])
        refine wpAnyX_one 7 (by kernel_rfl) rfl (fun K hK => ?_)
        go_simp
        have M2 := (M1).alloc (.cells #[.int .u32 (x : Int)] 43)
        have Z2 := (Z1).alloc (.cells #[.int .u32 (x : Int)] 43)
        have O2 := (O1).alloc (.cells #[.int .u32 (x : Int)] 43)
        have B2 := (B1).alloc (B1).size (.cells #[.int .u32 (x : Int)] 43)
        refine hK.out _ _ (.inr (M2.cell 8)) ?_
        have hHeld2 : (fun w' => w'.cell? ⟨gz + 1, 8, none⟩ = some (.slice A k cc)) (u1.alloc (.cells #[.int .u32 (x : Int)] 43)) := M2.cell 8
        clear hK K
        (try simp only [Act.put, List.getElem_toArray, List.getElem_cons_succ, List.getElem_cons_zero, List.setIfInBounds_toArray, List.set_cons_zero, List.set_cons_succ])
        refine wpAnyX_one 8 (by kernel_rfl) rfl (fun K hK => ?_)
        have hz3 := (M1).lt
        refine step_append_lies _ (by rfl) (.tmp 78) (.tmp 84) 46 (by rfl) (gz + 2) 43 i0 _ 1 4 Tryd.underlying46 HI0.out HZ0.out HZ1.out HZ2.out rfl (by omega) (.slice A k cc) k (u32s (rdWho s k)) (by rfl) O2 ⟨u1.heap.size, 0, none⟩ 1 1 [.int .u32 (x : Int)] (by rfl) (by rfl) (World.news_of_block (cs := #[.int .u32 (x : Int)]) (t := 43) (fr := (0, 0)) (heap_alloc_new u1 _)) (by simp [Value.oneCell']) (by omega) (by unfold maxLen; omega) (by omega) (by simp; omega) (u1.heap.size + 1) (by simp) ?_
        intro gg cap w2 hown2 hgrow hat hlt9
        have B3 : Below w.heap.size w w2 := (B2).grown hgrow (by have := (B2).size; simp at this ⊢; omega) (fun q hq => by have := HNE.out q hq; have := HGZ.out; omega)
        have M3 := (M2).grown hgrow (fun e => by have := HNE.out _ e.symm; omega)
        have Z3 := (Z2).grown hgrow (fun e => by have := HNE.out _ e.symm; omega)
        clear hgrow hat hlt9
        have e9 := M3.cell 8
        have f9 := M3.free 8
        simp at e9
        refine hK.out _ _ (.inr (M3.cell 8)) ?_
        have hHeld3 : (fun w' => w'.cell? ⟨gz + 1, 8, none⟩ = some (.slice A k cc)) w2 := M3.cell 8
        clear hK K
        (try simp only [Act.put, List.getElem_toArray, List.getElem_cons_succ, List.getElem_cons_zero, List.setIfInBounds_toArray, List.set_cons_zero, List.set_cons_succ])
        refine wpAnyX_take (i := 9) [10] (v := ?_) rfl (by kernel_rfl) (by kernel_rfl) (by kernel_rfl) (by kernel_rfl) (fun _ _ _ h => h) (Or.inl ⟨by kernel_rfl, ?_⟩) (by assumption) ?_
        rotate_left 1
        · (intro w hSw; have q0 := hSw; go_simp; try (with_reducible rfl))
        (try simp only [Act.put, List.getElem_toArray, List.getElem_cons_succ, List.getElem_cons_zero, List.setIfInBounds_toArray, List.set_cons_zero, List.set_cons_succ])
        refine wpAnyX_one 10 (by kernel_rfl) rfl (fun K hK => ?_)
        have HM4 := Lib.hid (M3.set 8 (.slice (some ⟨gg, 0, none⟩) (k + 1) cap))
        have HZ4 := Lib.hid (Z3.far (p := ⟨gz + 1, 8, none⟩) (show gz ≠ gz + 1 by omega) (.slice (some ⟨gg, 0, none⟩) (k + 1) cap))
        have HB4 := Lib.hid (B3.setCell (p := ⟨gz + 1, 8, none⟩) (show w.heap.size ≤ gz + 1 by have := HGZ.out; omega) (.slice (some ⟨gg, 0, none⟩) (k + 1) cap))
        have HO4 := Lib.hid (ownsRow_setCell_below hown2 (a := ⟨gz + 1, 8, none⟩) (show gz + 1 < gz + 2 by omega) (.slice (some ⟨gg, 0, none⟩) (k + 1) cap))
        go_simp
        refine hK.out _ _ (.inl (by decide)) ?_
        clear hK K
        (try simp only [Act.put, List.getElem_toArray, List.getElem_cons_succ, List.getElem_cons_zero, List.setIfInBounds_toArray, List.set_cons_zero, List.set_cons_succ])
        refine wpAnyX_done (by kernel_rfl) ?_ _
        rw [← HLK.out] at HO4
        go_wp2
        go_roundw
        case rel => exact ⟨k + 1, some ⟨gg, 0, none⟩, cap, by omega, by go_num, HM4.out, HZ4.out, HO4.out, HB4.out⟩
        case measure => simp [intOf]; omega
      · obtain rfl : c = k := by omega
        have c0 := WM.cell 0
        have e0 := WZ.cell 0
        have f0 := WZ.free 0
        have c1 := WM.cell 1
        have e1 := WZ.cell 1
        have f1 := WZ.free 1
        have c2 := WM.cell 2
        have e2 := WZ.cell 2
        have f2 := WZ.free 2
        have c3 := WM.cell 3
        have e3 := WZ.cell 3
        have f3 := WZ.free 3
        have c4 := WM.cell 4
        have e4 := WZ.cell 4
        have f4 := WZ.free 4
        have c5 := WM.cell 5
        have e5 := WZ.cell 5
        have f5 := WZ.free 5
        have c6 := WM.cell 6
        have e6 := WZ.cell 6
        have f6 := WZ.free 6
        have c7 := WM.cell 7
        have e7 := WZ.cell 7
        have f7 := WZ.free 7
        have c8 := WM.cell 8
        have e8 := WZ.cell 8
        have f8 := WZ.free 8
        have c9 := WM.cell 9
        have e9 := WZ.cell 9
        have f9 := WZ.free 9
        have c10 := WM.cell 10
        have e10 := WZ.cell 10
        have f10 := WZ.free 10
        have c11 := WM.cell 11
        have e11 := WZ.cell 11
        have f11 := WZ.free 11
        simp at c0 e0 c1 e1 c2 e2 c3 e3 c4 e4 c5 e5 c6 e6 c7 e7 c8 e8 c9 e9 c10 e10 c11 e11
        have hgz := HGZ.out
        have hle : w.heap.size ≤ gz := by omega
        clear hgz
        have HBB := Lib.hid (below12 (r := gz) hb hle (.int .i64 2) (.int .u32 0) (.int .u32 0) (.int .u64 0) (.int .u32 0) (.int .u32 0) (.int .u32 0) (.slice none 0 0) (.slice A c cc) (.slice none 0 0) (.slice none 0 0) (.int .u8 0))
        have HR := Lib.hid (own12 (r := gz) hown (by omega) (.int .i64 2) (.int .u32 0) (.int .u32 0) (.int .u64 0) (.int .u32 0) (.int .u32 0) (.int .u32 0) (.slice none 0 0) (.slice A c cc) (.slice none 0 0) (.slice none 0 0) (.int .u8 0))
        have HW := Lib.hid (whole12 WZ (.int .i64 2) (.int .u32 0) (.int .u32 0) (.int .u64 0) (.int .u32 0) (.int .u32 0) (.int .u32 0) (.slice none 0 0) (.slice A c cc) (.slice none 0 0) (.slice none 0 0) (.int .u8 0))
        clear WM WZ hb hown
        go_wp2_with fail
        obtain ⟨we, hwe⟩ : ∃ we, we = ((((((((((((wr.setCell ⟨gz, 0, none⟩ (.int .i64 2)).setCell ⟨gz, 1, none⟩ (.int .u32 0)).setCell ⟨gz, 2, none⟩ (.int .u32 0)).setCell ⟨gz, 3, none⟩ (.int .u64 0)).setCell ⟨gz, 4, none⟩ (.int .u32 0)).setCell ⟨gz, 5, none⟩ (.int .u32 0)).setCell ⟨gz, 6, none⟩ (.int .u32 0)).setCell ⟨gz, 7, none⟩ (.slice none 0 0)).setCell ⟨gz, 8, none⟩ (.slice A c cc)).setCell ⟨gz, 9, none⟩ (.slice none 0 0)).setCell ⟨gz, 10, none⟩ (.slice none 0 0)).setCell ⟨gz, 11, none⟩ (.int .u8 0)) := ⟨_, rfl⟩
        rw [← hwe] at HW HBB HR ⊢
        clear hwe c0 e0 f0 c1 e1 f1 c2 e2 f2 c3 e3 f3 c4 e4 f4 c5 e5 f5 c6 e6 f6 c7 e7 f7 c8 e8 f8 c9 e9 f9 c10 e10 f10 c11 e11 f11
        have e0 : we.cell? ⟨gz, 0, none⟩ = some (.int .i64 2) := HW.out.cell 0
        have e1 : we.cell? ⟨gz, 1, none⟩ = some (.int .u32 0) := HW.out.cell 1
        have e2 : we.cell? ⟨gz, 2, none⟩ = some (.int .u32 0) := HW.out.cell 2
        have e3 : we.cell? ⟨gz, 3, none⟩ = some (.int .u64 0) := HW.out.cell 3
        have e4 : we.cell? ⟨gz, 4, none⟩ = some (.int .u32 0) := HW.out.cell 4
        have e5 : we.cell? ⟨gz, 5, none⟩ = some (.int .u32 0) := HW.out.cell 5
        have e6 : we.cell? ⟨gz, 6, none⟩ = some (.int .u32 0) := HW.out.cell 6
        have e7 : we.cell? ⟨gz, 7, none⟩ = some (.slice none 0 0) := HW.out.cell 7
        have e8 : we.cell? ⟨gz, 8, none⟩ = some (.slice A c cc) := HW.out.cell 8
        have e9 : we.cell? ⟨gz, 9, none⟩ = some (.slice none 0 0) := HW.out.cell 9
        have e10 : we.cell? ⟨gz, 10, none⟩ = some (.slice none 0 0) := HW.out.cell 10
        have e11 : we.cell? ⟨gz, 11, none⟩ = some (.int .u8 0) := HW.out.cell 11
        refine bodyPost_ret (v := .tuple #[.agg #[.int .i64 2, .int .u32 0, .int .u32 0, .int .u64 0, .int .u32 0, .int .u32 0, .int .u32 0, .slice none 0 0, .slice A c cc, .slice none 0 0, .slice none 0 0, .int .u8 0], .int .i64 0]) (by simp [results, Tryd.results29, e0, e1, e2, e3, e4, e5, e6, e7, e8, e9, e10, e11, go_sem]) rfl ?_
        have hlen : (rdWho s c).length = c := by simp [rdWho]
        rw [HP.out]
        exact ⟨⟨none, 0, A, cc, none, 0, none, 0⟩, by simp [Ms.cells, hlen], ⟨Row.nil, (by have hR := Row.of_own HR.out; dsimp only; rw [hlen]; exact hR), Row.nil, Row.nil⟩, ⟨no_new _, (sl_new HR.out (by omega)), no_new _, no_new _⟩, HBB.out⟩
end Go.Proofs.YtcjmiidnhbmclaaDoor
