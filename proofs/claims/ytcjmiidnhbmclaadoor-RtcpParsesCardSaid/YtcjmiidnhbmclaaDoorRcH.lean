/-
  Package rtcp's takers of an info, a report, a pair, an ask.
-/
import Derived.Test.YtcjmiidnhbmclaaDoorRcG
namespace Go.Proofs.YtcjmiidnhbmclaaDoor
open Go.RowKit
set_option maxRecDepth 100000
variable {lo : Nat}
theorem CutAt.drewR {w : World} {g : Nat} {l : List UInt8} {e : Int} (h : CutAt w lo g l e) : CutAt w.drew lo g l e := h
theorem grown_drewR {w w' : World} {row : Option Nat} (h : w.drew.grownBy w' row) : w.grownBy w' row := ⟨h.os, h.tape, h.output, h.size, h.block⟩
theorem numAt_drop (l : List UInt8) (a b n : Nat) : numAt (l.drop a) b n = numAt l (a + b) n := by unfold numAt; rw [List.drop_drop]

set_option maxHeartbeats 1600000 in
theorem pair_take (g : Nat) (l : List UInt8) (e : Int) (w : World) (h : CutAt w lo g l e) :
    Calls Tryd.prog 71 #[.agg #[.pointer (some ⟨g, 0, none⟩)]] w (TakeR (fun x : Nat × Nat => .agg #[.int .u16 (x.1 : Int), .int .u16 (x.2 : Int)]) (fun x => x.1 < 65536 ∧ x.2 < 65536) (fun l => (numAt l 0 2, numAt l 2 2)) 4 lo g l e w) := by
  have hglt := h.lt
  have B0 := ((Below.refl w.heap.size w).alloc (Nat.le_refl _) (.cells #[.pointer (some ⟨g, 0, none⟩)] 74)).alloc (by simp) (.cells #[.int .u16 0, .int .u16 0] 68)
  have hc0 := (h.alloc (.cells #[.pointer (some ⟨g, 0, none⟩)] 74)).alloc (.cells #[.int .u16 0, .int .u16 0] 68)
  have kx := ((Whole.new w 74 #[.pointer (some ⟨g, 0, none⟩)]).alloc (.cells #[.int .u16 0, .int .u16 0] 68)).cell 0
  have hT0 := Whole.new2 w (.cells #[.pointer (some ⟨g, 0, none⟩)] 74) 68 #[.int .u16 0, .int .u16 0]
  have hsz : ((w.alloc (.cells #[.pointer (some ⟨g, 0, none⟩)] 74)).alloc (.cells #[.int .u16 0, .int .u16 0] 68)).heap.size = w.heap.size + 2 := by simp
  obtain ⟨wo, hwo⟩ : ∃ wo, (w.alloc (.cells #[.pointer (some ⟨g, 0, none⟩)] 74)).alloc (.cells #[.int .u16 0, .int .u16 0] 68) = wo := ⟨_, rfl⟩
  rw [hwo] at B0 hc0 kx hT0 hsz
  obtain ⟨bx, hbx⟩ : ∃ bx, w.heap.size = bx := ⟨_, rfl⟩
  have k0 : wo.cell? ⟨bx, 0, none⟩ = some (.pointer (some ⟨g, 0, none⟩)) := by rw [← hbx]; exact kx
  have k0d : wo.drew.cell? ⟨bx, 0, none⟩ = some (.pointer (some ⟨g, 0, none⟩)) := k0
  have hxg : bx ≠ g := by omega
  have HXL := Lib.hid (show bx < wo.heap.size by omega)
  have HTG := Lib.hid (show some (bx + 1) ≠ some g from fun e => by injection e; omega)
  rw [hbx] at hT0 hglt hsz
  have HT0 := Lib.hid hT0
  have HB0 := Lib.hid B0
  have HC0 := Lib.hid hc0
  have CN2 := Lib.hid (fun l e wx (hh : CutAt wx lo g l e) => show Calls Tryd.prog 38 #[.pointer (some ⟨g, 0, none⟩), .int .i64 2] wx (TakeR (fun x : Nat => .int .u64 (x : Int)) (fun x => x < 65536) (fun l => numAt l 0 2) 2 lo g l e wx) from num_take g l e 2 wx hh (by decide))
  clear kx hT0 B0 hc0 h
  go_enter Tryd.func71, Tryd.ntmps71
  go_wp2_with fail
  clear hwo
  have HS0 := Lib.hid (Nat.le_refl wo.heap.size)
  go_region_held3 (fun w' => w'.cell? ⟨bx, 0, none⟩ = some (.pointer (some ⟨g, 0, none⟩)))
    (first | with_reducible exact k2 | with_reducible exact k1 | with_reducible exact k0 | with_reducible exact k0d | go_keep)
    (first
      | (go_at_call 38; refine (CN2.out l1 e1 _ ?_).mono ?_; (exact hc1); rintro en w2 ⟨x2, l2, e2, rfl, hx2, hv2, ht2, hc2, hg2⟩; have k2 := keepB hg2 k1 (by first | exact HXL.out | exact Nat.lt_of_lt_of_le HXL.out HS1.out) hxg; have HS2 := Lib.hid (Nat.le_trans HS1.out hg2.size); have HT2 := Lib.hid (HT1.out.grown hg2 HTG.out); have hy2 : x2 < 65536 := hx2; have hz2 : IntKind.u16.wrap (x2 : Int) = (x2 : Int) := IntWalk.u16_in _ (by omega); have hTT := HT2.out; have q0 := hTT.cell 0; have f0 := hTT.free 0; have q1 := hTT.cell 1; have f1 := hTT.free 1)
      | (go_at_call 38; refine (CN2.out l e _ ?_).mono ?_; (first | exact HC0.out | exact HC0.out.drewR); rintro en w1 ⟨x1, l1, e1, rfl, hx1, hv1, ht1, hc1, hh1⟩; have hg1 := grown_drewR hh1; have k1 := keepB hg1 k0 (by first | exact HXL.out | exact Nat.lt_of_lt_of_le HXL.out HS0.out) hxg; have HS1 := Lib.hid (Nat.le_trans HS0.out hg1.size); have HT1 := Lib.hid (HT0.out.grown hg1 HTG.out); have hy1 : x1 < 65536 := hx1; have hz1 : IntKind.u16.wrap (x1 : Int) = (x1 : Int) := IntWalk.u16_in _ (by omega)))
  have HB := Lib.hid (show Below (bx + 1) w2 ((w2.setCell ⟨bx + 1, 0, none⟩ (.int .u16 (x1 : Int))).setCell ⟨bx + 1, 1, none⟩ (.int .u16 (x2 : Int))) from (((Below.refl (bx + 1) w2).setCell (by simp) _).setCell (by simp) _))
  have HF : Hid (TakeR (fun x : Nat × Nat => .agg #[.int .u16 (x.1 : Int), .int .u16 (x.2 : Int)]) (fun x => x.1 < 65536 ∧ x.2 < 65536) (fun l => (numAt l 0 2, numAt l 2 2)) 4 lo g l e w (.returned (.agg #[.int .u16 (x1 : Int), .int .u16 (x2 : Int)])) ((w2.setCell ⟨bx + 1, 0, none⟩ (.int .u16 (x1 : Int))).setCell ⟨bx + 1, 1, none⟩ (.int .u16 (x2 : Int)))) := Lib.hid ⟨(x1, x2), l2, e2, rfl, ⟨hy1, hy2⟩, (fun h0 => by
    obtain ⟨z1, _, d2⟩ := ht2.good h0
    obtain ⟨z0, _, d1⟩ := ht1.good z1
    have v1 := hv1 z1
    have v2 := hv2 h0
    subst d1
    simp only [numAt_drop] at v1 v2
    rw [v1, v2]), (ht1.trans ht2), hc2.below HB.out (by omega), grown_belowG (grown_from HB0.out (only_trans hg1 hg2)) HB.out (by omega)⟩
  clear hv1 ht1 hc1 hg1 HT1 HS1 k1 hv2 ht2 hc2 hg2 HT2 HS2 k2 HC0 HT0 HS0 k0 k0d HB HB0 hsz hbx
  go_wp2
  exact bodyPost_ret (v := .agg #[.int .u16 (x1 : Int), .int .u16 (x2 : Int)]) (by simp [results, Tryd.results71, go_sem, q0, q1]) rfl HF.out

set_option maxHeartbeats 1600000 in
theorem info_take (g : Nat) (l : List UInt8) (e : Int) (w : World) (h : CutAt w lo g l e) :
    Calls Tryd.prog 63 #[.agg #[.pointer (some ⟨g, 0, none⟩)]] w (TakeR (fun x : Nat × Nat × Nat × Nat => .agg #[.int .u64 (x.1 : Int), .int .u32 (x.2.1 : Int), .int .u32 (x.2.2.1 : Int), .int .u32 (x.2.2.2 : Int)]) (fun x => x.1 < 18446744073709551616 ∧ x.2.1 < 4294967296 ∧ x.2.2.1 < 4294967296 ∧ x.2.2.2 < 4294967296) (fun l => (numAt l 0 8, numAt l 8 4, numAt l 12 4, numAt l 16 4)) 20 lo g l e w) := by
  have hglt := h.lt
  have B0 := ((Below.refl w.heap.size w).alloc (Nat.le_refl _) (.cells #[.pointer (some ⟨g, 0, none⟩)] 74)).alloc (by simp) (.cells #[.int .u64 0, .int .u32 0, .int .u32 0, .int .u32 0] 54)
  have hc0 := (h.alloc (.cells #[.pointer (some ⟨g, 0, none⟩)] 74)).alloc (.cells #[.int .u64 0, .int .u32 0, .int .u32 0, .int .u32 0] 54)
  have kx := ((Whole.new w 74 #[.pointer (some ⟨g, 0, none⟩)]).alloc (.cells #[.int .u64 0, .int .u32 0, .int .u32 0, .int .u32 0] 54)).cell 0
  have hT0 := Whole.new2 w (.cells #[.pointer (some ⟨g, 0, none⟩)] 74) 54 #[.int .u64 0, .int .u32 0, .int .u32 0, .int .u32 0]
  have hsz : ((w.alloc (.cells #[.pointer (some ⟨g, 0, none⟩)] 74)).alloc (.cells #[.int .u64 0, .int .u32 0, .int .u32 0, .int .u32 0] 54)).heap.size = w.heap.size + 2 := by simp
  obtain ⟨wo, hwo⟩ : ∃ wo, (w.alloc (.cells #[.pointer (some ⟨g, 0, none⟩)] 74)).alloc (.cells #[.int .u64 0, .int .u32 0, .int .u32 0, .int .u32 0] 54) = wo := ⟨_, rfl⟩
  rw [hwo] at B0 hc0 kx hT0 hsz
  obtain ⟨bx, hbx⟩ : ∃ bx, w.heap.size = bx := ⟨_, rfl⟩
  have k0 : wo.cell? ⟨bx, 0, none⟩ = some (.pointer (some ⟨g, 0, none⟩)) := by rw [← hbx]; exact kx
  have k0d : wo.drew.cell? ⟨bx, 0, none⟩ = some (.pointer (some ⟨g, 0, none⟩)) := k0
  have hxg : bx ≠ g := by omega
  have HXL := Lib.hid (show bx < wo.heap.size by omega)
  have HTG := Lib.hid (show some (bx + 1) ≠ some g from fun e => by injection e; omega)
  rw [hbx] at hT0 hglt hsz
  have HT0 := Lib.hid hT0
  have HB0 := Lib.hid B0
  have HC0 := Lib.hid hc0
  have CW := Lib.hid (fun l e wx (hh : CutAt wx lo g l e) => word_take g l e wx hh)
  have CN8 := Lib.hid (fun l e wx (hh : CutAt wx lo g l e) => show Calls Tryd.prog 38 #[.pointer (some ⟨g, 0, none⟩), .int .i64 8] wx (TakeR (fun x : Nat => .int .u64 (x : Int)) (fun x => x < 18446744073709551616) (fun l => numAt l 0 8) 8 lo g l e wx) from num_take g l e 8 wx hh (by decide))
  clear kx hT0 B0 hc0 h
  go_enter Tryd.func63, Tryd.ntmps63
  go_wp2_with fail
  clear hwo
  have HS0 := Lib.hid (Nat.le_refl wo.heap.size)
  go_region_held3 (fun w' => w'.cell? ⟨bx, 0, none⟩ = some (.pointer (some ⟨g, 0, none⟩)))
    (first | with_reducible exact k4 | with_reducible exact k3 | with_reducible exact k2 | with_reducible exact k1 | with_reducible exact k0 | with_reducible exact k0d | go_keep)
    (first
      | (go_at_call 62; refine (CW.out l3 e3 _ ?_).mono ?_; (exact hc3); rintro en w4 ⟨x4, l4, e4, rfl, hx4, hv4, ht4, hc4, hg4⟩; have k4 := keepB hg4 k3 (by first | exact HXL.out | exact Nat.lt_of_lt_of_le HXL.out HS3.out) hxg; have HS4 := Lib.hid (Nat.le_trans HS3.out hg4.size); have HT4 := Lib.hid (HT3.out.grown hg4 HTG.out); have hy4 := hx4; have hTT := HT4.out; have q0 := hTT.cell 0; have f0 := hTT.free 0; have q1 := hTT.cell 1; have f1 := hTT.free 1; have q2 := hTT.cell 2; have f2 := hTT.free 2; have q3 := hTT.cell 3; have f3 := hTT.free 3)
      | (go_at_call 62; refine (CW.out l2 e2 _ ?_).mono ?_; (exact hc2); rintro en w3 ⟨x3, l3, e3, rfl, hx3, hv3, ht3, hc3, hg3⟩; have k3 := keepB hg3 k2 (by first | exact HXL.out | exact Nat.lt_of_lt_of_le HXL.out HS2.out) hxg; have HS3 := Lib.hid (Nat.le_trans HS2.out hg3.size); have HT3 := Lib.hid (HT2.out.grown hg3 HTG.out); have hy3 := hx3)
      | (go_at_call 62; refine (CW.out l1 e1 _ ?_).mono ?_; (exact hc1); rintro en w2 ⟨x2, l2, e2, rfl, hx2, hv2, ht2, hc2, hg2⟩; have k2 := keepB hg2 k1 (by first | exact HXL.out | exact Nat.lt_of_lt_of_le HXL.out HS1.out) hxg; have HS2 := Lib.hid (Nat.le_trans HS1.out hg2.size); have HT2 := Lib.hid (HT1.out.grown hg2 HTG.out); have hy2 := hx2)
      | (go_at_call 38; refine (CN8.out l e _ ?_).mono ?_; (first | exact HC0.out | exact HC0.out.drewR); rintro en w1 ⟨x1, l1, e1, rfl, hx1, hv1, ht1, hc1, hh1⟩; have hg1 := grown_drewR hh1; have k1 := keepB hg1 k0 (by first | exact HXL.out | exact Nat.lt_of_lt_of_le HXL.out HS0.out) hxg; have HS1 := Lib.hid (Nat.le_trans HS0.out hg1.size); have HT1 := Lib.hid (HT0.out.grown hg1 HTG.out); have hy1 : x1 < 18446744073709551616 := hx1))
  have HB := Lib.hid (show Below (bx + 1) w4 ((((w4.setCell ⟨bx + 1, 0, none⟩ (.int .u64 (x1 : Int))).setCell ⟨bx + 1, 1, none⟩ (.int .u32 (x2 : Int))).setCell ⟨bx + 1, 2, none⟩ (.int .u32 (x3 : Int))).setCell ⟨bx + 1, 3, none⟩ (.int .u32 (x4 : Int))) from (((((Below.refl (bx + 1) w4).setCell (by simp) _).setCell (by simp) _).setCell (by simp) _).setCell (by simp) _))
  have HF : Hid (TakeR (fun x : Nat × Nat × Nat × Nat => .agg #[.int .u64 (x.1 : Int), .int .u32 (x.2.1 : Int), .int .u32 (x.2.2.1 : Int), .int .u32 (x.2.2.2 : Int)]) (fun x => x.1 < 18446744073709551616 ∧ x.2.1 < 4294967296 ∧ x.2.2.1 < 4294967296 ∧ x.2.2.2 < 4294967296) (fun l => (numAt l 0 8, numAt l 8 4, numAt l 12 4, numAt l 16 4)) 20 lo g l e w (.returned (.agg #[.int .u64 (x1 : Int), .int .u32 (x2 : Int), .int .u32 (x3 : Int), .int .u32 (x4 : Int)])) ((((w4.setCell ⟨bx + 1, 0, none⟩ (.int .u64 (x1 : Int))).setCell ⟨bx + 1, 1, none⟩ (.int .u32 (x2 : Int))).setCell ⟨bx + 1, 2, none⟩ (.int .u32 (x3 : Int))).setCell ⟨bx + 1, 3, none⟩ (.int .u32 (x4 : Int)))) := Lib.hid ⟨(x1, x2, x3, x4), l4, e4, rfl, ⟨hy1, hy2, hy3, hy4⟩, (fun h0 => by
    obtain ⟨z3, _, d4⟩ := ht4.good h0
    obtain ⟨z2, _, d3⟩ := ht3.good z3
    obtain ⟨z1, _, d2⟩ := ht2.good z2
    obtain ⟨z0, _, d1⟩ := ht1.good z1
    have v1 := hv1 z1
    have v2 := hv2 z2
    have v3 := hv3 z3
    have v4 := hv4 h0
    subst d1
    subst d2
    subst d3
    simp only [List.drop_drop, numAt_drop] at v1 v2 v3 v4
    rw [v1, v2, v3, v4]), (((ht1.trans ht2).trans ht3).trans ht4), hc4.below HB.out (by omega), grown_belowG (grown_from HB0.out (only_trans (only_trans (only_trans hg1 hg2) hg3) hg4)) HB.out (by omega)⟩
  clear hv1 ht1 hc1 hg1 HT1 HS1 k1 hv2 ht2 hc2 hg2 HT2 HS2 k2 hv3 ht3 hc3 hg3 HT3 HS3 k3 hv4 ht4 hc4 hg4 HT4 HS4 k4 HC0 HT0 HS0 k0 k0d HB HB0 hsz hbx
  go_wp2
  exact bodyPost_ret (v := .agg #[.int .u64 (x1 : Int), .int .u32 (x2 : Int), .int .u32 (x3 : Int), .int .u32 (x4 : Int)]) (by simp [results, Tryd.results63, go_sem, q0, q1, q2, q3]) rfl HF.out

set_option maxHeartbeats 1600000 in
theorem report_take (g : Nat) (l : List UInt8) (e : Int) (w : World) (h : CutAt w lo g l e) :
    Calls Tryd.prog 65 #[.agg #[.pointer (some ⟨g, 0, none⟩)]] w (TakeR (fun x : Rp => .agg x.cells.toArray) (fun x => x.Fits) (fun l => rdRep l 0) 24 lo g l e w) := by
  have hglt := h.lt
  have B0 := ((Below.refl w.heap.size w).alloc (Nat.le_refl _) (.cells #[.pointer (some ⟨g, 0, none⟩)] 74)).alloc (by simp) (.cells #[.int .u32 0, .int .u8 0, .int .u32 0, .int .u32 0, .int .u32 0, .int .u32 0, .int .u32 0] 82)
  have hc0 := (h.alloc (.cells #[.pointer (some ⟨g, 0, none⟩)] 74)).alloc (.cells #[.int .u32 0, .int .u8 0, .int .u32 0, .int .u32 0, .int .u32 0, .int .u32 0, .int .u32 0] 82)
  have kx := ((Whole.new w 74 #[.pointer (some ⟨g, 0, none⟩)]).alloc (.cells #[.int .u32 0, .int .u8 0, .int .u32 0, .int .u32 0, .int .u32 0, .int .u32 0, .int .u32 0] 82)).cell 0
  have hT0 := Whole.new2 w (.cells #[.pointer (some ⟨g, 0, none⟩)] 74) 82 #[.int .u32 0, .int .u8 0, .int .u32 0, .int .u32 0, .int .u32 0, .int .u32 0, .int .u32 0]
  have hsz : ((w.alloc (.cells #[.pointer (some ⟨g, 0, none⟩)] 74)).alloc (.cells #[.int .u32 0, .int .u8 0, .int .u32 0, .int .u32 0, .int .u32 0, .int .u32 0, .int .u32 0] 82)).heap.size = w.heap.size + 2 := by simp
  obtain ⟨wo, hwo⟩ : ∃ wo, (w.alloc (.cells #[.pointer (some ⟨g, 0, none⟩)] 74)).alloc (.cells #[.int .u32 0, .int .u8 0, .int .u32 0, .int .u32 0, .int .u32 0, .int .u32 0, .int .u32 0] 82) = wo := ⟨_, rfl⟩
  rw [hwo] at B0 hc0 kx hT0 hsz
  obtain ⟨bx, hbx⟩ : ∃ bx, w.heap.size = bx := ⟨_, rfl⟩
  have k0 : wo.cell? ⟨bx, 0, none⟩ = some (.pointer (some ⟨g, 0, none⟩)) := by rw [← hbx]; exact kx
  have k0d : wo.drew.cell? ⟨bx, 0, none⟩ = some (.pointer (some ⟨g, 0, none⟩)) := k0
  have hxg : bx ≠ g := by omega
  have HXL := Lib.hid (show bx < wo.heap.size by omega)
  have HTG := Lib.hid (show some (bx + 1) ≠ some g from fun e => by injection e; omega)
  rw [hbx] at hT0 hglt hsz
  have HT0 := Lib.hid hT0
  have HB0 := Lib.hid B0
  have HC0 := Lib.hid hc0
  have CW := Lib.hid (fun l e wx (hh : CutAt wx lo g l e) => word_take g l e wx hh)
  have CN1 := Lib.hid (fun l e wx (hh : CutAt wx lo g l e) => show Calls Tryd.prog 38 #[.pointer (some ⟨g, 0, none⟩), .int .i64 1] wx (TakeR (fun x : Nat => .int .u64 (x : Int)) (fun x => x < 256) (fun l => numAt l 0 1) 1 lo g l e wx) from num_take g l e 1 wx hh (by decide))
  have CN3 := Lib.hid (fun l e wx (hh : CutAt wx lo g l e) => show Calls Tryd.prog 38 #[.pointer (some ⟨g, 0, none⟩), .int .i64 3] wx (TakeR (fun x : Nat => .int .u64 (x : Int)) (fun x => x < 16777216) (fun l => numAt l 0 3) 3 lo g l e wx) from num_take g l e 3 wx hh (by decide))
  clear kx hT0 B0 hc0 h
  go_enter Tryd.func65, Tryd.ntmps65
  go_wp2_with fail
  clear hwo
  have HS0 := Lib.hid (Nat.le_refl wo.heap.size)
  go_region_held3 (fun w' => w'.cell? ⟨bx, 0, none⟩ = some (.pointer (some ⟨g, 0, none⟩)))
    (first | with_reducible exact k7 | with_reducible exact k6 | with_reducible exact k5 | with_reducible exact k4 | with_reducible exact k3 | with_reducible exact k2 | with_reducible exact k1 | with_reducible exact k0 | with_reducible exact k0d | go_keep)
    (first
      | (go_at_call 62; refine (CW.out l6 e6 _ ?_).mono ?_; (exact hc6); rintro en w7 ⟨x7, l7, e7, rfl, hx7, hv7, ht7, hc7, hg7⟩; have k7 := keepB hg7 k6 (by first | exact HXL.out | exact Nat.lt_of_lt_of_le HXL.out HS6.out) hxg; have HS7 := Lib.hid (Nat.le_trans HS6.out hg7.size); have HT7 := Lib.hid (HT6.out.grown hg7 HTG.out); have hy7 := hx7; have hTT := HT7.out; have q0 := hTT.cell 0; have f0 := hTT.free 0; have q1 := hTT.cell 1; have f1 := hTT.free 1; have q2 := hTT.cell 2; have f2 := hTT.free 2; have q3 := hTT.cell 3; have f3 := hTT.free 3; have q4 := hTT.cell 4; have f4 := hTT.free 4; have q5 := hTT.cell 5; have f5 := hTT.free 5; have q6 := hTT.cell 6; have f6 := hTT.free 6)
      | (go_at_call 62; refine (CW.out l5 e5 _ ?_).mono ?_; (exact hc5); rintro en w6 ⟨x6, l6, e6, rfl, hx6, hv6, ht6, hc6, hg6⟩; have k6 := keepB hg6 k5 (by first | exact HXL.out | exact Nat.lt_of_lt_of_le HXL.out HS5.out) hxg; have HS6 := Lib.hid (Nat.le_trans HS5.out hg6.size); have HT6 := Lib.hid (HT5.out.grown hg6 HTG.out); have hy6 := hx6)
      | (go_at_call 62; refine (CW.out l4 e4 _ ?_).mono ?_; (exact hc4); rintro en w5 ⟨x5, l5, e5, rfl, hx5, hv5, ht5, hc5, hg5⟩; have k5 := keepB hg5 k4 (by first | exact HXL.out | exact Nat.lt_of_lt_of_le HXL.out HS4.out) hxg; have HS5 := Lib.hid (Nat.le_trans HS4.out hg5.size); have HT5 := Lib.hid (HT4.out.grown hg5 HTG.out); have hy5 := hx5)
      | (go_at_call 62; refine (CW.out l3 e3 _ ?_).mono ?_; (exact hc3); rintro en w4 ⟨x4, l4, e4, rfl, hx4, hv4, ht4, hc4, hg4⟩; have k4 := keepB hg4 k3 (by first | exact HXL.out | exact Nat.lt_of_lt_of_le HXL.out HS3.out) hxg; have HS4 := Lib.hid (Nat.le_trans HS3.out hg4.size); have HT4 := Lib.hid (HT3.out.grown hg4 HTG.out); have hy4 := hx4)
      | (go_at_call 38; refine (CN3.out l2 e2 _ ?_).mono ?_; (exact hc2); rintro en w3 ⟨x3, l3, e3, rfl, hx3, hv3, ht3, hc3, hg3⟩; have k3 := keepB hg3 k2 (by first | exact HXL.out | exact Nat.lt_of_lt_of_le HXL.out HS2.out) hxg; have HS3 := Lib.hid (Nat.le_trans HS2.out hg3.size); have HT3 := Lib.hid (HT2.out.grown hg3 HTG.out); have hy3 : x3 < 16777216 := hx3; have hz3 : IntKind.u32.wrap (x3 : Int) = (x3 : Int) := IntWalk.u32_in _ (by omega))
      | (go_at_call 38; refine (CN1.out l1 e1 _ ?_).mono ?_; (exact hc1); rintro en w2 ⟨x2, l2, e2, rfl, hx2, hv2, ht2, hc2, hg2⟩; have k2 := keepB hg2 k1 (by first | exact HXL.out | exact Nat.lt_of_lt_of_le HXL.out HS1.out) hxg; have HS2 := Lib.hid (Nat.le_trans HS1.out hg2.size); have HT2 := Lib.hid (HT1.out.grown hg2 HTG.out); have hy2 : x2 < 256 := hx2; have hz2 : IntKind.u8.wrap (x2 : Int) = (x2 : Int) := IntWalk.u8_in _ (by omega))
      | (go_at_call 62; refine (CW.out l e _ ?_).mono ?_; (first | exact HC0.out | exact HC0.out.drewR); rintro en w1 ⟨x1, l1, e1, rfl, hx1, hv1, ht1, hc1, hh1⟩; have hg1 := grown_drewR hh1; have k1 := keepB hg1 k0 (by first | exact HXL.out | exact Nat.lt_of_lt_of_le HXL.out HS0.out) hxg; have HS1 := Lib.hid (Nat.le_trans HS0.out hg1.size); have HT1 := Lib.hid (HT0.out.grown hg1 HTG.out); have hy1 := hx1))
  have HB := Lib.hid (show Below (bx + 1) w7 (((((((w7.setCell ⟨bx + 1, 0, none⟩ (.int .u32 (x1 : Int))).setCell ⟨bx + 1, 1, none⟩ (.int .u8 (x2 : Int))).setCell ⟨bx + 1, 2, none⟩ (.int .u32 (x3 : Int))).setCell ⟨bx + 1, 3, none⟩ (.int .u32 (x4 : Int))).setCell ⟨bx + 1, 4, none⟩ (.int .u32 (x5 : Int))).setCell ⟨bx + 1, 5, none⟩ (.int .u32 (x6 : Int))).setCell ⟨bx + 1, 6, none⟩ (.int .u32 (x7 : Int))) from ((((((((Below.refl (bx + 1) w7).setCell (by simp) _).setCell (by simp) _).setCell (by simp) _).setCell (by simp) _).setCell (by simp) _).setCell (by simp) _).setCell (by simp) _))
  have HF : Hid (TakeR (fun x : Rp => .agg x.cells.toArray) (fun x => x.Fits) (fun l => rdRep l 0) 24 lo g l e w (.returned (.agg #[.int .u32 (x1 : Int), .int .u8 (x2 : Int), .int .u32 (x3 : Int), .int .u32 (x4 : Int), .int .u32 (x5 : Int), .int .u32 (x6 : Int), .int .u32 (x7 : Int)])) (((((((w7.setCell ⟨bx + 1, 0, none⟩ (.int .u32 (x1 : Int))).setCell ⟨bx + 1, 1, none⟩ (.int .u8 (x2 : Int))).setCell ⟨bx + 1, 2, none⟩ (.int .u32 (x3 : Int))).setCell ⟨bx + 1, 3, none⟩ (.int .u32 (x4 : Int))).setCell ⟨bx + 1, 4, none⟩ (.int .u32 (x5 : Int))).setCell ⟨bx + 1, 5, none⟩ (.int .u32 (x6 : Int))).setCell ⟨bx + 1, 6, none⟩ (.int .u32 (x7 : Int)))) := Lib.hid ⟨⟨x1, x2, x3, x4, x5, x6, x7⟩, l7, e7, rfl, ⟨hy1, hy2, (by dsimp only; omega), hy4, hy5, hy6, hy7⟩, (fun h0 => by
    obtain ⟨z6, _, d7⟩ := ht7.good h0
    obtain ⟨z5, _, d6⟩ := ht6.good z6
    obtain ⟨z4, _, d5⟩ := ht5.good z5
    obtain ⟨z3, _, d4⟩ := ht4.good z4
    obtain ⟨z2, _, d3⟩ := ht3.good z3
    obtain ⟨z1, _, d2⟩ := ht2.good z2
    obtain ⟨z0, _, d1⟩ := ht1.good z1
    have v1 := hv1 z1
    have v2 := hv2 z2
    have v3 := hv3 z3
    have v4 := hv4 z4
    have v5 := hv5 z5
    have v6 := hv6 z6
    have v7 := hv7 h0
    subst d1
    subst d2
    subst d3
    subst d4
    subst d5
    subst d6
    simp only [List.drop_drop, numAt_drop] at v1 v2 v3 v4 v5 v6 v7
    rw [v1, v2, v3, v4, v5, v6, v7]; rfl), ((((((ht1.trans ht2).trans ht3).trans ht4).trans ht5).trans ht6).trans ht7), hc7.below HB.out (by omega), grown_belowG (grown_from HB0.out (only_trans (only_trans (only_trans (only_trans (only_trans (only_trans hg1 hg2) hg3) hg4) hg5) hg6) hg7)) HB.out (by omega)⟩
  clear hv1 ht1 hc1 hg1 HT1 HS1 k1 hv2 ht2 hc2 hg2 HT2 HS2 k2 hv3 ht3 hc3 hg3 HT3 HS3 k3 hv4 ht4 hc4 hg4 HT4 HS4 k4 hv5 ht5 hc5 hg5 HT5 HS5 k5 hv6 ht6 hc6 hg6 HT6 HS6 k6 hv7 ht7 hc7 hg7 HT7 HS7 k7 HC0 HT0 HS0 k0 k0d HB HB0 hsz hbx
  go_wp2
  exact bodyPost_ret (v := .agg #[.int .u32 (x1 : Int), .int .u8 (x2 : Int), .int .u32 (x3 : Int), .int .u32 (x4 : Int), .int .u32 (x5 : Int), .int .u32 (x6 : Int), .int .u32 (x7 : Int)]) (by simp [results, Tryd.results65, go_sem, q0, q1, q2, q3, q4, q5, q6]) rfl HF.out
end Go.Proofs.YtcjmiidnhbmclaaDoor
