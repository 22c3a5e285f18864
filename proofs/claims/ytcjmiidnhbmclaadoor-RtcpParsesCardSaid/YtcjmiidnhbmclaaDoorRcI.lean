/-
  Package rtcp's taker of an ask.
-/
import Derived.Test.YtcjmiidnhbmclaaDoorRcH
namespace Go.Proofs.YtcjmiidnhbmclaaDoor
open Go.RowKit
set_option maxRecDepth 100000
variable {lo : Nat}
theorem some_ne {a b : Nat} (h : a < b) : some b ≠ some a := fun e => by injection e; omega
theorem keepSt {w : World} {b t : Nat} {v : Value} (h : w.cell? ⟨b, 0, none⟩ = some v) (hne : b ≠ t) (u u' : Value) : ((w.setCell ⟨t, 0, none⟩ u).setCell ⟨t, 1, none⟩ u').cell? ⟨b, 0, none⟩ = some v := by
  rw [World.cell?_setCell_other _ _ _ _ (fun e => hne (by injection e with e; exact e.symm)), World.cell?_setCell_other _ _ _ _ (fun e => hne (by injection e with e; exact e.symm))]
  exact h
theorem keepAl {w : World} {b : Nat} {v : Value} (h : w.cell? ⟨b, 0, none⟩ = some v) (hlt : b < w.heap.size) (o : Obj) : (w.alloc o).cell? ⟨b, 0, none⟩ = some v :=
  (World.cell?_alloc_lt w o ⟨b, 0, none⟩ (by simpa using hlt)).trans h

set_option maxHeartbeats 1600000 in
theorem ask_take (g : Nat) (l : List UInt8) (e : Int) (w : World) (h : CutAt w lo g l e) :
    Calls Tryd.prog 75 #[.agg #[.pointer (some ⟨g, 0, none⟩)]] w (TakeR (fun x : Nat × Nat => .agg #[.int .u32 (x.1 : Int), .int .u8 (x.2 : Int)]) (fun x => x.1 < 4294967296 ∧ x.2 < 256) (fun l => (numAt l 0 4, numAt l 4 1)) 8 lo g l e w) := by
  have hglt := h.lt
  have B0 := ((Below.refl w.heap.size w).alloc (Nat.le_refl _) (.cells #[.pointer (some ⟨g, 0, none⟩)] 74)).alloc (by simp) (.cells #[.int .u32 0, .int .u8 0] 86)
  have hc0 := (h.alloc (.cells #[.pointer (some ⟨g, 0, none⟩)] 74)).alloc (.cells #[.int .u32 0, .int .u8 0] 86)
  have kx := ((Whole.new w 74 #[.pointer (some ⟨g, 0, none⟩)]).alloc (.cells #[.int .u32 0, .int .u8 0] 86)).cell 0
  have hT0 := Whole.new2 w (.cells #[.pointer (some ⟨g, 0, none⟩)] 74) 86 #[.int .u32 0, .int .u8 0]
  have hsz : ((w.alloc (.cells #[.pointer (some ⟨g, 0, none⟩)] 74)).alloc (.cells #[.int .u32 0, .int .u8 0] 86)).heap.size = w.heap.size + 2 := by simp
  obtain ⟨wo, hwo⟩ : ∃ wo, (w.alloc (.cells #[.pointer (some ⟨g, 0, none⟩)] 74)).alloc (.cells #[.int .u32 0, .int .u8 0] 86) = wo := ⟨_, rfl⟩
  rw [hwo] at B0 hc0 kx hT0 hsz
  obtain ⟨bx, hbx⟩ : ∃ bx, w.heap.size = bx := ⟨_, rfl⟩
  have k0 : wo.cell? ⟨bx, 0, none⟩ = some (.pointer (some ⟨g, 0, none⟩)) := by rw [← hbx]; exact kx
  have k0d : wo.drew.cell? ⟨bx, 0, none⟩ = some (.pointer (some ⟨g, 0, none⟩)) := k0
  have hxg : bx ≠ g := by omega
  have HXL := Lib.hid (show bx < wo.heap.size by omega)
  have HTG := Lib.hid (show some (bx + 1) ≠ some g from fun e => by injection e; omega)
  rw [hbx] at hT0 hglt hsz
  have HT0 := Lib.hid hT0
  have HB0 := Lib.hid B0
  have HC0 := Lib.hid hc0
  have CW := Lib.hid (fun l e wx (hh : CutAt wx lo g l e) => word_take g l e wx hh)
  have CN1 := Lib.hid (fun l e wx (hh : CutAt wx lo g l e) => show Calls Tryd.prog 38 #[.pointer (some ⟨g, 0, none⟩), .int .i64 1] wx (TakeR (fun x : Nat => .int .u64 (x : Int)) (fun x => x < 256) (fun l => numAt l 0 1) 1 lo g l e wx) from num_take g l e 1 wx hh (by decide))
  have CN3 := Lib.hid (fun l e wx (hh : CutAt wx lo g l e) => show Calls Tryd.prog 38 #[.pointer (some ⟨g, 0, none⟩), .int .i64 3] wx (TakeR (fun x : Nat => .int .u64 (x : Int)) (fun x => x < 16777216) (fun l => numAt l 0 3) 3 lo g l e wx) from num_take g l e 3 wx hh (by decide))
  clear kx hT0 B0 hc0 h
  go_enter Tryd.func75, Tryd.ntmps75
  go_wp2_with fail
  clear hwo
  have HS0 := Lib.hid (Nat.le_refl wo.heap.size)
  have HG2 := Lib.hid (show g < wo.heap.size by omega)
  go_region_held3 (fun w' => w'.cell? ⟨bx, 0, none⟩ = some (.pointer (some ⟨g, 0, none⟩)))
    (first | with_reducible exact k2 | with_reducible exact k1 | with_reducible exact k0 | with_reducible exact k0d | with_reducible exact keepAl k2 HL2.out _ | exact keepSt k2 (show bx ≠ bx + 2 by omega) _ _ | exact keepSt k2 (Nat.ne_of_lt HL1.out) _ _ | with_reducible exact keepAl k1 HL1.out _ | with_reducible exact keepAl k0d HXL.out _ | go_keep)
    (first
      | (go_at_call 62; refine (CW.out l e _ ?_).mono ?_; (first | exact HC0.out | exact HC0.out.drewR | exact HC0.out.drewR.alloc _); rintro en w1 ⟨x1, l1, e1, rfl, hx1, hv1, ht1, hc1, hh1⟩; have hg1 : wo.grownBy w1 (some g) := (by first | exact grown_drewR hh1 | exact grown_drewR (grown_from ((Below.refl _ _).alloc (Nat.le_refl _) _) hh1)); have k1 := keepB hg1 k0 HXL.out hxg; have HS1 := Lib.hid (Nat.le_trans HS0.out hg1.size); have HL1 := Lib.hid (Nat.lt_of_lt_of_le HXL.out HS1.out); have HT1 := Lib.hid (HT0.out.grown hg1 HTG.out); (try (have TA1 : Whole w1 (bx + 2) 86 #[.int .u32 0, .int .u8 0] := (by rw [← hsz]; exact (Whole.new wo.drew 86 #[.int .u32 0, .int .u8 0]).grown hh1 (some_ne HG2.out)))))
      | (go_at_call 38; refine (CN1.out l1 e1 _ ?_).mono ?_; (first | exact hc1 | exact hc1.alloc _); rintro en w2 ⟨x2, l2, e2, rfl, hx2, hv2, ht2, hc2, hh2⟩; have hg2 : w1.grownBy w2 (some g) := (by first | exact hh2 | exact grown_from ((Below.refl _ _).alloc (Nat.le_refl _) _) hh2); have k2 := keepB hg2 k1 HL1.out hxg; have HS2 := Lib.hid (Nat.le_trans HS1.out hg2.size); have HL2 := Lib.hid (Nat.lt_of_lt_of_le HXL.out HS2.out); have HT2 := Lib.hid (HT1.out.grown hg2 HTG.out); have hz2 : IntKind.u8.wrap (x2 : Int) = (x2 : Int) := IntWalk.u8_in _ (by omega); (try (have TA2 := TA1.grown hg2 (some_ne (by omega)); have q0 := TA2.cell 0; have q1 := TA2.cell 1; have f0 := TA2.free 0; have f1 := TA2.free 1)); (try (have TA2 := (Whole.new w1 86 #[.int .u32 0, .int .u8 0]).grown hh2 (some_ne (Nat.lt_of_lt_of_le HG2.out HS1.out)); have q0 := TA2.cell 0; have q1 := TA2.cell 1; have f0 := TA2.free 0; have f1 := TA2.free 1))))
  all_goals
    have hs1 : wo.heap.size ≤ w1.heap.size := HS1.out
    have hs2 : wo.heap.size ≤ w2.heap.size := HS2.out
  · have HZ : Below (bx + 2) w2 (w2.alloc (.cells #[.int .u32 (x1 : Int), .int .u8 (x2 : Int)] 86)) := (Below.refl (bx + 2) w2).alloc (by omega) _
    have TZ : Whole (w2.alloc (.cells #[.int .u32 (x1 : Int), .int .u8 (x2 : Int)] 86)) w2.heap.size 86 #[.int .u32 (x1 : Int), .int .u8 (x2 : Int)] := Whole.new w2 _ _
    have kz : (w2.alloc (.cells #[.int .u32 (x1 : Int), .int .u8 (x2 : Int)] 86)).cell? ⟨bx, 0, none⟩ = some (.pointer (some ⟨g, 0, none⟩)) := (HZ.cell (p := ⟨bx, 0, none⟩) (by simp)).trans k2
    have hcz := hc2.below HZ (by omega)
    have hTZ := HT2.out.below HZ (by omega)
    have HTGt := Lib.hid (some_ne (show g < w2.heap.size by omega))
    have CZ := Lib.hid (CN3.out l2 e2 _ hcz)
    have hZS := HZ.size
    have HZH := Lib.hid HZ
    clear HZ hcz
    go_wp2_with fail
    refine CZ.out.mono ?_
    rintro en w3 ⟨x3, l3, e3, rfl, hx3, hv3, ht3, hc3, hg3⟩
    have TZ3 := TZ.grown hg3 HTGt.out
    have T3 := hTZ.grown hg3 HTG.out
    have z0 := TZ3.cell 0
    have z1 := TZ3.cell 1
    have y0 := T3.cell 0
    have y1 := T3.cell 1
    have y2 := T3.free 0
    have y3 := T3.free 1
    have hs3 := hg3.size
    have HB : Below (bx + 1) w3 ((w3.setCell ⟨bx + 1, 0, none⟩ (.int .u32 (x1 : Int))).setCell ⟨bx + 1, 1, none⟩ (.int .u8 (x2 : Int))) := ((Below.refl (bx + 1) w3).setCell (by simp) _).setCell (by simp) _
    have HF : Hid (TakeR (fun x : Nat × Nat => .agg #[.int .u32 (x.1 : Int), .int .u8 (x.2 : Int)]) (fun x => x.1 < 4294967296 ∧ x.2 < 256) (fun l => (numAt l 0 4, numAt l 4 1)) 8 lo g l e w (.returned (.agg #[.int .u32 (x1 : Int), .int .u8 (x2 : Int)])) ((w3.setCell ⟨bx + 1, 0, none⟩ (.int .u32 (x1 : Int))).setCell ⟨bx + 1, 1, none⟩ (.int .u8 (x2 : Int)))) := Lib.hid ⟨(x1, x2), l3, e3, rfl, ⟨hx1, hx2⟩, (fun h0 => by
      obtain ⟨z2, _, d3⟩ := ht3.good h0
      obtain ⟨z1, _, d2⟩ := ht2.good z2
      obtain ⟨z0, _, d1⟩ := ht1.good z1
      have v1 := hv1 z1
      have v2 := hv2 z2
      subst d1
      simp only [numAt_drop] at v1 v2
      rw [v1, v2]), ((ht1.trans ht2).trans ht3), hc3.below HB (by omega), grown_belowG (grown_from HB0.out (only_trans (grown_belowG (only_trans hg1 hg2) HZH.out (by omega)) hg3)) HB (by omega)⟩
    clear HB HZH CZ hTZ TZ TZ3 T3 hv1 hv2 hv3 ht1 ht2 ht3 hc1 hc2 hc3 hg1 hg2 hg3 HB0 HTGt hsz hbx kz k2 k1 k0 k0d
    go_wp2
    exact bodyPost_ret (v := .agg #[.int .u32 (x1 : Int), .int .u8 (x2 : Int)]) (by simp [results, Tryd.results75, go_sem, y0, y1]) rfl HF.out
  · have HZ : Below (bx + 2) w2 ((w2.setCell ⟨w1.heap.size, 0, none⟩ (.int .u32 (x1 : Int))).setCell ⟨w1.heap.size, 1, none⟩ (.int .u8 (x2 : Int))) := ((Below.refl (bx + 2) w2).setCell (by simp; omega) _).setCell (by simp; omega) _
    have TZ : Whole ((w2.setCell ⟨w1.heap.size, 0, none⟩ (.int .u32 (x1 : Int))).setCell ⟨w1.heap.size, 1, none⟩ (.int .u8 (x2 : Int))) w1.heap.size 86 #[.int .u32 (x1 : Int), .int .u8 (x2 : Int)] := (TA2.set 0 _).set 1 _
    have kz : ((w2.setCell ⟨w1.heap.size, 0, none⟩ (.int .u32 (x1 : Int))).setCell ⟨w1.heap.size, 1, none⟩ (.int .u8 (x2 : Int))).cell? ⟨bx, 0, none⟩ = some (.pointer (some ⟨g, 0, none⟩)) := (HZ.cell (p := ⟨bx, 0, none⟩) (by simp)).trans k2
    have hcz := hc2.below HZ (by omega)
    have hTZ := HT2.out.below HZ (by omega)
    have HTGt := Lib.hid (some_ne (show g < w1.heap.size by omega))
    have CZ := Lib.hid (CN3.out l2 e2 _ hcz)
    have hZS := HZ.size
    have HZH := Lib.hid HZ
    clear HZ hcz
    go_wp2_with fail
    refine CZ.out.mono ?_
    rintro en w3 ⟨x3, l3, e3, rfl, hx3, hv3, ht3, hc3, hg3⟩
    have TZ3 := TZ.grown hg3 HTGt.out
    have T3 := hTZ.grown hg3 HTG.out
    have z0 := TZ3.cell 0
    have z1 := TZ3.cell 1
    have y0 := T3.cell 0
    have y1 := T3.cell 1
    have y2 := T3.free 0
    have y3 := T3.free 1
    have hs3 := hg3.size
    have HB : Below (bx + 1) w3 ((w3.setCell ⟨bx + 1, 0, none⟩ (.int .u32 (x1 : Int))).setCell ⟨bx + 1, 1, none⟩ (.int .u8 (x2 : Int))) := ((Below.refl (bx + 1) w3).setCell (by simp) _).setCell (by simp) _
    have HF : Hid (TakeR (fun x : Nat × Nat => .agg #[.int .u32 (x.1 : Int), .int .u8 (x.2 : Int)]) (fun x => x.1 < 4294967296 ∧ x.2 < 256) (fun l => (numAt l 0 4, numAt l 4 1)) 8 lo g l e w (.returned (.agg #[.int .u32 (x1 : Int), .int .u8 (x2 : Int)])) ((w3.setCell ⟨bx + 1, 0, none⟩ (.int .u32 (x1 : Int))).setCell ⟨bx + 1, 1, none⟩ (.int .u8 (x2 : Int)))) := Lib.hid ⟨(x1, x2), l3, e3, rfl, ⟨hx1, hx2⟩, (fun h0 => by
      obtain ⟨z2, _, d3⟩ := ht3.good h0
      obtain ⟨z1, _, d2⟩ := ht2.good z2
      obtain ⟨z0, _, d1⟩ := ht1.good z1
      have v1 := hv1 z1
      have v2 := hv2 z2
      subst d1
      simp only [numAt_drop] at v1 v2
      rw [v1, v2]), ((ht1.trans ht2).trans ht3), hc3.below HB (by omega), grown_belowG (grown_from HB0.out (only_trans (grown_belowG (only_trans hg1 hg2) HZH.out (by omega)) hg3)) HB (by omega)⟩
    clear HB HZH CZ hTZ TZ TZ3 T3 hv1 hv2 hv3 ht1 ht2 ht3 hc1 hc2 hc3 hg1 hg2 hg3 HB0 HTGt hsz hbx kz k2 k1 k0 k0d
    go_wp2
    exact bodyPost_ret (v := .agg #[.int .u32 (x1 : Int), .int .u8 (x2 : Int)]) (by simp [results, Tryd.results75, go_sem, y0, y1]) rfl HF.out
  · have HZ : Below (bx + 2) w2 ((w2.setCell ⟨bx + 2, 0, none⟩ (.int .u32 (x1 : Int))).setCell ⟨bx + 2, 1, none⟩ (.int .u8 (x2 : Int))) := ((Below.refl (bx + 2) w2).setCell (by simp) _).setCell (by simp) _
    have TZ : Whole ((w2.setCell ⟨bx + 2, 0, none⟩ (.int .u32 (x1 : Int))).setCell ⟨bx + 2, 1, none⟩ (.int .u8 (x2 : Int))) (bx + 2) 86 #[.int .u32 (x1 : Int), .int .u8 (x2 : Int)] := (TA2.set 0 _).set 1 _
    have kz : ((w2.setCell ⟨bx + 2, 0, none⟩ (.int .u32 (x1 : Int))).setCell ⟨bx + 2, 1, none⟩ (.int .u8 (x2 : Int))).cell? ⟨bx, 0, none⟩ = some (.pointer (some ⟨g, 0, none⟩)) := (HZ.cell (p := ⟨bx, 0, none⟩) (by simp)).trans k2
    have hcz := hc2.below HZ (by omega)
    have hTZ := HT2.out.below HZ (by omega)
    have HTGt := Lib.hid (some_ne (show g < (bx + 2) by omega))
    have CZ := Lib.hid (CN3.out l2 e2 _ hcz)
    have hZS := HZ.size
    have HZH := Lib.hid HZ
    clear HZ hcz
    go_wp2_with fail
    refine CZ.out.mono ?_
    rintro en w3 ⟨x3, l3, e3, rfl, hx3, hv3, ht3, hc3, hg3⟩
    have TZ3 := TZ.grown hg3 HTGt.out
    have T3 := hTZ.grown hg3 HTG.out
    have z0 := TZ3.cell 0
    have z1 := TZ3.cell 1
    have y0 := T3.cell 0
    have y1 := T3.cell 1
    have y2 := T3.free 0
    have y3 := T3.free 1
    have hs3 := hg3.size
    have HB : Below (bx + 1) w3 ((w3.setCell ⟨bx + 1, 0, none⟩ (.int .u32 (x1 : Int))).setCell ⟨bx + 1, 1, none⟩ (.int .u8 (x2 : Int))) := ((Below.refl (bx + 1) w3).setCell (by simp) _).setCell (by simp) _
    have HF : Hid (TakeR (fun x : Nat × Nat => .agg #[.int .u32 (x.1 : Int), .int .u8 (x.2 : Int)]) (fun x => x.1 < 4294967296 ∧ x.2 < 256) (fun l => (numAt l 0 4, numAt l 4 1)) 8 lo g l e w (.returned (.agg #[.int .u32 (x1 : Int), .int .u8 (x2 : Int)])) ((w3.setCell ⟨bx + 1, 0, none⟩ (.int .u32 (x1 : Int))).setCell ⟨bx + 1, 1, none⟩ (.int .u8 (x2 : Int)))) := Lib.hid ⟨(x1, x2), l3, e3, rfl, ⟨hx1, hx2⟩, (fun h0 => by
      obtain ⟨z2, _, d3⟩ := ht3.good h0
      obtain ⟨z1, _, d2⟩ := ht2.good z2
      obtain ⟨z0, _, d1⟩ := ht1.good z1
      have v1 := hv1 z1
      have v2 := hv2 z2
      subst d1
      simp only [numAt_drop] at v1 v2
      rw [v1, v2]), ((ht1.trans ht2).trans ht3), hc3.below HB (by omega), grown_belowG (grown_from HB0.out (only_trans (grown_belowG (only_trans hg1 hg2) HZH.out (by omega)) hg3)) HB (by omega)⟩
    clear HB HZH CZ hTZ TZ TZ3 T3 hv1 hv2 hv3 ht1 ht2 ht3 hc1 hc2 hc3 hg1 hg2 hg3 HB0 HTGt hsz hbx kz k2 k1 k0 k0d
    go_wp2
    exact bodyPost_ret (v := .agg #[.int .u32 (x1 : Int), .int .u8 (x2 : Int)]) (by simp [results, Tryd.results75, go_sem, y0, y1]) rfl HF.out
end Go.Proofs.YtcjmiidnhbmclaaDoor
