/-
  Package rtcp's readers of bodies: one closure a kind.
-/
import Derived.Test.YtcjmiidnhbmclaaDoorRcL
namespace Go.Proofs.YtcjmiidnhbmclaaDoor
open Go.RowKit
set_option maxRecDepth 100000
variable {lo : Nat}

set_option maxHeartbeats 3200000 in
theorem read1_any (gm g b3 b4 b5 cn : Nat) (l : List UInt8) (w : World) (hm : Whole w gm 59 #[.int .i64 0, .int .u32 0, .int .u32 0, .int .u64 0, .int .u32 0, .int .u32 0, .int .u32 0, .slice none 0 0, .slice none 0 0, .slice none 0 0, .slice none 0 0, .int .u8 0]) (hc : CutAt w lo g l 0) (h3 : Whole w b3 74 #[.pointer (some ⟨g, 0, none⟩)]) (h4 : Whole w b4 126 #[.pointer (some ⟨gm, 0, none⟩)]) (h5 : Whole w b5 3 #[.int .i64 (cn : Int)]) (hcn : cn < 32) (_hl : l.length ≤ 2000) (o1 : gm < lo) (o2 : lo ≤ g) (o3 : g < b3) (o4 : b3 < b4) (o5 : b4 < b5) :
    Calls Tryd.prog 61 #[.pointer (some ⟨b3, 0, none⟩), .pointer (some ⟨b4, 0, none⟩), .pointer (some ⟨b5, 0, none⟩)] w (ReadR (fun l => ⟨0, numAt l 0 4, 0, numAt l 4 8, numAt l 12 4, numAt l 16 4, numAt l 20 4, rdReps l 24 cn, [], [], [], 0⟩) (24 + 24 * cn) lo gm g l w) := by
  have KP := Lib.hid (fun w' (k : Prt gm g w w') => show w'.cell? ⟨b3, 0, none⟩ = some (.pointer (some ⟨g, 0, none⟩)) ∧ w'.cell? ⟨b4, 0, none⟩ = some (.pointer (some ⟨gm, 0, none⟩)) ∧ w'.cell? ⟨b5, 0, none⟩ = some (.int .i64 (cn : Int)) from ⟨(h3.prt k (by omega) (by omega)).cell 0, (h4.prt k (by omega) (by omega)).cell 0, (h5.prt k (by omega) (by omega)).cell 0⟩)
  have p0 : Prt gm g w w.drew := (Prt.refl gm g w).drew
  obtain ⟨k3, k4, k5⟩ := KP.out _ (Prt.refl gm g w)
  have CW := Lib.hid (fun l e wx (hh : CutAt wx lo g l e) => word_take g l e wx hh)
  have CI := Lib.hid (fun l e wx (hh : CutAt wx lo g l e) => info_take g l e wx hh)
  have HM0 := Lib.hid hm
  have HC0 := Lib.hid hc
  have hgg : gm ≠ g := by omega
  have HGG := Lib.hid (show some gm ≠ some g from fun e => hgg (by injection e))
  have hgl := hc.lt
  clear hm hc h3 h4 h5
  go_enter Tryd.func61, Tryd.ntmps61
  go_wp2_with fail
  go_region_held3 (fun w' => w'.cell? ⟨b3, 0, none⟩ = some (.pointer (some ⟨g, 0, none⟩)) ∧ w'.cell? ⟨b4, 0, none⟩ = some (.pointer (some ⟨gm, 0, none⟩)) ∧ w'.cell? ⟨b5, 0, none⟩ = some (.int .i64 (cn : Int)))
    (first | with_reducible exact KP.out _ (((((p2.set _ _).set _ _).set _ _).set _ _).set _ _) | with_reducible exact KP.out _ ((((p2.set _ _).set _ _).set _ _).set _ _) | with_reducible exact KP.out _ (((p2.set _ _).set _ _).set _ _) | with_reducible exact KP.out _ ((p2.set _ _).set _ _) | with_reducible exact KP.out _ (p2.set _ _) | with_reducible exact KP.out _ p2 | with_reducible exact KP.out _ p1 | with_reducible exact KP.out _ p0 | go_keep)
    (first
      | (go_at_call 63; refine (CI.out l1 e1 _ ?_).mono ?_; (exact hc1); rintro en w2 ⟨⟨x2a, x2b, x2c, x2d⟩, l2, e2, rfl, hx2, hv2, ht2, hc2, hg2⟩; have p2 := p1.next hg2; have HM2 := Lib.hid (HM1.out.grown hg2 HGG.out); have q1 := HM2.out.cell 1; have f1 := HM2.out.free 1; have q3 := HM2.out.cell 3; have f3 := HM2.out.free 3; have q4 := HM2.out.cell 4; have f4 := HM2.out.free 4; have q5 := HM2.out.cell 5; have f5 := HM2.out.free 5; have q6 := HM2.out.cell 6; have f6 := HM2.out.free 6)
      | (go_at_call 62; refine (CW.out l 0 _ ?_).mono ?_; (first | exact HC0.out | exact HC0.out.drewR); rintro en w1 ⟨x1, l1, e1, rfl, hx1, hv1, ht1, hc1, hg1⟩; have p1 : Prt gm g w w1 := Prt.of_drewn hg1; have HM1 := Lib.hid (HM0.out.grown (grown_drewR hg1) HGG.out)))
  obtain ⟨wA, hwA⟩ : ∃ wA, (((((w2.setCell ⟨gm, 1, none⟩ (.int .u32 (x1 : Int))).setCell ⟨gm, 3, none⟩ (.int .u64 (x2a : Int))).setCell ⟨gm, 4, none⟩ (.int .u32 (x2b : Int))).setCell ⟨gm, 5, none⟩ (.int .u32 (x2c : Int))).setCell ⟨gm, 6, none⟩ (.int .u32 (x2d : Int))) = wA := ⟨_, rfl⟩
  have hMA : Whole wA gm 59 #[.int .i64 0, .int .u32 (x1 : Int), .int .u32 0, .int .u64 (x2a : Int), .int .u32 (x2b : Int), .int .u32 (x2c : Int), .int .u32 (x2d : Int), .slice none 0 0, .slice none 0 0, .slice none 0 0, .slice none 0 0, .int .u8 0] := by rw [← hwA]; exact (((((HM2.out.set 1 _).set 3 _).set 4 _).set 5 _).set 6 _)
  have pA : Prt gm g w wA := by rw [← hwA]; exact (((((p2.set _ _).set _ _).set _ _).set _ _).set _ _)
  have hcA : CutAt wA lo g l2 e2 := by rw [← hwA]; exact (((((hc2.farset (.inl o1) o2 _ _).farset (.inl o1) o2 _ _).farset (.inl o1) o2 _ _).farset (.inl o1) o2 _ _).farset (.inl o1) o2 _ _)
  rw [hwA]
  have CT := Lib.hid (fun wx (hh : CutAt wx lo g l2 e2) => timesRep g cn l2 e2 wx hh (by omega))
  have HMA := Lib.hid hMA
  have HCA := Lib.hid hcA
  have pAd := pA.drew
  obtain ⟨j3, j4, j5⟩ := KP.out _ pA
  have hAs := pA.size
  clear hMA hcA hwA q1 f1 q3 f3 q4 f4 q5 f5 q6 f6 hc1 hg1 HM1 hc2 hg2 HM2
  go_wp2_with fail
  go_region_held3 (fun w' => w'.cell? ⟨b3, 0, none⟩ = some (.pointer (some ⟨g, 0, none⟩)) ∧ w'.cell? ⟨b4, 0, none⟩ = some (.pointer (some ⟨gm, 0, none⟩)) ∧ w'.cell? ⟨b5, 0, none⟩ = some (.int .i64 (cn : Int)))
    (first | with_reducible exact KP.out _ (p5.set _ _) | with_reducible exact KP.out _ p5 | with_reducible exact KP.out _ pAd | with_reducible exact KP.out _ pA | go_keep)
    (first
      | (go_at_call 64; refine (CT.out _ ?_).mono ?_; (first | exact HCA.out | exact HCA.out.drewR); rintro en w5 ⟨A5, c5, xs, l5, e5, rfl, own5, hxl, hok, hv5, ht5, hc5, hg5⟩; have p5 := pA.next (grown_drewR hg5); have HM5 := Lib.hid (HMA.out.grown (grown_drewR hg5) HGG.out); have q5 := HM5.out.cell 7; have f5 := HM5.out.free 7))
  have hM6 : Whole (w5.setCell ⟨gm, 7, none⟩ (.slice A5 cn c5)) gm 59 #[.int .i64 0, .int .u32 (x1 : Int), .int .u32 0, .int .u64 (x2a : Int), .int .u32 (x2b : Int), .int .u32 (x2c : Int), .int .u32 (x2d : Int), .slice A5 cn c5, .slice none 0 0, .slice none 0 0, .slice none 0 0, .int .u8 0] := HM5.out.set 7 _
  have own6 := own_setG own5 (show gm < wA.drew.heap.size from (by have : wA.drew.heap.size = wA.heap.size := rfl; omega)) 7 (.slice A5 cn c5)
  have r6 := Row.of_own own6
  have hwA5 : w.heap.size ≤ wA.drew.heap.size := Nat.le_trans hAs (Nat.le_refl _)
  have HF : Hid (ReadR (fun l => ⟨0, numAt l 0 4, 0, numAt l 4 8, numAt l 12 4, numAt l 16 4, numAt l 20 4, rdReps l 24 cn, [], [], [], 0⟩) (24 + 24 * cn) lo gm g l w (.returned (.tuple #[])) (w5.setCell ⟨gm, 7, none⟩ (.slice A5 cn c5))) := Lib.hid ⟨⟨0, x1, 0, x2a, x2b, x2c, x2d, xs, [], [], [], 0⟩, ⟨A5, c5, none, 0, none, 0, none, 0⟩, l5, e5, rfl, (by show Whole _ _ _ #[.int .i64 0, .int .u32 (x1 : Int), .int .u32 0, .int .u64 (x2a : Int), .int .u32 (x2b : Int), .int .u32 (x2c : Int), .int .u32 (x2d : Int), .slice A5 xs.length c5, .slice none 0 0, .slice none 0 0, .slice none 0 0, .int .u8 0]; rw [hxl]; exact hM6), ⟨(by rw [hxl]; exact r6), Row.nil, Row.nil, Row.nil⟩, ⟨(fun a ea => Nat.le_trans hwA5 (oown_lo own5 a ea)), (fun _ ea => by cases ea), (fun _ ea => by cases ea), (fun _ ea => by cases ea)⟩, (by constructor <;> first | (simp; done) | exact hok | (simp; omega) | omega), (fun h0 => by
    obtain ⟨z2, _, d5⟩ := ht5.good h0
    obtain ⟨z1, g2, d2⟩ := ht2.good z2
    obtain ⟨z0, g1, d1⟩ := ht1.good z1
    have v1 := hv1 z1
    have v2 := hv2 z2
    have v5 := hv5 h0
    subst d1
    subst d2
    simp only [rdRep_drop, List.drop_drop, numAt_drop, Prod.mk.injEq, Nat.add_zero] at v1 v2 v5; obtain ⟨u1, u2, u3, u4⟩ := v2; rw [v1, u1, u2, u3, u4, v5]; rfl
    ), (by rw [((ht1.trans ht2).trans ht5).err]), hc5.farset (.inl o1) o2 _ _, p5.set _ _⟩
  clear hwA5 hM6 own6 own5 r6 hxl hok hv5 ht5 hc5 hg5 p5 HM5 q5 f5 CT KP HMA HCA pA pAd HM0 HC0 hv1 ht1 hv2 ht2
  go_wp2
  exact bodyPost_end (v := .tuple #[]) (by simp [results, Tryd.results61, go_sem]) rfl HF.out

set_option maxHeartbeats 3200000 in
theorem read2_any (gm g b3 b4 b5 cn : Nat) (l : List UInt8) (w : World) (hm : Whole w gm 59 #[.int .i64 1, .int .u32 0, .int .u32 0, .int .u64 0, .int .u32 0, .int .u32 0, .int .u32 0, .slice none 0 0, .slice none 0 0, .slice none 0 0, .slice none 0 0, .int .u8 0]) (hc : CutAt w lo g l 0) (h3 : Whole w b3 74 #[.pointer (some ⟨g, 0, none⟩)]) (h4 : Whole w b4 126 #[.pointer (some ⟨gm, 0, none⟩)]) (h5 : Whole w b5 3 #[.int .i64 (cn : Int)]) (hcn : cn < 32) (_hl : l.length ≤ 2000) (o1 : gm < lo) (o2 : lo ≤ g) (o3 : g < b3) (o4 : b3 < b4) (o5 : b4 < b5) :
    Calls Tryd.prog 66 #[.pointer (some ⟨b3, 0, none⟩), .pointer (some ⟨b4, 0, none⟩), .pointer (some ⟨b5, 0, none⟩)] w (ReadR (fun l => ⟨1, numAt l 0 4, 0, 0, 0, 0, 0, rdReps l 4 cn, [], [], [], 0⟩) (4 + 24 * cn) lo gm g l w) := by
  have KP := Lib.hid (fun w' (k : Prt gm g w w') => show w'.cell? ⟨b3, 0, none⟩ = some (.pointer (some ⟨g, 0, none⟩)) ∧ w'.cell? ⟨b4, 0, none⟩ = some (.pointer (some ⟨gm, 0, none⟩)) ∧ w'.cell? ⟨b5, 0, none⟩ = some (.int .i64 (cn : Int)) from ⟨(h3.prt k (by omega) (by omega)).cell 0, (h4.prt k (by omega) (by omega)).cell 0, (h5.prt k (by omega) (by omega)).cell 0⟩)
  have p0 : Prt gm g w w.drew := (Prt.refl gm g w).drew
  obtain ⟨k3, k4, k5⟩ := KP.out _ (Prt.refl gm g w)
  have CW := Lib.hid (fun l e wx (hh : CutAt wx lo g l e) => word_take g l e wx hh)
  have HM0 := Lib.hid hm
  have HC0 := Lib.hid hc
  have hgg : gm ≠ g := by omega
  have HGG := Lib.hid (show some gm ≠ some g from fun e => hgg (by injection e))
  have hgl := hc.lt
  clear hm hc h3 h4 h5
  go_enter Tryd.func66, Tryd.ntmps66
  go_wp2_with fail
  go_region_held3 (fun w' => w'.cell? ⟨b3, 0, none⟩ = some (.pointer (some ⟨g, 0, none⟩)) ∧ w'.cell? ⟨b4, 0, none⟩ = some (.pointer (some ⟨gm, 0, none⟩)) ∧ w'.cell? ⟨b5, 0, none⟩ = some (.int .i64 (cn : Int)))
    (first | with_reducible exact KP.out _ (p1.set _ _) | with_reducible exact KP.out _ p1 | with_reducible exact KP.out _ p0 | go_keep)
    (first
      | (go_at_call 62; refine (CW.out l 0 _ ?_).mono ?_; (first | exact HC0.out | exact HC0.out.drewR); rintro en w1 ⟨x1, l1, e1, rfl, hx1, hv1, ht1, hc1, hg1⟩; have p1 : Prt gm g w w1 := Prt.of_drewn hg1; have HM1 := Lib.hid (HM0.out.grown (grown_drewR hg1) HGG.out); have q1 := HM1.out.cell 1; have f1 := HM1.out.free 1))
  obtain ⟨wA, hwA⟩ : ∃ wA, (w1.setCell ⟨gm, 1, none⟩ (.int .u32 (x1 : Int))) = wA := ⟨_, rfl⟩
  have hMA : Whole wA gm 59 #[.int .i64 1, .int .u32 (x1 : Int), .int .u32 0, .int .u64 0, .int .u32 0, .int .u32 0, .int .u32 0, .slice none 0 0, .slice none 0 0, .slice none 0 0, .slice none 0 0, .int .u8 0] := by rw [← hwA]; exact (HM1.out.set 1 _)
  have pA : Prt gm g w wA := by rw [← hwA]; exact (p1.set _ _)
  have hcA : CutAt wA lo g l1 e1 := by rw [← hwA]; exact (hc1.farset (.inl o1) o2 _ _)
  rw [hwA]
  have CT := Lib.hid (fun wx (hh : CutAt wx lo g l1 e1) => timesRep g cn l1 e1 wx hh (by omega))
  have HMA := Lib.hid hMA
  have HCA := Lib.hid hcA
  have pAd := pA.drew
  obtain ⟨j3, j4, j5⟩ := KP.out _ pA
  have hAs := pA.size
  clear hMA hcA hwA q1 f1 hc1 hg1 HM1
  go_wp2_with fail
  go_region_held3 (fun w' => w'.cell? ⟨b3, 0, none⟩ = some (.pointer (some ⟨g, 0, none⟩)) ∧ w'.cell? ⟨b4, 0, none⟩ = some (.pointer (some ⟨gm, 0, none⟩)) ∧ w'.cell? ⟨b5, 0, none⟩ = some (.int .i64 (cn : Int)))
    (first | with_reducible exact KP.out _ (p5.set _ _) | with_reducible exact KP.out _ p5 | with_reducible exact KP.out _ pAd | with_reducible exact KP.out _ pA | go_keep)
    (first
      | (go_at_call 64; refine (CT.out _ ?_).mono ?_; (first | exact HCA.out | exact HCA.out.drewR); rintro en w5 ⟨A5, c5, xs, l5, e5, rfl, own5, hxl, hok, hv5, ht5, hc5, hg5⟩; have p5 := pA.next (grown_drewR hg5); have HM5 := Lib.hid (HMA.out.grown (grown_drewR hg5) HGG.out); have q5 := HM5.out.cell 7; have f5 := HM5.out.free 7))
  have hM6 : Whole (w5.setCell ⟨gm, 7, none⟩ (.slice A5 cn c5)) gm 59 #[.int .i64 1, .int .u32 (x1 : Int), .int .u32 0, .int .u64 0, .int .u32 0, .int .u32 0, .int .u32 0, .slice A5 cn c5, .slice none 0 0, .slice none 0 0, .slice none 0 0, .int .u8 0] := HM5.out.set 7 _
  have own6 := own_setG own5 (show gm < wA.drew.heap.size from (by have : wA.drew.heap.size = wA.heap.size := rfl; omega)) 7 (.slice A5 cn c5)
  have r6 := Row.of_own own6
  have hwA5 : w.heap.size ≤ wA.drew.heap.size := Nat.le_trans hAs (Nat.le_refl _)
  have HF : Hid (ReadR (fun l => ⟨1, numAt l 0 4, 0, 0, 0, 0, 0, rdReps l 4 cn, [], [], [], 0⟩) (4 + 24 * cn) lo gm g l w (.returned (.tuple #[])) (w5.setCell ⟨gm, 7, none⟩ (.slice A5 cn c5))) := Lib.hid ⟨⟨1, x1, 0, 0, 0, 0, 0, xs, [], [], [], 0⟩, ⟨A5, c5, none, 0, none, 0, none, 0⟩, l5, e5, rfl, (by show Whole _ _ _ #[.int .i64 1, .int .u32 (x1 : Int), .int .u32 0, .int .u64 0, .int .u32 0, .int .u32 0, .int .u32 0, .slice A5 xs.length c5, .slice none 0 0, .slice none 0 0, .slice none 0 0, .int .u8 0]; rw [hxl]; exact hM6), ⟨(by rw [hxl]; exact r6), Row.nil, Row.nil, Row.nil⟩, ⟨(fun a ea => Nat.le_trans hwA5 (oown_lo own5 a ea)), (fun _ ea => by cases ea), (fun _ ea => by cases ea), (fun _ ea => by cases ea)⟩, (by constructor <;> first | (simp; done) | exact hok | (simp; omega) | omega), (fun h0 => by
    obtain ⟨z1, _, d5⟩ := ht5.good h0
    obtain ⟨z0, g1, d1⟩ := ht1.good z1
    have v1 := hv1 z1
    have v5 := hv5 h0
    subst d1
    simp only [rdRep_drop, List.drop_drop, Nat.add_zero] at v1 v5; rw [v1, v5]; rfl
    ), (by rw [(ht1.trans ht5).err]), hc5.farset (.inl o1) o2 _ _, p5.set _ _⟩
  clear hwA5 hM6 own6 own5 r6 hxl hok hv5 ht5 hc5 hg5 p5 HM5 q5 f5 CT KP HMA HCA pA pAd HM0 HC0 hv1 ht1
  go_wp2
  exact bodyPost_end (v := .tuple #[]) (by simp [results, Tryd.results66, go_sem]) rfl HF.out

set_option maxHeartbeats 3200000 in
theorem read3_any (gm g b3 b4 b5 cn : Nat) (l : List UInt8) (w : World) (hm : Whole w gm 59 #[.int .i64 2, .int .u32 0, .int .u32 0, .int .u64 0, .int .u32 0, .int .u32 0, .int .u32 0, .slice none 0 0, .slice none 0 0, .slice none 0 0, .slice none 0 0, .int .u8 0]) (hc : CutAt w lo g l 0) (h3 : Whole w b3 74 #[.pointer (some ⟨g, 0, none⟩)]) (h4 : Whole w b4 126 #[.pointer (some ⟨gm, 0, none⟩)]) (h5 : Whole w b5 3 #[.int .i64 (cn : Int)]) (hcn : cn < 32) (_hl : l.length ≤ 2000) (o1 : gm < lo) (o2 : lo ≤ g) (o3 : g < b3) (o4 : b3 < b4) (o5 : b4 < b5) :
    Calls Tryd.prog 67 #[.pointer (some ⟨b5, 0, none⟩), .pointer (some ⟨b3, 0, none⟩), .pointer (some ⟨b4, 0, none⟩)] w (ReadR (fun l => ⟨2, 0, 0, 0, 0, 0, 0, [], rdWho l cn, [], [], 0⟩) (4 * cn) lo gm g l w) := by
  have KP := Lib.hid (fun w' (k : Prt gm g w w') => show w'.cell? ⟨b3, 0, none⟩ = some (.pointer (some ⟨g, 0, none⟩)) ∧ w'.cell? ⟨b4, 0, none⟩ = some (.pointer (some ⟨gm, 0, none⟩)) ∧ w'.cell? ⟨b5, 0, none⟩ = some (.int .i64 (cn : Int)) from ⟨(h3.prt k (by omega) (by omega)).cell 0, (h4.prt k (by omega) (by omega)).cell 0, (h5.prt k (by omega) (by omega)).cell 0⟩)
  have p0 : Prt gm g w w.drew := (Prt.refl gm g w).drew
  obtain ⟨k3, k4, k5⟩ := KP.out _ (Prt.refl gm g w)
  have CW := Lib.hid (fun l e wx (hh : CutAt wx lo g l e) => word_take g l e wx hh)
  have HM0 := Lib.hid hm
  have HC0 := Lib.hid hc
  have hgg : gm ≠ g := by omega
  have HGG := Lib.hid (show some gm ≠ some g from fun e => hgg (by injection e))
  have hgl := hc.lt
  clear hm hc h3 h4 h5
  go_enter Tryd.func67, Tryd.ntmps67
  go_wp2_with fail
  have hMA := HM0.out
  have pA := Prt.refl gm g w
  have hcA := HC0.out
  have CT := Lib.hid (fun wx (hh : CutAt wx lo g l 0) => timesWho g cn l 0 wx hh (by omega))
  have HMA := Lib.hid hMA
  have HCA := Lib.hid hcA
  have pAd := pA.drew
  obtain ⟨j3, j4, j5⟩ := KP.out _ pA
  have hAs := pA.size
  clear hMA hcA 
  go_wp2_with fail
  go_region_held3 (fun w' => w'.cell? ⟨b3, 0, none⟩ = some (.pointer (some ⟨g, 0, none⟩)) ∧ w'.cell? ⟨b4, 0, none⟩ = some (.pointer (some ⟨gm, 0, none⟩)) ∧ w'.cell? ⟨b5, 0, none⟩ = some (.int .i64 (cn : Int)))
    (first | with_reducible exact KP.out _ (p5.set _ _) | with_reducible exact KP.out _ p5 | with_reducible exact KP.out _ pAd | with_reducible exact KP.out _ pA | go_keep)
    (first
      | (go_at_call 68; refine (CT.out _ ?_).mono ?_; (first | exact HCA.out | exact HCA.out.drewR); rintro en w5 ⟨A5, c5, xs, l5, e5, rfl, own5, hxl, hok, hv5, ht5, hc5, hg5⟩; have p5 := pA.next (grown_drewR hg5); have HM5 := Lib.hid (HMA.out.grown (grown_drewR hg5) HGG.out); have q5 := HM5.out.cell 8; have f5 := HM5.out.free 8))
  have hM6 : Whole (w5.setCell ⟨gm, 8, none⟩ (.slice A5 cn c5)) gm 59 #[.int .i64 2, .int .u32 0, .int .u32 0, .int .u64 0, .int .u32 0, .int .u32 0, .int .u32 0, .slice none 0 0, .slice A5 cn c5, .slice none 0 0, .slice none 0 0, .int .u8 0] := HM5.out.set 8 _
  have own6 := own_setG own5 (show gm < w.drew.heap.size from (by have : w.drew.heap.size = w.heap.size := rfl; omega)) 8 (.slice A5 cn c5)
  have r6 := Row.of_own own6
  have hwA5 : w.heap.size ≤ w.drew.heap.size := Nat.le_trans hAs (Nat.le_refl _)
  have HF : Hid (ReadR (fun l => ⟨2, 0, 0, 0, 0, 0, 0, [], rdWho l cn, [], [], 0⟩) (4 * cn) lo gm g l w (.returned (.tuple #[])) (w5.setCell ⟨gm, 8, none⟩ (.slice A5 cn c5))) := Lib.hid ⟨⟨2, 0, 0, 0, 0, 0, 0, [], xs, [], [], 0⟩, ⟨none, 0, A5, c5, none, 0, none, 0⟩, l5, e5, rfl, (by show Whole _ _ _ #[.int .i64 2, .int .u32 0, .int .u32 0, .int .u64 0, .int .u32 0, .int .u32 0, .int .u32 0, .slice none 0 0, .slice A5 xs.length c5, .slice none 0 0, .slice none 0 0, .int .u8 0]; rw [hxl]; exact hM6), ⟨Row.nil, (by rw [hxl]; exact r6), Row.nil, Row.nil⟩, ⟨(fun _ ea => by cases ea), (fun a ea => Nat.le_trans hwA5 (oown_lo own5 a ea)), (fun _ ea => by cases ea), (fun _ ea => by cases ea)⟩, (by constructor <;> first | (simp; done) | exact hok | (simp; omega) | omega), (fun h0 => by
    have v5 := hv5 h0
    simp only [numAt_drop, Nat.add_zero] at v5; rw [v5]; rfl
    ), (by rw [ht5.err]), hc5.farset (.inl o1) o2 _ _, p5.set _ _⟩
  clear hwA5 hM6 own6 own5 r6 hxl hok hv5 ht5 hc5 hg5 p5 HM5 q5 f5 CT KP HMA HCA pA pAd HM0 HC0 
  go_wp2
  exact bodyPost_end (v := .tuple #[]) (by simp [results, Tryd.results67, go_sem]) rfl HF.out

set_option maxHeartbeats 3200000 in
theorem read4_any (gm g b3 b4 b5 cn : Nat) (l : List UInt8) (w : World) (hm : Whole w gm 59 #[.int .i64 3, .int .u32 0, .int .u32 0, .int .u64 0, .int .u32 0, .int .u32 0, .int .u32 0, .slice none 0 0, .slice none 0 0, .slice none 0 0, .slice none 0 0, .int .u8 0]) (hc : CutAt w lo g l 0) (h3 : Whole w b3 74 #[.pointer (some ⟨g, 0, none⟩)]) (h4 : Whole w b4 126 #[.pointer (some ⟨gm, 0, none⟩)]) (_h5 : Whole w b5 3 #[.int .i64 (cn : Int)]) (_hcn : cn < 32) (hl : l.length ≤ 2000) (o1 : gm < lo) (o2 : lo ≤ g) (o3 : g < b3) (o4 : b3 < b4) (_o5 : b4 < b5) :
    Calls Tryd.prog 69 #[.pointer (some ⟨b3, 0, none⟩), .pointer (some ⟨b4, 0, none⟩)] w (ReadR (fun l => ⟨3, numAt l 0 4, numAt l 4 4, 0, 0, 0, 0, [], [], rdPairs l ((l.length - 8) / 4), [], 0⟩) (8) lo gm g l w) := by
  have KP := Lib.hid (fun w' (k : Prt gm g w w') => show w'.cell? ⟨b3, 0, none⟩ = some (.pointer (some ⟨g, 0, none⟩)) ∧ w'.cell? ⟨b4, 0, none⟩ = some (.pointer (some ⟨gm, 0, none⟩)) from ⟨(h3.prt k (by omega) (by omega)).cell 0, (h4.prt k (by omega) (by omega)).cell 0⟩)
  have p0 : Prt gm g w w.drew := (Prt.refl gm g w).drew
  obtain ⟨k3, k4⟩ := KP.out _ (Prt.refl gm g w)
  have CW := Lib.hid (fun l e wx (hh : CutAt wx lo g l e) => word_take g l e wx hh)
  have HM0 := Lib.hid hm
  have HC0 := Lib.hid hc
  have hgg : gm ≠ g := by omega
  have HGG := Lib.hid (show some gm ≠ some g from fun e => hgg (by injection e))
  have hgl := hc.lt
  clear hm hc h3 h4 _h5
  go_enter Tryd.func69, Tryd.ntmps69
  go_wp2_with fail
  go_region_held3 (fun w' => w'.cell? ⟨b3, 0, none⟩ = some (.pointer (some ⟨g, 0, none⟩)) ∧ w'.cell? ⟨b4, 0, none⟩ = some (.pointer (some ⟨gm, 0, none⟩)))
    (first | with_reducible exact KP.out _ ((p2.set _ _).set _ _) | with_reducible exact KP.out _ (p2.set _ _) | with_reducible exact KP.out _ p2 | with_reducible exact KP.out _ p1 | with_reducible exact KP.out _ p0 | go_keep)
    (first
      | (go_at_call 62; refine (CW.out l1 e1 _ ?_).mono ?_; (exact hc1); rintro en w2 ⟨x2, l2, e2, rfl, hx2, hv2, ht2, hc2, hg2⟩; have p2 := p1.next hg2; have HM2 := Lib.hid (HM1.out.grown hg2 HGG.out); have q1 := HM2.out.cell 1; have f1 := HM2.out.free 1; have q2 := HM2.out.cell 2; have f2 := HM2.out.free 2)
      | (go_at_call 62; refine (CW.out l 0 _ ?_).mono ?_; (first | exact HC0.out | exact HC0.out.drewR); rintro en w1 ⟨x1, l1, e1, rfl, hx1, hv1, ht1, hc1, hg1⟩; have p1 : Prt gm g w w1 := Prt.of_drewn hg1; have HM1 := Lib.hid (HM0.out.grown (grown_drewR hg1) HGG.out)))
  obtain ⟨wA, hwA⟩ : ∃ wA, ((w2.setCell ⟨gm, 1, none⟩ (.int .u32 (x1 : Int))).setCell ⟨gm, 2, none⟩ (.int .u32 (x2 : Int))) = wA := ⟨_, rfl⟩
  have hMA : Whole wA gm 59 #[.int .i64 3, .int .u32 (x1 : Int), .int .u32 (x2 : Int), .int .u64 0, .int .u32 0, .int .u32 0, .int .u32 0, .slice none 0 0, .slice none 0 0, .slice none 0 0, .slice none 0 0, .int .u8 0] := by rw [← hwA]; exact ((HM2.out.set 1 _).set 2 _)
  have pA : Prt gm g w wA := by rw [← hwA]; exact ((p2.set _ _).set _ _)
  have hcA : CutAt wA lo g l2 e2 := by rw [← hwA]; exact ((hc2.farset (.inl o1) o2 _ _).farset (.inl o1) o2 _ _)
  rw [hwA]
  obtain ⟨nn, hnn⟩ : ∃ nn, l2.length / 4 = nn := ⟨_, rfl⟩
  have hle : l2.length ≤ l.length := (ht1.trans ht2).le
  have hdiv : IntKind.i64.wrap ((l2.length : Int) / 4) = (nn : Int) := by rw [IntWalk.i64_in _ (by omega)]; omega
  have CL := Lib.hid (fun wx (hh : CutAt wx lo g l2 e2) => left_any g l2 e2 wx hh)
  have CT := Lib.hid (fun wx (hh : CutAt wx lo g l2 e2) => timesPair g nn l2 e2 wx hh (by omega))
  have HMA := Lib.hid hMA
  have HCA := Lib.hid hcA
  have pAd := pA.drew
  obtain ⟨j3, j4⟩ := KP.out _ pA
  have hAs := pA.size
  clear hMA hcA hwA q1 f1 q2 f2 hc1 hg1 HM1 hc2 hg2 HM2
  go_wp2_with fail
  go_region_held3 (fun w' => w'.cell? ⟨b3, 0, none⟩ = some (.pointer (some ⟨g, 0, none⟩)) ∧ w'.cell? ⟨b4, 0, none⟩ = some (.pointer (some ⟨gm, 0, none⟩)))
    (first | with_reducible exact KP.out _ (p5.set _ _) | with_reducible exact KP.out _ p5 | with_reducible exact KP.out _ pAd | with_reducible exact KP.out _ pA | go_keep)
    (first
      | (go_at_call 26; refine (CL.out _ ?_).mono ?_; (first | exact HCA.out | exact HCA.out.drewR); rintro en w4 ⟨rfl, rfl⟩)
      | (go_at_call 70; refine (CT.out _ ?_).mono ?_; (first | exact HCA.out | exact HCA.out.drewR); rintro en w5 ⟨A5, c5, xs, l5, e5, rfl, own5, hxl, hok, hv5, ht5, hc5, hg5⟩; have p5 := pA.next (grown_drewR hg5); have HM5 := Lib.hid (HMA.out.grown (grown_drewR hg5) HGG.out); have q5 := HM5.out.cell 9; have f5 := HM5.out.free 9))
  all_goals
    have hM6 : Whole (w5.setCell ⟨gm, 9, none⟩ (.slice A5 nn c5)) gm 59 #[.int .i64 3, .int .u32 (x1 : Int), .int .u32 (x2 : Int), .int .u64 0, .int .u32 0, .int .u32 0, .int .u32 0, .slice none 0 0, .slice none 0 0, .slice A5 nn c5, .slice none 0 0, .int .u8 0] := HM5.out.set 9 _
    have own6 := own_setG own5 (show gm < wA.drew.heap.size from (by have : wA.drew.heap.size = wA.heap.size := rfl; omega)) 9 (.slice A5 nn c5)
    have r6 := Row.of_own own6
    have hwA5 : w.heap.size ≤ wA.drew.heap.size := Nat.le_trans hAs (Nat.le_refl _)
    have HF : Hid (ReadR (fun l => ⟨3, numAt l 0 4, numAt l 4 4, 0, 0, 0, 0, [], [], rdPairs l ((l.length - 8) / 4), [], 0⟩) (8) lo gm g l w (.returned (.tuple #[])) (w5.setCell ⟨gm, 9, none⟩ (.slice A5 nn c5))) := Lib.hid ⟨⟨3, x1, x2, 0, 0, 0, 0, [], [], xs, [], 0⟩, ⟨none, 0, none, 0, A5, c5, none, 0⟩, l5, e5, rfl, (by show Whole _ _ _ #[.int .i64 3, .int .u32 (x1 : Int), .int .u32 (x2 : Int), .int .u64 0, .int .u32 0, .int .u32 0, .int .u32 0, .slice none 0 0, .slice none 0 0, .slice A5 xs.length c5, .slice none 0 0, .int .u8 0]; rw [hxl]; exact hM6), ⟨Row.nil, Row.nil, (by rw [hxl]; exact r6), Row.nil⟩, ⟨(fun _ ea => by cases ea), (fun _ ea => by cases ea), (fun a ea => Nat.le_trans hwA5 (oown_lo own5 a ea)), (fun _ ea => by cases ea)⟩, (by constructor <;> first | (simp; done) | exact hok | (simp; omega) | omega), (fun h0 => by
      obtain ⟨z2, _, d5⟩ := ht5.good h0
      obtain ⟨z1, g2, d2⟩ := ht2.good z2
      obtain ⟨z0, g1, d1⟩ := ht1.good z1
      have v1 := hv1 z1
      have v2 := hv2 z2
      have v5 := hv5 h0
      subst d1
      subst d2
      simp only [List.drop_drop, numAt_drop, Nat.add_zero] at v1 v2 v5; rw [List.length_drop, List.length_drop] at hnn; rw [v1, v2, v5, show nn = (l.length - 8) / 4 by omega]; rfl
      ), (by
      have ee := ((ht1.trans ht2).trans ht5).err
      rw [ee]
      rcases (ht1.trans ht2) with ⟨a1, _, a3, a4⟩ | ⟨a1, a2, a3⟩
      · rw [a4, List.length_drop] at hnn; rw [if_pos (by omega), if_pos (by omega)]
      · rcases a2 with ⟨b1, _⟩ | ⟨_, _, b3⟩
        · exact absurd rfl b1
        · rw [if_neg (by omega), if_neg (by omega)]), hc5.farset (.inl o1) o2 _ _, p5.set _ _⟩
    clear hwA5 hM6 own6 own5 r6 hxl hok hv5 ht5 hc5 hg5 p5 HM5 q5 f5 CT KP HMA HCA pA pAd HM0 HC0 hv1 ht1 hv2 ht2
    go_wp2
    exact bodyPost_end (v := .tuple #[]) (by simp [results, Tryd.results69, go_sem]) rfl HF.out

set_option maxHeartbeats 3200000 in
theorem read5_any (gm g b3 b4 b5 cn : Nat) (l : List UInt8) (w : World) (hm : Whole w gm 59 #[.int .i64 4, .int .u32 0, .int .u32 0, .int .u64 0, .int .u32 0, .int .u32 0, .int .u32 0, .slice none 0 0, .slice none 0 0, .slice none 0 0, .slice none 0 0, .int .u8 0]) (hc : CutAt w lo g l 0) (h3 : Whole w b3 74 #[.pointer (some ⟨g, 0, none⟩)]) (h4 : Whole w b4 126 #[.pointer (some ⟨gm, 0, none⟩)]) (_h5 : Whole w b5 3 #[.int .i64 (cn : Int)]) (_hcn : cn < 32) (_hl : l.length ≤ 2000) (o1 : gm < lo) (o2 : lo ≤ g) (o3 : g < b3) (o4 : b3 < b4) (_o5 : b4 < b5) :
    Calls Tryd.prog 72 #[.pointer (some ⟨b3, 0, none⟩), .pointer (some ⟨b4, 0, none⟩)] w (ReadR (fun l => ⟨4, numAt l 0 4, numAt l 4 4, 0, 0, 0, 0, [], [], [], [], 0⟩) (8) lo gm g l w) := by
  have KP := Lib.hid (fun w' (k : Prt gm g w w') => show w'.cell? ⟨b3, 0, none⟩ = some (.pointer (some ⟨g, 0, none⟩)) ∧ w'.cell? ⟨b4, 0, none⟩ = some (.pointer (some ⟨gm, 0, none⟩)) from ⟨(h3.prt k (by omega) (by omega)).cell 0, (h4.prt k (by omega) (by omega)).cell 0⟩)
  have p0 : Prt gm g w w.drew := (Prt.refl gm g w).drew
  obtain ⟨k3, k4⟩ := KP.out _ (Prt.refl gm g w)
  have CW := Lib.hid (fun l e wx (hh : CutAt wx lo g l e) => word_take g l e wx hh)
  have HM0 := Lib.hid hm
  have HC0 := Lib.hid hc
  have hgg : gm ≠ g := by omega
  have HGG := Lib.hid (show some gm ≠ some g from fun e => hgg (by injection e))
  have hgl := hc.lt
  clear hm hc h3 h4 _h5
  go_enter Tryd.func72, Tryd.ntmps72
  go_wp2_with fail
  go_region_held3 (fun w' => w'.cell? ⟨b3, 0, none⟩ = some (.pointer (some ⟨g, 0, none⟩)) ∧ w'.cell? ⟨b4, 0, none⟩ = some (.pointer (some ⟨gm, 0, none⟩)))
    (first | with_reducible exact KP.out _ ((p2.set _ _).set _ _) | with_reducible exact KP.out _ (p2.set _ _) | with_reducible exact KP.out _ p2 | with_reducible exact KP.out _ p1 | with_reducible exact KP.out _ p0 | go_keep)
    (first
      | (go_at_call 62; refine (CW.out l1 e1 _ ?_).mono ?_; (exact hc1); rintro en w2 ⟨x2, l2, e2, rfl, hx2, hv2, ht2, hc2, hg2⟩; have p2 := p1.next hg2; have HM2 := Lib.hid (HM1.out.grown hg2 HGG.out); have q1 := HM2.out.cell 1; have f1 := HM2.out.free 1; have q2 := HM2.out.cell 2; have f2 := HM2.out.free 2)
      | (go_at_call 62; refine (CW.out l 0 _ ?_).mono ?_; (first | exact HC0.out | exact HC0.out.drewR); rintro en w1 ⟨x1, l1, e1, rfl, hx1, hv1, ht1, hc1, hg1⟩; have p1 : Prt gm g w w1 := Prt.of_drewn hg1; have HM1 := Lib.hid (HM0.out.grown (grown_drewR hg1) HGG.out)))
  obtain ⟨wA, hwA⟩ : ∃ wA, ((w2.setCell ⟨gm, 1, none⟩ (.int .u32 (x1 : Int))).setCell ⟨gm, 2, none⟩ (.int .u32 (x2 : Int))) = wA := ⟨_, rfl⟩
  have hMA : Whole wA gm 59 #[.int .i64 4, .int .u32 (x1 : Int), .int .u32 (x2 : Int), .int .u64 0, .int .u32 0, .int .u32 0, .int .u32 0, .slice none 0 0, .slice none 0 0, .slice none 0 0, .slice none 0 0, .int .u8 0] := by rw [← hwA]; exact ((HM2.out.set 1 _).set 2 _)
  have pA : Prt gm g w wA := by rw [← hwA]; exact ((p2.set _ _).set _ _)
  have hcA : CutAt wA lo g l2 e2 := by rw [← hwA]; exact ((hc2.farset (.inl o1) o2 _ _).farset (.inl o1) o2 _ _)
  rw [hwA]
  have HF : Hid (ReadR (fun l => ⟨4, numAt l 0 4, numAt l 4 4, 0, 0, 0, 0, [], [], [], [], 0⟩) (8) lo gm g l w (.returned (.tuple #[])) wA) := Lib.hid ⟨⟨4, x1, x2, 0, 0, 0, 0, [], [], [], [], 0⟩, ⟨none, 0, none, 0, none, 0, none, 0⟩, l2, e2, rfl, hMA, ⟨Row.nil, Row.nil, Row.nil, Row.nil⟩, SlNew.empty _, (by constructor <;> first | (simp; done) | (simp; omega) | omega), (fun h0 => by
    obtain ⟨z1, _, d2⟩ := ht2.good h0
    obtain ⟨z0, _, d1⟩ := ht1.good z1
    have v1 := hv1 z1
    have v2 := hv2 h0
    subst d1
    simp only [numAt_drop] at v1 v2
    rw [v1, v2]), (ht1.trans ht2).err, hcA, pA⟩
  clear pA hcA hMA hwA HM0 HC0 KP CW p0 p1 p2 hc1 hc2 hg1 hg2 HM1 HM2 q1 q2 f1 f2 hv1 ht1 hv2 ht2 k3 k4
  go_wp2
  exact bodyPost_end (v := .tuple #[]) (by simp [results, Tryd.results72, go_sem]) rfl HF.out

set_option maxHeartbeats 3200000 in
theorem read6_any (gm g b3 b4 b5 cn : Nat) (l : List UInt8) (w : World) (hm : Whole w gm 59 #[.int .i64 5, .int .u32 0, .int .u32 0, .int .u64 0, .int .u32 0, .int .u32 0, .int .u32 0, .slice none 0 0, .slice none 0 0, .slice none 0 0, .slice none 0 0, .int .u8 0]) (hc : CutAt w lo g l 0) (h3 : Whole w b3 74 #[.pointer (some ⟨g, 0, none⟩)]) (h4 : Whole w b4 126 #[.pointer (some ⟨gm, 0, none⟩)]) (_h5 : Whole w b5 3 #[.int .i64 (cn : Int)]) (_hcn : cn < 32) (hl : l.length ≤ 2000) (o1 : gm < lo) (o2 : lo ≤ g) (o3 : g < b3) (o4 : b3 < b4) (_o5 : b4 < b5) :
    Calls Tryd.prog 73 #[.pointer (some ⟨b3, 0, none⟩), .pointer (some ⟨b4, 0, none⟩)] w (ReadR (fun l => ⟨5, numAt l 0 4, numAt l 4 4, 0, 0, 0, 0, [], [], [], rdAsks l ((l.length - 8) / 8), 0⟩) (8) lo gm g l w) := by
  have KP := Lib.hid (fun w' (k : Prt gm g w w') => show w'.cell? ⟨b3, 0, none⟩ = some (.pointer (some ⟨g, 0, none⟩)) ∧ w'.cell? ⟨b4, 0, none⟩ = some (.pointer (some ⟨gm, 0, none⟩)) from ⟨(h3.prt k (by omega) (by omega)).cell 0, (h4.prt k (by omega) (by omega)).cell 0⟩)
  have p0 : Prt gm g w w.drew := (Prt.refl gm g w).drew
  obtain ⟨k3, k4⟩ := KP.out _ (Prt.refl gm g w)
  have CW := Lib.hid (fun l e wx (hh : CutAt wx lo g l e) => word_take g l e wx hh)
  have HM0 := Lib.hid hm
  have HC0 := Lib.hid hc
  have hgg : gm ≠ g := by omega
  have HGG := Lib.hid (show some gm ≠ some g from fun e => hgg (by injection e))
  have hgl := hc.lt
  clear hm hc h3 h4 _h5
  go_enter Tryd.func73, Tryd.ntmps73
  go_wp2_with fail
  go_region_held3 (fun w' => w'.cell? ⟨b3, 0, none⟩ = some (.pointer (some ⟨g, 0, none⟩)) ∧ w'.cell? ⟨b4, 0, none⟩ = some (.pointer (some ⟨gm, 0, none⟩)))
    (first | with_reducible exact KP.out _ ((p2.set _ _).set _ _) | with_reducible exact KP.out _ (p2.set _ _) | with_reducible exact KP.out _ p2 | with_reducible exact KP.out _ p1 | with_reducible exact KP.out _ p0 | go_keep)
    (first
      | (go_at_call 62; refine (CW.out l1 e1 _ ?_).mono ?_; (exact hc1); rintro en w2 ⟨x2, l2, e2, rfl, hx2, hv2, ht2, hc2, hg2⟩; have p2 := p1.next hg2; have HM2 := Lib.hid (HM1.out.grown hg2 HGG.out); have q1 := HM2.out.cell 1; have f1 := HM2.out.free 1; have q2 := HM2.out.cell 2; have f2 := HM2.out.free 2)
      | (go_at_call 62; refine (CW.out l 0 _ ?_).mono ?_; (first | exact HC0.out | exact HC0.out.drewR); rintro en w1 ⟨x1, l1, e1, rfl, hx1, hv1, ht1, hc1, hg1⟩; have p1 : Prt gm g w w1 := Prt.of_drewn hg1; have HM1 := Lib.hid (HM0.out.grown (grown_drewR hg1) HGG.out)))
  obtain ⟨wA, hwA⟩ : ∃ wA, ((w2.setCell ⟨gm, 1, none⟩ (.int .u32 (x1 : Int))).setCell ⟨gm, 2, none⟩ (.int .u32 (x2 : Int))) = wA := ⟨_, rfl⟩
  have hMA : Whole wA gm 59 #[.int .i64 5, .int .u32 (x1 : Int), .int .u32 (x2 : Int), .int .u64 0, .int .u32 0, .int .u32 0, .int .u32 0, .slice none 0 0, .slice none 0 0, .slice none 0 0, .slice none 0 0, .int .u8 0] := by rw [← hwA]; exact ((HM2.out.set 1 _).set 2 _)
  have pA : Prt gm g w wA := by rw [← hwA]; exact ((p2.set _ _).set _ _)
  have hcA : CutAt wA lo g l2 e2 := by rw [← hwA]; exact ((hc2.farset (.inl o1) o2 _ _).farset (.inl o1) o2 _ _)
  rw [hwA]
  obtain ⟨nn, hnn⟩ : ∃ nn, l2.length / 8 = nn := ⟨_, rfl⟩
  have hle : l2.length ≤ l.length := (ht1.trans ht2).le
  have hdiv : IntKind.i64.wrap ((l2.length : Int) / 8) = (nn : Int) := by rw [IntWalk.i64_in _ (by omega)]; omega
  have CL := Lib.hid (fun wx (hh : CutAt wx lo g l2 e2) => left_any g l2 e2 wx hh)
  have CT := Lib.hid (fun wx (hh : CutAt wx lo g l2 e2) => timesAsk g nn l2 e2 wx hh (by omega))
  have HMA := Lib.hid hMA
  have HCA := Lib.hid hcA
  have pAd := pA.drew
  obtain ⟨j3, j4⟩ := KP.out _ pA
  have hAs := pA.size
  clear hMA hcA hwA q1 f1 q2 f2 hc1 hg1 HM1 hc2 hg2 HM2
  go_wp2_with fail
  go_region_held3 (fun w' => w'.cell? ⟨b3, 0, none⟩ = some (.pointer (some ⟨g, 0, none⟩)) ∧ w'.cell? ⟨b4, 0, none⟩ = some (.pointer (some ⟨gm, 0, none⟩)))
    (first | with_reducible exact KP.out _ (p5.set _ _) | with_reducible exact KP.out _ p5 | with_reducible exact KP.out _ pAd | with_reducible exact KP.out _ pA | go_keep)
    (first
      | (go_at_call 26; refine (CL.out _ ?_).mono ?_; (first | exact HCA.out | exact HCA.out.drewR); rintro en w4 ⟨rfl, rfl⟩)
      | (go_at_call 74; refine (CT.out _ ?_).mono ?_; (first | exact HCA.out | exact HCA.out.drewR); rintro en w5 ⟨A5, c5, xs, l5, e5, rfl, own5, hxl, hok, hv5, ht5, hc5, hg5⟩; have p5 := pA.next (grown_drewR hg5); have HM5 := Lib.hid (HMA.out.grown (grown_drewR hg5) HGG.out); have q5 := HM5.out.cell 10; have f5 := HM5.out.free 10))
  all_goals
    have hM6 : Whole (w5.setCell ⟨gm, 10, none⟩ (.slice A5 nn c5)) gm 59 #[.int .i64 5, .int .u32 (x1 : Int), .int .u32 (x2 : Int), .int .u64 0, .int .u32 0, .int .u32 0, .int .u32 0, .slice none 0 0, .slice none 0 0, .slice none 0 0, .slice A5 nn c5, .int .u8 0] := HM5.out.set 10 _
    have own6 := own_setG own5 (show gm < wA.drew.heap.size from (by have : wA.drew.heap.size = wA.heap.size := rfl; omega)) 10 (.slice A5 nn c5)
    have r6 := Row.of_own own6
    have hwA5 : w.heap.size ≤ wA.drew.heap.size := Nat.le_trans hAs (Nat.le_refl _)
    have HF : Hid (ReadR (fun l => ⟨5, numAt l 0 4, numAt l 4 4, 0, 0, 0, 0, [], [], [], rdAsks l ((l.length - 8) / 8), 0⟩) (8) lo gm g l w (.returned (.tuple #[])) (w5.setCell ⟨gm, 10, none⟩ (.slice A5 nn c5))) := Lib.hid ⟨⟨5, x1, x2, 0, 0, 0, 0, [], [], [], xs, 0⟩, ⟨none, 0, none, 0, none, 0, A5, c5⟩, l5, e5, rfl, (by show Whole _ _ _ #[.int .i64 5, .int .u32 (x1 : Int), .int .u32 (x2 : Int), .int .u64 0, .int .u32 0, .int .u32 0, .int .u32 0, .slice none 0 0, .slice none 0 0, .slice none 0 0, .slice A5 xs.length c5, .int .u8 0]; rw [hxl]; exact hM6), ⟨Row.nil, Row.nil, Row.nil, (by rw [hxl]; exact r6)⟩, ⟨(fun _ ea => by cases ea), (fun _ ea => by cases ea), (fun _ ea => by cases ea), (fun a ea => Nat.le_trans hwA5 (oown_lo own5 a ea))⟩, (by constructor <;> first | (simp; done) | exact hok | (simp; omega) | omega), (fun h0 => by
      obtain ⟨z2, _, d5⟩ := ht5.good h0
      obtain ⟨z1, g2, d2⟩ := ht2.good z2
      obtain ⟨z0, g1, d1⟩ := ht1.good z1
      have v1 := hv1 z1
      have v2 := hv2 z2
      have v5 := hv5 h0
      subst d1
      subst d2
      simp only [List.drop_drop, numAt_drop, Nat.add_zero] at v1 v2 v5; rw [List.length_drop, List.length_drop] at hnn; rw [v1, v2, v5, show nn = (l.length - 8) / 8 by omega]; rfl
      ), (by
      have ee := ((ht1.trans ht2).trans ht5).err
      rw [ee]
      rcases (ht1.trans ht2) with ⟨a1, _, a3, a4⟩ | ⟨a1, a2, a3⟩
      · rw [a4, List.length_drop] at hnn; rw [if_pos (by omega), if_pos (by omega)]
      · rcases a2 with ⟨b1, _⟩ | ⟨_, _, b3⟩
        · exact absurd rfl b1
        · rw [if_neg (by omega), if_neg (by omega)]), hc5.farset (.inl o1) o2 _ _, p5.set _ _⟩
    clear hwA5 hM6 own6 own5 r6 hxl hok hv5 ht5 hc5 hg5 p5 HM5 q5 f5 CT KP HMA HCA pA pAd HM0 HC0 hv1 ht1 hv2 ht2
    go_wp2
    exact bodyPost_end (v := .tuple #[]) (by simp [results, Tryd.results73, go_sem]) rfl HF.out
end Go.Proofs.YtcjmiidnhbmclaaDoor
