/-
  Proved: MungeOrder returns true for every row of streams (of more than 20, or with more than 60 packets, there is nothing to show): of streams one behind the other, each of packets one behind the other, some of which are left out, what is told has Seqs one behind the other, all the way. Conditions: none.
-/
import Derived.Test.YtpemikncbolkbaaMuD
import Derived.Test.YtpemikncbolkbaaMuO
import Derived.Test.YtpemikncbolkbaaMuP
import Derived.Test.YtpemikncbolkbaaInv
import Derived.Deep.CutBlock
namespace Go.Proofs.Ytpemikncbolkbaa.UOrder
open Go.ChangeShapes Go.WideShapes Go.ChangeAt Go.RowKit
set_option linter.unusedSimpArgs false
set_option linter.unusedVariables false

set_option maxRecDepth 1000000 in
set_option maxHeartbeats 100000000 in
theorem walk (w : World) (A : Option Addr) (c : Nat) (l : List Mp) (hl : l.length ≤ maxLen) (hr : Row w w.heap.size 6 A l.length (rowC partCs l)) (hq : ∀ a ∈ l, a.Fit w) :
    Calls Try.prog 5 #[.slice A l.length c] w fun e w' => e = .returned (.bool true) ∧ Below w.heap.size w w' := by
  unfold maxLen at hl
  obtain ⟨n, hn⟩ : ∃ n, l.length = n := ⟨_, rfl⟩
  rw [hn] at hl hr ⊢
  have CA := Lib.hid (fun w => awake_any w)
  have HR := Lib.hid hr
  have HN := Lib.hid hn
  have HQ := Lib.hid hq
  clear hr hn hq
  go_enter Try.func5, Try.ntmps5
  go_wp2_with fail
  refine (CA.out _).mono ?_
  rintro e w1 ⟨rfl, b1⟩
  by_cases h1 : 20 < n
  · go_wp2
    go_ret
    exact ⟨rfl, b1⟩
  have HW := Lib.hid (Whole.new w1 27 #[.bool false, .int .i64 0, .int .i64 0, .int .u16 0, .int .u32 0, .int .u16 0, .int .u8 0, .int .u16 0, .int .u32 0, .int .u16 0, .int .u8 0])
  have HB := Lib.hid (b1.alloc b1.size (.cells #[.bool false, .int .i64 0, .int .i64 0, .int .u16 0, .int .u32 0, .int .u16 0, .int .u8 0, .int .u16 0, .int .u32 0, .int .u16 0, .int .u8 0] 27))
  obtain ⟨gs, hgs⟩ : ∃ g, g = w1.heap.size := ⟨_, rfl⟩
  have hg := b1.size
  rw [← hgs] at hg HW
  clear b1 CA
  go_wp2_with fail
  rw [← hgs]
  go_loopw [5, 6] (fun v i wr => ∃ (k : Nat) (s : Mst) (want : Int), k ≤ n ∧ v = .int .u16 want ∧ i = .int .i64 (k : Int) ∧ Hid (Whole wr gs 27 s.cells) ∧ Hid (s.Fit 70000 ∧ (0 ≤ want ∧ want < 65536) ∧ ((k = 0 ∧ s.on = false) ∨ (k ≠ 0 ∧ s.on = true ∧ (s.out.seq + 1) % 65536 = want))) ∧ Below w.heap.size w wr) (fun _ i _ => n - (intOf i).toNat)
  case atStart => exact ⟨0, Mst.zero, 0, Nat.zero_le _, rfl, rfl, HW, Lib.hid ⟨⟨by decide, Mn.zero_fit, Mn.zero_fit⟩, by decide, .inl ⟨rfl, rfl⟩⟩, HB.out⟩
  case round =>
    clear HW HB hgs
    obtain ⟨k, s, want, hk, rfl, rfl, HW, HF, hb⟩ := hrel
    obtain ⟨wq, rfl⟩ : ∃ wq : World, wq = wr := ⟨_, rfl⟩
    have HB := Lib.hid hb
    have hsz := hb.size
    have hgl := HW.out.lt
    clear hb
    by_cases hlt : k < n
    · obtain ⟨x, hx⟩ : ∃ x, l[k]? = some x := ⟨l[k]'(by rw [HN.out]; exact hlt), by simp⟩
      obtain ⟨g, o, rfl, hg0, hat⟩ := row_at partCs_length HR.out (by omega)
      have HAT := Lib.hid (fun w' b' j v h => hat w' b' k x j v hx h)
      have hxf := HQ.out x (List.mem_of_getElem? hx)
      clear hat hx
      have hi1 : (0 : Int) ≤ (k : Int) := by omega
      have hi2 : (k : Int) < (n : Int) := by omega
      have hi3 : (0 : Int) < (n : Int) := by omega
      obtain ⟨⟨xq, xt, xp, xl⟩, st, A2, c2, gn⟩ := x
      obtain ⟨hxf, hst, hlen, hgr⟩ := hxf
      obtain ⟨m, hm⟩ : ∃ m, gn.length = m := ⟨_, rfl⟩
      dsimp only at hxf hst hlen hgr
      unfold maxLen at hlen
      rw [hm] at hlen hgr
      simp only [partCs, Mp.cells] at HAT
      rw [hm] at HAT
      have HGR := Lib.hid hgr
      have HM := Lib.hid hm
      have HXF := Lib.hid hxf
      clear hgr hm
      have CW := fun w => mswitch_any s ⟨xq, xt, xp, xl⟩ st (HF.out.1.parts (by omega)) hxf hst w
      have hz := HF.out.2.2
      have hw := HF.out.2.1
      by_cases hk0 : k = 0
      · have OS := ord_switch (s := s) (f := ⟨xq, xt, xp, xl⟩) (st := st) (want := xq) hxf (.inl ⟨(hz.resolve_right (fun h => h.1 hk0)).2, rfl⟩)
        have hb0 : ((k : Int) == 0) = true := by simp [hk0]
        replace hk0 := Lib.hid hk0
        obtain ⟨m', hm'⟩ : ∃ m, s.begins ⟨xq, xt, xp, xl⟩ st = m := ⟨_, rfl⟩
        have hu : s.switchS ⟨xq, xt, xp, xl⟩ st = ⟨true, xq, xq, Mn.less ⟨xq, xt, xp, xl⟩ m', m'⟩ := by unfold Mst.switchS; rw [hm']
        obtain ⟨f, hf⟩ : ∃ f, Mn.less ⟨xq, xt, xp, xl⟩ m' = f := ⟨_, rfl⟩
        rw [hf] at hu
        rw [hu, hm'] at CW OS
        clear hm' hf hu hz hxf
        obtain ⟨son, sh, sc, ⟨soq, sot, sop, sol⟩, ⟨suq, sut, sup, sul⟩⟩ := s
        obtain ⟨mq, mt, mp, ml⟩ := m'
        obtain ⟨fq, ft, fp, fl⟩ := f
        obtain ⟨os1, OS⟩ := OS
        dsimp only [Mst.cells, Mn.cells] at *
        obtain rfl : xq = mq := os1.symm
        obtain ⟨w1', hw1⟩ : ∃ z, (xq + 1) % 65536 = z := ⟨_, rfl⟩
        rw [hw1] at OS
        have E0 : IntKind.u16.wrap (xq + 1) = w1' := by rw [wrap_u16]; exact hw1
        have HW1 := Lib.hid (show 0 ≤ w1' ∧ w1' < 65536 by omega)
        clear hw1 hw
        replace OS := Lib.hid OS
        replace CW := Lib.hid CW
        have k0 := HW.out.cell 0
        have k1 := HW.out.cell 1
        have k2 := HW.out.cell 2
        have k3 := HW.out.cell 3
        have k4 := HW.out.cell 4
        have k5 := HW.out.cell 5
        have k6 := HW.out.cell 6
        have k7 := HW.out.cell 7
        have k8 := HW.out.cell 8
        have k9 := HW.out.cell 9
        have k10 := HW.out.cell 10
        have f0 := HW.out.free 0
        have f1 := HW.out.free 1
        have f2 := HW.out.free 2
        have f3 := HW.out.free 3
        have f4 := HW.out.free 4
        have f5 := HW.out.free 5
        have f6 := HW.out.free 6
        have f7 := HW.out.free 7
        have f8 := HW.out.free 8
        have f9 := HW.out.free 9
        have f10 := HW.out.free 10
        have r0 : wq.cell? ⟨g, o + k * 6, none⟩ = some (.int .u16 xq) := HAT.out _ (HB.out) 0 _ rfl
        have r1 : wq.cell? ⟨g, o + k * 6 + 1, none⟩ = some (.int .u32 xt) := HAT.out _ (HB.out) 1 _ rfl
        have r2 : wq.cell? ⟨g, o + k * 6 + 2, none⟩ = some (.int .u16 xp) := HAT.out _ (HB.out) 2 _ rfl
        have r3 : wq.cell? ⟨g, o + k * 6 + 3, none⟩ = some (.int .u8 xl) := HAT.out _ (HB.out) 3 _ rfl
        have r4 : wq.cell? ⟨g, o + k * 6 + 4, none⟩ = some (.int .u32 st) := HAT.out _ (HB.out) 4 _ rfl
        have r5 : wq.cell? ⟨g, o + k * 6 + 5, none⟩ = some (.slice A2 m c2) := HAT.out _ (HB.out) 5 _ rfl
        have hgo : g < wq.heap.size := by omega
        by_cases hm60 : 60 < m
        · go_wp2
          go_ret
          exact ⟨rfl, HB.out⟩
        go_upto_region 13 with fail
        obtain ⟨wo, hwo⟩ : ∃ wo, wo = wq := ⟨_, rfl⟩
        have Ps := HW.out
        have PB := HB.out
        rw [← hwo] at Ps PB ⊢
        clear hwo
        clear k0 f0 k1 f1 k2 f2 k3 f3 k4 f4 k5 f5 k6 f6 k7 f7 k8 f8 k9 f9 k10 f10 r0 r1 r2 r3 r4 r5 HW HB
        have ps1 := Ps.lt
        replace Ps := Lib.hid Ps
        replace PB := Lib.hid PB
        have K6 := Lib.hid (fun w' (b' : Below wo.heap.size wo w') => show (fun w' => w'.cell? ⟨gs, 0, none⟩ = some (.bool son) ∧ w'.cell? ⟨gs, 1, none⟩ = some (.int .i64 sh) ∧ w'.cell? ⟨gs, 2, none⟩ = some (.int .i64 sc) ∧ w'.cell? ⟨gs, 3, none⟩ = some (.int .u16 soq) ∧ w'.cell? ⟨gs, 4, none⟩ = some (.int .u32 sot) ∧ w'.cell? ⟨gs, 5, none⟩ = some (.int .u16 sop) ∧ w'.cell? ⟨gs, 6, none⟩ = some (.int .u8 sol) ∧ w'.cell? ⟨gs, 7, none⟩ = some (.int .u16 suq) ∧ w'.cell? ⟨gs, 8, none⟩ = some (.int .u32 sut) ∧ w'.cell? ⟨gs, 9, none⟩ = some (.int .u16 sup) ∧ w'.cell? ⟨gs, 10, none⟩ = some (.int .u8 sul) ∧ w'.cell? ⟨g, o + k * 6, none⟩ = some (.int .u16 xq) ∧ w'.cell? ⟨g, o + k * 6 + 1, none⟩ = some (.int .u32 xt) ∧ w'.cell? ⟨g, o + k * 6 + 2, none⟩ = some (.int .u16 xp) ∧ w'.cell? ⟨g, o + k * 6 + 3, none⟩ = some (.int .u8 xl) ∧ w'.cell? ⟨g, o + k * 6 + 4, none⟩ = some (.int .u32 st)) w' from ⟨(Ps.out.below b' Ps.out.lt).cell 0, (Ps.out.below b' Ps.out.lt).cell 1, (Ps.out.below b' Ps.out.lt).cell 2, (Ps.out.below b' Ps.out.lt).cell 3, (Ps.out.below b' Ps.out.lt).cell 4, (Ps.out.below b' Ps.out.lt).cell 5, (Ps.out.below b' Ps.out.lt).cell 6, (Ps.out.below b' Ps.out.lt).cell 7, (Ps.out.below b' Ps.out.lt).cell 8, (Ps.out.below b' Ps.out.lt).cell 9, (Ps.out.below b' Ps.out.lt).cell 10, (HAT.out _ (PB.out.trans (b'.mono PB.out.size)) 0 _ rfl), (HAT.out _ (PB.out.trans (b'.mono PB.out.size)) 1 _ rfl), (HAT.out _ (PB.out.trans (b'.mono PB.out.size)) 2 _ rfl), (HAT.out _ (PB.out.trans (b'.mono PB.out.size)) 3 _ rfl), (HAT.out _ (PB.out.trans (b'.mono PB.out.size)) 4 _ rfl)⟩)
        go_cut [7, 8] (fun p1 p2 wx => ∃ g1 g2 : Nat, p1 = .pointer (some ⟨g1, 0, none⟩) ∧ p2 = .pointer (some ⟨g2, 0, none⟩) ∧ wo.heap.size ≤ g1 ∧ wo.heap.size ≤ g2 ∧ g1 ≠ g2 ∧ Whole wx g1 27 #[.bool true, .int .i64 xq, .int .i64 xq, .int .u16 fq, .int .u32 ft, .int .u16 fp, .int .u8 fl, .int .u16 xq, .int .u32 mt, .int .u16 mp, .int .u8 ml] ∧ Whole wx g2 25 #[.int .u16 xq, .int .u32 mt, .int .u16 mp, .int .u8 ml] ∧ Below wo.heap.size wo wx)
        case first =>
          refine wp_region_X (S := fun w' => w'.cell? ⟨gs, 0, none⟩ = some (.bool son) ∧ w'.cell? ⟨gs, 1, none⟩ = some (.int .i64 sh) ∧ w'.cell? ⟨gs, 2, none⟩ = some (.int .i64 sc) ∧ w'.cell? ⟨gs, 3, none⟩ = some (.int .u16 soq) ∧ w'.cell? ⟨gs, 4, none⟩ = some (.int .u32 sot) ∧ w'.cell? ⟨gs, 5, none⟩ = some (.int .u16 sop) ∧ w'.cell? ⟨gs, 6, none⟩ = some (.int .u8 sol) ∧ w'.cell? ⟨gs, 7, none⟩ = some (.int .u16 suq) ∧ w'.cell? ⟨gs, 8, none⟩ = some (.int .u32 sut) ∧ w'.cell? ⟨gs, 9, none⟩ = some (.int .u16 sup) ∧ w'.cell? ⟨gs, 10, none⟩ = some (.int .u8 sul) ∧ w'.cell? ⟨g, o + k * 6, none⟩ = some (.int .u16 xq) ∧ w'.cell? ⟨g, o + k * 6 + 1, none⟩ = some (.int .u32 xt) ∧ w'.cell? ⟨g, o + k * 6 + 2, none⟩ = some (.int .u16 xp) ∧ w'.cell? ⟨g, o + k * 6 + 3, none⟩ = some (.int .u8 xl) ∧ w'.cell? ⟨g, o + k * 6 + 4, none⟩ = some (.int .u32 st)) [] (by kernel_rfl) (K6.out _ (Below.refl _ _).drew) (fun hHeld0 => ?_)
          refine wpAnyX_take (i := 0) [] (v := ?_) rfl (by kernel_rfl) (by kernel_rfl) (by kernel_rfl) (by kernel_rfl) (fun _ _ _ h => h) (Or.inl ⟨by kernel_rfl, ?_⟩) (by assumption) ?_
          rotate_left 1
          · (intro w hSw; obtain ⟨m0, m1, m2, m3, m4, m5, m6, m7, m8, m9, m10, m11, m12, m13, m14, m15⟩ := hSw; go_simp; try (with_reducible rfl))
          (try simp only [Act.put, List.getElem_toArray, List.getElem_cons_succ, List.getElem_cons_zero, List.setIfInBounds_toArray, List.set_cons_zero, List.set_cons_succ])
          refine wpAnyX_take (i := 1) [] (v := ?_) rfl (by kernel_rfl) (by kernel_rfl) (by kernel_rfl) (by kernel_rfl) (fun _ _ _ h => h) (Or.inl ⟨by kernel_rfl, ?_⟩) (by assumption) ?_
          rotate_left 1
          · (intro w hSw; obtain ⟨m0, m1, m2, m3, m4, m5, m6, m7, m8, m9, m10, m11, m12, m13, m14, m15⟩ := hSw; go_simp; try (with_reducible rfl))
          (try simp only [Act.put, List.getElem_toArray, List.getElem_cons_succ, List.getElem_cons_zero, List.setIfInBounds_toArray, List.set_cons_zero, List.set_cons_succ])
          refine wpAnyX_take (i := 2) [] (v := ?_) rfl (by kernel_rfl) (by kernel_rfl) (by kernel_rfl) (by kernel_rfl) (fun _ _ _ h => h) (Or.inl ⟨by kernel_rfl, ?_⟩) (by assumption) ?_
          rotate_left 1
          · (intro w hSw; obtain ⟨m0, m1, m2, m3, m4, m5, m6, m7, m8, m9, m10, m11, m12, m13, m14, m15⟩ := hSw; go_simp; try (with_reducible rfl))
          (try simp only [Act.put, List.getElem_toArray, List.getElem_cons_succ, List.getElem_cons_zero, List.setIfInBounds_toArray, List.set_cons_zero, List.set_cons_succ])
          refine wpAnyX_take (i := 3) [] (v := ?_) rfl (by kernel_rfl) (by kernel_rfl) (by kernel_rfl) (by kernel_rfl) (fun _ _ _ h => h) (Or.inl ⟨by kernel_rfl, ?_⟩) (by assumption) ?_
          rotate_left 1
          · (intro w hSw; obtain ⟨m0, m1, m2, m3, m4, m5, m6, m7, m8, m9, m10, m11, m12, m13, m14, m15⟩ := hSw; go_simp; try (with_reducible rfl))
          (try simp only [Act.put, List.getElem_toArray, List.getElem_cons_succ, List.getElem_cons_zero, List.setIfInBounds_toArray, List.set_cons_zero, List.set_cons_succ])
          refine wpAnyX_take (i := 4) [] (v := ?_) rfl (by kernel_rfl) (by kernel_rfl) (by kernel_rfl) (by kernel_rfl) (fun _ _ _ h => h) (Or.inl ⟨by kernel_rfl, ?_⟩) (by assumption) ?_
          rotate_left 1
          · (intro w hSw; obtain ⟨m0, m1, m2, m3, m4, m5, m6, m7, m8, m9, m10, m11, m12, m13, m14, m15⟩ := hSw; go_simp; try (with_reducible rfl))
          (try simp only [Act.put, List.getElem_toArray, List.getElem_cons_succ, List.getElem_cons_zero, List.setIfInBounds_toArray, List.set_cons_zero, List.set_cons_succ])
          refine wpAnyX_take (i := 5) [] (v := ?_) rfl (by kernel_rfl) (by kernel_rfl) (by kernel_rfl) (by kernel_rfl) (fun _ _ _ h => h) (Or.inl ⟨by kernel_rfl, ?_⟩) (by assumption) ?_
          rotate_left 1
          · (intro w hSw; obtain ⟨m0, m1, m2, m3, m4, m5, m6, m7, m8, m9, m10, m11, m12, m13, m14, m15⟩ := hSw; go_simp; try (with_reducible rfl))
          (try simp only [Act.put, List.getElem_toArray, List.getElem_cons_succ, List.getElem_cons_zero, List.setIfInBounds_toArray, List.set_cons_zero, List.set_cons_succ])
          refine wpAnyX_take (i := 6) [] (v := ?_) rfl (by kernel_rfl) (by kernel_rfl) (by kernel_rfl) (by kernel_rfl) (fun _ _ _ h => h) (Or.inl ⟨by kernel_rfl, ?_⟩) (by assumption) ?_
          rotate_left 1
          · (intro w hSw; obtain ⟨m0, m1, m2, m3, m4, m5, m6, m7, m8, m9, m10, m11, m12, m13, m14, m15⟩ := hSw; go_simp; try (with_reducible rfl))
          (try simp only [Act.put, List.getElem_toArray, List.getElem_cons_succ, List.getElem_cons_zero, List.setIfInBounds_toArray, List.set_cons_zero, List.set_cons_succ])
          refine wpAnyX_take (i := 7) [] (v := ?_) rfl (by kernel_rfl) (by kernel_rfl) (by kernel_rfl) (by kernel_rfl) (fun _ _ _ h => h) (Or.inl ⟨by kernel_rfl, ?_⟩) (by assumption) ?_
          rotate_left 1
          · (intro w hSw; obtain ⟨m0, m1, m2, m3, m4, m5, m6, m7, m8, m9, m10, m11, m12, m13, m14, m15⟩ := hSw; go_simp; try (with_reducible rfl))
          (try simp only [Act.put, List.getElem_toArray, List.getElem_cons_succ, List.getElem_cons_zero, List.setIfInBounds_toArray, List.set_cons_zero, List.set_cons_succ])
          refine wpAnyX_take (i := 8) [] (v := ?_) rfl (by kernel_rfl) (by kernel_rfl) (by kernel_rfl) (by kernel_rfl) (fun _ _ _ h => h) (Or.inl ⟨by kernel_rfl, ?_⟩) (by assumption) ?_
          rotate_left 1
          · (intro w hSw; obtain ⟨m0, m1, m2, m3, m4, m5, m6, m7, m8, m9, m10, m11, m12, m13, m14, m15⟩ := hSw; go_simp; try (with_reducible rfl))
          (try simp only [Act.put, List.getElem_toArray, List.getElem_cons_succ, List.getElem_cons_zero, List.setIfInBounds_toArray, List.set_cons_zero, List.set_cons_succ])
          refine wpAnyX_take (i := 9) [] (v := ?_) rfl (by kernel_rfl) (by kernel_rfl) (by kernel_rfl) (by kernel_rfl) (fun _ _ _ h => h) (Or.inl ⟨by kernel_rfl, ?_⟩) (by assumption) ?_
          rotate_left 1
          · (intro w hSw; obtain ⟨m0, m1, m2, m3, m4, m5, m6, m7, m8, m9, m10, m11, m12, m13, m14, m15⟩ := hSw; go_simp; try (with_reducible rfl))
          (try simp only [Act.put, List.getElem_toArray, List.getElem_cons_succ, List.getElem_cons_zero, List.setIfInBounds_toArray, List.set_cons_zero, List.set_cons_succ])
          refine wpAnyX_take (i := 10) [] (v := ?_) rfl (by kernel_rfl) (by kernel_rfl) (by kernel_rfl) (by kernel_rfl) (fun _ _ _ h => h) (Or.inl ⟨by kernel_rfl, ?_⟩) (by assumption) ?_
          rotate_left 1
          · (intro w hSw; obtain ⟨m0, m1, m2, m3, m4, m5, m6, m7, m8, m9, m10, m11, m12, m13, m14, m15⟩ := hSw; go_simp; try (with_reducible rfl))
          (try simp only [Act.put, List.getElem_toArray, List.getElem_cons_succ, List.getElem_cons_zero, List.setIfInBounds_toArray, List.set_cons_zero, List.set_cons_succ])
          refine wpAnyX_named (fun a0 ha0 => ?_)
          refine wpAnyX_inv (fun l a w' => l.size = 19 ∧ (l.getD 0 false = true ∧ l.getD 1 false = true ∧ l.getD 2 false = true ∧ l.getD 3 false = true ∧ l.getD 4 false = true ∧ l.getD 5 false = true ∧ l.getD 6 false = true ∧ l.getD 7 false = true ∧ l.getD 8 false = true ∧ l.getD 9 false = true ∧ l.getD 10 false = true) ∧ Below wo.heap.size wo w' ∧ ∃ t11 t12 t13 t14 t15 t16 : Value, a = ((((((a0.put (some 45) t11).put (some 33) t12).put (some 46) t13).put (some 47) t14).put (some 7) t15).put (some 8) t16) ∧ (l.getD 11 false = true → t11 = (.tuple #[(.agg #[.bool true, .int .i64 xq, .int .i64 xq, .int .u16 fq, .int .u32 ft, .int .u16 fp, .int .u8 fl, .int .u16 xq, .int .u32 mt, .int .u16 mp, .int .u8 ml]), (.agg #[.int .u16 xq, .int .u32 mt, .int .u16 mp, .int .u8 ml])])) ∧ (l.getD 12 false = true → t12 = (.tuple #[(.agg #[.bool true, .int .i64 xq, .int .i64 xq, .int .u16 fq, .int .u32 ft, .int .u16 fp, .int .u8 fl, .int .u16 xq, .int .u32 mt, .int .u16 mp, .int .u8 ml]), (.agg #[.int .u16 xq, .int .u32 mt, .int .u16 mp, .int .u8 ml])])) ∧ (l.getD 13 false = true → t13 = (.agg #[.bool true, .int .i64 xq, .int .i64 xq, .int .u16 fq, .int .u32 ft, .int .u16 fp, .int .u8 fl, .int .u16 xq, .int .u32 mt, .int .u16 mp, .int .u8 ml])) ∧ (l.getD 14 false = true → t14 = (.agg #[.int .u16 xq, .int .u32 mt, .int .u16 mp, .int .u8 ml])) ∧ (l.getD 15 false = true → ∃ g, t15 = .pointer (some ⟨g, 0, none⟩) ∧ wo.heap.size ≤ g ∧ g < w'.heap.size ∧ (l.getD 17 false = false → Whole w' g 27 #[.bool false, .int .i64 0, .int .i64 0, .int .u16 0, .int .u32 0, .int .u16 0, .int .u8 0, .int .u16 0, .int .u32 0, .int .u16 0, .int .u8 0]) ∧ (l.getD 17 false = true → Whole w' g 27 #[.bool true, .int .i64 xq, .int .i64 xq, .int .u16 fq, .int .u32 ft, .int .u16 fp, .int .u8 fl, .int .u16 xq, .int .u32 mt, .int .u16 mp, .int .u8 ml])) ∧ (l.getD 17 false = true → l.getD 15 false = true) ∧ (l.getD 16 false = true → ∃ g, t16 = .pointer (some ⟨g, 0, none⟩) ∧ wo.heap.size ≤ g ∧ g < w'.heap.size ∧ (l.getD 18 false = false → Whole w' g 25 #[.int .u16 0, .int .u32 0, .int .u16 0, .int .u8 0]) ∧ (l.getD 18 false = true → Whole w' g 25 #[.int .u16 xq, .int .u32 mt, .int .u16 mp, .int .u8 ml])) ∧ (l.getD 18 false = true → l.getD 16 false = true) ∧ (l.getD 15 false = true → l.getD 16 false = true → ∀ g g', t15 = .pointer (some ⟨g, 0, none⟩) → t16 = .pointer (some ⟨g', 0, none⟩) → g ≠ g')) (fun l a w hI => K6.out _ hI.2.2.1) ?_ ?_ _ _ _ _ (by decide) ?_
          · intro l a w hI i hi
            obtain ⟨hsz, ⟨k0, k1, k2, k3, k4, k5, k6, k7, k8, k9, k10⟩, hB, t11, t12, t13, t14, t15, t16, rfl, c11, c12, c13, c14, c15, s15, c16, s16, n15_16⟩ := hI
            obtain ⟨hun, hin, hd⟩ := ready_split (n := 19) rfl hi
            clear hi
            rw [show List.range 19 = [0, 1, 2, 3, 4, 5, 6, 7, 8, 9, 10, 11, 12, 13, 14, 15, 16, 17, 18] from rfl] at hin
            simp only [List.mem_cons, List.not_mem_nil, or_false] at hin
            rcases hin with rfl | rfl | rfl | rfl | rfl | rfl | rfl | rfl | rfl | rfl | rfl | rfl | rfl | rfl | rfl | rfl | rfl | rfl | rfl
            · exact absurd (was_listed hun k0) id
            · exact absurd (was_listed hun k1) id
            · exact absurd (was_listed hun k2) id
            · exact absurd (was_listed hun k3) id
            · exact absurd (was_listed hun k4) id
            · exact absurd (was_listed hun k5) id
            · exact absurd (was_listed hun k6) id
            · exact absurd (was_listed hun k7) id
            · exact absurd (was_listed hun k8) id
            · exact absurd (was_listed hun k9) id
            · exact absurd (was_listed hun k10) id
            · have hd := waits_as (L := [0, 5, 10]) (by kernel_rfl) hd
              simp only [List.all_cons, List.all_nil, Bool.and_true, Bool.and_eq_true] at hd
              obtain ⟨e0, e1, e2⟩ := hd
              refine inv_op rfl (fun K hK => ?_)
              subst ha0
              (try simp only [Act.put, List.getElem_toArray, List.getElem_cons_succ, List.getElem_cons_zero, List.setIfInBounds_toArray, List.set_cons_zero, List.set_cons_succ])
              go_simp
              go_wp2_with (refine (CW.out _).mono ?_; rintro e v ⟨rfl, b1⟩)
              refine hK.out _ _ ?_
              exact ⟨by simp [hsz], ⟨listed_new k0, listed_new k1, listed_new k2, listed_new k3, listed_new k4, listed_new k5, listed_new k6, listed_new k7, listed_new k8, listed_new k9, listed_new k10⟩, (hB.trans (b1.mono hB.size)), (.tuple #[(.agg #[.bool true, .int .i64 xq, .int .i64 xq, .int .u16 fq, .int .u32 ft, .int .u16 fp, .int .u8 fl, .int .u16 xq, .int .u32 mt, .int .u16 mp, .int .u8 ml]), (.agg #[.int .u16 xq, .int .u32 mt, .int .u16 mp, .int .u8 ml])]), t12, t13, t14, t15, t16, by kernel_rfl, fun _ => rfl, fun h => c12 (listed_old h (by decide)), fun h => c13 (listed_old h (by decide)), fun h => c14 (listed_old h (by decide)), fun h => by obtain ⟨g, hg, h1, h2, h3, h4⟩ := c15 (listed_old h (by decide)); exact ⟨g, hg, h1, Nat.lt_of_lt_of_le h2 b1.size, fun h => (h3 (listed_same h (by decide))).below b1 (h3 (listed_same h (by decide))).lt, fun h => (h4 (listed_same h (by decide))).below b1 (h4 (listed_same h (by decide))).lt⟩, fun h => listed_new (s15 (listed_old h (by decide))), fun h => by obtain ⟨g, hg, h1, h2, h3, h4⟩ := c16 (listed_old h (by decide)); exact ⟨g, hg, h1, Nat.lt_of_lt_of_le h2 b1.size, fun h => (h3 (listed_same h (by decide))).below b1 (h3 (listed_same h (by decide))).lt, fun h => (h4 (listed_same h (by decide))).below b1 (h4 (listed_same h (by decide))).lt⟩, fun h => listed_new (s16 (listed_old h (by decide))), fun h h' => n15_16 (listed_old h (by decide)) (listed_old h' (by decide))⟩
            · have hd := waits_as (L := [11]) (by kernel_rfl) hd
              simp only [List.all_cons, List.all_nil, Bool.and_true, Bool.and_eq_true] at hd
              have e0 := hd
              obtain rfl := c11 e0
              refine inv_op rfl (fun K hK => ?_)
              subst ha0
              (try simp only [Act.put, List.getElem_toArray, List.getElem_cons_succ, List.getElem_cons_zero, List.setIfInBounds_toArray, List.set_cons_zero, List.set_cons_succ])
              go_simp
              refine hK.out _ _ ?_
              exact ⟨by simp [hsz], ⟨listed_new k0, listed_new k1, listed_new k2, listed_new k3, listed_new k4, listed_new k5, listed_new k6, listed_new k7, listed_new k8, listed_new k9, listed_new k10⟩, hB, (.tuple #[(.agg #[.bool true, .int .i64 xq, .int .i64 xq, .int .u16 fq, .int .u32 ft, .int .u16 fp, .int .u8 fl, .int .u16 xq, .int .u32 mt, .int .u16 mp, .int .u8 ml]), (.agg #[.int .u16 xq, .int .u32 mt, .int .u16 mp, .int .u8 ml])]), (.tuple #[(.agg #[.bool true, .int .i64 xq, .int .i64 xq, .int .u16 fq, .int .u32 ft, .int .u16 fp, .int .u8 fl, .int .u16 xq, .int .u32 mt, .int .u16 mp, .int .u8 ml]), (.agg #[.int .u16 xq, .int .u32 mt, .int .u16 mp, .int .u8 ml])]), t13, t14, t15, t16, by kernel_rfl, fun _ => rfl, fun _ => rfl, fun h => c13 (listed_old h (by decide)), fun h => c14 (listed_old h (by decide)), fun h => by obtain ⟨g, hg, h1, h2, h3, h4⟩ := c15 (listed_old h (by decide)); exact ⟨g, hg, h1, h2, fun h => h3 (listed_same h (by decide)), fun h => h4 (listed_same h (by decide))⟩, fun h => listed_new (s15 (listed_old h (by decide))), fun h => by obtain ⟨g, hg, h1, h2, h3, h4⟩ := c16 (listed_old h (by decide)); exact ⟨g, hg, h1, h2, fun h => h3 (listed_same h (by decide)), fun h => h4 (listed_same h (by decide))⟩, fun h => listed_new (s16 (listed_old h (by decide))), fun h h' => n15_16 (listed_old h (by decide)) (listed_old h' (by decide))⟩
            · have hd := waits_as (L := [12]) (by kernel_rfl) hd
              simp only [List.all_cons, List.all_nil, Bool.and_true, Bool.and_eq_true] at hd
              have e0 := hd
              obtain rfl := c12 e0
              refine inv_op rfl (fun K hK => ?_)
              subst ha0
              (try simp only [Act.put, List.getElem_toArray, List.getElem_cons_succ, List.getElem_cons_zero, List.setIfInBounds_toArray, List.set_cons_zero, List.set_cons_succ])
              go_simp
              refine hK.out _ _ ?_
              exact ⟨by simp [hsz], ⟨listed_new k0, listed_new k1, listed_new k2, listed_new k3, listed_new k4, listed_new k5, listed_new k6, listed_new k7, listed_new k8, listed_new k9, listed_new k10⟩, hB, t11, (.tuple #[(.agg #[.bool true, .int .i64 xq, .int .i64 xq, .int .u16 fq, .int .u32 ft, .int .u16 fp, .int .u8 fl, .int .u16 xq, .int .u32 mt, .int .u16 mp, .int .u8 ml]), (.agg #[.int .u16 xq, .int .u32 mt, .int .u16 mp, .int .u8 ml])]), (.agg #[.bool true, .int .i64 xq, .int .i64 xq, .int .u16 fq, .int .u32 ft, .int .u16 fp, .int .u8 fl, .int .u16 xq, .int .u32 mt, .int .u16 mp, .int .u8 ml]), t14, t15, t16, by kernel_rfl, fun h => c11 (listed_old h (by decide)), fun _ => rfl, fun _ => rfl, fun h => c14 (listed_old h (by decide)), fun h => by obtain ⟨g, hg, h1, h2, h3, h4⟩ := c15 (listed_old h (by decide)); exact ⟨g, hg, h1, h2, fun h => h3 (listed_same h (by decide)), fun h => h4 (listed_same h (by decide))⟩, fun h => listed_new (s15 (listed_old h (by decide))), fun h => by obtain ⟨g, hg, h1, h2, h3, h4⟩ := c16 (listed_old h (by decide)); exact ⟨g, hg, h1, h2, fun h => h3 (listed_same h (by decide)), fun h => h4 (listed_same h (by decide))⟩, fun h => listed_new (s16 (listed_old h (by decide))), fun h h' => n15_16 (listed_old h (by decide)) (listed_old h' (by decide))⟩
            · have hd := waits_as (L := [12]) (by kernel_rfl) hd
              simp only [List.all_cons, List.all_nil, Bool.and_true, Bool.and_eq_true] at hd
              have e0 := hd
              obtain rfl := c12 e0
              refine inv_op rfl (fun K hK => ?_)
              subst ha0
              (try simp only [Act.put, List.getElem_toArray, List.getElem_cons_succ, List.getElem_cons_zero, List.setIfInBounds_toArray, List.set_cons_zero, List.set_cons_succ])
              go_simp
              refine hK.out _ _ ?_
              exact ⟨by simp [hsz], ⟨listed_new k0, listed_new k1, listed_new k2, listed_new k3, listed_new k4, listed_new k5, listed_new k6, listed_new k7, listed_new k8, listed_new k9, listed_new k10⟩, hB, t11, (.tuple #[(.agg #[.bool true, .int .i64 xq, .int .i64 xq, .int .u16 fq, .int .u32 ft, .int .u16 fp, .int .u8 fl, .int .u16 xq, .int .u32 mt, .int .u16 mp, .int .u8 ml]), (.agg #[.int .u16 xq, .int .u32 mt, .int .u16 mp, .int .u8 ml])]), t13, (.agg #[.int .u16 xq, .int .u32 mt, .int .u16 mp, .int .u8 ml]), t15, t16, by kernel_rfl, fun h => c11 (listed_old h (by decide)), fun _ => rfl, fun h => c13 (listed_old h (by decide)), fun _ => rfl, fun h => by obtain ⟨g, hg, h1, h2, h3, h4⟩ := c15 (listed_old h (by decide)); exact ⟨g, hg, h1, h2, fun h => h3 (listed_same h (by decide)), fun h => h4 (listed_same h (by decide))⟩, fun h => listed_new (s15 (listed_old h (by decide))), fun h => by obtain ⟨g, hg, h1, h2, h3, h4⟩ := c16 (listed_old h (by decide)); exact ⟨g, hg, h1, h2, fun h => h3 (listed_same h (by decide)), fun h => h4 (listed_same h (by decide))⟩, fun h => listed_new (s16 (listed_old h (by decide))), fun h h' => n15_16 (listed_old h (by decide)) (listed_old h' (by decide))⟩
            · have hd := waits_as (L := []) (by kernel_rfl) hd
              simp only [List.all_cons, List.all_nil, Bool.and_true, Bool.and_eq_true] at hd
              refine inv_op rfl (fun K hK => ?_)
              subst ha0
              (try simp only [Act.put, List.getElem_toArray, List.getElem_cons_succ, List.getElem_cons_zero, List.setIfInBounds_toArray, List.set_cons_zero, List.set_cons_succ])
              go_simp
              refine hK.out _ _ ?_
              exact ⟨by simp [hsz], ⟨listed_new k0, listed_new k1, listed_new k2, listed_new k3, listed_new k4, listed_new k5, listed_new k6, listed_new k7, listed_new k8, listed_new k9, listed_new k10⟩, (hB.alloc hB.size (.cells #[.bool false, .int .i64 0, .int .i64 0, .int .u16 0, .int .u32 0, .int .u16 0, .int .u8 0, .int .u16 0, .int .u32 0, .int .u16 0, .int .u8 0] 27)), t11, t12, t13, t14, (.pointer (some ⟨w.heap.size, 0, none⟩)), t16, by kernel_rfl, fun h => c11 (listed_old h (by decide)), fun h => c12 (listed_old h (by decide)), fun h => c13 (listed_old h (by decide)), fun h => c14 (listed_old h (by decide)), fun _ => ⟨_, rfl, hB.size, by simp, fun _ => Whole.new _ _ _, fun h => absurd (was_listed hun (s15 (listed_old h (by decide)))) id⟩, fun h => listed_new (s15 (listed_old h (by decide))), fun h => by obtain ⟨g, hg, h1, h2, h3, h4⟩ := c16 (listed_old h (by decide)); exact ⟨g, hg, h1, (by have := h2; simp; omega), fun h => (h3 (listed_same h (by decide))).alloc _, fun h => (h4 (listed_same h (by decide))).alloc _⟩, fun h => listed_new (s16 (listed_old h (by decide))), fun _ h g g' hg hg' => by obtain ⟨q1, q2, _, q3, _⟩ := c16 (listed_old h (by decide)); rw [hg'] at q2; cases q2; cases hg; omega⟩
            · have hd := waits_as (L := []) (by kernel_rfl) hd
              simp only [List.all_cons, List.all_nil, Bool.and_true, Bool.and_eq_true] at hd
              refine inv_op rfl (fun K hK => ?_)
              subst ha0
              (try simp only [Act.put, List.getElem_toArray, List.getElem_cons_succ, List.getElem_cons_zero, List.setIfInBounds_toArray, List.set_cons_zero, List.set_cons_succ])
              go_simp
              refine hK.out _ _ ?_
              exact ⟨by simp [hsz], ⟨listed_new k0, listed_new k1, listed_new k2, listed_new k3, listed_new k4, listed_new k5, listed_new k6, listed_new k7, listed_new k8, listed_new k9, listed_new k10⟩, (hB.alloc hB.size (.cells #[.int .u16 0, .int .u32 0, .int .u16 0, .int .u8 0] 25)), t11, t12, t13, t14, t15, (.pointer (some ⟨w.heap.size, 0, none⟩)), by kernel_rfl, fun h => c11 (listed_old h (by decide)), fun h => c12 (listed_old h (by decide)), fun h => c13 (listed_old h (by decide)), fun h => c14 (listed_old h (by decide)), fun h => by obtain ⟨g, hg, h1, h2, h3, h4⟩ := c15 (listed_old h (by decide)); exact ⟨g, hg, h1, (by have := h2; simp; omega), fun h => (h3 (listed_same h (by decide))).alloc _, fun h => (h4 (listed_same h (by decide))).alloc _⟩, fun h => listed_new (s15 (listed_old h (by decide))), fun _ => ⟨_, rfl, hB.size, by simp, fun _ => Whole.new _ _ _, fun h => absurd (was_listed hun (s16 (listed_old h (by decide)))) id⟩, fun h => listed_new (s16 (listed_old h (by decide))), fun h _ g g' hg hg' => by obtain ⟨q1, q2, _, q3, _⟩ := c15 (listed_old h (by decide)); rw [hg] at q2; cases q2; cases hg'; omega⟩
            · have hd := waits_as (L := [15, 13, 11, 0, 1, 2, 3, 4, 5, 6, 7, 8, 9, 10, 11, 12, 13, 15, 16]) (by kernel_rfl) hd
              simp only [List.all_cons, List.all_nil, Bool.and_true, Bool.and_eq_true] at hd
              obtain ⟨e0, e1, e2, e3, e4, e5, e6, e7, e8, e9, e10, e11, e12, e13, e14, e15, e16, e17, e18⟩ := hd
              obtain ⟨g15, rfl, lo15, lt15, z15, y15⟩ := c15 e0
              obtain rfl := c13 e1
              obtain rfl := c11 e2
              obtain rfl := c12 e15
              obtain ⟨g16, rfl, lo16, lt16, z16, y16⟩ := c16 e18
              refine inv_op rfl (fun K hK => ?_)
              subst ha0
              (try simp only [Act.put, List.getElem_toArray, List.getElem_cons_succ, List.getElem_cons_zero, List.setIfInBounds_toArray, List.set_cons_zero, List.set_cons_succ])
              have q := z15 (unlisted_false hun)
              have zz0 := q.cell 0
              have zz1 := q.cell 1
              have zz2 := q.cell 2
              have zz3 := q.cell 3
              have zz4 := q.cell 4
              have zz5 := q.cell 5
              have zz6 := q.cell 6
              have zz7 := q.cell 7
              have zz8 := q.cell 8
              have zz9 := q.cell 9
              have zz10 := q.cell 10
              have yy0 := q.free 0
              have yy1 := q.free 1
              have yy2 := q.free 2
              have yy3 := q.free 3
              have yy4 := q.free 4
              have yy5 := q.free 5
              have yy6 := q.free 6
              have yy7 := q.free 7
              have yy8 := q.free 8
              have yy9 := q.free 9
              have yy10 := q.free 10
              go_simp
              refine hK.out _ _ ?_
              exact ⟨by simp [hsz], ⟨listed_new k0, listed_new k1, listed_new k2, listed_new k3, listed_new k4, listed_new k5, listed_new k6, listed_new k7, listed_new k8, listed_new k9, listed_new k10⟩, (eleven_set hB lo15 (.bool true) (.int .i64 xq) (.int .i64 xq) (.int .u16 fq) (.int .u32 ft) (.int .u16 fp) (.int .u8 fl) (.int .u16 xq) (.int .u32 mt) (.int .u16 mp) (.int .u8 ml)), (.tuple #[(.agg #[.bool true, .int .i64 xq, .int .i64 xq, .int .u16 fq, .int .u32 ft, .int .u16 fp, .int .u8 fl, .int .u16 xq, .int .u32 mt, .int .u16 mp, .int .u8 ml]), (.agg #[.int .u16 xq, .int .u32 mt, .int .u16 mp, .int .u8 ml])]), (.tuple #[(.agg #[.bool true, .int .i64 xq, .int .i64 xq, .int .u16 fq, .int .u32 ft, .int .u16 fp, .int .u8 fl, .int .u16 xq, .int .u32 mt, .int .u16 mp, .int .u8 ml]), (.agg #[.int .u16 xq, .int .u32 mt, .int .u16 mp, .int .u8 ml])]), (.agg #[.bool true, .int .i64 xq, .int .i64 xq, .int .u16 fq, .int .u32 ft, .int .u16 fp, .int .u8 fl, .int .u16 xq, .int .u32 mt, .int .u16 mp, .int .u8 ml]), t14, (.pointer (some ⟨g15, 0, none⟩)), (.pointer (some ⟨g16, 0, none⟩)), by kernel_rfl, fun _ => rfl, fun _ => rfl, fun _ => rfl, fun h => c14 (listed_old h (by decide)), fun _ => ⟨g15, rfl, lo15, (by simpa using lt15), fun h => absurd ((listed_now hun).symm.trans h) (by decide), fun _ => (Whole.eleven q (.bool true) (.int .i64 xq) (.int .i64 xq) (.int .u16 fq) (.int .u32 ft) (.int .u16 fp) (.int .u8 fl) (.int .u16 xq) (.int .u32 mt) (.int .u16 mp) (.int .u8 ml))⟩, fun _ => listed_new e0, fun _ => ⟨g16, rfl, lo16, (by simpa using lt16), fun h => Whole.eleven_far (z16 (listed_same h (by decide))) ((Ne.symm (n15_16 e0 e18 _ _ rfl rfl))) (.bool true) (.int .i64 xq) (.int .i64 xq) (.int .u16 fq) (.int .u32 ft) (.int .u16 fp) (.int .u8 fl) (.int .u16 xq) (.int .u32 mt) (.int .u16 mp) (.int .u8 ml), fun h => Whole.eleven_far (y16 (listed_same h (by decide))) ((Ne.symm (n15_16 e0 e18 _ _ rfl rfl))) (.bool true) (.int .i64 xq) (.int .i64 xq) (.int .u16 fq) (.int .u32 ft) (.int .u16 fp) (.int .u8 fl) (.int .u16 xq) (.int .u32 mt) (.int .u16 mp) (.int .u8 ml)⟩, fun h => listed_new (s16 (listed_old h (by decide))), fun h h' => n15_16 (listed_old h (by decide)) (listed_old h' (by decide))⟩
            · have hd := waits_as (L := [16, 14, 17, 0, 1, 2, 3, 4, 5, 6, 7, 8, 9, 10, 11, 12, 13, 14, 15, 16, 17]) (by kernel_rfl) hd
              simp only [List.all_cons, List.all_nil, Bool.and_true, Bool.and_eq_true] at hd
              obtain ⟨e0, e1, e2, e3, e4, e5, e6, e7, e8, e9, e10, e11, e12, e13, e14, e15, e16, e17, e18, e19, e20⟩ := hd
              obtain ⟨g16, rfl, lo16, lt16, z16, y16⟩ := c16 e0
              obtain rfl := c14 e1
              obtain rfl := c11 e14
              obtain rfl := c12 e15
              obtain rfl := c13 e16
              obtain ⟨g15, rfl, lo15, lt15, z15, y15⟩ := c15 e18
              refine inv_op rfl (fun K hK => ?_)
              subst ha0
              (try simp only [Act.put, List.getElem_toArray, List.getElem_cons_succ, List.getElem_cons_zero, List.setIfInBounds_toArray, List.set_cons_zero, List.set_cons_succ])
              have q := z16 (unlisted_false hun)
              have zz0 := q.cell 0
              have zz1 := q.cell 1
              have zz2 := q.cell 2
              have zz3 := q.cell 3
              have yy0 := q.free 0
              have yy1 := q.free 1
              have yy2 := q.free 2
              have yy3 := q.free 3
              go_simp
              refine hK.out _ _ ?_
              exact ⟨by simp [hsz], ⟨listed_new k0, listed_new k1, listed_new k2, listed_new k3, listed_new k4, listed_new k5, listed_new k6, listed_new k7, listed_new k8, listed_new k9, listed_new k10⟩, (four_set hB lo16 (.int .u16 xq) (.int .u32 mt) (.int .u16 mp) (.int .u8 ml)), (.tuple #[(.agg #[.bool true, .int .i64 xq, .int .i64 xq, .int .u16 fq, .int .u32 ft, .int .u16 fp, .int .u8 fl, .int .u16 xq, .int .u32 mt, .int .u16 mp, .int .u8 ml]), (.agg #[.int .u16 xq, .int .u32 mt, .int .u16 mp, .int .u8 ml])]), (.tuple #[(.agg #[.bool true, .int .i64 xq, .int .i64 xq, .int .u16 fq, .int .u32 ft, .int .u16 fp, .int .u8 fl, .int .u16 xq, .int .u32 mt, .int .u16 mp, .int .u8 ml]), (.agg #[.int .u16 xq, .int .u32 mt, .int .u16 mp, .int .u8 ml])]), (.agg #[.bool true, .int .i64 xq, .int .i64 xq, .int .u16 fq, .int .u32 ft, .int .u16 fp, .int .u8 fl, .int .u16 xq, .int .u32 mt, .int .u16 mp, .int .u8 ml]), (.agg #[.int .u16 xq, .int .u32 mt, .int .u16 mp, .int .u8 ml]), (.pointer (some ⟨g15, 0, none⟩)), (.pointer (some ⟨g16, 0, none⟩)), by kernel_rfl, fun _ => rfl, fun _ => rfl, fun _ => rfl, fun _ => rfl, fun _ => ⟨g15, rfl, lo15, (by simpa using lt15), fun h => Whole.four_far (z15 (listed_same h (by decide))) ((n15_16 e18 e0 _ _ rfl rfl)) (.int .u16 xq) (.int .u32 mt) (.int .u16 mp) (.int .u8 ml), fun h => Whole.four_far (y15 (listed_same h (by decide))) ((n15_16 e18 e0 _ _ rfl rfl)) (.int .u16 xq) (.int .u32 mt) (.int .u16 mp) (.int .u8 ml)⟩, fun h => listed_new (s15 (listed_old h (by decide))), fun _ => ⟨g16, rfl, lo16, (by simpa using lt16), fun h => absurd ((listed_now hun).symm.trans h) (by decide), fun _ => (Whole.four q (.int .u16 xq) (.int .u32 mt) (.int .u16 mp) (.int .u8 ml))⟩, fun _ => listed_new e0, fun h h' => n15_16 (listed_old h (by decide)) (listed_old h' (by decide))⟩
          · intro l a w hI hr
            obtain ⟨hsz, ⟨k0, k1, k2, k3, k4, k5, k6, k7, k8, k9, k10⟩, hB, t11, t12, t13, t14, t15, t16, rfl, c11, c12, c13, c14, c15, s15, c16, s16, n15_16⟩ := hI
            have k11 := done_listed (i := 11) (n := 19) hsz (by decide) rfl hr (by rw [show waitsFor _ _ 11 = [0, 5, 10] from by kernel_rfl]; simp only [List.all_cons, List.all_nil, Bool.and_true, Bool.and_eq_true]; exact ⟨k0, k5, k10⟩)
            have k12 := done_listed (i := 12) (n := 19) hsz (by decide) rfl hr (by rw [show waitsFor _ _ 12 = [11] from by kernel_rfl]; simp only [List.all_cons, List.all_nil, Bool.and_true, Bool.and_eq_true]; exact k11)
            have k13 := done_listed (i := 13) (n := 19) hsz (by decide) rfl hr (by rw [show waitsFor _ _ 13 = [12] from by kernel_rfl]; simp only [List.all_cons, List.all_nil, Bool.and_true, Bool.and_eq_true]; exact k12)
            have k14 := done_listed (i := 14) (n := 19) hsz (by decide) rfl hr (by rw [show waitsFor _ _ 14 = [12] from by kernel_rfl]; simp only [List.all_cons, List.all_nil, Bool.and_true, Bool.and_eq_true]; exact k12)
            have k15 := done_listed (i := 15) (n := 19) hsz (by decide) rfl hr (by rw [show waitsFor _ _ 15 = [] from by kernel_rfl]; rfl)
            have k16 := done_listed (i := 16) (n := 19) hsz (by decide) rfl hr (by rw [show waitsFor _ _ 16 = [] from by kernel_rfl]; rfl)
            have k17 := done_listed (i := 17) (n := 19) hsz (by decide) rfl hr (by rw [show waitsFor _ _ 17 = [15, 13, 11, 0, 1, 2, 3, 4, 5, 6, 7, 8, 9, 10, 11, 12, 13, 15, 16] from by kernel_rfl]; simp only [List.all_cons, List.all_nil, Bool.and_true, Bool.and_eq_true]; exact ⟨k15, k13, k11, k0, k1, k2, k3, k4, k5, k6, k7, k8, k9, k10, k11, k12, k13, k15, k16⟩)
            have k18 := done_listed (i := 18) (n := 19) hsz (by decide) rfl hr (by rw [show waitsFor _ _ 18 = [16, 14, 17, 0, 1, 2, 3, 4, 5, 6, 7, 8, 9, 10, 11, 12, 13, 14, 15, 16, 17] from by kernel_rfl]; simp only [List.all_cons, List.all_nil, Bool.and_true, Bool.and_eq_true]; exact ⟨k16, k14, k17, k0, k1, k2, k3, k4, k5, k6, k7, k8, k9, k10, k11, k12, k13, k14, k15, k16, k17⟩)
            obtain rfl := c11 k11
            obtain rfl := c12 k12
            obtain rfl := c13 k13
            obtain rfl := c14 k14
            obtain ⟨gt, rfl, lot, _, _, Wt⟩ := c15 k15
            replace Wt := Wt k17
            obtain ⟨gn, rfl, lon, _, _, Wn⟩ := c16 k16
            replace Wn := Wn k18
            have netn := n15_16 k15 k16 _ _ rfl rfl
            clear hr k0 k1 k2 k3 k4 k5 k6 k7 k8 k9 k10 k11 k12 k13 k14 k15 k16 k17 k18 s15 s16 n15_16 c11 c12 c13 c14 c15 c16
            subst ha0
            (try simp only [Act.put, List.getElem_toArray, List.getElem_cons_succ, List.getElem_cons_zero, List.setIfInBounds_toArray, List.set_cons_zero, List.set_cons_succ])
            go_wp2_with fail
            go_meet
            exact ⟨_, _, rfl, rfl, lot, lon, netn, Wt, Wn, hB⟩
          · refine ⟨rfl, ⟨rfl, rfl, rfl, rfl, rfl, rfl, rfl, rfl, rfl, rfl, rfl⟩, (Below.refl _ _).drew, a0.tmps.getD 45 undef, a0.tmps.getD 33 undef, a0.tmps.getD 46 undef, a0.tmps.getD 47 undef, a0.tmps.getD 7 undef, a0.tmps.getD 8 undef, ?_, fun h => absurd h (by decide), fun h => absurd h (by decide), fun h => absurd h (by decide), fun h => absurd h (by decide), fun h => absurd h (by decide), fun h => absurd h (by decide), fun h => absurd h (by decide), fun h => absurd h (by decide), fun h => absurd h (by decide)⟩
            subst ha0
            kernel_rfl
        case rest =>
          obtain ⟨g1_1, g2_1, rfl, rfl, lot1, lon1, netn, Tt, Tn, bq⟩ := hcut
          obtain ⟨wc1, rfl⟩ : ∃ wd : World, wd = wc := ⟨_, rfl⟩
          have Ssc1 := (Ps.out).below bq Ps.out.lt
          have Stc1 := Tt
          have Snc1 := Tn
          have HBc1 := Lib.hid (PB.out.trans (bq.mono PB.out.size))
          clear K6 bq Ps Tt Tn PB
          have lsc1 := Ssc1.lt
          have ltc1 := Stc1.lt
          have lnc1 := Snc1.lt
          clear CW
          have sc1_0 := Ssc1.cell 0
          have fsc1_0 := Ssc1.free 0
          have sc1_1 := Ssc1.cell 1
          have fsc1_1 := Ssc1.free 1
          have sc1_2 := Ssc1.cell 2
          have fsc1_2 := Ssc1.free 2
          have sc1_3 := Ssc1.cell 3
          have fsc1_3 := Ssc1.free 3
          have sc1_4 := Ssc1.cell 4
          have fsc1_4 := Ssc1.free 4
          have sc1_5 := Ssc1.cell 5
          have fsc1_5 := Ssc1.free 5
          have sc1_6 := Ssc1.cell 6
          have fsc1_6 := Ssc1.free 6
          have sc1_7 := Ssc1.cell 7
          have fsc1_7 := Ssc1.free 7
          have sc1_8 := Ssc1.cell 8
          have fsc1_8 := Ssc1.free 8
          have sc1_9 := Ssc1.cell 9
          have fsc1_9 := Ssc1.free 9
          have sc1_10 := Ssc1.cell 10
          have fsc1_10 := Ssc1.free 10
          have tc1_0 := Stc1.cell 0
          have tc1_1 := Stc1.cell 1
          have tc1_2 := Stc1.cell 2
          have tc1_3 := Stc1.cell 3
          have tc1_4 := Stc1.cell 4
          have tc1_5 := Stc1.cell 5
          have tc1_6 := Stc1.cell 6
          have tc1_7 := Stc1.cell 7
          have tc1_8 := Stc1.cell 8
          have tc1_9 := Stc1.cell 9
          have tc1_10 := Stc1.cell 10
          have nc1_0 := Snc1.cell 0
          have nc1_1 := Snc1.cell 1
          have nc1_2 := Snc1.cell 2
          have nc1_3 := Snc1.cell 3
          replace Ssc1 := Lib.hid Ssc1
          replace Stc1 := Lib.hid Stc1
          replace Snc1 := Lib.hid Snc1
          have r0 : wc1.cell? ⟨g, o + k * 6, none⟩ = some (.int .u16 xq) := HAT.out _ (HBc1.out) 0 _ rfl
          have r1 : wc1.cell? ⟨g, o + k * 6 + 1, none⟩ = some (.int .u32 xt) := HAT.out _ (HBc1.out) 1 _ rfl
          have r2 : wc1.cell? ⟨g, o + k * 6 + 2, none⟩ = some (.int .u16 xp) := HAT.out _ (HBc1.out) 2 _ rfl
          have r3 : wc1.cell? ⟨g, o + k * 6 + 3, none⟩ = some (.int .u8 xl) := HAT.out _ (HBc1.out) 3 _ rfl
          have r4 : wc1.cell? ⟨g, o + k * 6 + 4, none⟩ = some (.int .u32 st) := HAT.out _ (HBc1.out) 4 _ rfl
          have r5 : wc1.cell? ⟨g, o + k * 6 + 5, none⟩ = some (.slice A2 m c2) := HAT.out _ (HBc1.out) 5 _ rfl
          have r00 : wc1.cell? ⟨g, o, none⟩ = some (.int .u16 xq) := by have := r0; simpa [hk0.out] using this
          have hgo2 : g < wc1.heap.size := by have := HBc1.out.size; omega
          go_wp2_with fail
          obtain ⟨wf2, hwf⟩ : ∃ z, z = (((((((((((wc1.setCell ⟨gs, 0, none⟩ (.bool true)).setCell ⟨gs, 1, none⟩ (.int .i64 xq)).setCell ⟨gs, 2, none⟩ (.int .i64 xq)).setCell ⟨gs, 3, none⟩ (.int .u16 fq)).setCell ⟨gs, 4, none⟩ (.int .u32 ft)).setCell ⟨gs, 5, none⟩ (.int .u16 fp)).setCell ⟨gs, 6, none⟩ (.int .u8 fl)).setCell ⟨gs, 7, none⟩ (.int .u16 xq)).setCell ⟨gs, 8, none⟩ (.int .u32 mt)).setCell ⟨gs, 9, none⟩ (.int .u16 mp)).setCell ⟨gs, 10, none⟩ (.int .u8 ml)) := ⟨_, rfl⟩
          have Ssf2 := (Whole.eleven (Ssc1.out) (.bool true) (.int .i64 xq) (.int .i64 xq) (.int .u16 fq) (.int .u32 ft) (.int .u16 fp) (.int .u8 fl) (.int .u16 xq) (.int .u32 mt) (.int .u16 mp) (.int .u8 ml))
          have Stf2 := (Whole.eleven_far (Stc1.out) (show g1_1 ≠ gs from by omega) (.bool true) (.int .i64 xq) (.int .i64 xq) (.int .u16 fq) (.int .u32 ft) (.int .u16 fp) (.int .u8 fl) (.int .u16 xq) (.int .u32 mt) (.int .u16 mp) (.int .u8 ml))
          have Snf2 := (Whole.eleven_far (Snc1.out) (show g2_1 ≠ gs from by omega) (.bool true) (.int .i64 xq) (.int .i64 xq) (.int .u16 fq) (.int .u32 ft) (.int .u16 fp) (.int .u8 fl) (.int .u16 xq) (.int .u32 mt) (.int .u16 mp) (.int .u8 ml))
          have HBf2 := (eleven_set (HBc1.out) (show w.heap.size ≤ gs from by omega) (.bool true) (.int .i64 xq) (.int .i64 xq) (.int .u16 fq) (.int .u32 ft) (.int .u16 fp) (.int .u8 fl) (.int .u16 xq) (.int .u32 mt) (.int .u16 mp) (.int .u8 ml))
          rw [← hwf] at Ssf2 Stf2 Snf2 HBf2 ⊢
          clear hwf
          clear sc1_0 fsc1_0 sc1_1 fsc1_1 sc1_2 fsc1_2 sc1_3 fsc1_3 sc1_4 fsc1_4 sc1_5 fsc1_5 sc1_6 fsc1_6 sc1_7 fsc1_7 sc1_8 fsc1_8 sc1_9 fsc1_9 sc1_10 fsc1_10 tc1_0 tc1_1 tc1_2 tc1_3 tc1_4 tc1_5 tc1_6 tc1_7 tc1_8 tc1_9 tc1_10 nc1_0 nc1_1 nc1_2 nc1_3 Ssc1 Stc1 Snc1 HBc1
          have lsf2 := Ssf2.lt
          have ltf2 := Stf2.lt
          have lnf2 := Snf2.lt
          replace HBf2 := Lib.hid HBf2
          replace Ssf2 := Lib.hid Ssf2
          replace Stf2 := Lib.hid Stf2
          replace Snf2 := Lib.hid Snf2
          clear r0 r1 r2 r3 r4 r5 r00 hgo hgo2 hb0
          go_loopw [5, 9] (fun v i wr => ∃ (j : Nat) (s : Mst) (want : Int), j ≤ m ∧ v = .int .u16 want ∧ i = .int .i64 (j : Int) ∧ Hid (Whole wr gs 27 s.cells) ∧ Hid (Ord s xq j want ∧ 0 ≤ want ∧ want < 65536) ∧ Below w.heap.size w wr) (fun _ i _ => m - (intOf i).toNat)
          case atStart => exact ⟨0, ⟨true, xq, xq, ⟨fq, ft, fp, fl⟩, ⟨xq, mt, mp, ml⟩⟩, w1', Nat.zero_le _, rfl, rfl, Ssf2, Lib.hid ⟨OS.out, HW1.out⟩, HBf2.out⟩
          case round =>
            clear Ssf2 Stf2 Snf2 HBf2 OS HW1 E0 HF
            obtain ⟨j, u, want', hj, rfl, rfl, HW, HO, hb⟩ := hrel
            obtain ⟨wq2, rfl⟩ : ∃ wq2 : World, wq2 = wr := ⟨_, rfl⟩
            have HB := Lib.hid hb
            have hsz2 := hb.size
            have hgl2 := HW.out.lt
            clear hb
            have hgo : g < wq2.heap.size := by omega
            have r0 : wq2.cell? ⟨g, o + k * 6, none⟩ = some (.int .u16 xq) := HAT.out _ (HB.out) 0 _ rfl
            have r1 : wq2.cell? ⟨g, o + k * 6 + 1, none⟩ = some (.int .u32 xt) := HAT.out _ (HB.out) 1 _ rfl
            have r2 : wq2.cell? ⟨g, o + k * 6 + 2, none⟩ = some (.int .u16 xp) := HAT.out _ (HB.out) 2 _ rfl
            have r3 : wq2.cell? ⟨g, o + k * 6 + 3, none⟩ = some (.int .u8 xl) := HAT.out _ (HB.out) 3 _ rfl
            have r4 : wq2.cell? ⟨g, o + k * 6 + 4, none⟩ = some (.int .u32 st) := HAT.out _ (HB.out) 4 _ rfl
            have r5 : wq2.cell? ⟨g, o + k * 6 + 5, none⟩ = some (.slice A2 m c2) := HAT.out _ (HB.out) 5 _ rfl
            by_cases hlt2 : j < m
            · obtain ⟨b, hb⟩ : ∃ b, gn[j]? = some b := ⟨gn[j]'(by rw [HM.out]; exact hlt2), by simp⟩
              obtain ⟨g2, o2, rfl, hg2, hat2⟩ := one_at HGR.out (by omega)
              have y0 := hat2 _ HB.out j b hb
              clear hat2 hb
              have hgo3 : g2 < wq2.heap.size := by omega
              have hj1 : (0 : Int) ≤ (j : Int) := by omega
              have hj2 : (j : Int) < (m : Int) := by omega
              obtain ⟨yq, hyq⟩ : ∃ y, (xq + j + 1) % 65536 = y := ⟨_, rfl⟩
              obtain ⟨yt, hyt⟩ : ∃ y, (xt + (j : Int) * 9) % 4294967296 = y := ⟨_, rfl⟩
              have E1 : IntKind.u16.wrap (xq + ((j : Int) + 1)) = yq := by rw [wrap_u16]; omega
              have hyf : (⟨yq, yt, xp, xl⟩ : Mn).Fit := ⟨by dsimp only; omega, by dsimp only; omega, HXF.out.pic, HXF.out.tl0⟩
              have huf : u.Fit 1000000000000000 := by have := HO.out.1.fit HXF.out.seq (by omega); exact ⟨by have := this.high; omega, this.off, this.out⟩
              have E2 := hyt
              cases b with
              | true =>
                have CD := fun w => mdrop_any u ⟨yq, yt, xp, xl⟩ true huf hyf w
                have OD := ord_drop (x := ⟨yq, yt, xp, xl⟩) HO.out.1 hyq.symm true
                obtain ⟨d, hd⟩ : ∃ d, u.dropS ⟨yq, yt, xp, xl⟩ true = d := ⟨_, rfl⟩
                rw [hd] at CD OD
                have HO2 := Lib.hid (show Ord d xq ((j + 1 : Nat) : Int) want' ∧ 0 ≤ want' ∧ want' < 65536 from ⟨by rw [show (((j + 1 : Nat) : Int)) = (j : Int) + 1 by omega]; exact OD, HO.out.2⟩)
                clear hd OD HO hyf huf hyq hyt
                obtain ⟨don, dh, dc, ⟨doq, dot, dop, dol⟩, ⟨duq, dut, dup, dul⟩⟩ := d
                obtain ⟨son', sh', sc', ⟨aq, at', ap, al⟩, ⟨bq, bt, bp, bl⟩⟩ := u
                dsimp only [Mst.cells, Mn.cells] at *
                replace CD := Lib.hid CD
                have c0 := HW.out.cell 0
                have c1 := HW.out.cell 1
                have c2 := HW.out.cell 2
                have c3 := HW.out.cell 3
                have c4 := HW.out.cell 4
                have c5 := HW.out.cell 5
                have c6 := HW.out.cell 6
                have c7 := HW.out.cell 7
                have c8 := HW.out.cell 8
                have c9 := HW.out.cell 9
                have c10 := HW.out.cell 10
                have e0 := HW.out.free 0
                have e1 := HW.out.free 1
                have e2 := HW.out.free 2
                have e3 := HW.out.free 3
                have e4 := HW.out.free 4
                have e5 := HW.out.free 5
                have e6 := HW.out.free 6
                have e7 := HW.out.free 7
                have e8 := HW.out.free 8
                have e9 := HW.out.free 9
                have e10 := HW.out.free 10
                go_wp2_with fail
                refine (CD.out _).mono ?_
                rintro e w31 ⟨rfl, b31⟩
                have Nx : Whole (wq2.alloc (.cells #[.int .u16 yq, .int .u32 yt, .int .u16 xp, .int .u8 xl] 25)) (wq2.heap.size) 25 #[.int .u16 yq, .int .u32 yt, .int .u16 xp, .int .u8 xl] := by have := Whole.new wq2 25 #[.int .u16 yq, .int .u32 yt, .int .u16 xp, .int .u8 xl]; first | with_reducible exact this | simpa using this
                have Ss31 := ((HW.out.alloc (.cells #[.int .u16 yq, .int .u32 yt, .int .u16 xp, .int .u8 xl] 25))).below b31 (by have := ((HW.out.alloc (.cells #[.int .u16 yq, .int .u32 yt, .int .u16 xp, .int .u8 xl] 25))).lt; first | with_reducible exact this | simpa using this)
                have Sx31 := (Nx).below b31 (by have := (Nx).lt; first | with_reducible exact this | simpa using this)
                have HB31 := Lib.hid (((HB.out.alloc (HB.out).size (.cells #[.int .u16 yq, .int .u32 yt, .int .u16 xp, .int .u8 xl] 25))).trans (b31.mono ((HB.out.alloc (HB.out).size (.cells #[.int .u16 yq, .int .u32 yt, .int .u16 xp, .int .u8 xl] 25))).size))
                have ls31 := Ss31.lt
                have lx31 := Sx31.lt
                clear b31 c0 c1 c2 c3 c4 c5 c6 c7 c8 c9 c10 e0 e1 e2 e3 e4 e5 e6 e7 e8 e9 e10 HW Nx HB CD y0 r0 r1 r2 r3 r4 r5
                have s31_0 := Ss31.cell 0
                have fs31_0 := Ss31.free 0
                have s31_1 := Ss31.cell 1
                have fs31_1 := Ss31.free 1
                have s31_2 := Ss31.cell 2
                have fs31_2 := Ss31.free 2
                have s31_3 := Ss31.cell 3
                have fs31_3 := Ss31.free 3
                have s31_4 := Ss31.cell 4
                have fs31_4 := Ss31.free 4
                have s31_5 := Ss31.cell 5
                have fs31_5 := Ss31.free 5
                have s31_6 := Ss31.cell 6
                have fs31_6 := Ss31.free 6
                have s31_7 := Ss31.cell 7
                have fs31_7 := Ss31.free 7
                have s31_8 := Ss31.cell 8
                have fs31_8 := Ss31.free 8
                have s31_9 := Ss31.cell 9
                have fs31_9 := Ss31.free 9
                have s31_10 := Ss31.cell 10
                have fs31_10 := Ss31.free 10
                replace Ss31 := Lib.hid Ss31
                replace Sx31 := Lib.hid Sx31
                go_wp2
                go_roundw
                case rel => exact ⟨j + 1, ⟨don, dh, dc, ⟨doq, dot, dop, dol⟩, ⟨duq, dut, dup, dul⟩⟩, want', by omega, rfl, by go_num, Lib.hid ((Whole.eleven (Ss31.out) (.bool don) (.int .i64 dh) (.int .i64 dc) (.int .u16 doq) (.int .u32 dot) (.int .u16 dop) (.int .u8 dol) (.int .u16 duq) (.int .u32 dut) (.int .u16 dup) (.int .u8 dul))), HO2, (eleven_set (HB31.out) (show w.heap.size ≤ gs from by omega) (.bool don) (.int .i64 dh) (.int .i64 dc) (.int .u16 doq) (.int .u32 dot) (.int .u16 dop) (.int .u8 dol) (.int .u16 duq) (.int .u32 dut) (.int .u16 dup) (.int .u8 dul))⟩
                case measure => simp [intOf]; omega
              | false =>
                have CE := fun w => msend_any u ⟨yq, yt, xp, xl⟩ huf hyf w
                have OD := ord_send (x := ⟨yq, yt, xp, xl⟩) HO.out.1 HO.out.2 hyq.symm
                obtain ⟨d, hd⟩ : ∃ d, u.sendS ⟨yq, yt, xp, xl⟩ = d := ⟨_, rfl⟩
                obtain ⟨q, hq⟩ : ∃ q, u.told ⟨yq, yt, xp, xl⟩ = q := ⟨_, rfl⟩
                obtain ⟨o1, o2', OD⟩ := OD
                rw [hd, hq, o1] at CE
                rw [hq] at o2'
                rw [hd] at OD
                obtain ⟨w2', hw2⟩ : ∃ z, (want' + 1) % 65536 = z := ⟨_, rfl⟩
                rw [hw2] at OD
                have E3 : IntKind.u16.wrap (want' + 1) = w2' := by rw [wrap_u16]; exact hw2
                have HO2 := Lib.hid (show Ord d xq ((j + 1 : Nat) : Int) w2' ∧ 0 ≤ w2' ∧ w2' < 65536 from ⟨by rw [show (((j + 1 : Nat) : Int)) = (j : Int) + 1 by omega]; exact OD, by omega⟩)
                clear hd hq OD HO hyf huf hyq hyt o1 hw2
                obtain ⟨don, dh, dc, ⟨doq, dot, dop, dol⟩, ⟨duq, dut, dup, dul⟩⟩ := d
                obtain ⟨qq, qt, qp, ql⟩ := q
                dsimp only at o2'
                subst o2'
                obtain ⟨son', sh', sc', ⟨aq, at', ap, al⟩, ⟨bq, bt, bp, bl⟩⟩ := u
                dsimp only [Mst.cells, Mn.cells] at *
                replace CE := Lib.hid CE
                have c0 := HW.out.cell 0
                have c1 := HW.out.cell 1
                have c2 := HW.out.cell 2
                have c3 := HW.out.cell 3
                have c4 := HW.out.cell 4
                have c5 := HW.out.cell 5
                have c6 := HW.out.cell 6
                have c7 := HW.out.cell 7
                have c8 := HW.out.cell 8
                have c9 := HW.out.cell 9
                have c10 := HW.out.cell 10
                have e0 := HW.out.free 0
                have e1 := HW.out.free 1
                have e2 := HW.out.free 2
                have e3 := HW.out.free 3
                have e4 := HW.out.free 4
                have e5 := HW.out.free 5
                have e6 := HW.out.free 6
                have e7 := HW.out.free 7
                have e8 := HW.out.free 8
                have e9 := HW.out.free 9
                have e10 := HW.out.free 10
                go_wp2_with fail
                refine (CE.out _).mono ?_
                rintro e w31 ⟨rfl, b31⟩
                have Nx : Whole (wq2.alloc (.cells #[.int .u16 yq, .int .u32 yt, .int .u16 xp, .int .u8 xl] 25)) (wq2.heap.size) 25 #[.int .u16 yq, .int .u32 yt, .int .u16 xp, .int .u8 xl] := by have := Whole.new wq2 25 #[.int .u16 yq, .int .u32 yt, .int .u16 xp, .int .u8 xl]; first | with_reducible exact this | simpa using this
                have Ss31 := ((HW.out.alloc (.cells #[.int .u16 yq, .int .u32 yt, .int .u16 xp, .int .u8 xl] 25))).below b31 (by have := ((HW.out.alloc (.cells #[.int .u16 yq, .int .u32 yt, .int .u16 xp, .int .u8 xl] 25))).lt; first | with_reducible exact this | simpa using this)
                have Sx31 := (Nx).below b31 (by have := (Nx).lt; first | with_reducible exact this | simpa using this)
                have HB31 := Lib.hid (((HB.out.alloc (HB.out).size (.cells #[.int .u16 yq, .int .u32 yt, .int .u16 xp, .int .u8 xl] 25))).trans (b31.mono ((HB.out.alloc (HB.out).size (.cells #[.int .u16 yq, .int .u32 yt, .int .u16 xp, .int .u8 xl] 25))).size))
                have ls31 := Ss31.lt
                have lx31 := Sx31.lt
                clear b31 c0 c1 c2 c3 c4 c5 c6 c7 c8 c9 c10 e0 e1 e2 e3 e4 e5 e6 e7 e8 e9 e10 HW Nx HB CE y0 r0 r1 r2 r3 r4 r5
                have s31_0 := Ss31.cell 0
                have fs31_0 := Ss31.free 0
                have s31_1 := Ss31.cell 1
                have fs31_1 := Ss31.free 1
                have s31_2 := Ss31.cell 2
                have fs31_2 := Ss31.free 2
                have s31_3 := Ss31.cell 3
                have fs31_3 := Ss31.free 3
                have s31_4 := Ss31.cell 4
                have fs31_4 := Ss31.free 4
                have s31_5 := Ss31.cell 5
                have fs31_5 := Ss31.free 5
                have s31_6 := Ss31.cell 6
                have fs31_6 := Ss31.free 6
                have s31_7 := Ss31.cell 7
                have fs31_7 := Ss31.free 7
                have s31_8 := Ss31.cell 8
                have fs31_8 := Ss31.free 8
                have s31_9 := Ss31.cell 9
                have fs31_9 := Ss31.free 9
                have s31_10 := Ss31.cell 10
                have fs31_10 := Ss31.free 10
                replace Ss31 := Lib.hid Ss31
                replace Sx31 := Lib.hid Sx31
                go_wp2
                go_roundw
                case rel => exact ⟨j + 1, ⟨don, dh, dc, ⟨doq, dot, dop, dol⟩, ⟨duq, dut, dup, dul⟩⟩, w2', by omega, rfl, by go_num, Lib.hid ((((Whole.eleven (Ss31.out) (.bool don) (.int .i64 dh) (.int .i64 dc) (.int .u16 doq) (.int .u32 dot) (.int .u16 dop) (.int .u8 dol) (.int .u16 duq) (.int .u32 dut) (.int .u16 dup) (.int .u8 dul)).alloc (.cells #[.bool don, .int .i64 dh, .int .i64 dc, .int .u16 doq, .int .u32 dot, .int .u16 dop, .int .u8 dol, .int .u16 duq, .int .u32 dut, .int .u16 dup, .int .u8 dul] 27)).alloc (.cells #[.int .u16 qq, .int .u32 qt, .int .u16 qp, .int .u8 ql] 25))), HO2, (((eleven_set (HB31.out) (show w.heap.size ≤ gs from by omega) (.bool don) (.int .i64 dh) (.int .i64 dc) (.int .u16 doq) (.int .u32 dot) (.int .u16 dop) (.int .u8 dol) (.int .u16 duq) (.int .u32 dut) (.int .u16 dup) (.int .u8 dul)).alloc ((eleven_set (HB31.out) (show w.heap.size ≤ gs from by omega) (.bool don) (.int .i64 dh) (.int .i64 dc) (.int .u16 doq) (.int .u32 dot) (.int .u16 dop) (.int .u8 dol) (.int .u16 duq) (.int .u32 dut) (.int .u16 dup) (.int .u8 dul))).size (.cells #[.bool don, .int .i64 dh, .int .i64 dc, .int .u16 doq, .int .u32 dot, .int .u16 dop, .int .u8 dol, .int .u16 duq, .int .u32 dut, .int .u16 dup, .int .u8 dul] 27)).alloc (((eleven_set (HB31.out) (show w.heap.size ≤ gs from by omega) (.bool don) (.int .i64 dh) (.int .i64 dc) (.int .u16 doq) (.int .u32 dot) (.int .u16 dop) (.int .u8 dol) (.int .u16 duq) (.int .u32 dut) (.int .u16 dup) (.int .u8 dul)).alloc ((eleven_set (HB31.out) (show w.heap.size ≤ gs from by omega) (.bool don) (.int .i64 dh) (.int .i64 dc) (.int .u16 doq) (.int .u32 dot) (.int .u16 dop) (.int .u8 dol) (.int .u16 duq) (.int .u32 dut) (.int .u16 dup) (.int .u8 dul))).size (.cells #[.bool don, .int .i64 dh, .int .i64 dc, .int .u16 doq, .int .u32 dot, .int .u16 dop, .int .u8 dol, .int .u16 duq, .int .u32 dut, .int .u16 dup, .int .u8 dul] 27))).size (.cells #[.int .u16 qq, .int .u32 qt, .int .u16 qp, .int .u8 ql] 25))⟩
                case measure => simp [intOf]; omega
            · obtain rfl : j = m := by omega
              go_wp2
              go_roundw
              case rel => exact ⟨k + 1, u, want', by omega, rfl, by go_num, HW, Lib.hid ⟨by have := HO.out.1.fit HXF.out.seq (by omega); exact this, HO.out.2, .inr ⟨by omega, HO.out.1.1, HO.out.1.2.2.2.1⟩⟩, HB.out⟩
              case measure => simp [intOf]; omega
      · have OS := ord_switch (s := s) (f := ⟨xq, xt, xp, xl⟩) (st := st) (want := want) hxf (.inr (hz.resolve_left (fun h => hk0 h.1)).2)
        have hb0 : ((k : Int) == 0) = false := by simp [hk0]
        replace hk0 := Lib.hid hk0
        obtain ⟨m', hm'⟩ : ∃ m, s.begins ⟨xq, xt, xp, xl⟩ st = m := ⟨_, rfl⟩
        have hu : s.switchS ⟨xq, xt, xp, xl⟩ st = ⟨true, xq, xq, Mn.less ⟨xq, xt, xp, xl⟩ m', m'⟩ := by unfold Mst.switchS; rw [hm']
        obtain ⟨f, hf⟩ : ∃ f, Mn.less ⟨xq, xt, xp, xl⟩ m' = f := ⟨_, rfl⟩
        rw [hf] at hu
        rw [hu, hm'] at CW OS
        clear hm' hf hu hz hxf
        obtain ⟨son, sh, sc, ⟨soq, sot, sop, sol⟩, ⟨suq, sut, sup, sul⟩⟩ := s
        obtain ⟨mq, mt, mp, ml⟩ := m'
        obtain ⟨fq, ft, fp, fl⟩ := f
        obtain ⟨os1, OS⟩ := OS
        dsimp only [Mst.cells, Mn.cells] at *
        subst os1
        obtain ⟨w1', hw1⟩ : ∃ z, (mq + 1) % 65536 = z := ⟨_, rfl⟩
        rw [hw1] at OS
        have E0 : IntKind.u16.wrap (mq + 1) = w1' := by rw [wrap_u16]; exact hw1
        have HW1 := Lib.hid (show 0 ≤ w1' ∧ w1' < 65536 by omega)
        clear hw1 hw
        replace OS := Lib.hid OS
        replace CW := Lib.hid CW
        have k0 := HW.out.cell 0
        have k1 := HW.out.cell 1
        have k2 := HW.out.cell 2
        have k3 := HW.out.cell 3
        have k4 := HW.out.cell 4
        have k5 := HW.out.cell 5
        have k6 := HW.out.cell 6
        have k7 := HW.out.cell 7
        have k8 := HW.out.cell 8
        have k9 := HW.out.cell 9
        have k10 := HW.out.cell 10
        have f0 := HW.out.free 0
        have f1 := HW.out.free 1
        have f2 := HW.out.free 2
        have f3 := HW.out.free 3
        have f4 := HW.out.free 4
        have f5 := HW.out.free 5
        have f6 := HW.out.free 6
        have f7 := HW.out.free 7
        have f8 := HW.out.free 8
        have f9 := HW.out.free 9
        have f10 := HW.out.free 10
        have r0 : wq.cell? ⟨g, o + k * 6, none⟩ = some (.int .u16 xq) := HAT.out _ (HB.out) 0 _ rfl
        have r1 : wq.cell? ⟨g, o + k * 6 + 1, none⟩ = some (.int .u32 xt) := HAT.out _ (HB.out) 1 _ rfl
        have r2 : wq.cell? ⟨g, o + k * 6 + 2, none⟩ = some (.int .u16 xp) := HAT.out _ (HB.out) 2 _ rfl
        have r3 : wq.cell? ⟨g, o + k * 6 + 3, none⟩ = some (.int .u8 xl) := HAT.out _ (HB.out) 3 _ rfl
        have r4 : wq.cell? ⟨g, o + k * 6 + 4, none⟩ = some (.int .u32 st) := HAT.out _ (HB.out) 4 _ rfl
        have r5 : wq.cell? ⟨g, o + k * 6 + 5, none⟩ = some (.slice A2 m c2) := HAT.out _ (HB.out) 5 _ rfl
        have hgo : g < wq.heap.size := by omega
        by_cases hm60 : 60 < m
        · go_wp2
          go_ret
          exact ⟨rfl, HB.out⟩
        go_upto_region 13 with fail
        obtain ⟨wo, hwo⟩ : ∃ wo, wo = wq := ⟨_, rfl⟩
        have Ps := HW.out
        have PB := HB.out
        rw [← hwo] at Ps PB ⊢
        clear hwo
        clear k0 f0 k1 f1 k2 f2 k3 f3 k4 f4 k5 f5 k6 f6 k7 f7 k8 f8 k9 f9 k10 f10 r0 r1 r2 r3 r4 r5 HW HB
        have ps1 := Ps.lt
        replace Ps := Lib.hid Ps
        replace PB := Lib.hid PB
        have K6 := Lib.hid (fun w' (b' : Below wo.heap.size wo w') => show (fun w' => w'.cell? ⟨gs, 0, none⟩ = some (.bool son) ∧ w'.cell? ⟨gs, 1, none⟩ = some (.int .i64 sh) ∧ w'.cell? ⟨gs, 2, none⟩ = some (.int .i64 sc) ∧ w'.cell? ⟨gs, 3, none⟩ = some (.int .u16 soq) ∧ w'.cell? ⟨gs, 4, none⟩ = some (.int .u32 sot) ∧ w'.cell? ⟨gs, 5, none⟩ = some (.int .u16 sop) ∧ w'.cell? ⟨gs, 6, none⟩ = some (.int .u8 sol) ∧ w'.cell? ⟨gs, 7, none⟩ = some (.int .u16 suq) ∧ w'.cell? ⟨gs, 8, none⟩ = some (.int .u32 sut) ∧ w'.cell? ⟨gs, 9, none⟩ = some (.int .u16 sup) ∧ w'.cell? ⟨gs, 10, none⟩ = some (.int .u8 sul) ∧ w'.cell? ⟨g, o + k * 6, none⟩ = some (.int .u16 xq) ∧ w'.cell? ⟨g, o + k * 6 + 1, none⟩ = some (.int .u32 xt) ∧ w'.cell? ⟨g, o + k * 6 + 2, none⟩ = some (.int .u16 xp) ∧ w'.cell? ⟨g, o + k * 6 + 3, none⟩ = some (.int .u8 xl) ∧ w'.cell? ⟨g, o + k * 6 + 4, none⟩ = some (.int .u32 st)) w' from ⟨(Ps.out.below b' Ps.out.lt).cell 0, (Ps.out.below b' Ps.out.lt).cell 1, (Ps.out.below b' Ps.out.lt).cell 2, (Ps.out.below b' Ps.out.lt).cell 3, (Ps.out.below b' Ps.out.lt).cell 4, (Ps.out.below b' Ps.out.lt).cell 5, (Ps.out.below b' Ps.out.lt).cell 6, (Ps.out.below b' Ps.out.lt).cell 7, (Ps.out.below b' Ps.out.lt).cell 8, (Ps.out.below b' Ps.out.lt).cell 9, (Ps.out.below b' Ps.out.lt).cell 10, (HAT.out _ (PB.out.trans (b'.mono PB.out.size)) 0 _ rfl), (HAT.out _ (PB.out.trans (b'.mono PB.out.size)) 1 _ rfl), (HAT.out _ (PB.out.trans (b'.mono PB.out.size)) 2 _ rfl), (HAT.out _ (PB.out.trans (b'.mono PB.out.size)) 3 _ rfl), (HAT.out _ (PB.out.trans (b'.mono PB.out.size)) 4 _ rfl)⟩)
        go_cut [7, 8] (fun p1 p2 wx => ∃ g1 g2 : Nat, p1 = .pointer (some ⟨g1, 0, none⟩) ∧ p2 = .pointer (some ⟨g2, 0, none⟩) ∧ wo.heap.size ≤ g1 ∧ wo.heap.size ≤ g2 ∧ g1 ≠ g2 ∧ Whole wx g1 27 #[.bool true, .int .i64 xq, .int .i64 xq, .int .u16 fq, .int .u32 ft, .int .u16 fp, .int .u8 fl, .int .u16 mq, .int .u32 mt, .int .u16 mp, .int .u8 ml] ∧ Whole wx g2 25 #[.int .u16 mq, .int .u32 mt, .int .u16 mp, .int .u8 ml] ∧ Below wo.heap.size wo wx)
        case first =>
          refine wp_region_X (S := fun w' => w'.cell? ⟨gs, 0, none⟩ = some (.bool son) ∧ w'.cell? ⟨gs, 1, none⟩ = some (.int .i64 sh) ∧ w'.cell? ⟨gs, 2, none⟩ = some (.int .i64 sc) ∧ w'.cell? ⟨gs, 3, none⟩ = some (.int .u16 soq) ∧ w'.cell? ⟨gs, 4, none⟩ = some (.int .u32 sot) ∧ w'.cell? ⟨gs, 5, none⟩ = some (.int .u16 sop) ∧ w'.cell? ⟨gs, 6, none⟩ = some (.int .u8 sol) ∧ w'.cell? ⟨gs, 7, none⟩ = some (.int .u16 suq) ∧ w'.cell? ⟨gs, 8, none⟩ = some (.int .u32 sut) ∧ w'.cell? ⟨gs, 9, none⟩ = some (.int .u16 sup) ∧ w'.cell? ⟨gs, 10, none⟩ = some (.int .u8 sul) ∧ w'.cell? ⟨g, o + k * 6, none⟩ = some (.int .u16 xq) ∧ w'.cell? ⟨g, o + k * 6 + 1, none⟩ = some (.int .u32 xt) ∧ w'.cell? ⟨g, o + k * 6 + 2, none⟩ = some (.int .u16 xp) ∧ w'.cell? ⟨g, o + k * 6 + 3, none⟩ = some (.int .u8 xl) ∧ w'.cell? ⟨g, o + k * 6 + 4, none⟩ = some (.int .u32 st)) [] (by kernel_rfl) (K6.out _ (Below.refl _ _).drew) (fun hHeld0 => ?_)
          refine wpAnyX_take (i := 0) [] (v := ?_) rfl (by kernel_rfl) (by kernel_rfl) (by kernel_rfl) (by kernel_rfl) (fun _ _ _ h => h) (Or.inl ⟨by kernel_rfl, ?_⟩) (by assumption) ?_
          rotate_left 1
          · (intro w hSw; obtain ⟨m0, m1, m2, m3, m4, m5, m6, m7, m8, m9, m10, m11, m12, m13, m14, m15⟩ := hSw; go_simp; try (with_reducible rfl))
          (try simp only [Act.put, List.getElem_toArray, List.getElem_cons_succ, List.getElem_cons_zero, List.setIfInBounds_toArray, List.set_cons_zero, List.set_cons_succ])
          refine wpAnyX_take (i := 1) [] (v := ?_) rfl (by kernel_rfl) (by kernel_rfl) (by kernel_rfl) (by kernel_rfl) (fun _ _ _ h => h) (Or.inl ⟨by kernel_rfl, ?_⟩) (by assumption) ?_
          rotate_left 1
          · (intro w hSw; obtain ⟨m0, m1, m2, m3, m4, m5, m6, m7, m8, m9, m10, m11, m12, m13, m14, m15⟩ := hSw; go_simp; try (with_reducible rfl))
          (try simp only [Act.put, List.getElem_toArray, List.getElem_cons_succ, List.getElem_cons_zero, List.setIfInBounds_toArray, List.set_cons_zero, List.set_cons_succ])
          refine wpAnyX_take (i := 2) [] (v := ?_) rfl (by kernel_rfl) (by kernel_rfl) (by kernel_rfl) (by kernel_rfl) (fun _ _ _ h => h) (Or.inl ⟨by kernel_rfl, ?_⟩) (by assumption) ?_
          rotate_left 1
          · (intro w hSw; obtain ⟨m0, m1, m2, m3, m4, m5, m6, m7, m8, m9, m10, m11, m12, m13, m14, m15⟩ := hSw; go_simp; try (with_reducible rfl))
          (try simp only [Act.put, List.getElem_toArray, List.getElem_cons_succ, List.getElem_cons_zero, List.setIfInBounds_toArray, List.set_cons_zero, List.set_cons_succ])
          refine wpAnyX_take (i := 3) [] (v := ?_) rfl (by kernel_rfl) (by kernel_rfl) (by kernel_rfl) (by kernel_rfl) (fun _ _ _ h => h) (Or.inl ⟨by kernel_rfl, ?_⟩) (by assumption) ?_
          rotate_left 1
          · (intro w hSw; obtain ⟨m0, m1, m2, m3, m4, m5, m6, m7, m8, m9, m10, m11, m12, m13, m14, m15⟩ := hSw; go_simp; try (with_reducible rfl))
          (try simp only [Act.put, List.getElem_toArray, List.getElem_cons_succ, List.getElem_cons_zero, List.setIfInBounds_toArray, List.set_cons_zero, List.set_cons_succ])
          refine wpAnyX_take (i := 4) [] (v := ?_) rfl (by kernel_rfl) (by kernel_rfl) (by kernel_rfl) (by kernel_rfl) (fun _ _ _ h => h) (Or.inl ⟨by kernel_rfl, ?_⟩) (by assumption) ?_
          rotate_left 1
          · (intro w hSw; obtain ⟨m0, m1, m2, m3, m4, m5, m6, m7, m8, m9, m10, m11, m12, m13, m14, m15⟩ := hSw; go_simp; try (with_reducible rfl))
          (try simp only [Act.put, List.getElem_toArray, List.getElem_cons_succ, List.getElem_cons_zero, List.setIfInBounds_toArray, List.set_cons_zero, List.set_cons_succ])
          refine wpAnyX_take (i := 5) [] (v := ?_) rfl (by kernel_rfl) (by kernel_rfl) (by kernel_rfl) (by kernel_rfl) (fun _ _ _ h => h) (Or.inl ⟨by kernel_rfl, ?_⟩) (by assumption) ?_
          rotate_left 1
          · (intro w hSw; obtain ⟨m0, m1, m2, m3, m4, m5, m6, m7, m8, m9, m10, m11, m12, m13, m14, m15⟩ := hSw; go_simp; try (with_reducible rfl))
          (try simp only [Act.put, List.getElem_toArray, List.getElem_cons_succ, List.getElem_cons_zero, List.setIfInBounds_toArray, List.set_cons_zero, List.set_cons_succ])
          refine wpAnyX_take (i := 6) [] (v := ?_) rfl (by kernel_rfl) (by kernel_rfl) (by kernel_rfl) (by kernel_rfl) (fun _ _ _ h => h) (Or.inl ⟨by kernel_rfl, ?_⟩) (by assumption) ?_
          rotate_left 1
          · (intro w hSw; obtain ⟨m0, m1, m2, m3, m4, m5, m6, m7, m8, m9, m10, m11, m12, m13, m14, m15⟩ := hSw; go_simp; try (with_reducible rfl))
          (try simp only [Act.put, List.getElem_toArray, List.getElem_cons_succ, List.getElem_cons_zero, List.setIfInBounds_toArray, List.set_cons_zero, List.set_cons_succ])
          refine wpAnyX_take (i := 7) [] (v := ?_) rfl (by kernel_rfl) (by kernel_rfl) (by kernel_rfl) (by kernel_rfl) (fun _ _ _ h => h) (Or.inl ⟨by kernel_rfl, ?_⟩) (by assumption) ?_
          rotate_left 1
          · (intro w hSw; obtain ⟨m0, m1, m2, m3, m4, m5, m6, m7, m8, m9, m10, m11, m12, m13, m14, m15⟩ := hSw; go_simp; try (with_reducible rfl))
          (try simp only [Act.put, List.getElem_toArray, List.getElem_cons_succ, List.getElem_cons_zero, List.setIfInBounds_toArray, List.set_cons_zero, List.set_cons_succ])
          refine wpAnyX_take (i := 8) [] (v := ?_) rfl (by kernel_rfl) (by kernel_rfl) (by kernel_rfl) (by kernel_rfl) (fun _ _ _ h => h) (Or.inl ⟨by kernel_rfl, ?_⟩) (by assumption) ?_
          rotate_left 1
          · (intro w hSw; obtain ⟨m0, m1, m2, m3, m4, m5, m6, m7, m8, m9, m10, m11, m12, m13, m14, m15⟩ := hSw; go_simp; try (with_reducible rfl))
          (try simp only [Act.put, List.getElem_toArray, List.getElem_cons_succ, List.getElem_cons_zero, List.setIfInBounds_toArray, List.set_cons_zero, List.set_cons_succ])
          refine wpAnyX_take (i := 9) [] (v := ?_) rfl (by kernel_rfl) (by kernel_rfl) (by kernel_rfl) (by kernel_rfl) (fun _ _ _ h => h) (Or.inl ⟨by kernel_rfl, ?_⟩) (by assumption) ?_
          rotate_left 1
          · (intro w hSw; obtain ⟨m0, m1, m2, m3, m4, m5, m6, m7, m8, m9, m10, m11, m12, m13, m14, m15⟩ := hSw; go_simp; try (with_reducible rfl))
          (try simp only [Act.put, List.getElem_toArray, List.getElem_cons_succ, List.getElem_cons_zero, List.setIfInBounds_toArray, List.set_cons_zero, List.set_cons_succ])
          refine wpAnyX_take (i := 10) [] (v := ?_) rfl (by kernel_rfl) (by kernel_rfl) (by kernel_rfl) (by kernel_rfl) (fun _ _ _ h => h) (Or.inl ⟨by kernel_rfl, ?_⟩) (by assumption) ?_
          rotate_left 1
          · (intro w hSw; obtain ⟨m0, m1, m2, m3, m4, m5, m6, m7, m8, m9, m10, m11, m12, m13, m14, m15⟩ := hSw; go_simp; try (with_reducible rfl))
          (try simp only [Act.put, List.getElem_toArray, List.getElem_cons_succ, List.getElem_cons_zero, List.setIfInBounds_toArray, List.set_cons_zero, List.set_cons_succ])
          refine wpAnyX_named (fun a0 ha0 => ?_)
          refine wpAnyX_inv (fun l a w' => l.size = 19 ∧ (l.getD 0 false = true ∧ l.getD 1 false = true ∧ l.getD 2 false = true ∧ l.getD 3 false = true ∧ l.getD 4 false = true ∧ l.getD 5 false = true ∧ l.getD 6 false = true ∧ l.getD 7 false = true ∧ l.getD 8 false = true ∧ l.getD 9 false = true ∧ l.getD 10 false = true) ∧ Below wo.heap.size wo w' ∧ ∃ t11 t12 t13 t14 t15 t16 : Value, a = ((((((a0.put (some 45) t11).put (some 33) t12).put (some 46) t13).put (some 47) t14).put (some 7) t15).put (some 8) t16) ∧ (l.getD 11 false = true → t11 = (.tuple #[(.agg #[.bool true, .int .i64 xq, .int .i64 xq, .int .u16 fq, .int .u32 ft, .int .u16 fp, .int .u8 fl, .int .u16 mq, .int .u32 mt, .int .u16 mp, .int .u8 ml]), (.agg #[.int .u16 mq, .int .u32 mt, .int .u16 mp, .int .u8 ml])])) ∧ (l.getD 12 false = true → t12 = (.tuple #[(.agg #[.bool true, .int .i64 xq, .int .i64 xq, .int .u16 fq, .int .u32 ft, .int .u16 fp, .int .u8 fl, .int .u16 mq, .int .u32 mt, .int .u16 mp, .int .u8 ml]), (.agg #[.int .u16 mq, .int .u32 mt, .int .u16 mp, .int .u8 ml])])) ∧ (l.getD 13 false = true → t13 = (.agg #[.bool true, .int .i64 xq, .int .i64 xq, .int .u16 fq, .int .u32 ft, .int .u16 fp, .int .u8 fl, .int .u16 mq, .int .u32 mt, .int .u16 mp, .int .u8 ml])) ∧ (l.getD 14 false = true → t14 = (.agg #[.int .u16 mq, .int .u32 mt, .int .u16 mp, .int .u8 ml])) ∧ (l.getD 15 false = true → ∃ g, t15 = .pointer (some ⟨g, 0, none⟩) ∧ wo.heap.size ≤ g ∧ g < w'.heap.size ∧ (l.getD 17 false = false → Whole w' g 27 #[.bool false, .int .i64 0, .int .i64 0, .int .u16 0, .int .u32 0, .int .u16 0, .int .u8 0, .int .u16 0, .int .u32 0, .int .u16 0, .int .u8 0]) ∧ (l.getD 17 false = true → Whole w' g 27 #[.bool true, .int .i64 xq, .int .i64 xq, .int .u16 fq, .int .u32 ft, .int .u16 fp, .int .u8 fl, .int .u16 mq, .int .u32 mt, .int .u16 mp, .int .u8 ml])) ∧ (l.getD 17 false = true → l.getD 15 false = true) ∧ (l.getD 16 false = true → ∃ g, t16 = .pointer (some ⟨g, 0, none⟩) ∧ wo.heap.size ≤ g ∧ g < w'.heap.size ∧ (l.getD 18 false = false → Whole w' g 25 #[.int .u16 0, .int .u32 0, .int .u16 0, .int .u8 0]) ∧ (l.getD 18 false = true → Whole w' g 25 #[.int .u16 mq, .int .u32 mt, .int .u16 mp, .int .u8 ml])) ∧ (l.getD 18 false = true → l.getD 16 false = true) ∧ (l.getD 15 false = true → l.getD 16 false = true → ∀ g g', t15 = .pointer (some ⟨g, 0, none⟩) → t16 = .pointer (some ⟨g', 0, none⟩) → g ≠ g')) (fun l a w hI => K6.out _ hI.2.2.1) ?_ ?_ _ _ _ _ (by decide) ?_
          · intro l a w hI i hi
            obtain ⟨hsz, ⟨k0, k1, k2, k3, k4, k5, k6, k7, k8, k9, k10⟩, hB, t11, t12, t13, t14, t15, t16, rfl, c11, c12, c13, c14, c15, s15, c16, s16, n15_16⟩ := hI
            obtain ⟨hun, hin, hd⟩ := ready_split (n := 19) rfl hi
            clear hi
            rw [show List.range 19 = [0, 1, 2, 3, 4, 5, 6, 7, 8, 9, 10, 11, 12, 13, 14, 15, 16, 17, 18] from rfl] at hin
            simp only [List.mem_cons, List.not_mem_nil, or_false] at hin
            rcases hin with rfl | rfl | rfl | rfl | rfl | rfl | rfl | rfl | rfl | rfl | rfl | rfl | rfl | rfl | rfl | rfl | rfl | rfl | rfl
            · exact absurd (was_listed hun k0) id
            · exact absurd (was_listed hun k1) id
            · exact absurd (was_listed hun k2) id
            · exact absurd (was_listed hun k3) id
            · exact absurd (was_listed hun k4) id
            · exact absurd (was_listed hun k5) id
            · exact absurd (was_listed hun k6) id
            · exact absurd (was_listed hun k7) id
            · exact absurd (was_listed hun k8) id
            · exact absurd (was_listed hun k9) id
            · exact absurd (was_listed hun k10) id
            · have hd := waits_as (L := [0, 5, 10]) (by kernel_rfl) hd
              simp only [List.all_cons, List.all_nil, Bool.and_true, Bool.and_eq_true] at hd
              obtain ⟨e0, e1, e2⟩ := hd
              refine inv_op rfl (fun K hK => ?_)
              subst ha0
              (try simp only [Act.put, List.getElem_toArray, List.getElem_cons_succ, List.getElem_cons_zero, List.setIfInBounds_toArray, List.set_cons_zero, List.set_cons_succ])
              go_simp
              go_wp2_with (refine (CW.out _).mono ?_; rintro e v ⟨rfl, b1⟩)
              refine hK.out _ _ ?_
              exact ⟨by simp [hsz], ⟨listed_new k0, listed_new k1, listed_new k2, listed_new k3, listed_new k4, listed_new k5, listed_new k6, listed_new k7, listed_new k8, listed_new k9, listed_new k10⟩, (hB.trans (b1.mono hB.size)), (.tuple #[(.agg #[.bool true, .int .i64 xq, .int .i64 xq, .int .u16 fq, .int .u32 ft, .int .u16 fp, .int .u8 fl, .int .u16 mq, .int .u32 mt, .int .u16 mp, .int .u8 ml]), (.agg #[.int .u16 mq, .int .u32 mt, .int .u16 mp, .int .u8 ml])]), t12, t13, t14, t15, t16, by kernel_rfl, fun _ => rfl, fun h => c12 (listed_old h (by decide)), fun h => c13 (listed_old h (by decide)), fun h => c14 (listed_old h (by decide)), fun h => by obtain ⟨g, hg, h1, h2, h3, h4⟩ := c15 (listed_old h (by decide)); exact ⟨g, hg, h1, Nat.lt_of_lt_of_le h2 b1.size, fun h => (h3 (listed_same h (by decide))).below b1 (h3 (listed_same h (by decide))).lt, fun h => (h4 (listed_same h (by decide))).below b1 (h4 (listed_same h (by decide))).lt⟩, fun h => listed_new (s15 (listed_old h (by decide))), fun h => by obtain ⟨g, hg, h1, h2, h3, h4⟩ := c16 (listed_old h (by decide)); exact ⟨g, hg, h1, Nat.lt_of_lt_of_le h2 b1.size, fun h => (h3 (listed_same h (by decide))).below b1 (h3 (listed_same h (by decide))).lt, fun h => (h4 (listed_same h (by decide))).below b1 (h4 (listed_same h (by decide))).lt⟩, fun h => listed_new (s16 (listed_old h (by decide))), fun h h' => n15_16 (listed_old h (by decide)) (listed_old h' (by decide))⟩
            · have hd := waits_as (L := [11]) (by kernel_rfl) hd
              simp only [List.all_cons, List.all_nil, Bool.and_true, Bool.and_eq_true] at hd
              have e0 := hd
              obtain rfl := c11 e0
              refine inv_op rfl (fun K hK => ?_)
              subst ha0
              (try simp only [Act.put, List.getElem_toArray, List.getElem_cons_succ, List.getElem_cons_zero, List.setIfInBounds_toArray, List.set_cons_zero, List.set_cons_succ])
              go_simp
              refine hK.out _ _ ?_
              exact ⟨by simp [hsz], ⟨listed_new k0, listed_new k1, listed_new k2, listed_new k3, listed_new k4, listed_new k5, listed_new k6, listed_new k7, listed_new k8, listed_new k9, listed_new k10⟩, hB, (.tuple #[(.agg #[.bool true, .int .i64 xq, .int .i64 xq, .int .u16 fq, .int .u32 ft, .int .u16 fp, .int .u8 fl, .int .u16 mq, .int .u32 mt, .int .u16 mp, .int .u8 ml]), (.agg #[.int .u16 mq, .int .u32 mt, .int .u16 mp, .int .u8 ml])]), (.tuple #[(.agg #[.bool true, .int .i64 xq, .int .i64 xq, .int .u16 fq, .int .u32 ft, .int .u16 fp, .int .u8 fl, .int .u16 mq, .int .u32 mt, .int .u16 mp, .int .u8 ml]), (.agg #[.int .u16 mq, .int .u32 mt, .int .u16 mp, .int .u8 ml])]), t13, t14, t15, t16, by kernel_rfl, fun _ => rfl, fun _ => rfl, fun h => c13 (listed_old h (by decide)), fun h => c14 (listed_old h (by decide)), fun h => by obtain ⟨g, hg, h1, h2, h3, h4⟩ := c15 (listed_old h (by decide)); exact ⟨g, hg, h1, h2, fun h => h3 (listed_same h (by decide)), fun h => h4 (listed_same h (by decide))⟩, fun h => listed_new (s15 (listed_old h (by decide))), fun h => by obtain ⟨g, hg, h1, h2, h3, h4⟩ := c16 (listed_old h (by decide)); exact ⟨g, hg, h1, h2, fun h => h3 (listed_same h (by decide)), fun h => h4 (listed_same h (by decide))⟩, fun h => listed_new (s16 (listed_old h (by decide))), fun h h' => n15_16 (listed_old h (by decide)) (listed_old h' (by decide))⟩
            · have hd := waits_as (L := [12]) (by kernel_rfl) hd
              simp only [List.all_cons, List.all_nil, Bool.and_true, Bool.and_eq_true] at hd
              have e0 := hd
              obtain rfl := c12 e0
              refine inv_op rfl (fun K hK => ?_)
              subst ha0
              (try simp only [Act.put, List.getElem_toArray, List.getElem_cons_succ, List.getElem_cons_zero, List.setIfInBounds_toArray, List.set_cons_zero, List.set_cons_succ])
              go_simp
              refine hK.out _ _ ?_
              exact ⟨by simp [hsz], ⟨listed_new k0, listed_new k1, listed_new k2, listed_new k3, listed_new k4, listed_new k5, listed_new k6, listed_new k7, listed_new k8, listed_new k9, listed_new k10⟩, hB, t11, (.tuple #[(.agg #[.bool true, .int .i64 xq, .int .i64 xq, .int .u16 fq, .int .u32 ft, .int .u16 fp, .int .u8 fl, .int .u16 mq, .int .u32 mt, .int .u16 mp, .int .u8 ml]), (.agg #[.int .u16 mq, .int .u32 mt, .int .u16 mp, .int .u8 ml])]), (.agg #[.bool true, .int .i64 xq, .int .i64 xq, .int .u16 fq, .int .u32 ft, .int .u16 fp, .int .u8 fl, .int .u16 mq, .int .u32 mt, .int .u16 mp, .int .u8 ml]), t14, t15, t16, by kernel_rfl, fun h => c11 (listed_old h (by decide)), fun _ => rfl, fun _ => rfl, fun h => c14 (listed_old h (by decide)), fun h => by obtain ⟨g, hg, h1, h2, h3, h4⟩ := c15 (listed_old h (by decide)); exact ⟨g, hg, h1, h2, fun h => h3 (listed_same h (by decide)), fun h => h4 (listed_same h (by decide))⟩, fun h => listed_new (s15 (listed_old h (by decide))), fun h => by obtain ⟨g, hg, h1, h2, h3, h4⟩ := c16 (listed_old h (by decide)); exact ⟨g, hg, h1, h2, fun h => h3 (listed_same h (by decide)), fun h => h4 (listed_same h (by decide))⟩, fun h => listed_new (s16 (listed_old h (by decide))), fun h h' => n15_16 (listed_old h (by decide)) (listed_old h' (by decide))⟩
            · have hd := waits_as (L := [12]) (by kernel_rfl) hd
              simp only [List.all_cons, List.all_nil, Bool.and_true, Bool.and_eq_true] at hd
              have e0 := hd
              obtain rfl := c12 e0
              refine inv_op rfl (fun K hK => ?_)
              subst ha0
              (try simp only [Act.put, List.getElem_toArray, List.getElem_cons_succ, List.getElem_cons_zero, List.setIfInBounds_toArray, List.set_cons_zero, List.set_cons_succ])
              go_simp
              refine hK.out _ _ ?_
              exact ⟨by simp [hsz], ⟨listed_new k0, listed_new k1, listed_new k2, listed_new k3, listed_new k4, listed_new k5, listed_new k6, listed_new k7, listed_new k8, listed_new k9, listed_new k10⟩, hB, t11, (.tuple #[(.agg #[.bool true, .int .i64 xq, .int .i64 xq, .int .u16 fq, .int .u32 ft, .int .u16 fp, .int .u8 fl, .int .u16 mq, .int .u32 mt, .int .u16 mp, .int .u8 ml]), (.agg #[.int .u16 mq, .int .u32 mt, .int .u16 mp, .int .u8 ml])]), t13, (.agg #[.int .u16 mq, .int .u32 mt, .int .u16 mp, .int .u8 ml]), t15, t16, by kernel_rfl, fun h => c11 (listed_old h (by decide)), fun _ => rfl, fun h => c13 (listed_old h (by decide)), fun _ => rfl, fun h => by obtain ⟨g, hg, h1, h2, h3, h4⟩ := c15 (listed_old h (by decide)); exact ⟨g, hg, h1, h2, fun h => h3 (listed_same h (by decide)), fun h => h4 (listed_same h (by decide))⟩, fun h => listed_new (s15 (listed_old h (by decide))), fun h => by obtain ⟨g, hg, h1, h2, h3, h4⟩ := c16 (listed_old h (by decide)); exact ⟨g, hg, h1, h2, fun h => h3 (listed_same h (by decide)), fun h => h4 (listed_same h (by decide))⟩, fun h => listed_new (s16 (listed_old h (by decide))), fun h h' => n15_16 (listed_old h (by decide)) (listed_old h' (by decide))⟩
            · have hd := waits_as (L := []) (by kernel_rfl) hd
              simp only [List.all_cons, List.all_nil, Bool.and_true, Bool.and_eq_true] at hd
              refine inv_op rfl (fun K hK => ?_)
              subst ha0
              (try simp only [Act.put, List.getElem_toArray, List.getElem_cons_succ, List.getElem_cons_zero, List.setIfInBounds_toArray, List.set_cons_zero, List.set_cons_succ])
              go_simp
              refine hK.out _ _ ?_
              exact ⟨by simp [hsz], ⟨listed_new k0, listed_new k1, listed_new k2, listed_new k3, listed_new k4, listed_new k5, listed_new k6, listed_new k7, listed_new k8, listed_new k9, listed_new k10⟩, (hB.alloc hB.size (.cells #[.bool false, .int .i64 0, .int .i64 0, .int .u16 0, .int .u32 0, .int .u16 0, .int .u8 0, .int .u16 0, .int .u32 0, .int .u16 0, .int .u8 0] 27)), t11, t12, t13, t14, (.pointer (some ⟨w.heap.size, 0, none⟩)), t16, by kernel_rfl, fun h => c11 (listed_old h (by decide)), fun h => c12 (listed_old h (by decide)), fun h => c13 (listed_old h (by decide)), fun h => c14 (listed_old h (by decide)), fun _ => ⟨_, rfl, hB.size, by simp, fun _ => Whole.new _ _ _, fun h => absurd (was_listed hun (s15 (listed_old h (by decide)))) id⟩, fun h => listed_new (s15 (listed_old h (by decide))), fun h => by obtain ⟨g, hg, h1, h2, h3, h4⟩ := c16 (listed_old h (by decide)); exact ⟨g, hg, h1, (by have := h2; simp; omega), fun h => (h3 (listed_same h (by decide))).alloc _, fun h => (h4 (listed_same h (by decide))).alloc _⟩, fun h => listed_new (s16 (listed_old h (by decide))), fun _ h g g' hg hg' => by obtain ⟨q1, q2, _, q3, _⟩ := c16 (listed_old h (by decide)); rw [hg'] at q2; cases q2; cases hg; omega⟩
            · have hd := waits_as (L := []) (by kernel_rfl) hd
              simp only [List.all_cons, List.all_nil, Bool.and_true, Bool.and_eq_true] at hd
              refine inv_op rfl (fun K hK => ?_)
              subst ha0
              (try simp only [Act.put, List.getElem_toArray, List.getElem_cons_succ, List.getElem_cons_zero, List.setIfInBounds_toArray, List.set_cons_zero, List.set_cons_succ])
              go_simp
              refine hK.out _ _ ?_
              exact ⟨by simp [hsz], ⟨listed_new k0, listed_new k1, listed_new k2, listed_new k3, listed_new k4, listed_new k5, listed_new k6, listed_new k7, listed_new k8, listed_new k9, listed_new k10⟩, (hB.alloc hB.size (.cells #[.int .u16 0, .int .u32 0, .int .u16 0, .int .u8 0] 25)), t11, t12, t13, t14, t15, (.pointer (some ⟨w.heap.size, 0, none⟩)), by kernel_rfl, fun h => c11 (listed_old h (by decide)), fun h => c12 (listed_old h (by decide)), fun h => c13 (listed_old h (by decide)), fun h => c14 (listed_old h (by decide)), fun h => by obtain ⟨g, hg, h1, h2, h3, h4⟩ := c15 (listed_old h (by decide)); exact ⟨g, hg, h1, (by have := h2; simp; omega), fun h => (h3 (listed_same h (by decide))).alloc _, fun h => (h4 (listed_same h (by decide))).alloc _⟩, fun h => listed_new (s15 (listed_old h (by decide))), fun _ => ⟨_, rfl, hB.size, by simp, fun _ => Whole.new _ _ _, fun h => absurd (was_listed hun (s16 (listed_old h (by decide)))) id⟩, fun h => listed_new (s16 (listed_old h (by decide))), fun h _ g g' hg hg' => by obtain ⟨q1, q2, _, q3, _⟩ := c15 (listed_old h (by decide)); rw [hg] at q2; cases q2; cases hg'; omega⟩
            · have hd := waits_as (L := [15, 13, 11, 0, 1, 2, 3, 4, 5, 6, 7, 8, 9, 10, 11, 12, 13, 15, 16]) (by kernel_rfl) hd
              simp only [List.all_cons, List.all_nil, Bool.and_true, Bool.and_eq_true] at hd
              obtain ⟨e0, e1, e2, e3, e4, e5, e6, e7, e8, e9, e10, e11, e12, e13, e14, e15, e16, e17, e18⟩ := hd
              obtain ⟨g15, rfl, lo15, lt15, z15, y15⟩ := c15 e0
              obtain rfl := c13 e1
              obtain rfl := c11 e2
              obtain rfl := c12 e15
              obtain ⟨g16, rfl, lo16, lt16, z16, y16⟩ := c16 e18
              refine inv_op rfl (fun K hK => ?_)
              subst ha0
              (try simp only [Act.put, List.getElem_toArray, List.getElem_cons_succ, List.getElem_cons_zero, List.setIfInBounds_toArray, List.set_cons_zero, List.set_cons_succ])
              have q := z15 (unlisted_false hun)
              have zz0 := q.cell 0
              have zz1 := q.cell 1
              have zz2 := q.cell 2
              have zz3 := q.cell 3
              have zz4 := q.cell 4
              have zz5 := q.cell 5
              have zz6 := q.cell 6
              have zz7 := q.cell 7
              have zz8 := q.cell 8
              have zz9 := q.cell 9
              have zz10 := q.cell 10
              have yy0 := q.free 0
              have yy1 := q.free 1
              have yy2 := q.free 2
              have yy3 := q.free 3
              have yy4 := q.free 4
              have yy5 := q.free 5
              have yy6 := q.free 6
              have yy7 := q.free 7
              have yy8 := q.free 8
              have yy9 := q.free 9
              have yy10 := q.free 10
              go_simp
              refine hK.out _ _ ?_
              exact ⟨by simp [hsz], ⟨listed_new k0, listed_new k1, listed_new k2, listed_new k3, listed_new k4, listed_new k5, listed_new k6, listed_new k7, listed_new k8, listed_new k9, listed_new k10⟩, (eleven_set hB lo15 (.bool true) (.int .i64 xq) (.int .i64 xq) (.int .u16 fq) (.int .u32 ft) (.int .u16 fp) (.int .u8 fl) (.int .u16 mq) (.int .u32 mt) (.int .u16 mp) (.int .u8 ml)), (.tuple #[(.agg #[.bool true, .int .i64 xq, .int .i64 xq, .int .u16 fq, .int .u32 ft, .int .u16 fp, .int .u8 fl, .int .u16 mq, .int .u32 mt, .int .u16 mp, .int .u8 ml]), (.agg #[.int .u16 mq, .int .u32 mt, .int .u16 mp, .int .u8 ml])]), (.tuple #[(.agg #[.bool true, .int .i64 xq, .int .i64 xq, .int .u16 fq, .int .u32 ft, .int .u16 fp, .int .u8 fl, .int .u16 mq, .int .u32 mt, .int .u16 mp, .int .u8 ml]), (.agg #[.int .u16 mq, .int .u32 mt, .int .u16 mp, .int .u8 ml])]), (.agg #[.bool true, .int .i64 xq, .int .i64 xq, .int .u16 fq, .int .u32 ft, .int .u16 fp, .int .u8 fl, .int .u16 mq, .int .u32 mt, .int .u16 mp, .int .u8 ml]), t14, (.pointer (some ⟨g15, 0, none⟩)), (.pointer (some ⟨g16, 0, none⟩)), by kernel_rfl, fun _ => rfl, fun _ => rfl, fun _ => rfl, fun h => c14 (listed_old h (by decide)), fun _ => ⟨g15, rfl, lo15, (by simpa using lt15), fun h => absurd ((listed_now hun).symm.trans h) (by decide), fun _ => (Whole.eleven q (.bool true) (.int .i64 xq) (.int .i64 xq) (.int .u16 fq) (.int .u32 ft) (.int .u16 fp) (.int .u8 fl) (.int .u16 mq) (.int .u32 mt) (.int .u16 mp) (.int .u8 ml))⟩, fun _ => listed_new e0, fun _ => ⟨g16, rfl, lo16, (by simpa using lt16), fun h => Whole.eleven_far (z16 (listed_same h (by decide))) ((Ne.symm (n15_16 e0 e18 _ _ rfl rfl))) (.bool true) (.int .i64 xq) (.int .i64 xq) (.int .u16 fq) (.int .u32 ft) (.int .u16 fp) (.int .u8 fl) (.int .u16 mq) (.int .u32 mt) (.int .u16 mp) (.int .u8 ml), fun h => Whole.eleven_far (y16 (listed_same h (by decide))) ((Ne.symm (n15_16 e0 e18 _ _ rfl rfl))) (.bool true) (.int .i64 xq) (.int .i64 xq) (.int .u16 fq) (.int .u32 ft) (.int .u16 fp) (.int .u8 fl) (.int .u16 mq) (.int .u32 mt) (.int .u16 mp) (.int .u8 ml)⟩, fun h => listed_new (s16 (listed_old h (by decide))), fun h h' => n15_16 (listed_old h (by decide)) (listed_old h' (by decide))⟩
            · have hd := waits_as (L := [16, 14, 17, 0, 1, 2, 3, 4, 5, 6, 7, 8, 9, 10, 11, 12, 13, 14, 15, 16, 17]) (by kernel_rfl) hd
              simp only [List.all_cons, List.all_nil, Bool.and_true, Bool.and_eq_true] at hd
              obtain ⟨e0, e1, e2, e3, e4, e5, e6, e7, e8, e9, e10, e11, e12, e13, e14, e15, e16, e17, e18, e19, e20⟩ := hd
              obtain ⟨g16, rfl, lo16, lt16, z16, y16⟩ := c16 e0
              obtain rfl := c14 e1
              obtain rfl := c11 e14
              obtain rfl := c12 e15
              obtain rfl := c13 e16
              obtain ⟨g15, rfl, lo15, lt15, z15, y15⟩ := c15 e18
              refine inv_op rfl (fun K hK => ?_)
              subst ha0
              (try simp only [Act.put, List.getElem_toArray, List.getElem_cons_succ, List.getElem_cons_zero, List.setIfInBounds_toArray, List.set_cons_zero, List.set_cons_succ])
              have q := z16 (unlisted_false hun)
              have zz0 := q.cell 0
              have zz1 := q.cell 1
              have zz2 := q.cell 2
              have zz3 := q.cell 3
              have yy0 := q.free 0
              have yy1 := q.free 1
              have yy2 := q.free 2
              have yy3 := q.free 3
              go_simp
              refine hK.out _ _ ?_
              exact ⟨by simp [hsz], ⟨listed_new k0, listed_new k1, listed_new k2, listed_new k3, listed_new k4, listed_new k5, listed_new k6, listed_new k7, listed_new k8, listed_new k9, listed_new k10⟩, (four_set hB lo16 (.int .u16 mq) (.int .u32 mt) (.int .u16 mp) (.int .u8 ml)), (.tuple #[(.agg #[.bool true, .int .i64 xq, .int .i64 xq, .int .u16 fq, .int .u32 ft, .int .u16 fp, .int .u8 fl, .int .u16 mq, .int .u32 mt, .int .u16 mp, .int .u8 ml]), (.agg #[.int .u16 mq, .int .u32 mt, .int .u16 mp, .int .u8 ml])]), (.tuple #[(.agg #[.bool true, .int .i64 xq, .int .i64 xq, .int .u16 fq, .int .u32 ft, .int .u16 fp, .int .u8 fl, .int .u16 mq, .int .u32 mt, .int .u16 mp, .int .u8 ml]), (.agg #[.int .u16 mq, .int .u32 mt, .int .u16 mp, .int .u8 ml])]), (.agg #[.bool true, .int .i64 xq, .int .i64 xq, .int .u16 fq, .int .u32 ft, .int .u16 fp, .int .u8 fl, .int .u16 mq, .int .u32 mt, .int .u16 mp, .int .u8 ml]), (.agg #[.int .u16 mq, .int .u32 mt, .int .u16 mp, .int .u8 ml]), (.pointer (some ⟨g15, 0, none⟩)), (.pointer (some ⟨g16, 0, none⟩)), by kernel_rfl, fun _ => rfl, fun _ => rfl, fun _ => rfl, fun _ => rfl, fun _ => ⟨g15, rfl, lo15, (by simpa using lt15), fun h => Whole.four_far (z15 (listed_same h (by decide))) ((n15_16 e18 e0 _ _ rfl rfl)) (.int .u16 mq) (.int .u32 mt) (.int .u16 mp) (.int .u8 ml), fun h => Whole.four_far (y15 (listed_same h (by decide))) ((n15_16 e18 e0 _ _ rfl rfl)) (.int .u16 mq) (.int .u32 mt) (.int .u16 mp) (.int .u8 ml)⟩, fun h => listed_new (s15 (listed_old h (by decide))), fun _ => ⟨g16, rfl, lo16, (by simpa using lt16), fun h => absurd ((listed_now hun).symm.trans h) (by decide), fun _ => (Whole.four q (.int .u16 mq) (.int .u32 mt) (.int .u16 mp) (.int .u8 ml))⟩, fun _ => listed_new e0, fun h h' => n15_16 (listed_old h (by decide)) (listed_old h' (by decide))⟩
          · intro l a w hI hr
            obtain ⟨hsz, ⟨k0, k1, k2, k3, k4, k5, k6, k7, k8, k9, k10⟩, hB, t11, t12, t13, t14, t15, t16, rfl, c11, c12, c13, c14, c15, s15, c16, s16, n15_16⟩ := hI
            have k11 := done_listed (i := 11) (n := 19) hsz (by decide) rfl hr (by rw [show waitsFor _ _ 11 = [0, 5, 10] from by kernel_rfl]; simp only [List.all_cons, List.all_nil, Bool.and_true, Bool.and_eq_true]; exact ⟨k0, k5, k10⟩)
            have k12 := done_listed (i := 12) (n := 19) hsz (by decide) rfl hr (by rw [show waitsFor _ _ 12 = [11] from by kernel_rfl]; simp only [List.all_cons, List.all_nil, Bool.and_true, Bool.and_eq_true]; exact k11)
            have k13 := done_listed (i := 13) (n := 19) hsz (by decide) rfl hr (by rw [show waitsFor _ _ 13 = [12] from by kernel_rfl]; simp only [List.all_cons, List.all_nil, Bool.and_true, Bool.and_eq_true]; exact k12)
            have k14 := done_listed (i := 14) (n := 19) hsz (by decide) rfl hr (by rw [show waitsFor _ _ 14 = [12] from by kernel_rfl]; simp only [List.all_cons, List.all_nil, Bool.and_true, Bool.and_eq_true]; exact k12)
            have k15 := done_listed (i := 15) (n := 19) hsz (by decide) rfl hr (by rw [show waitsFor _ _ 15 = [] from by kernel_rfl]; rfl)
            have k16 := done_listed (i := 16) (n := 19) hsz (by decide) rfl hr (by rw [show waitsFor _ _ 16 = [] from by kernel_rfl]; rfl)
            have k17 := done_listed (i := 17) (n := 19) hsz (by decide) rfl hr (by rw [show waitsFor _ _ 17 = [15, 13, 11, 0, 1, 2, 3, 4, 5, 6, 7, 8, 9, 10, 11, 12, 13, 15, 16] from by kernel_rfl]; simp only [List.all_cons, List.all_nil, Bool.and_true, Bool.and_eq_true]; exact ⟨k15, k13, k11, k0, k1, k2, k3, k4, k5, k6, k7, k8, k9, k10, k11, k12, k13, k15, k16⟩)
            have k18 := done_listed (i := 18) (n := 19) hsz (by decide) rfl hr (by rw [show waitsFor _ _ 18 = [16, 14, 17, 0, 1, 2, 3, 4, 5, 6, 7, 8, 9, 10, 11, 12, 13, 14, 15, 16, 17] from by kernel_rfl]; simp only [List.all_cons, List.all_nil, Bool.and_true, Bool.and_eq_true]; exact ⟨k16, k14, k17, k0, k1, k2, k3, k4, k5, k6, k7, k8, k9, k10, k11, k12, k13, k14, k15, k16, k17⟩)
            obtain rfl := c11 k11
            obtain rfl := c12 k12
            obtain rfl := c13 k13
            obtain rfl := c14 k14
            obtain ⟨gt, rfl, lot, _, _, Wt⟩ := c15 k15
            replace Wt := Wt k17
            obtain ⟨gn, rfl, lon, _, _, Wn⟩ := c16 k16
            replace Wn := Wn k18
            have netn := n15_16 k15 k16 _ _ rfl rfl
            clear hr k0 k1 k2 k3 k4 k5 k6 k7 k8 k9 k10 k11 k12 k13 k14 k15 k16 k17 k18 s15 s16 n15_16 c11 c12 c13 c14 c15 c16
            subst ha0
            (try simp only [Act.put, List.getElem_toArray, List.getElem_cons_succ, List.getElem_cons_zero, List.setIfInBounds_toArray, List.set_cons_zero, List.set_cons_succ])
            go_wp2_with fail
            go_meet
            exact ⟨_, _, rfl, rfl, lot, lon, netn, Wt, Wn, hB⟩
          · refine ⟨rfl, ⟨rfl, rfl, rfl, rfl, rfl, rfl, rfl, rfl, rfl, rfl, rfl⟩, (Below.refl _ _).drew, a0.tmps.getD 45 undef, a0.tmps.getD 33 undef, a0.tmps.getD 46 undef, a0.tmps.getD 47 undef, a0.tmps.getD 7 undef, a0.tmps.getD 8 undef, ?_, fun h => absurd h (by decide), fun h => absurd h (by decide), fun h => absurd h (by decide), fun h => absurd h (by decide), fun h => absurd h (by decide), fun h => absurd h (by decide), fun h => absurd h (by decide), fun h => absurd h (by decide), fun h => absurd h (by decide)⟩
            subst ha0
            kernel_rfl
        case rest =>
          obtain ⟨g1_1, g2_1, rfl, rfl, lot1, lon1, netn, Tt, Tn, bq⟩ := hcut
          obtain ⟨wc1, rfl⟩ : ∃ wd : World, wd = wc := ⟨_, rfl⟩
          have Ssc1 := (Ps.out).below bq Ps.out.lt
          have Stc1 := Tt
          have Snc1 := Tn
          have HBc1 := Lib.hid (PB.out.trans (bq.mono PB.out.size))
          clear K6 bq Ps Tt Tn PB
          have lsc1 := Ssc1.lt
          have ltc1 := Stc1.lt
          have lnc1 := Snc1.lt
          clear CW
          have sc1_0 := Ssc1.cell 0
          have fsc1_0 := Ssc1.free 0
          have sc1_1 := Ssc1.cell 1
          have fsc1_1 := Ssc1.free 1
          have sc1_2 := Ssc1.cell 2
          have fsc1_2 := Ssc1.free 2
          have sc1_3 := Ssc1.cell 3
          have fsc1_3 := Ssc1.free 3
          have sc1_4 := Ssc1.cell 4
          have fsc1_4 := Ssc1.free 4
          have sc1_5 := Ssc1.cell 5
          have fsc1_5 := Ssc1.free 5
          have sc1_6 := Ssc1.cell 6
          have fsc1_6 := Ssc1.free 6
          have sc1_7 := Ssc1.cell 7
          have fsc1_7 := Ssc1.free 7
          have sc1_8 := Ssc1.cell 8
          have fsc1_8 := Ssc1.free 8
          have sc1_9 := Ssc1.cell 9
          have fsc1_9 := Ssc1.free 9
          have sc1_10 := Ssc1.cell 10
          have fsc1_10 := Ssc1.free 10
          have tc1_0 := Stc1.cell 0
          have tc1_1 := Stc1.cell 1
          have tc1_2 := Stc1.cell 2
          have tc1_3 := Stc1.cell 3
          have tc1_4 := Stc1.cell 4
          have tc1_5 := Stc1.cell 5
          have tc1_6 := Stc1.cell 6
          have tc1_7 := Stc1.cell 7
          have tc1_8 := Stc1.cell 8
          have tc1_9 := Stc1.cell 9
          have tc1_10 := Stc1.cell 10
          have nc1_0 := Snc1.cell 0
          have nc1_1 := Snc1.cell 1
          have nc1_2 := Snc1.cell 2
          have nc1_3 := Snc1.cell 3
          replace Ssc1 := Lib.hid Ssc1
          replace Stc1 := Lib.hid Stc1
          replace Snc1 := Lib.hid Snc1
          have r0 : wc1.cell? ⟨g, o + k * 6, none⟩ = some (.int .u16 xq) := HAT.out _ (HBc1.out) 0 _ rfl
          have r1 : wc1.cell? ⟨g, o + k * 6 + 1, none⟩ = some (.int .u32 xt) := HAT.out _ (HBc1.out) 1 _ rfl
          have r2 : wc1.cell? ⟨g, o + k * 6 + 2, none⟩ = some (.int .u16 xp) := HAT.out _ (HBc1.out) 2 _ rfl
          have r3 : wc1.cell? ⟨g, o + k * 6 + 3, none⟩ = some (.int .u8 xl) := HAT.out _ (HBc1.out) 3 _ rfl
          have r4 : wc1.cell? ⟨g, o + k * 6 + 4, none⟩ = some (.int .u32 st) := HAT.out _ (HBc1.out) 4 _ rfl
          have r5 : wc1.cell? ⟨g, o + k * 6 + 5, none⟩ = some (.slice A2 m c2) := HAT.out _ (HBc1.out) 5 _ rfl
          have hgo2 : g < wc1.heap.size := by have := HBc1.out.size; omega
          go_wp2_with fail
          obtain ⟨wf2, hwf⟩ : ∃ z, z = (((((((((((wc1.setCell ⟨gs, 0, none⟩ (.bool true)).setCell ⟨gs, 1, none⟩ (.int .i64 xq)).setCell ⟨gs, 2, none⟩ (.int .i64 xq)).setCell ⟨gs, 3, none⟩ (.int .u16 fq)).setCell ⟨gs, 4, none⟩ (.int .u32 ft)).setCell ⟨gs, 5, none⟩ (.int .u16 fp)).setCell ⟨gs, 6, none⟩ (.int .u8 fl)).setCell ⟨gs, 7, none⟩ (.int .u16 mq)).setCell ⟨gs, 8, none⟩ (.int .u32 mt)).setCell ⟨gs, 9, none⟩ (.int .u16 mp)).setCell ⟨gs, 10, none⟩ (.int .u8 ml)) := ⟨_, rfl⟩
          have Ssf2 := (Whole.eleven (Ssc1.out) (.bool true) (.int .i64 xq) (.int .i64 xq) (.int .u16 fq) (.int .u32 ft) (.int .u16 fp) (.int .u8 fl) (.int .u16 mq) (.int .u32 mt) (.int .u16 mp) (.int .u8 ml))
          have Stf2 := (Whole.eleven_far (Stc1.out) (show g1_1 ≠ gs from by omega) (.bool true) (.int .i64 xq) (.int .i64 xq) (.int .u16 fq) (.int .u32 ft) (.int .u16 fp) (.int .u8 fl) (.int .u16 mq) (.int .u32 mt) (.int .u16 mp) (.int .u8 ml))
          have Snf2 := (Whole.eleven_far (Snc1.out) (show g2_1 ≠ gs from by omega) (.bool true) (.int .i64 xq) (.int .i64 xq) (.int .u16 fq) (.int .u32 ft) (.int .u16 fp) (.int .u8 fl) (.int .u16 mq) (.int .u32 mt) (.int .u16 mp) (.int .u8 ml))
          have HBf2 := (eleven_set (HBc1.out) (show w.heap.size ≤ gs from by omega) (.bool true) (.int .i64 xq) (.int .i64 xq) (.int .u16 fq) (.int .u32 ft) (.int .u16 fp) (.int .u8 fl) (.int .u16 mq) (.int .u32 mt) (.int .u16 mp) (.int .u8 ml))
          rw [← hwf] at Ssf2 Stf2 Snf2 HBf2 ⊢
          clear hwf
          clear sc1_0 fsc1_0 sc1_1 fsc1_1 sc1_2 fsc1_2 sc1_3 fsc1_3 sc1_4 fsc1_4 sc1_5 fsc1_5 sc1_6 fsc1_6 sc1_7 fsc1_7 sc1_8 fsc1_8 sc1_9 fsc1_9 sc1_10 fsc1_10 tc1_0 tc1_1 tc1_2 tc1_3 tc1_4 tc1_5 tc1_6 tc1_7 tc1_8 tc1_9 tc1_10 nc1_0 nc1_1 nc1_2 nc1_3 Ssc1 Stc1 Snc1 HBc1
          have lsf2 := Ssf2.lt
          have ltf2 := Stf2.lt
          have lnf2 := Snf2.lt
          replace HBf2 := Lib.hid HBf2
          replace Ssf2 := Lib.hid Ssf2
          replace Stf2 := Lib.hid Stf2
          replace Snf2 := Lib.hid Snf2
          clear r0 r1 r2 r3 r4 r5 hgo hgo2 hb0
          go_loopw [5, 9] (fun v i wr => ∃ (j : Nat) (s : Mst) (want : Int), j ≤ m ∧ v = .int .u16 want ∧ i = .int .i64 (j : Int) ∧ Hid (Whole wr gs 27 s.cells) ∧ Hid (Ord s xq j want ∧ 0 ≤ want ∧ want < 65536) ∧ Below w.heap.size w wr) (fun _ i _ => m - (intOf i).toNat)
          case atStart => exact ⟨0, ⟨true, xq, xq, ⟨fq, ft, fp, fl⟩, ⟨mq, mt, mp, ml⟩⟩, w1', Nat.zero_le _, rfl, rfl, Ssf2, Lib.hid ⟨OS.out, HW1.out⟩, HBf2.out⟩
          case round =>
            clear Ssf2 Stf2 Snf2 HBf2 OS HW1 E0 HF
            obtain ⟨j, u, want', hj, rfl, rfl, HW, HO, hb⟩ := hrel
            obtain ⟨wq2, rfl⟩ : ∃ wq2 : World, wq2 = wr := ⟨_, rfl⟩
            have HB := Lib.hid hb
            have hsz2 := hb.size
            have hgl2 := HW.out.lt
            clear hb
            have hgo : g < wq2.heap.size := by omega
            have r0 : wq2.cell? ⟨g, o + k * 6, none⟩ = some (.int .u16 xq) := HAT.out _ (HB.out) 0 _ rfl
            have r1 : wq2.cell? ⟨g, o + k * 6 + 1, none⟩ = some (.int .u32 xt) := HAT.out _ (HB.out) 1 _ rfl
            have r2 : wq2.cell? ⟨g, o + k * 6 + 2, none⟩ = some (.int .u16 xp) := HAT.out _ (HB.out) 2 _ rfl
            have r3 : wq2.cell? ⟨g, o + k * 6 + 3, none⟩ = some (.int .u8 xl) := HAT.out _ (HB.out) 3 _ rfl
            have r4 : wq2.cell? ⟨g, o + k * 6 + 4, none⟩ = some (.int .u32 st) := HAT.out _ (HB.out) 4 _ rfl
            have r5 : wq2.cell? ⟨g, o + k * 6 + 5, none⟩ = some (.slice A2 m c2) := HAT.out _ (HB.out) 5 _ rfl
            by_cases hlt2 : j < m
            · obtain ⟨b, hb⟩ : ∃ b, gn[j]? = some b := ⟨gn[j]'(by rw [HM.out]; exact hlt2), by simp⟩
              obtain ⟨g2, o2, rfl, hg2, hat2⟩ := one_at HGR.out (by omega)
              have y0 := hat2 _ HB.out j b hb
              clear hat2 hb
              have hgo3 : g2 < wq2.heap.size := by omega
              have hj1 : (0 : Int) ≤ (j : Int) := by omega
              have hj2 : (j : Int) < (m : Int) := by omega
              obtain ⟨yq, hyq⟩ : ∃ y, (xq + j + 1) % 65536 = y := ⟨_, rfl⟩
              obtain ⟨yt, hyt⟩ : ∃ y, (xt + (j : Int) * 9) % 4294967296 = y := ⟨_, rfl⟩
              have E1 : IntKind.u16.wrap (xq + ((j : Int) + 1)) = yq := by rw [wrap_u16]; omega
              have hyf : (⟨yq, yt, xp, xl⟩ : Mn).Fit := ⟨by dsimp only; omega, by dsimp only; omega, HXF.out.pic, HXF.out.tl0⟩
              have huf : u.Fit 1000000000000000 := by have := HO.out.1.fit HXF.out.seq (by omega); exact ⟨by have := this.high; omega, this.off, this.out⟩
              have E2 := hyt
              cases b with
              | true =>
                have CD := fun w => mdrop_any u ⟨yq, yt, xp, xl⟩ true huf hyf w
                have OD := ord_drop (x := ⟨yq, yt, xp, xl⟩) HO.out.1 hyq.symm true
                obtain ⟨d, hd⟩ : ∃ d, u.dropS ⟨yq, yt, xp, xl⟩ true = d := ⟨_, rfl⟩
                rw [hd] at CD OD
                have HO2 := Lib.hid (show Ord d xq ((j + 1 : Nat) : Int) want' ∧ 0 ≤ want' ∧ want' < 65536 from ⟨by rw [show (((j + 1 : Nat) : Int)) = (j : Int) + 1 by omega]; exact OD, HO.out.2⟩)
                clear hd OD HO hyf huf hyq hyt
                obtain ⟨don, dh, dc, ⟨doq, dot, dop, dol⟩, ⟨duq, dut, dup, dul⟩⟩ := d
                obtain ⟨son', sh', sc', ⟨aq, at', ap, al⟩, ⟨bq, bt, bp, bl⟩⟩ := u
                dsimp only [Mst.cells, Mn.cells] at *
                replace CD := Lib.hid CD
                have c0 := HW.out.cell 0
                have c1 := HW.out.cell 1
                have c2 := HW.out.cell 2
                have c3 := HW.out.cell 3
                have c4 := HW.out.cell 4
                have c5 := HW.out.cell 5
                have c6 := HW.out.cell 6
                have c7 := HW.out.cell 7
                have c8 := HW.out.cell 8
                have c9 := HW.out.cell 9
                have c10 := HW.out.cell 10
                have e0 := HW.out.free 0
                have e1 := HW.out.free 1
                have e2 := HW.out.free 2
                have e3 := HW.out.free 3
                have e4 := HW.out.free 4
                have e5 := HW.out.free 5
                have e6 := HW.out.free 6
                have e7 := HW.out.free 7
                have e8 := HW.out.free 8
                have e9 := HW.out.free 9
                have e10 := HW.out.free 10
                go_wp2_with fail
                refine (CD.out _).mono ?_
                rintro e w31 ⟨rfl, b31⟩
                have Nx : Whole (wq2.alloc (.cells #[.int .u16 yq, .int .u32 yt, .int .u16 xp, .int .u8 xl] 25)) (wq2.heap.size) 25 #[.int .u16 yq, .int .u32 yt, .int .u16 xp, .int .u8 xl] := by have := Whole.new wq2 25 #[.int .u16 yq, .int .u32 yt, .int .u16 xp, .int .u8 xl]; first | with_reducible exact this | simpa using this
                have Ss31 := ((HW.out.alloc (.cells #[.int .u16 yq, .int .u32 yt, .int .u16 xp, .int .u8 xl] 25))).below b31 (by have := ((HW.out.alloc (.cells #[.int .u16 yq, .int .u32 yt, .int .u16 xp, .int .u8 xl] 25))).lt; first | with_reducible exact this | simpa using this)
                have Sx31 := (Nx).below b31 (by have := (Nx).lt; first | with_reducible exact this | simpa using this)
                have HB31 := Lib.hid (((HB.out.alloc (HB.out).size (.cells #[.int .u16 yq, .int .u32 yt, .int .u16 xp, .int .u8 xl] 25))).trans (b31.mono ((HB.out.alloc (HB.out).size (.cells #[.int .u16 yq, .int .u32 yt, .int .u16 xp, .int .u8 xl] 25))).size))
                have ls31 := Ss31.lt
                have lx31 := Sx31.lt
                clear b31 c0 c1 c2 c3 c4 c5 c6 c7 c8 c9 c10 e0 e1 e2 e3 e4 e5 e6 e7 e8 e9 e10 HW Nx HB CD y0 r0 r1 r2 r3 r4 r5
                have s31_0 := Ss31.cell 0
                have fs31_0 := Ss31.free 0
                have s31_1 := Ss31.cell 1
                have fs31_1 := Ss31.free 1
                have s31_2 := Ss31.cell 2
                have fs31_2 := Ss31.free 2
                have s31_3 := Ss31.cell 3
                have fs31_3 := Ss31.free 3
                have s31_4 := Ss31.cell 4
                have fs31_4 := Ss31.free 4
                have s31_5 := Ss31.cell 5
                have fs31_5 := Ss31.free 5
                have s31_6 := Ss31.cell 6
                have fs31_6 := Ss31.free 6
                have s31_7 := Ss31.cell 7
                have fs31_7 := Ss31.free 7
                have s31_8 := Ss31.cell 8
                have fs31_8 := Ss31.free 8
                have s31_9 := Ss31.cell 9
                have fs31_9 := Ss31.free 9
                have s31_10 := Ss31.cell 10
                have fs31_10 := Ss31.free 10
                replace Ss31 := Lib.hid Ss31
                replace Sx31 := Lib.hid Sx31
                go_wp2
                go_roundw
                case rel => exact ⟨j + 1, ⟨don, dh, dc, ⟨doq, dot, dop, dol⟩, ⟨duq, dut, dup, dul⟩⟩, want', by omega, rfl, by go_num, Lib.hid ((Whole.eleven (Ss31.out) (.bool don) (.int .i64 dh) (.int .i64 dc) (.int .u16 doq) (.int .u32 dot) (.int .u16 dop) (.int .u8 dol) (.int .u16 duq) (.int .u32 dut) (.int .u16 dup) (.int .u8 dul))), HO2, (eleven_set (HB31.out) (show w.heap.size ≤ gs from by omega) (.bool don) (.int .i64 dh) (.int .i64 dc) (.int .u16 doq) (.int .u32 dot) (.int .u16 dop) (.int .u8 dol) (.int .u16 duq) (.int .u32 dut) (.int .u16 dup) (.int .u8 dul))⟩
                case measure => simp [intOf]; omega
              | false =>
                have CE := fun w => msend_any u ⟨yq, yt, xp, xl⟩ huf hyf w
                have OD := ord_send (x := ⟨yq, yt, xp, xl⟩) HO.out.1 HO.out.2 hyq.symm
                obtain ⟨d, hd⟩ : ∃ d, u.sendS ⟨yq, yt, xp, xl⟩ = d := ⟨_, rfl⟩
                obtain ⟨q, hq⟩ : ∃ q, u.told ⟨yq, yt, xp, xl⟩ = q := ⟨_, rfl⟩
                obtain ⟨o1, o2', OD⟩ := OD
                rw [hd, hq, o1] at CE
                rw [hq] at o2'
                rw [hd] at OD
                obtain ⟨w2', hw2⟩ : ∃ z, (want' + 1) % 65536 = z := ⟨_, rfl⟩
                rw [hw2] at OD
                have E3 : IntKind.u16.wrap (want' + 1) = w2' := by rw [wrap_u16]; exact hw2
                have HO2 := Lib.hid (show Ord d xq ((j + 1 : Nat) : Int) w2' ∧ 0 ≤ w2' ∧ w2' < 65536 from ⟨by rw [show (((j + 1 : Nat) : Int)) = (j : Int) + 1 by omega]; exact OD, by omega⟩)
                clear hd hq OD HO hyf huf hyq hyt o1 hw2
                obtain ⟨don, dh, dc, ⟨doq, dot, dop, dol⟩, ⟨duq, dut, dup, dul⟩⟩ := d
                obtain ⟨qq, qt, qp, ql⟩ := q
                dsimp only at o2'
                subst o2'
                obtain ⟨son', sh', sc', ⟨aq, at', ap, al⟩, ⟨bq, bt, bp, bl⟩⟩ := u
                dsimp only [Mst.cells, Mn.cells] at *
                replace CE := Lib.hid CE
                have c0 := HW.out.cell 0
                have c1 := HW.out.cell 1
                have c2 := HW.out.cell 2
                have c3 := HW.out.cell 3
                have c4 := HW.out.cell 4
                have c5 := HW.out.cell 5
                have c6 := HW.out.cell 6
                have c7 := HW.out.cell 7
                have c8 := HW.out.cell 8
                have c9 := HW.out.cell 9
                have c10 := HW.out.cell 10
                have e0 := HW.out.free 0
                have e1 := HW.out.free 1
                have e2 := HW.out.free 2
                have e3 := HW.out.free 3
                have e4 := HW.out.free 4
                have e5 := HW.out.free 5
                have e6 := HW.out.free 6
                have e7 := HW.out.free 7
                have e8 := HW.out.free 8
                have e9 := HW.out.free 9
                have e10 := HW.out.free 10
                go_wp2_with fail
                refine (CE.out _).mono ?_
                rintro e w31 ⟨rfl, b31⟩
                have Nx : Whole (wq2.alloc (.cells #[.int .u16 yq, .int .u32 yt, .int .u16 xp, .int .u8 xl] 25)) (wq2.heap.size) 25 #[.int .u16 yq, .int .u32 yt, .int .u16 xp, .int .u8 xl] := by have := Whole.new wq2 25 #[.int .u16 yq, .int .u32 yt, .int .u16 xp, .int .u8 xl]; first | with_reducible exact this | simpa using this
                have Ss31 := ((HW.out.alloc (.cells #[.int .u16 yq, .int .u32 yt, .int .u16 xp, .int .u8 xl] 25))).below b31 (by have := ((HW.out.alloc (.cells #[.int .u16 yq, .int .u32 yt, .int .u16 xp, .int .u8 xl] 25))).lt; first | with_reducible exact this | simpa using this)
                have Sx31 := (Nx).below b31 (by have := (Nx).lt; first | with_reducible exact this | simpa using this)
                have HB31 := Lib.hid (((HB.out.alloc (HB.out).size (.cells #[.int .u16 yq, .int .u32 yt, .int .u16 xp, .int .u8 xl] 25))).trans (b31.mono ((HB.out.alloc (HB.out).size (.cells #[.int .u16 yq, .int .u32 yt, .int .u16 xp, .int .u8 xl] 25))).size))
                have ls31 := Ss31.lt
                have lx31 := Sx31.lt
                clear b31 c0 c1 c2 c3 c4 c5 c6 c7 c8 c9 c10 e0 e1 e2 e3 e4 e5 e6 e7 e8 e9 e10 HW Nx HB CE y0 r0 r1 r2 r3 r4 r5
                have s31_0 := Ss31.cell 0
                have fs31_0 := Ss31.free 0
                have s31_1 := Ss31.cell 1
                have fs31_1 := Ss31.free 1
                have s31_2 := Ss31.cell 2
                have fs31_2 := Ss31.free 2
                have s31_3 := Ss31.cell 3
                have fs31_3 := Ss31.free 3
                have s31_4 := Ss31.cell 4
                have fs31_4 := Ss31.free 4
                have s31_5 := Ss31.cell 5
                have fs31_5 := Ss31.free 5
                have s31_6 := Ss31.cell 6
                have fs31_6 := Ss31.free 6
                have s31_7 := Ss31.cell 7
                have fs31_7 := Ss31.free 7
                have s31_8 := Ss31.cell 8
                have fs31_8 := Ss31.free 8
                have s31_9 := Ss31.cell 9
                have fs31_9 := Ss31.free 9
                have s31_10 := Ss31.cell 10
                have fs31_10 := Ss31.free 10
                replace Ss31 := Lib.hid Ss31
                replace Sx31 := Lib.hid Sx31
                go_wp2
                go_roundw
                case rel => exact ⟨j + 1, ⟨don, dh, dc, ⟨doq, dot, dop, dol⟩, ⟨duq, dut, dup, dul⟩⟩, w2', by omega, rfl, by go_num, Lib.hid ((((Whole.eleven (Ss31.out) (.bool don) (.int .i64 dh) (.int .i64 dc) (.int .u16 doq) (.int .u32 dot) (.int .u16 dop) (.int .u8 dol) (.int .u16 duq) (.int .u32 dut) (.int .u16 dup) (.int .u8 dul)).alloc (.cells #[.bool don, .int .i64 dh, .int .i64 dc, .int .u16 doq, .int .u32 dot, .int .u16 dop, .int .u8 dol, .int .u16 duq, .int .u32 dut, .int .u16 dup, .int .u8 dul] 27)).alloc (.cells #[.int .u16 qq, .int .u32 qt, .int .u16 qp, .int .u8 ql] 25))), HO2, (((eleven_set (HB31.out) (show w.heap.size ≤ gs from by omega) (.bool don) (.int .i64 dh) (.int .i64 dc) (.int .u16 doq) (.int .u32 dot) (.int .u16 dop) (.int .u8 dol) (.int .u16 duq) (.int .u32 dut) (.int .u16 dup) (.int .u8 dul)).alloc ((eleven_set (HB31.out) (show w.heap.size ≤ gs from by omega) (.bool don) (.int .i64 dh) (.int .i64 dc) (.int .u16 doq) (.int .u32 dot) (.int .u16 dop) (.int .u8 dol) (.int .u16 duq) (.int .u32 dut) (.int .u16 dup) (.int .u8 dul))).size (.cells #[.bool don, .int .i64 dh, .int .i64 dc, .int .u16 doq, .int .u32 dot, .int .u16 dop, .int .u8 dol, .int .u16 duq, .int .u32 dut, .int .u16 dup, .int .u8 dul] 27)).alloc (((eleven_set (HB31.out) (show w.heap.size ≤ gs from by omega) (.bool don) (.int .i64 dh) (.int .i64 dc) (.int .u16 doq) (.int .u32 dot) (.int .u16 dop) (.int .u8 dol) (.int .u16 duq) (.int .u32 dut) (.int .u16 dup) (.int .u8 dul)).alloc ((eleven_set (HB31.out) (show w.heap.size ≤ gs from by omega) (.bool don) (.int .i64 dh) (.int .i64 dc) (.int .u16 doq) (.int .u32 dot) (.int .u16 dop) (.int .u8 dol) (.int .u16 duq) (.int .u32 dut) (.int .u16 dup) (.int .u8 dul))).size (.cells #[.bool don, .int .i64 dh, .int .i64 dc, .int .u16 doq, .int .u32 dot, .int .u16 dop, .int .u8 dol, .int .u16 duq, .int .u32 dut, .int .u16 dup, .int .u8 dul] 27))).size (.cells #[.int .u16 qq, .int .u32 qt, .int .u16 qp, .int .u8 ql] 25))⟩
                case measure => simp [intOf]; omega
            · obtain rfl : j = m := by omega
              go_wp2
              go_roundw
              case rel => exact ⟨k + 1, u, want', by omega, rfl, by go_num, HW, Lib.hid ⟨by have := HO.out.1.fit HXF.out.seq (by omega); exact this, HO.out.2, .inr ⟨by omega, HO.out.1.1, HO.out.1.2.2.2.1⟩⟩, HB.out⟩
              case measure => simp [intOf]; omega
    · obtain rfl : k = n := by omega
      go_wp2
      go_ret
      exact ⟨rfl, HB.out⟩

set_option maxRecDepth 100000 in
theorem lifted (os : Os) (started : os.Started) (H : Type) (enc : TypeId × Value → H) :
    ReturnsInHanded {} Try.checked os 5 .any (Rows.mungeOrderSpec.pre6 enc Try.prog Try.f5 Rows.mungeOrderRow.domain false) (Rows.mungeOrderSpec.post enc Try.prog Try.f5 false true false false) := by
  refine returnsInHanded_of_change (C := Try.checked) own started (by kernel_rfl) Try.func5
    (ChangeSpec.witness6 (enc := enc) (C := Try.checked) false ⟨#[], #[.slice none 0 0], []⟩ 8 (by kernel_rfl) (by kernel_rfl) (by kernel_rfl) (by kernel_rfl)) ?_
  intro W base args ds gs before hval0 hW _ _
  have hval : ∀ (j : Nat) t v, Try.f5.params[j]? = some t → args[j]? = some v → Value.okWide Try.prog W .any base t v := hval0
  have hW' := hW
  obtain ⟨p, q, hA0, hV, _, _, _⟩ := hW
  have hA : DataW.TrodAll enc Try.prog W 0 (fun _ => true) true Try.f5.params.toList args.toList ds p := hA0
  rw [Try.params5] at hA hval
  obtain ⟨v0, vs0, d0, ds0, p0, q0, hargs, rfl, _, h0, r0⟩ := trodAll_cons hA
  obtain ⟨rfl, rfl, _⟩ := trodAll_nil r0
  obtain rfl : args = #[v0] := by cases args; simp_all
  obtain ⟨rfl, _⟩ := trodVars_none hV
  refine law_post (s := Rows.mungeOrderSpec) rfl rfl (by rw [Try.params5]; intro t ht; simp at ht; rcases ht with rfl <;> exact ⟨by kernel_rfl, of_decide_eq_true (by kernel_rfl)⟩) rfl hW' ?_
  obtain ⟨A0, c0, l0, rfl, hl0, hr0, hq0⟩ := open_parts (hval 0 50 v0 rfl rfl) h0
  exact walk W A0 c0 l0 hl0 hr0 hq0

theorem over : Rows.mungeOrderRow.holds Try.pinned (OpenSpec.ofChange Rows.mungeOrderSpec) :=
  OpenClaim.holds_of_wide 5 Try.f5 rfl rfl rfl rfl rfl rfl rfl ⟨rfl, rfl, rfl, rfl, rfl⟩ rfl rfl rfl rfl rfl (by kernel_rfl) Try.func5 (by kernel_rfl)
    (of_decide_eq_true (by kernel_rfl)) (by unfold Func.isWrapper; first | (rw [if_pos (by decide +kernel)]; kernel_rfl) | (rw [if_neg (by decide +kernel)]; exact ⟨rfl, rfl⟩))
    (fun os started H enc _ => lifted os started H enc)

/-- The statement. -/
theorem mungeOrder_holds : Rows.MungeOrderSaid := over

end Go.Proofs.Ytpemikncbolkbaa.UOrder
