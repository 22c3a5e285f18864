/-
  Contract of the document's answers of layer 13: Switch.
-/
import Derived.Test.YtpemikncbolkbaaMuT
namespace Go.Proofs.Ytpemikncbolkbaa
open Go.RowKit
set_option linter.unusedSimpArgs false

set_option maxRecDepth 100000 in
set_option maxHeartbeats 3200000 in
theorem refSwitch_any (s : Mst) (x : Mn) (st : Int) (hs : s.Fit 1000000000000000) (hx : x.Fit) (ht : 0 ≤ st ∧ st < 4294967296) (w : World) : Calls Try.prog 12 #[.agg s.plain, .agg x.plain, .int .i64 st] w fun e w' => e = .returned (.tuple #[.agg (s.switchS x st).plain, .agg (s.begins x st).plain]) ∧ Below w.heap.size w w' := by
  have q1 := hs.out.seq
  have q2 := hs.out.time
  have q3 := hs.out.pic
  have q4 := hs.out.tl0
  have CR := fun w => round_any ⟨s.out.seq + 1, s.out.time + st, s.out.pic + 1, s.out.tl0 + 1⟩ w
  have CL := fun w => less_any x (s.begins x st) hx (Mst.begins_fit hx st) w
  obtain ⟨o, ho⟩ : ∃ o, s.begins x st = o := ⟨_, rfl⟩
  obtain ⟨l, hl⟩ : ∃ l, x.less o = l := ⟨_, rfl⟩
  have hsw : s.switchS x st = ⟨true, x.seq, x.seq, l, o⟩ := by unfold Mst.switchS; rw [ho, hl]
  have P0 : Hid (s.on = false → o = x) := Lib.hid (fun h => by rw [← ho]; unfold Mst.begins; rw [if_neg (by simp [h])])
  have P1 : Hid (s.on = true → Mn.rnd ⟨s.out.seq + 1, s.out.time + st, s.out.pic + 1, s.out.tl0 + 1⟩ = o) := Lib.hid (fun h => by rw [← ho]; unfold Mst.begins; rw [if_pos h])
  rw [hsw, ho]
  rw [ho, hl] at CL
  clear hs hx ho hl hsw
  obtain ⟨on, hi, sc, ⟨oq, ot, op, ol⟩, ⟨uq, ut, up, ul⟩⟩ := s
  obtain ⟨xq, xt, xp, xl⟩ := x
  obtain ⟨lq, lt, lp, ll⟩ := l
  obtain ⟨vq, vt, vp, vl⟩ := o
  dsimp only [Mst.plain, Mn.plain] at *
  have CL := Lib.hid CL
  have HS := Lib.hid (((((Whole.new w 36 #[.bool on, .int .i64 hi, .int .i64 sc, .int .i64 oq, .int .i64 ot, .int .i64 op, .int .i64 ol, .int .i64 uq, .int .i64 ut, .int .i64 up, .int .i64 ul]).alloc (.cells #[.int .i64 xq, .int .i64 xt, .int .i64 xp, .int .i64 xl] 34)).alloc (.cells #[.bool false, .int .i64 0, .int .i64 0, .int .i64 0, .int .i64 0, .int .i64 0, .int .i64 0, .int .i64 0, .int .i64 0, .int .i64 0, .int .i64 0] 36)).alloc (.cells #[.int .i64 0, .int .i64 0, .int .i64 0, .int .i64 0] 34)).alloc (.cells #[.int .i64 xq, .int .i64 xt, .int .i64 xp, .int .i64 xl] 34))
  have HX := Lib.hid ((((Whole.new2 w (.cells #[.bool on, .int .i64 hi, .int .i64 sc, .int .i64 oq, .int .i64 ot, .int .i64 op, .int .i64 ol, .int .i64 uq, .int .i64 ut, .int .i64 up, .int .i64 ul] 36) 34 #[.int .i64 xq, .int .i64 xt, .int .i64 xp, .int .i64 xl]).alloc (.cells #[.bool false, .int .i64 0, .int .i64 0, .int .i64 0, .int .i64 0, .int .i64 0, .int .i64 0, .int .i64 0, .int .i64 0, .int .i64 0, .int .i64 0] 36)).alloc (.cells #[.int .i64 0, .int .i64 0, .int .i64 0, .int .i64 0] 34)).alloc (.cells #[.int .i64 xq, .int .i64 xt, .int .i64 xp, .int .i64 xl] 34))
  have HR : Hid (Whole (((((w.alloc (.cells #[.bool on, .int .i64 hi, .int .i64 sc, .int .i64 oq, .int .i64 ot, .int .i64 op, .int .i64 ol, .int .i64 uq, .int .i64 ut, .int .i64 up, .int .i64 ul] 36)).alloc (.cells #[.int .i64 xq, .int .i64 xt, .int .i64 xp, .int .i64 xl] 34)).alloc (.cells #[.bool false, .int .i64 0, .int .i64 0, .int .i64 0, .int .i64 0, .int .i64 0, .int .i64 0, .int .i64 0, .int .i64 0, .int .i64 0, .int .i64 0] 36)).alloc (.cells #[.int .i64 0, .int .i64 0, .int .i64 0, .int .i64 0] 34)).alloc (.cells #[.int .i64 xq, .int .i64 xt, .int .i64 xp, .int .i64 xl] 34)) (w.heap.size + 1 + 1) 36 #[.bool false, .int .i64 0, .int .i64 0, .int .i64 0, .int .i64 0, .int .i64 0, .int .i64 0, .int .i64 0, .int .i64 0, .int .i64 0, .int .i64 0]) := Lib.hid (by have := ((Whole.new2 (w.alloc (.cells #[.bool on, .int .i64 hi, .int .i64 sc, .int .i64 oq, .int .i64 ot, .int .i64 op, .int .i64 ol, .int .i64 uq, .int .i64 ut, .int .i64 up, .int .i64 ul] 36)) (.cells #[.int .i64 xq, .int .i64 xt, .int .i64 xp, .int .i64 xl] 34) 36 #[.bool false, .int .i64 0, .int .i64 0, .int .i64 0, .int .i64 0, .int .i64 0, .int .i64 0, .int .i64 0, .int .i64 0, .int .i64 0, .int .i64 0]).alloc (.cells #[.int .i64 0, .int .i64 0, .int .i64 0, .int .i64 0] 34)).alloc (.cells #[.int .i64 xq, .int .i64 xt, .int .i64 xp, .int .i64 xl] 34); simpa using this)
  have HN : Hid (Whole (((((w.alloc (.cells #[.bool on, .int .i64 hi, .int .i64 sc, .int .i64 oq, .int .i64 ot, .int .i64 op, .int .i64 ol, .int .i64 uq, .int .i64 ut, .int .i64 up, .int .i64 ul] 36)).alloc (.cells #[.int .i64 xq, .int .i64 xt, .int .i64 xp, .int .i64 xl] 34)).alloc (.cells #[.bool false, .int .i64 0, .int .i64 0, .int .i64 0, .int .i64 0, .int .i64 0, .int .i64 0, .int .i64 0, .int .i64 0, .int .i64 0, .int .i64 0] 36)).alloc (.cells #[.int .i64 0, .int .i64 0, .int .i64 0, .int .i64 0] 34)).alloc (.cells #[.int .i64 xq, .int .i64 xt, .int .i64 xp, .int .i64 xl] 34)) (w.heap.size + 1 + 1 + 1) 34 #[.int .i64 0, .int .i64 0, .int .i64 0, .int .i64 0]) := Lib.hid (by have := (Whole.new2 ((w.alloc (.cells #[.bool on, .int .i64 hi, .int .i64 sc, .int .i64 oq, .int .i64 ot, .int .i64 op, .int .i64 ol, .int .i64 uq, .int .i64 ut, .int .i64 up, .int .i64 ul] 36)).alloc (.cells #[.int .i64 xq, .int .i64 xt, .int .i64 xp, .int .i64 xl] 34)) (.cells #[.bool false, .int .i64 0, .int .i64 0, .int .i64 0, .int .i64 0, .int .i64 0, .int .i64 0, .int .i64 0, .int .i64 0, .int .i64 0, .int .i64 0] 36) 34 #[.int .i64 0, .int .i64 0, .int .i64 0, .int .i64 0]).alloc (.cells #[.int .i64 xq, .int .i64 xt, .int .i64 xp, .int .i64 xl] 34); simpa using this)
  have HT : Hid (Whole (((((w.alloc (.cells #[.bool on, .int .i64 hi, .int .i64 sc, .int .i64 oq, .int .i64 ot, .int .i64 op, .int .i64 ol, .int .i64 uq, .int .i64 ut, .int .i64 up, .int .i64 ul] 36)).alloc (.cells #[.int .i64 xq, .int .i64 xt, .int .i64 xp, .int .i64 xl] 34)).alloc (.cells #[.bool false, .int .i64 0, .int .i64 0, .int .i64 0, .int .i64 0, .int .i64 0, .int .i64 0, .int .i64 0, .int .i64 0, .int .i64 0, .int .i64 0] 36)).alloc (.cells #[.int .i64 0, .int .i64 0, .int .i64 0, .int .i64 0] 34)).alloc (.cells #[.int .i64 xq, .int .i64 xt, .int .i64 xp, .int .i64 xl] 34)) (w.heap.size + 1 + 1 + 1 + 1) 34 #[.int .i64 xq, .int .i64 xt, .int .i64 xp, .int .i64 xl]) := Lib.hid (by have := Whole.new2 (((w.alloc (.cells #[.bool on, .int .i64 hi, .int .i64 sc, .int .i64 oq, .int .i64 ot, .int .i64 op, .int .i64 ol, .int .i64 uq, .int .i64 ut, .int .i64 up, .int .i64 ul] 36)).alloc (.cells #[.int .i64 xq, .int .i64 xt, .int .i64 xp, .int .i64 xl] 34)).alloc (.cells #[.bool false, .int .i64 0, .int .i64 0, .int .i64 0, .int .i64 0, .int .i64 0, .int .i64 0, .int .i64 0, .int .i64 0, .int .i64 0, .int .i64 0] 36)) (.cells #[.int .i64 0, .int .i64 0, .int .i64 0, .int .i64 0] 34) 34 #[.int .i64 xq, .int .i64 xt, .int .i64 xp, .int .i64 xl]; simpa using this)
  have HB := Lib.hid ((((((Below.refl w.heap.size w).alloc (Nat.le_refl _) (.cells #[.bool on, .int .i64 hi, .int .i64 sc, .int .i64 oq, .int .i64 ot, .int .i64 op, .int .i64 ol, .int .i64 uq, .int .i64 ut, .int .i64 up, .int .i64 ul] 36)).alloc (by simp) (.cells #[.int .i64 xq, .int .i64 xt, .int .i64 xp, .int .i64 xl] 34)).alloc (by simp; omega) (.cells #[.bool false, .int .i64 0, .int .i64 0, .int .i64 0, .int .i64 0, .int .i64 0, .int .i64 0, .int .i64 0, .int .i64 0, .int .i64 0, .int .i64 0] 36)).alloc (by simp; omega) (.cells #[.int .i64 0, .int .i64 0, .int .i64 0, .int .i64 0] 34)).alloc (by simp; omega) (.cells #[.int .i64 xq, .int .i64 xt, .int .i64 xp, .int .i64 xl] 34))
  go_enter Try.func12, Try.ntmps12
  go_upto_region 2 with fail
  obtain ⟨wq, hwq⟩ : ∃ wq, wq = (((((w.alloc (.cells #[.bool on, .int .i64 hi, .int .i64 sc, .int .i64 oq, .int .i64 ot, .int .i64 op, .int .i64 ol, .int .i64 uq, .int .i64 ut, .int .i64 up, .int .i64 ul] 36)).alloc (.cells #[.int .i64 xq, .int .i64 xt, .int .i64 xp, .int .i64 xl] 34)).alloc (.cells #[.bool false, .int .i64 0, .int .i64 0, .int .i64 0, .int .i64 0, .int .i64 0, .int .i64 0, .int .i64 0, .int .i64 0, .int .i64 0, .int .i64 0] 36)).alloc (.cells #[.int .i64 0, .int .i64 0, .int .i64 0, .int .i64 0] 34)).alloc (.cells #[.int .i64 xq, .int .i64 xt, .int .i64 xp, .int .i64 xl] 34)) := ⟨_, rfl⟩
  rw [← hwq] at HS HX HR HN HT HB ⊢
  clear hwq
  have hg1 := HT.out.lt
  have k0 := HS.out.cell 0
  have k1 := HS.out.cell 1
  have k2 := HS.out.cell 2
  have k3 := HS.out.cell 3
  have k4 := HS.out.cell 4
  have k5 := HS.out.cell 5
  have k6 := HS.out.cell 6
  have k7 := HS.out.cell 7
  have k8 := HS.out.cell 8
  have k9 := HS.out.cell 9
  have k10 := HS.out.cell 10
  have x0 := HX.out.cell 0
  have x1 := HX.out.cell 1
  have x2 := HX.out.cell 2
  have x3 := HX.out.cell 3
  have c0 := HT.out.cell 0
  have c1 := HT.out.cell 1
  have c2 := HT.out.cell 2
  have c3 := HT.out.cell 3
  have fc0 := HT.out.free 0
  have fc1 := HT.out.free 1
  have fc2 := HT.out.free 2
  have fc3 := HT.out.free 3
  cases on with
  | false =>
    have P := P0.out rfl
    clear P0 P1 CR
    go_upto_region 4 with fail
    obtain ⟨wo, rfl⟩ : ∃ wo : World, wo = wq := ⟨_, rfl⟩
    have HT2 : Hid (Whole wo (w.heap.size + 1 + 1 + 1 + 1) 34 #[.int .i64 vq, .int .i64 vt, .int .i64 vp, .int .i64 vl]) := Lib.hid (by injection P with p1 p2 p3 p4; rw [p1, p2, p3, p4]; exact HT.out)
    clear k0 k1 k2 k3 k4 k5 k6 k7 k8 k9 k10 x0 x1 x2 x3 c0 c1 c2 c3 fc0 fc1 fc2 fc3 P HT
    have K6 := Lib.hid (fun w' (b' : Below wo.heap.size wo w') => show (fun w' => w'.cell? ⟨(w.heap.size + 1), 0, none⟩ = some (.int .i64 xq) ∧ w'.cell? ⟨(w.heap.size + 1), 1, none⟩ = some (.int .i64 xt) ∧ w'.cell? ⟨(w.heap.size + 1), 2, none⟩ = some (.int .i64 xp) ∧ w'.cell? ⟨(w.heap.size + 1), 3, none⟩ = some (.int .i64 xl) ∧ w'.cell? ⟨(w.heap.size + 1 + 1 + 1 + 1), 0, none⟩ = some (.int .i64 vq) ∧ w'.cell? ⟨(w.heap.size + 1 + 1 + 1 + 1), 1, none⟩ = some (.int .i64 vt) ∧ w'.cell? ⟨(w.heap.size + 1 + 1 + 1 + 1), 2, none⟩ = some (.int .i64 vp) ∧ w'.cell? ⟨(w.heap.size + 1 + 1 + 1 + 1), 3, none⟩ = some (.int .i64 vl)) w' from ⟨(HX.out.below b' HX.out.lt).cell 0, (HX.out.below b' HX.out.lt).cell 1, (HX.out.below b' HX.out.lt).cell 2, (HX.out.below b' HX.out.lt).cell 3, (HT2.out.below b' HT2.out.lt).cell 0, (HT2.out.below b' HT2.out.lt).cell 1, (HT2.out.below b' HT2.out.lt).cell 2, (HT2.out.below b' HT2.out.lt).cell 3⟩)
    refine wp_region_X (S := fun w' => w'.cell? ⟨(w.heap.size + 1), 0, none⟩ = some (.int .i64 xq) ∧ w'.cell? ⟨(w.heap.size + 1), 1, none⟩ = some (.int .i64 xt) ∧ w'.cell? ⟨(w.heap.size + 1), 2, none⟩ = some (.int .i64 xp) ∧ w'.cell? ⟨(w.heap.size + 1), 3, none⟩ = some (.int .i64 xl) ∧ w'.cell? ⟨(w.heap.size + 1 + 1 + 1 + 1), 0, none⟩ = some (.int .i64 vq) ∧ w'.cell? ⟨(w.heap.size + 1 + 1 + 1 + 1), 1, none⟩ = some (.int .i64 vt) ∧ w'.cell? ⟨(w.heap.size + 1 + 1 + 1 + 1), 2, none⟩ = some (.int .i64 vp) ∧ w'.cell? ⟨(w.heap.size + 1 + 1 + 1 + 1), 3, none⟩ = some (.int .i64 vl)) [11] (by kernel_rfl) (K6.out _ (Below.refl _ _).drew) (fun hHeld0 => ?_)
    refine wpAnyX_take (i := 0) [1, 8, 10, 11] (v := ?_) rfl (by kernel_rfl) (by kernel_rfl) (by kernel_rfl) (by kernel_rfl) (fun _ _ _ h => h) (Or.inl ⟨by kernel_rfl, ?_⟩) (by assumption) ?_
    rotate_left 1
    · (intro w hSw; obtain ⟨m0, m1, m2, m3, m4, m5, m6, m7⟩ := hSw; go_simp; try (with_reducible rfl))
    (try simp only [Act.put, List.getElem_toArray, List.getElem_cons_succ, List.getElem_cons_zero, List.setIfInBounds_toArray, List.set_cons_zero, List.set_cons_succ])
    refine wpAnyX_take (i := 1) [8, 10, 11] (v := ?_) rfl (by kernel_rfl) (by kernel_rfl) (by kernel_rfl) (by kernel_rfl) (fun _ _ _ h => h) (Or.inl ⟨by kernel_rfl, ?_⟩) (by assumption) ?_
    rotate_left 1
    · (intro w hSw; obtain ⟨m0, m1, m2, m3, m4, m5, m6, m7⟩ := hSw; go_simp; try (with_reducible rfl))
    (try simp only [Act.put, List.getElem_toArray, List.getElem_cons_succ, List.getElem_cons_zero, List.setIfInBounds_toArray, List.set_cons_zero, List.set_cons_succ])
    refine wpAnyX_take (i := 2) [3, 8, 10, 11] (v := ?_) rfl (by kernel_rfl) (by kernel_rfl) (by kernel_rfl) (by kernel_rfl) (fun _ _ _ h => h) (Or.inl ⟨by kernel_rfl, ?_⟩) (by assumption) ?_
    rotate_left 1
    · (intro w hSw; obtain ⟨m0, m1, m2, m3, m4, m5, m6, m7⟩ := hSw; go_simp; try (with_reducible rfl))
    (try simp only [Act.put, List.getElem_toArray, List.getElem_cons_succ, List.getElem_cons_zero, List.setIfInBounds_toArray, List.set_cons_zero, List.set_cons_succ])
    refine wpAnyX_take (i := 3) [8, 10, 11] (v := ?_) rfl (by kernel_rfl) (by kernel_rfl) (by kernel_rfl) (by kernel_rfl) (fun _ _ _ h => h) (Or.inl ⟨by kernel_rfl, ?_⟩) (by assumption) ?_
    rotate_left 1
    · (intro w hSw; obtain ⟨m0, m1, m2, m3, m4, m5, m6, m7⟩ := hSw; go_simp; try (with_reducible rfl))
    (try simp only [Act.put, List.getElem_toArray, List.getElem_cons_succ, List.getElem_cons_zero, List.setIfInBounds_toArray, List.set_cons_zero, List.set_cons_succ])
    refine wpAnyX_take (i := 4) [6, 8, 10, 11] (v := ?_) rfl (by kernel_rfl) (by kernel_rfl) (by kernel_rfl) (by kernel_rfl) (fun _ _ _ h => h) (Or.inl ⟨by kernel_rfl, ?_⟩) (by assumption) ?_
    rotate_left 1
    · (intro w hSw; obtain ⟨m0, m1, m2, m3, m4, m5, m6, m7⟩ := hSw; go_simp; try (with_reducible rfl))
    (try simp only [Act.put, List.getElem_toArray, List.getElem_cons_succ, List.getElem_cons_zero, List.setIfInBounds_toArray, List.set_cons_zero, List.set_cons_succ])
    refine wpAnyX_take (i := 5) [6, 8, 10, 11] (v := ?_) rfl (by kernel_rfl) (by kernel_rfl) (by kernel_rfl) (by kernel_rfl) (fun _ _ _ h => h) (Or.inl ⟨by kernel_rfl, ?_⟩) (by assumption) ?_
    rotate_left 1
    · (intro w hSw; obtain ⟨m0, m1, m2, m3, m4, m5, m6, m7⟩ := hSw; go_simp; try (with_reducible rfl))
    (try simp only [Act.put, List.getElem_toArray, List.getElem_cons_succ, List.getElem_cons_zero, List.setIfInBounds_toArray, List.set_cons_zero, List.set_cons_succ])
    refine wpAnyX_take (i := 7) [8, 10, 11] (v := ?_) rfl (by kernel_rfl) (by kernel_rfl) (by kernel_rfl) (by kernel_rfl) (fun _ _ _ h => h) (Or.inl ⟨by kernel_rfl, ?_⟩) (by assumption) ?_
    rotate_left 1
    · (intro w hSw; obtain ⟨m0, m1, m2, m3, m4, m5, m6, m7⟩ := hSw; go_simp; try (with_reducible rfl))
    (try simp only [Act.put, List.getElem_toArray, List.getElem_cons_succ, List.getElem_cons_zero, List.setIfInBounds_toArray, List.set_cons_zero, List.set_cons_succ])
    refine wpAnyX_take (i := 9) [11] (v := ?_) rfl (by kernel_rfl) (by kernel_rfl) (by kernel_rfl) (by kernel_rfl) (fun _ _ _ h => h) (Or.inl ⟨by kernel_rfl, ?_⟩) (by assumption) ?_
    rotate_left 1
    · (intro w hSw; obtain ⟨m0, m1, m2, m3, m4, m5, m6, m7⟩ := hSw; go_simp; try (with_reducible rfl))
    (try simp only [Act.put, List.getElem_toArray, List.getElem_cons_succ, List.getElem_cons_zero, List.setIfInBounds_toArray, List.set_cons_zero, List.set_cons_succ])
    refine wpAnyX_one 6 (by kernel_rfl) rfl (fun K hK => ?_)
    go_simp
    go_wp2_with (refine (CL.out _).mono ?_; rintro e v1 ⟨rfl, b1⟩)
    have B1 := (Below.refl wo.heap.size wo).drew.trans b1
    refine hK.out _ _ (.inr (K6.out _ B1)) ?_
    have hHeld1 := K6.out _ B1
    clear hK K
    (try simp only [Act.put, List.getElem_toArray, List.getElem_cons_succ, List.getElem_cons_zero, List.setIfInBounds_toArray, List.set_cons_zero, List.set_cons_succ])
    refine wpAnyX_take (i := 8) [10, 11] (v := ?_) rfl (by kernel_rfl) (by kernel_rfl) (by kernel_rfl) (by kernel_rfl) (fun _ _ _ h => h) (Or.inl ⟨by kernel_rfl, ?_⟩) (by assumption) ?_
    rotate_left 1
    · (intro w hSw; obtain ⟨m0, m1, m2, m3, m4, m5, m6, m7⟩ := hSw; go_simp; try (with_reducible rfl))
    (try simp only [Act.put, List.getElem_toArray, List.getElem_cons_succ, List.getElem_cons_zero, List.setIfInBounds_toArray, List.set_cons_zero, List.set_cons_succ])
    refine wpAnyX_one 10 (by kernel_rfl) rfl (fun K hK => ?_)
    have R5 := HR.out.below B1 HR.out.lt
    have N5 := HN.out.below B1 HN.out.lt
    have F5 := HB.out.trans (B1.mono HB.out.size)
    have zr0 := R5.cell 0
    have zr1 := R5.cell 1
    have zr2 := R5.cell 2
    have zr3 := R5.cell 3
    have zr4 := R5.cell 4
    have zr5 := R5.cell 5
    have zr6 := R5.cell 6
    have zr7 := R5.cell 7
    have zr8 := R5.cell 8
    have zr9 := R5.cell 9
    have zr10 := R5.cell 10
    have zf0 := R5.free 0
    have zf1 := R5.free 1
    have zf2 := R5.free 2
    have zf3 := R5.free 3
    have zf4 := R5.free 4
    have zf5 := R5.free 5
    have zf6 := R5.free 6
    have zf7 := R5.free 7
    have zf8 := R5.free 8
    have zf9 := R5.free 9
    have zf10 := R5.free 10
    have nr0 := N5.cell 0
    have nr1 := N5.cell 1
    have nr2 := N5.cell 2
    have nr3 := N5.cell 3
    have nf0 := N5.free 0
    have nf1 := N5.free 1
    have nf2 := N5.free 2
    have nf3 := N5.free 3
    have X5 := (HX.out.below B1 HX.out.lt).eleven_far (r := (w.heap.size + 1 + 1)) (by omega) (.bool true) (.int .i64 xq) (.int .i64 xq) (.int .i64 lq) (.int .i64 lt) (.int .i64 lp) (.int .i64 ll) (.int .i64 vq) (.int .i64 vt) (.int .i64 vp) (.int .i64 vl)
    have T5 := (HT2.out.below B1 HT2.out.lt).eleven_far (r := (w.heap.size + 1 + 1)) (by omega) (.bool true) (.int .i64 xq) (.int .i64 xq) (.int .i64 lq) (.int .i64 lt) (.int .i64 lp) (.int .i64 ll) (.int .i64 vq) (.int .i64 vt) (.int .i64 vp) (.int .i64 vl)
    go_simp
    refine hK.out _ _ (.inr ⟨X5.cell 0, X5.cell 1, X5.cell 2, X5.cell 3, T5.cell 0, T5.cell 1, T5.cell 2, T5.cell 3⟩) ?_
    have hHeld2 : (fun (w' : World) => w'.cell? ⟨(w.heap.size + 1), 0, none⟩ = some (.int .i64 xq) ∧ w'.cell? ⟨(w.heap.size + 1), 1, none⟩ = some (.int .i64 xt) ∧ w'.cell? ⟨(w.heap.size + 1), 2, none⟩ = some (.int .i64 xp) ∧ w'.cell? ⟨(w.heap.size + 1), 3, none⟩ = some (.int .i64 xl) ∧ w'.cell? ⟨(w.heap.size + 1 + 1 + 1 + 1), 0, none⟩ = some (.int .i64 vq) ∧ w'.cell? ⟨(w.heap.size + 1 + 1 + 1 + 1), 1, none⟩ = some (.int .i64 vt) ∧ w'.cell? ⟨(w.heap.size + 1 + 1 + 1 + 1), 2, none⟩ = some (.int .i64 vp) ∧ w'.cell? ⟨(w.heap.size + 1 + 1 + 1 + 1), 3, none⟩ = some (.int .i64 vl)) _ := ⟨X5.cell 0, X5.cell 1, X5.cell 2, X5.cell 3, T5.cell 0, T5.cell 1, T5.cell 2, T5.cell 3⟩
    clear hK K
    (try simp only [Act.put, List.getElem_toArray, List.getElem_cons_succ, List.getElem_cons_zero, List.setIfInBounds_toArray, List.set_cons_zero, List.set_cons_succ])
    refine wpAnyX_one 11 (by kernel_rfl) rfl (fun K hK => ?_)
    go_simp
    refine hK.out _ _ (.inl (by decide)) ?_
    clear hK K
    (try simp only [Act.put, List.getElem_toArray, List.getElem_cons_succ, List.getElem_cons_zero, List.setIfInBounds_toArray, List.set_cons_zero, List.set_cons_succ])
    refine wpAnyX_done (by kernel_rfl) ?_ _
    go_wp2_with fail
    exact bodyPost_ret (v := .tuple #[.agg #[.bool true, .int .i64 xq, .int .i64 xq, .int .i64 lq, .int .i64 lt, .int .i64 lp, .int .i64 ll, .int .i64 vq, .int .i64 vt, .int .i64 vp, .int .i64 vl], .agg #[.int .i64 vq, .int .i64 vt, .int .i64 vp, .int .i64 vl]]) (by simp [results, Try.results12, go_sem, zr0, zr1, zr2, zr3, zr4, zr5, zr6, zr7, zr8, zr9, zr10, nr0, nr1, nr2, nr3]) rfl ⟨rfl, four_set (eleven_set F5 (by omega) _ _ _ _ _ _ _ _ _ _ _) (by omega) _ _ _ _⟩
  | true =>
    have P := P1.out rfl
    rw [P] at CR
    clear P0 P1
    dsimp only at CR
    have CR := Lib.hid CR
    go_wp2_with fail
    refine (CR.out _).mono ?_
    rintro e w2 ⟨rfl, b2⟩
    clear CR P
    have S2 := HS.out.below b2 HS.out.lt
    have X2 := HX.out.below b2 HX.out.lt
    have R2 := HR.out.below b2 HR.out.lt
    have N2 := HN.out.below b2 HN.out.lt
    have T2 := HT.out.below b2 HT.out.lt
    have B2 := HB.out.trans (b2.mono HB.out.size)
    have t0 := T2.cell 0
    have t1 := T2.cell 1
    have t2 := T2.cell 2
    have t3 := T2.cell 3
    have y0 := T2.free 0
    have y1 := T2.free 1
    have y2 := T2.free 2
    have y3 := T2.free 3
    have HX3 := Lib.hid (fun a b c d => (((X2.far (p := ⟨(w.heap.size + 1 + 1 + 1 + 1), 0, none⟩) (show (w.heap.size + 1) ≠ (w.heap.size + 1 + 1 + 1 + 1) by omega) a).far (p := ⟨(w.heap.size + 1 + 1 + 1 + 1), 1, none⟩) (show (w.heap.size + 1) ≠ (w.heap.size + 1 + 1 + 1 + 1) by omega) b).far (p := ⟨(w.heap.size + 1 + 1 + 1 + 1), 2, none⟩) (show (w.heap.size + 1) ≠ (w.heap.size + 1 + 1 + 1 + 1) by omega) c).far (p := ⟨(w.heap.size + 1 + 1 + 1 + 1), 3, none⟩) (show (w.heap.size + 1) ≠ (w.heap.size + 1 + 1 + 1 + 1) by omega) d)
    have HR3 := Lib.hid (fun a b c d => (((R2.far (p := ⟨(w.heap.size + 1 + 1 + 1 + 1), 0, none⟩) (show (w.heap.size + 1 + 1) ≠ (w.heap.size + 1 + 1 + 1 + 1) by omega) a).far (p := ⟨(w.heap.size + 1 + 1 + 1 + 1), 1, none⟩) (show (w.heap.size + 1 + 1) ≠ (w.heap.size + 1 + 1 + 1 + 1) by omega) b).far (p := ⟨(w.heap.size + 1 + 1 + 1 + 1), 2, none⟩) (show (w.heap.size + 1 + 1) ≠ (w.heap.size + 1 + 1 + 1 + 1) by omega) c).far (p := ⟨(w.heap.size + 1 + 1 + 1 + 1), 3, none⟩) (show (w.heap.size + 1 + 1) ≠ (w.heap.size + 1 + 1 + 1 + 1) by omega) d)
    have HN3 := Lib.hid (fun a b c d => (((N2.far (p := ⟨(w.heap.size + 1 + 1 + 1 + 1), 0, none⟩) (show (w.heap.size + 1 + 1 + 1) ≠ (w.heap.size + 1 + 1 + 1 + 1) by omega) a).far (p := ⟨(w.heap.size + 1 + 1 + 1 + 1), 1, none⟩) (show (w.heap.size + 1 + 1 + 1) ≠ (w.heap.size + 1 + 1 + 1 + 1) by omega) b).far (p := ⟨(w.heap.size + 1 + 1 + 1 + 1), 2, none⟩) (show (w.heap.size + 1 + 1 + 1) ≠ (w.heap.size + 1 + 1 + 1 + 1) by omega) c).far (p := ⟨(w.heap.size + 1 + 1 + 1 + 1), 3, none⟩) (show (w.heap.size + 1 + 1 + 1) ≠ (w.heap.size + 1 + 1 + 1 + 1) by omega) d)
    have HT3 := Lib.hid (T2.four (.int .i64 vq) (.int .i64 vt) (.int .i64 vp) (.int .i64 vl))
    have HB3 := Lib.hid (four_set B2 (show w.heap.size ≤ (w.heap.size + 1 + 1 + 1 + 1) by omega) (.int .i64 vq) (.int .i64 vt) (.int .i64 vp) (.int .i64 vl))
    clear k0 k1 k2 k3 k4 k5 k6 k7 k8 k9 k10 x0 x1 x2 x3 c0 c1 c2 c3 fc0 fc1 fc2 fc3 b2 S2 X2 R2 N2 T2 B2 HS HX HR HN HT HB hg1
    go_upto_region 4 with fail
    obtain ⟨wo, hwo⟩ : ∃ wo, wo = (((w2.setCell ⟨(w.heap.size + 1 + 1 + 1 + 1), 0, none⟩ (.int .i64 vq)).setCell ⟨(w.heap.size + 1 + 1 + 1 + 1), 1, none⟩ (.int .i64 vt)).setCell ⟨(w.heap.size + 1 + 1 + 1 + 1), 2, none⟩ (.int .i64 vp)).setCell ⟨(w.heap.size + 1 + 1 + 1 + 1), 3, none⟩ (.int .i64 vl) := ⟨_, rfl⟩
    have HX := Lib.hid (HX3.out (.int .i64 vq) (.int .i64 vt) (.int .i64 vp) (.int .i64 vl))
    have HR := Lib.hid (HR3.out (.int .i64 vq) (.int .i64 vt) (.int .i64 vp) (.int .i64 vl))
    have HN := Lib.hid (HN3.out (.int .i64 vq) (.int .i64 vt) (.int .i64 vp) (.int .i64 vl))
    rw [← hwo] at HX HR HN HT3 HB3 ⊢
    clear hwo HX3 HR3 HN3 t0 t1 t2 t3 y0 y1 y2 y3
    have HT2 := HT3
    have HB := HB3
    clear HT3 HB3
    have hg1 := HT2.out.lt
    have K6 := Lib.hid (fun w' (b' : Below wo.heap.size wo w') => show (fun w' => w'.cell? ⟨(w.heap.size + 1), 0, none⟩ = some (.int .i64 xq) ∧ w'.cell? ⟨(w.heap.size + 1), 1, none⟩ = some (.int .i64 xt) ∧ w'.cell? ⟨(w.heap.size + 1), 2, none⟩ = some (.int .i64 xp) ∧ w'.cell? ⟨(w.heap.size + 1), 3, none⟩ = some (.int .i64 xl) ∧ w'.cell? ⟨(w.heap.size + 1 + 1 + 1 + 1), 0, none⟩ = some (.int .i64 vq) ∧ w'.cell? ⟨(w.heap.size + 1 + 1 + 1 + 1), 1, none⟩ = some (.int .i64 vt) ∧ w'.cell? ⟨(w.heap.size + 1 + 1 + 1 + 1), 2, none⟩ = some (.int .i64 vp) ∧ w'.cell? ⟨(w.heap.size + 1 + 1 + 1 + 1), 3, none⟩ = some (.int .i64 vl)) w' from ⟨(HX.out.below b' HX.out.lt).cell 0, (HX.out.below b' HX.out.lt).cell 1, (HX.out.below b' HX.out.lt).cell 2, (HX.out.below b' HX.out.lt).cell 3, (HT2.out.below b' HT2.out.lt).cell 0, (HT2.out.below b' HT2.out.lt).cell 1, (HT2.out.below b' HT2.out.lt).cell 2, (HT2.out.below b' HT2.out.lt).cell 3⟩)
    refine wp_region_X (S := fun w' => w'.cell? ⟨(w.heap.size + 1), 0, none⟩ = some (.int .i64 xq) ∧ w'.cell? ⟨(w.heap.size + 1), 1, none⟩ = some (.int .i64 xt) ∧ w'.cell? ⟨(w.heap.size + 1), 2, none⟩ = some (.int .i64 xp) ∧ w'.cell? ⟨(w.heap.size + 1), 3, none⟩ = some (.int .i64 xl) ∧ w'.cell? ⟨(w.heap.size + 1 + 1 + 1 + 1), 0, none⟩ = some (.int .i64 vq) ∧ w'.cell? ⟨(w.heap.size + 1 + 1 + 1 + 1), 1, none⟩ = some (.int .i64 vt) ∧ w'.cell? ⟨(w.heap.size + 1 + 1 + 1 + 1), 2, none⟩ = some (.int .i64 vp) ∧ w'.cell? ⟨(w.heap.size + 1 + 1 + 1 + 1), 3, none⟩ = some (.int .i64 vl)) [11] (by kernel_rfl) (K6.out _ (Below.refl _ _).drew) (fun hHeld0 => ?_)
    refine wpAnyX_take (i := 0) [1, 8, 10, 11] (v := ?_) rfl (by kernel_rfl) (by kernel_rfl) (by kernel_rfl) (by kernel_rfl) (fun _ _ _ h => h) (Or.inl ⟨by kernel_rfl, ?_⟩) (by assumption) ?_
    rotate_left 1
    · (intro w hSw; obtain ⟨m0, m1, m2, m3, m4, m5, m6, m7⟩ := hSw; go_simp; try (with_reducible rfl))
    (try simp only [Act.put, List.getElem_toArray, List.getElem_cons_succ, List.getElem_cons_zero, List.setIfInBounds_toArray, List.set_cons_zero, List.set_cons_succ])
    refine wpAnyX_take (i := 1) [8, 10, 11] (v := ?_) rfl (by kernel_rfl) (by kernel_rfl) (by kernel_rfl) (by kernel_rfl) (fun _ _ _ h => h) (Or.inl ⟨by kernel_rfl, ?_⟩) (by assumption) ?_
    rotate_left 1
    · (intro w hSw; obtain ⟨m0, m1, m2, m3, m4, m5, m6, m7⟩ := hSw; go_simp; try (with_reducible rfl))
    (try simp only [Act.put, List.getElem_toArray, List.getElem_cons_succ, List.getElem_cons_zero, List.setIfInBounds_toArray, List.set_cons_zero, List.set_cons_succ])
    refine wpAnyX_take (i := 2) [3, 8, 10, 11] (v := ?_) rfl (by kernel_rfl) (by kernel_rfl) (by kernel_rfl) (by kernel_rfl) (fun _ _ _ h => h) (Or.inl ⟨by kernel_rfl, ?_⟩) (by assumption) ?_
    rotate_left 1
    · (intro w hSw; obtain ⟨m0, m1, m2, m3, m4, m5, m6, m7⟩ := hSw; go_simp; try (with_reducible rfl))
    (try simp only [Act.put, List.getElem_toArray, List.getElem_cons_succ, List.getElem_cons_zero, List.setIfInBounds_toArray, List.set_cons_zero, List.set_cons_succ])
    refine wpAnyX_take (i := 3) [8, 10, 11] (v := ?_) rfl (by kernel_rfl) (by kernel_rfl) (by kernel_rfl) (by kernel_rfl) (fun _ _ _ h => h) (Or.inl ⟨by kernel_rfl, ?_⟩) (by assumption) ?_
    rotate_left 1
    · (intro w hSw; obtain ⟨m0, m1, m2, m3, m4, m5, m6, m7⟩ := hSw; go_simp; try (with_reducible rfl))
    (try simp only [Act.put, List.getElem_toArray, List.getElem_cons_succ, List.getElem_cons_zero, List.setIfInBounds_toArray, List.set_cons_zero, List.set_cons_succ])
    refine wpAnyX_take (i := 4) [6, 8, 10, 11] (v := ?_) rfl (by kernel_rfl) (by kernel_rfl) (by kernel_rfl) (by kernel_rfl) (fun _ _ _ h => h) (Or.inl ⟨by kernel_rfl, ?_⟩) (by assumption) ?_
    rotate_left 1
    · (intro w hSw; obtain ⟨m0, m1, m2, m3, m4, m5, m6, m7⟩ := hSw; go_simp; try (with_reducible rfl))
    (try simp only [Act.put, List.getElem_toArray, List.getElem_cons_succ, List.getElem_cons_zero, List.setIfInBounds_toArray, List.set_cons_zero, List.set_cons_succ])
    refine wpAnyX_take (i := 5) [6, 8, 10, 11] (v := ?_) rfl (by kernel_rfl) (by kernel_rfl) (by kernel_rfl) (by kernel_rfl) (fun _ _ _ h => h) (Or.inl ⟨by kernel_rfl, ?_⟩) (by assumption) ?_
    rotate_left 1
    · (intro w hSw; obtain ⟨m0, m1, m2, m3, m4, m5, m6, m7⟩ := hSw; go_simp; try (with_reducible rfl))
    (try simp only [Act.put, List.getElem_toArray, List.getElem_cons_succ, List.getElem_cons_zero, List.setIfInBounds_toArray, List.set_cons_zero, List.set_cons_succ])
    refine wpAnyX_take (i := 7) [8, 10, 11] (v := ?_) rfl (by kernel_rfl) (by kernel_rfl) (by kernel_rfl) (by kernel_rfl) (fun _ _ _ h => h) (Or.inl ⟨by kernel_rfl, ?_⟩) (by assumption) ?_
    rotate_left 1
    · (intro w hSw; obtain ⟨m0, m1, m2, m3, m4, m5, m6, m7⟩ := hSw; go_simp; try (with_reducible rfl))
    (try simp only [Act.put, List.getElem_toArray, List.getElem_cons_succ, List.getElem_cons_zero, List.setIfInBounds_toArray, List.set_cons_zero, List.set_cons_succ])
    refine wpAnyX_take (i := 9) [11] (v := ?_) rfl (by kernel_rfl) (by kernel_rfl) (by kernel_rfl) (by kernel_rfl) (fun _ _ _ h => h) (Or.inl ⟨by kernel_rfl, ?_⟩) (by assumption) ?_
    rotate_left 1
    · (intro w hSw; obtain ⟨m0, m1, m2, m3, m4, m5, m6, m7⟩ := hSw; go_simp; try (with_reducible rfl))
    (try simp only [Act.put, List.getElem_toArray, List.getElem_cons_succ, List.getElem_cons_zero, List.setIfInBounds_toArray, List.set_cons_zero, List.set_cons_succ])
    refine wpAnyX_one 6 (by kernel_rfl) rfl (fun K hK => ?_)
    go_simp
    go_wp2_with (refine (CL.out _).mono ?_; rintro e v1 ⟨rfl, b1⟩)
    have B1 := (Below.refl wo.heap.size wo).drew.trans b1
    refine hK.out _ _ (.inr (K6.out _ B1)) ?_
    have hHeld1 := K6.out _ B1
    clear hK K
    (try simp only [Act.put, List.getElem_toArray, List.getElem_cons_succ, List.getElem_cons_zero, List.setIfInBounds_toArray, List.set_cons_zero, List.set_cons_succ])
    refine wpAnyX_take (i := 8) [10, 11] (v := ?_) rfl (by kernel_rfl) (by kernel_rfl) (by kernel_rfl) (by kernel_rfl) (fun _ _ _ h => h) (Or.inl ⟨by kernel_rfl, ?_⟩) (by assumption) ?_
    rotate_left 1
    · (intro w hSw; obtain ⟨m0, m1, m2, m3, m4, m5, m6, m7⟩ := hSw; go_simp; try (with_reducible rfl))
    (try simp only [Act.put, List.getElem_toArray, List.getElem_cons_succ, List.getElem_cons_zero, List.setIfInBounds_toArray, List.set_cons_zero, List.set_cons_succ])
    refine wpAnyX_one 10 (by kernel_rfl) rfl (fun K hK => ?_)
    have R5 := HR.out.below B1 HR.out.lt
    have N5 := HN.out.below B1 HN.out.lt
    have F5 := HB.out.trans (B1.mono HB.out.size)
    have zr0 := R5.cell 0
    have zr1 := R5.cell 1
    have zr2 := R5.cell 2
    have zr3 := R5.cell 3
    have zr4 := R5.cell 4
    have zr5 := R5.cell 5
    have zr6 := R5.cell 6
    have zr7 := R5.cell 7
    have zr8 := R5.cell 8
    have zr9 := R5.cell 9
    have zr10 := R5.cell 10
    have zf0 := R5.free 0
    have zf1 := R5.free 1
    have zf2 := R5.free 2
    have zf3 := R5.free 3
    have zf4 := R5.free 4
    have zf5 := R5.free 5
    have zf6 := R5.free 6
    have zf7 := R5.free 7
    have zf8 := R5.free 8
    have zf9 := R5.free 9
    have zf10 := R5.free 10
    have nr0 := N5.cell 0
    have nr1 := N5.cell 1
    have nr2 := N5.cell 2
    have nr3 := N5.cell 3
    have nf0 := N5.free 0
    have nf1 := N5.free 1
    have nf2 := N5.free 2
    have nf3 := N5.free 3
    have X5 := (HX.out.below B1 HX.out.lt).eleven_far (r := (w.heap.size + 1 + 1)) (by omega) (.bool true) (.int .i64 xq) (.int .i64 xq) (.int .i64 lq) (.int .i64 lt) (.int .i64 lp) (.int .i64 ll) (.int .i64 vq) (.int .i64 vt) (.int .i64 vp) (.int .i64 vl)
    have T5 := (HT2.out.below B1 HT2.out.lt).eleven_far (r := (w.heap.size + 1 + 1)) (by omega) (.bool true) (.int .i64 xq) (.int .i64 xq) (.int .i64 lq) (.int .i64 lt) (.int .i64 lp) (.int .i64 ll) (.int .i64 vq) (.int .i64 vt) (.int .i64 vp) (.int .i64 vl)
    go_simp
    refine hK.out _ _ (.inr ⟨X5.cell 0, X5.cell 1, X5.cell 2, X5.cell 3, T5.cell 0, T5.cell 1, T5.cell 2, T5.cell 3⟩) ?_
    have hHeld2 : (fun (w' : World) => w'.cell? ⟨(w.heap.size + 1), 0, none⟩ = some (.int .i64 xq) ∧ w'.cell? ⟨(w.heap.size + 1), 1, none⟩ = some (.int .i64 xt) ∧ w'.cell? ⟨(w.heap.size + 1), 2, none⟩ = some (.int .i64 xp) ∧ w'.cell? ⟨(w.heap.size + 1), 3, none⟩ = some (.int .i64 xl) ∧ w'.cell? ⟨(w.heap.size + 1 + 1 + 1 + 1), 0, none⟩ = some (.int .i64 vq) ∧ w'.cell? ⟨(w.heap.size + 1 + 1 + 1 + 1), 1, none⟩ = some (.int .i64 vt) ∧ w'.cell? ⟨(w.heap.size + 1 + 1 + 1 + 1), 2, none⟩ = some (.int .i64 vp) ∧ w'.cell? ⟨(w.heap.size + 1 + 1 + 1 + 1), 3, none⟩ = some (.int .i64 vl)) _ := ⟨X5.cell 0, X5.cell 1, X5.cell 2, X5.cell 3, T5.cell 0, T5.cell 1, T5.cell 2, T5.cell 3⟩
    clear hK K
    (try simp only [Act.put, List.getElem_toArray, List.getElem_cons_succ, List.getElem_cons_zero, List.setIfInBounds_toArray, List.set_cons_zero, List.set_cons_succ])
    refine wpAnyX_one 11 (by kernel_rfl) rfl (fun K hK => ?_)
    go_simp
    refine hK.out _ _ (.inl (by decide)) ?_
    clear hK K
    (try simp only [Act.put, List.getElem_toArray, List.getElem_cons_succ, List.getElem_cons_zero, List.setIfInBounds_toArray, List.set_cons_zero, List.set_cons_succ])
    refine wpAnyX_done (by kernel_rfl) ?_ _
    go_wp2_with fail
    exact bodyPost_ret (v := .tuple #[.agg #[.bool true, .int .i64 xq, .int .i64 xq, .int .i64 lq, .int .i64 lt, .int .i64 lp, .int .i64 ll, .int .i64 vq, .int .i64 vt, .int .i64 vp, .int .i64 vl], .agg #[.int .i64 vq, .int .i64 vt, .int .i64 vp, .int .i64 vl]]) (by simp [results, Try.results12, go_sem, zr0, zr1, zr2, zr3, zr4, zr5, zr6, zr7, zr8, zr9, zr10, nr0, nr1, nr2, nr3]) rfl ⟨rfl, four_set (eleven_set F5 (by omega) _ _ _ _ _ _ _ _ _ _ _) (by omega) _ _ _ _⟩
end Go.Proofs.Ytpemikncbolkbaa
