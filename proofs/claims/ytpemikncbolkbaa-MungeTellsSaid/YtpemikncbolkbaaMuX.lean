/-
  Layer 13's law: of (a state as the document has it).
-/
import Derived.Test.YtpemikncbolkbaaMuE
import Derived.Test.YtpemikncbolkbaaHang
namespace Go.Proofs.Ytpemikncbolkbaa
open Go.RowKit
set_option linter.unusedSimpArgs false
set_option linter.unusedVariables false

set_option maxRecDepth 100000 in
set_option maxHeartbeats 3200000 in
theorem mof_any (s : Mst) (h1 : s.off.Fit) (h2 : s.out.Fit) (w : World) : Calls Try.prog 13 #[.agg s.cells] w fun e w' => e = .returned (.agg s.plain) ∧ Below w.heap.size w w' := by
  have C1 := fun w => nums_any s.off h1 w
  have C2 := fun w => nums_any s.out h2 w
  clear h1 h2
  obtain ⟨on, hi, sc, ⟨oq, ot, op, ol⟩, ⟨uq, ut, up, ul⟩⟩ := s
  dsimp only [Mst.cells, Mst.plain, Mn.cells, Mn.plain] at *
  replace C1 := Lib.hid C1
  replace C2 := Lib.hid C2
  have HX := Lib.hid ((Whole.new w 27 #[.bool on, .int .i64 hi, .int .i64 sc, .int .u16 oq, .int .u32 ot, .int .u16 op, .int .u8 ol, .int .u16 uq, .int .u32 ut, .int .u16 up, .int .u8 ul]).alloc (.cells #[.bool false, .int .i64 0, .int .i64 0, .int .i64 0, .int .i64 0, .int .i64 0, .int .i64 0, .int .i64 0, .int .i64 0, .int .i64 0, .int .i64 0] 36))
  have HQ := Lib.hid (Whole.new2 w (.cells #[.bool on, .int .i64 hi, .int .i64 sc, .int .u16 oq, .int .u32 ot, .int .u16 op, .int .u8 ol, .int .u16 uq, .int .u32 ut, .int .u16 up, .int .u8 ul] 27) 36 #[.bool false, .int .i64 0, .int .i64 0, .int .i64 0, .int .i64 0, .int .i64 0, .int .i64 0, .int .i64 0, .int .i64 0, .int .i64 0, .int .i64 0])
  have HB := Lib.hid (((Below.refl w.heap.size w).alloc (Nat.le_refl _) (.cells #[.bool on, .int .i64 hi, .int .i64 sc, .int .u16 oq, .int .u32 ot, .int .u16 op, .int .u8 ol, .int .u16 uq, .int .u32 ut, .int .u16 up, .int .u8 ul] 27)).alloc (by simp) (.cells #[.bool false, .int .i64 0, .int .i64 0, .int .i64 0, .int .i64 0, .int .i64 0, .int .i64 0, .int .i64 0, .int .i64 0, .int .i64 0, .int .i64 0] 36))
  go_enter Try.func13, Try.ntmps13
  go_upto_region 1 with fail
  obtain ⟨wo, hwo⟩ : ∃ wo, wo = (w.alloc (.cells #[.bool on, .int .i64 hi, .int .i64 sc, .int .u16 oq, .int .u32 ot, .int .u16 op, .int .u8 ol, .int .u16 uq, .int .u32 ut, .int .u16 up, .int .u8 ul] 27)).alloc (.cells #[.bool false, .int .i64 0, .int .i64 0, .int .i64 0, .int .i64 0, .int .i64 0, .int .i64 0, .int .i64 0, .int .i64 0, .int .i64 0, .int .i64 0] 36) := ⟨_, rfl⟩
  rw [← hwo] at HX HQ HB ⊢
  clear hwo
  have hle := HQ.out.lt
  have K6 := Lib.hid (fun w' (b' : Below wo.heap.size wo w') => show (fun w' => w'.cell? ⟨w.heap.size, 0, none⟩ = some (.bool on) ∧ w'.cell? ⟨w.heap.size, 1, none⟩ = some (.int .i64 hi) ∧ w'.cell? ⟨w.heap.size, 2, none⟩ = some (.int .i64 sc) ∧ w'.cell? ⟨w.heap.size, 3, none⟩ = some (.int .u16 oq) ∧ w'.cell? ⟨w.heap.size, 4, none⟩ = some (.int .u32 ot) ∧ w'.cell? ⟨w.heap.size, 5, none⟩ = some (.int .u16 op) ∧ w'.cell? ⟨w.heap.size, 6, none⟩ = some (.int .u8 ol) ∧ w'.cell? ⟨w.heap.size, 7, none⟩ = some (.int .u16 uq) ∧ w'.cell? ⟨w.heap.size, 8, none⟩ = some (.int .u32 ut) ∧ w'.cell? ⟨w.heap.size, 9, none⟩ = some (.int .u16 up) ∧ w'.cell? ⟨w.heap.size, 10, none⟩ = some (.int .u8 ul)) w' from ⟨(HX.out.below b' HX.out.lt).cell 0, (HX.out.below b' HX.out.lt).cell 1, (HX.out.below b' HX.out.lt).cell 2, (HX.out.below b' HX.out.lt).cell 3, (HX.out.below b' HX.out.lt).cell 4, (HX.out.below b' HX.out.lt).cell 5, (HX.out.below b' HX.out.lt).cell 6, (HX.out.below b' HX.out.lt).cell 7, (HX.out.below b' HX.out.lt).cell 8, (HX.out.below b' HX.out.lt).cell 9, (HX.out.below b' HX.out.lt).cell 10⟩)
  refine wp_region_X (S := fun w' => w'.cell? ⟨w.heap.size, 0, none⟩ = some (.bool on) ∧ w'.cell? ⟨w.heap.size, 1, none⟩ = some (.int .i64 hi) ∧ w'.cell? ⟨w.heap.size, 2, none⟩ = some (.int .i64 sc) ∧ w'.cell? ⟨w.heap.size, 3, none⟩ = some (.int .u16 oq) ∧ w'.cell? ⟨w.heap.size, 4, none⟩ = some (.int .u32 ot) ∧ w'.cell? ⟨w.heap.size, 5, none⟩ = some (.int .u16 op) ∧ w'.cell? ⟨w.heap.size, 6, none⟩ = some (.int .u8 ol) ∧ w'.cell? ⟨w.heap.size, 7, none⟩ = some (.int .u16 uq) ∧ w'.cell? ⟨w.heap.size, 8, none⟩ = some (.int .u32 ut) ∧ w'.cell? ⟨w.heap.size, 9, none⟩ = some (.int .u16 up) ∧ w'.cell? ⟨w.heap.size, 10, none⟩ = some (.int .u8 ul)) [13] (by kernel_rfl) (K6.out _ (Below.refl _ _).drew) (fun hHeld0 => ?_)
  refine wpAnyX_take (i := 0) [1, 12, 13] (v := ?_) rfl (by kernel_rfl) (by kernel_rfl) (by kernel_rfl) (by kernel_rfl) (fun _ _ _ h => h) (Or.inl ⟨by kernel_rfl, ?_⟩) (by assumption) ?_
  rotate_left 1
  · (intro w hSw; obtain ⟨q0, q1, q2, q3, q4, q5, q6, q7, q8, q9, q10⟩ := hSw; go_simp; try (with_reducible rfl))
  (try simp only [Act.put, List.getElem_toArray, List.getElem_cons_succ, List.getElem_cons_zero, List.setIfInBounds_toArray, List.set_cons_zero, List.set_cons_succ])
  refine wpAnyX_take (i := 1) [12, 13] (v := ?_) rfl (by kernel_rfl) (by kernel_rfl) (by kernel_rfl) (by kernel_rfl) (fun _ _ _ h => h) (Or.inl ⟨by kernel_rfl, ?_⟩) (by assumption) ?_
  rotate_left 1
  · (intro w hSw; obtain ⟨q0, q1, q2, q3, q4, q5, q6, q7, q8, q9, q10⟩ := hSw; go_simp; try (with_reducible rfl))
  (try simp only [Act.put, List.getElem_toArray, List.getElem_cons_succ, List.getElem_cons_zero, List.setIfInBounds_toArray, List.set_cons_zero, List.set_cons_succ])
  refine wpAnyX_take (i := 2) [3, 12, 13] (v := ?_) rfl (by kernel_rfl) (by kernel_rfl) (by kernel_rfl) (by kernel_rfl) (fun _ _ _ h => h) (Or.inl ⟨by kernel_rfl, ?_⟩) (by assumption) ?_
  rotate_left 1
  · (intro w hSw; obtain ⟨q0, q1, q2, q3, q4, q5, q6, q7, q8, q9, q10⟩ := hSw; go_simp; try (with_reducible rfl))
  (try simp only [Act.put, List.getElem_toArray, List.getElem_cons_succ, List.getElem_cons_zero, List.setIfInBounds_toArray, List.set_cons_zero, List.set_cons_succ])
  refine wpAnyX_take (i := 3) [12, 13] (v := ?_) rfl (by kernel_rfl) (by kernel_rfl) (by kernel_rfl) (by kernel_rfl) (fun _ _ _ h => h) (Or.inl ⟨by kernel_rfl, ?_⟩) (by assumption) ?_
  rotate_left 1
  · (intro w hSw; obtain ⟨q0, q1, q2, q3, q4, q5, q6, q7, q8, q9, q10⟩ := hSw; go_simp; try (with_reducible rfl))
  (try simp only [Act.put, List.getElem_toArray, List.getElem_cons_succ, List.getElem_cons_zero, List.setIfInBounds_toArray, List.set_cons_zero, List.set_cons_succ])
  refine wpAnyX_take (i := 4) [5, 12, 13] (v := ?_) rfl (by kernel_rfl) (by kernel_rfl) (by kernel_rfl) (by kernel_rfl) (fun _ _ _ h => h) (Or.inl ⟨by kernel_rfl, ?_⟩) (by assumption) ?_
  rotate_left 1
  · (intro w hSw; obtain ⟨q0, q1, q2, q3, q4, q5, q6, q7, q8, q9, q10⟩ := hSw; go_simp; try (with_reducible rfl))
  (try simp only [Act.put, List.getElem_toArray, List.getElem_cons_succ, List.getElem_cons_zero, List.setIfInBounds_toArray, List.set_cons_zero, List.set_cons_succ])
  refine wpAnyX_take (i := 5) [12, 13] (v := ?_) rfl (by kernel_rfl) (by kernel_rfl) (by kernel_rfl) (by kernel_rfl) (fun _ _ _ h => h) (Or.inl ⟨by kernel_rfl, ?_⟩) (by assumption) ?_
  rotate_left 1
  · (intro w hSw; obtain ⟨q0, q1, q2, q3, q4, q5, q6, q7, q8, q9, q10⟩ := hSw; go_simp; try (with_reducible rfl))
  (try simp only [Act.put, List.getElem_toArray, List.getElem_cons_succ, List.getElem_cons_zero, List.setIfInBounds_toArray, List.set_cons_zero, List.set_cons_succ])
  refine wpAnyX_take (i := 6) [7, 8, 11, 12, 13] (v := ?_) rfl (by kernel_rfl) (by kernel_rfl) (by kernel_rfl) (by kernel_rfl) (fun _ _ _ h => h) (Or.inl ⟨by kernel_rfl, ?_⟩) (by assumption) ?_
  rotate_left 1
  · (intro w hSw; obtain ⟨q0, q1, q2, q3, q4, q5, q6, q7, q8, q9, q10⟩ := hSw; go_simp; try (with_reducible rfl))
  (try simp only [Act.put, List.getElem_toArray, List.getElem_cons_succ, List.getElem_cons_zero, List.setIfInBounds_toArray, List.set_cons_zero, List.set_cons_succ])
  refine wpAnyX_take (i := 7) [8, 11, 12, 13] (v := ?_) rfl (by kernel_rfl) (by kernel_rfl) (by kernel_rfl) (by kernel_rfl) (fun _ _ _ h => h) (Or.inl ⟨by kernel_rfl, ?_⟩) (by assumption) ?_
  rotate_left 1
  · (intro w hSw; obtain ⟨q0, q1, q2, q3, q4, q5, q6, q7, q8, q9, q10⟩ := hSw; go_simp; try (with_reducible rfl))
  (try simp only [Act.put, List.getElem_toArray, List.getElem_cons_succ, List.getElem_cons_zero, List.setIfInBounds_toArray, List.set_cons_zero, List.set_cons_succ])
  refine wpAnyX_take (i := 9) [10, 11, 12, 13] (v := ?_) rfl (by kernel_rfl) (by kernel_rfl) (by kernel_rfl) (by kernel_rfl) (fun _ _ _ h => h) (Or.inl ⟨by kernel_rfl, ?_⟩) (by assumption) ?_
  rotate_left 1
  · (intro w hSw; obtain ⟨q0, q1, q2, q3, q4, q5, q6, q7, q8, q9, q10⟩ := hSw; go_simp; try (with_reducible rfl))
  (try simp only [Act.put, List.getElem_toArray, List.getElem_cons_succ, List.getElem_cons_zero, List.setIfInBounds_toArray, List.set_cons_zero, List.set_cons_succ])
  refine wpAnyX_take (i := 10) [11, 12, 13] (v := ?_) rfl (by kernel_rfl) (by kernel_rfl) (by kernel_rfl) (by kernel_rfl) (fun _ _ _ h => h) (Or.inl ⟨by kernel_rfl, ?_⟩) (by assumption) ?_
  rotate_left 1
  · (intro w hSw; obtain ⟨q0, q1, q2, q3, q4, q5, q6, q7, q8, q9, q10⟩ := hSw; go_simp; try (with_reducible rfl))
  (try simp only [Act.put, List.getElem_toArray, List.getElem_cons_succ, List.getElem_cons_zero, List.setIfInBounds_toArray, List.set_cons_zero, List.set_cons_succ])
  refine wpAnyX_one 8 (by kernel_rfl) rfl (fun K hK => ?_)
  go_simp
  go_wp2_with (refine (C1.out _).mono ?_; rintro e v1 ⟨rfl, b1⟩)
  have B1 := (Below.refl wo.heap.size wo).drew.trans (b1.mono (Below.refl wo.heap.size wo).drew.size)
  refine hK.out _ _ (.inr (K6.out _ B1)) ?_
  have hHeld1 := K6.out _ B1
  clear hK K
  (try simp only [Act.put, List.getElem_toArray, List.getElem_cons_succ, List.getElem_cons_zero, List.setIfInBounds_toArray, List.set_cons_zero, List.set_cons_succ])
  refine wpAnyX_one 11 (by kernel_rfl) rfl (fun K hK => ?_)
  go_simp
  go_wp2_with (refine (C2.out _).mono ?_; rintro e v2 ⟨rfl, b2⟩)
  have B2 := B1.trans (b2.mono B1.size)
  refine hK.out _ _ (.inr (K6.out _ B2)) ?_
  have hHeld2 := K6.out _ B2
  clear hK K
  (try simp only [Act.put, List.getElem_toArray, List.getElem_cons_succ, List.getElem_cons_zero, List.setIfInBounds_toArray, List.set_cons_zero, List.set_cons_succ])
  refine wpAnyX_take (i := 12) [13] (v := ?_) rfl (by kernel_rfl) (by kernel_rfl) (by kernel_rfl) (by kernel_rfl) (fun _ _ _ h => h) (Or.inl ⟨by kernel_rfl, ?_⟩) (by assumption) ?_
  rotate_left 1
  · (intro w hSw; obtain ⟨q0, q1, q2, q3, q4, q5, q6, q7, q8, q9, q10⟩ := hSw; go_simp; try (with_reducible rfl))
  (try simp only [Act.put, List.getElem_toArray, List.getElem_cons_succ, List.getElem_cons_zero, List.setIfInBounds_toArray, List.set_cons_zero, List.set_cons_succ])
  refine wpAnyX_one 13 (by kernel_rfl) rfl (fun K hK => ?_)
  have Q4 := HQ.out.below B2 HQ.out.lt
  have z0 := Q4.cell 0
  have z1 := Q4.cell 1
  have z2 := Q4.cell 2
  have z3 := Q4.cell 3
  have z4 := Q4.cell 4
  have z5 := Q4.cell 5
  have z6 := Q4.cell 6
  have z7 := Q4.cell 7
  have z8 := Q4.cell 8
  have z9 := Q4.cell 9
  have z10 := Q4.cell 10
  have y0 := Q4.free 0
  have y1 := Q4.free 1
  have y2 := Q4.free 2
  have y3 := Q4.free 3
  have y4 := Q4.free 4
  have y5 := Q4.free 5
  have y6 := Q4.free 6
  have y7 := Q4.free 7
  have y8 := Q4.free 8
  have y9 := Q4.free 9
  have y10 := Q4.free 10
  have F4 := HB.out.trans (B2.mono HB.out.size)
  go_simp
  refine hK.out _ _ (.inl (by decide)) ?_
  clear hK K
  (try simp only [Act.put, List.getElem_toArray, List.getElem_cons_succ, List.getElem_cons_zero, List.setIfInBounds_toArray, List.set_cons_zero, List.set_cons_succ])
  refine wpAnyX_done (by kernel_rfl) ?_ _
  go_wp2_with fail
  exact bodyPost_ret (v := .agg #[.bool on, .int .i64 hi, .int .i64 sc, .int .i64 oq, .int .i64 ot, .int .i64 op, .int .i64 ol, .int .i64 uq, .int .i64 ut, .int .i64 up, .int .i64 ul]) (by simp [results, Try.results13, go_sem, z0, z1, z2, z3, z4, z5, z6, z7, z8, z9, z10]) rfl ⟨rfl, eleven_set F4 (Nat.le_succ _) _ _ _ _ _ _ _ _ _ _ _⟩
end Go.Proofs.Ytpemikncbolkbaa
