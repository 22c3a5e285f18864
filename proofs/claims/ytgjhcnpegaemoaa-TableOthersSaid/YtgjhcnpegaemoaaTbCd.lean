/-
  A route that is added, or not; a downtrack that is added, or not.
-/
import Derived.Test.YtgjhcnpegaemoaaTbCc
import Derived.Deep.RegionHeld3
import Derived.Deep.QuietTactic
import Derived.Test.YtgjhcnpegaemoaaHang
namespace Go.Proofs.Ytgjhcnpegaemoaa
open Go.RowKit Go.Maps
set_option linter.unusedSimpArgs false
set_option linter.unusedVariables false
set_option maxRecDepth 100000
theorem But.cell {S : Nat → Prop} {w w' : World} (h : But S w w') {g j : Nat} (hg : g < w.heap.size) (hs : ¬ S g) {u : Value} (hc : w.cell? ⟨g, j, none⟩ = some u) : w'.cell? ⟨g, j, none⟩ = some u :=
  (World.cell?_of_block (a := ⟨g, j, none⟩) (h.block g hg hs)).trans hc
section
variable (g m1 m2 m3 m4 : Nat) (T : List (Int × Option Nat)) (p : Int) (R : List Rt) (D : List Dn) (x : Rt) (w : World)
theorem radd_low (h : TB w g m1 m2 m3 m4 T p R R D D) (hl : R.length < 1000) (hs : U32 x.ssrc) (ht : I64 x.track) (hy : I64 x.layer) (ho : ¬ x.ssrc ≤ 2147483647) :
    Calls Try.prog 23 #[.pointer (some ⟨g, 0, none⟩), .agg x.cells.toArray] w fun e w' => e = .returned (.bool false) ∧ But (fun k => k = m1 ∨ k = m2) w w' := by
  obtain ⟨w1, hw1⟩ : ∃ z, z = w.alloc (.cells x.cells.toArray 37) := ⟨_, rfl⟩
  have b1 : But (fun _ => False) w w1 := by rw [hw1]; exact (But.refl _ _).alloc _
  have W1 := (show Whole w1 w.heap.size 37 x.cells.toArray by rw [hw1]; exact Whole.new w _ _)
  have h1 := h.next b1
  have hl' : R.length < maxLen := Nat.lt_trans hl (by decide)
  have HF := Lib.hid (fun wx (b : But (fun _ => False) w1 wx) =>
    (show But (fun k => k = m1 ∨ k = m2) w wx from ((b1.mono (fun _ _ h => h.elim)).trans (b.mono (fun _ _ h => h.elim)))))
  have n1 := h.g1
  have n2 := h.g2
  have nb : w.heap.size ≠ m1 := Nat.ne_of_gt (MapG.lt h.r)
  have nb2 : w.heap.size ≠ m2 := Nat.ne_of_gt (MapG.lt h.s)
  have c1 := h1.st.cell 1
  have c2 := h1.st.cell 2
  have lg := h1.st.lt
  have lw := W1.lt
  obtain ⟨x0, x1, x2, x3, x4⟩ := x
  unfold Rt.cells at *
  dsimp only at *
  have d0 := W1.cell 0
  have d1 := W1.cell 1
  have d2 := W1.cell 2
  have d3 := W1.cell 3
  have d4 := W1.cell 4
  have t0 : decide (x0 < 2147483648) = false := decide_eq_false (by omega)
  clear h h1 b1 W1 hl hl' hs ht hy ho
  go_enter Try.func23, Try.ntmps23
  go_upto_region 1 with fail
  rw [← hw1]
  clear hw1
  go_quiet (fail)
  go_wp2
  go_ret
  exact ⟨rfl, HF.out _ ((But.refl _ _).drewN _)⟩
theorem radd_one (h : TB w g m1 m2 m3 m4 T p R R D D) (hl : R.length < 1000) (hs : U32 x.ssrc) (ht : I64 x.track) (hy : I64 x.layer) (ho : x.ssrc ≤ 2147483647) (f1 : fndG Rt.ssrc R x.ssrc ≠ none) :
    Calls Try.prog 23 #[.pointer (some ⟨g, 0, none⟩), .agg x.cells.toArray] w fun e w' => e = .returned (.bool false) ∧ But (fun k => k = m1 ∨ k = m2) w w' := by
  obtain ⟨w1, hw1⟩ : ∃ z, z = w.alloc (.cells x.cells.toArray 37) := ⟨_, rfl⟩
  have b1 : But (fun _ => False) w w1 := by rw [hw1]; exact (But.refl _ _).alloc _
  have W1 := (show Whole w1 w.heap.size 37 x.cells.toArray by rw [hw1]; exact Whole.new w _ _)
  have h1 := h.next b1
  have hl' : R.length < maxLen := Nat.lt_trans hl (by decide)
  have C1 := Lib.hid (fun wx (b : But (fun _ => False) w1 wx) => rput_old m1 R x wx (h1.next b).r hs hl' f1)
  have HF := Lib.hid (fun wx wy (b : But (fun _ => False) w1 wx) (k : But (fun k => k = m1) wx wy) =>
    (show But (fun k => k = m1 ∨ k = m2) w wy from (((b1.mono (fun _ _ h => h.elim)).trans (b.mono (fun _ _ h => h.elim))).trans (k.mono fun _ _ h => .inl h))))
  have n1 := h.g1
  have n2 := h.g2
  have nb : w.heap.size ≠ m1 := Nat.ne_of_gt (MapG.lt h.r)
  have nb2 : w.heap.size ≠ m2 := Nat.ne_of_gt (MapG.lt h.s)
  have c1 := h1.st.cell 1
  have c2 := h1.st.cell 2
  have lg := h1.st.lt
  have lw := W1.lt
  obtain ⟨x0, x1, x2, x3, x4⟩ := x
  unfold Rt.cells at *
  dsimp only at *
  have d0 := W1.cell 0
  have d1 := W1.cell 1
  have d2 := W1.cell 2
  have d3 := W1.cell 3
  have d4 := W1.cell 4
  have t0 : decide (x0 < 2147483648) = true := decide_eq_true (by omega)
  clear h h1 b1 W1 hl hl' hs ht hy ho f1
  go_enter Try.func23, Try.ntmps23
  go_upto_region 1 with fail
  rw [← hw1]
  clear hw1
  refine wp_region_X (S := fun w' => w'.cell? ⟨w.heap.size, 0, none⟩ = some (.int .u32 x0) ∧ w'.cell? ⟨w.heap.size, 1, none⟩ = some (.int .i64 x1) ∧ w'.cell? ⟨w.heap.size, 2, none⟩ = some (.int .i64 x2) ∧ w'.cell? ⟨w.heap.size, 3, none⟩ = some (.int .i64 x3) ∧ w'.cell? ⟨w.heap.size, 4, none⟩ = some (.int .i64 x4) ∧ w'.cell? ⟨g, 1, none⟩ = some (.map (some m1)) ∧ w'.cell? ⟨g, 2, none⟩ = some (.map (some m2))) [] (by kernel_rfl) ⟨d0, d1, d2, d3, d4, c1, c2⟩ (fun hHeld0 => ?_)
  refine wpAnyX_take (i := 0) [] (v := ?_) rfl (by kernel_rfl) (by kernel_rfl) (by kernel_rfl) (by kernel_rfl) (fun _ _ _ h => h) (Or.inl ⟨by kernel_rfl, ?_⟩) (by assumption) ?_
  rotate_left 1
  · (intro w hSw; have ⟨q0, q1, q2, q3, q4, q5, q6⟩ := hSw; go_simp; try (with_reducible rfl))
  (try simp only [Act.put, List.getElem_toArray, List.getElem_cons_succ, List.getElem_cons_zero, List.setIfInBounds_toArray, List.set_cons_zero, List.set_cons_succ])
  refine wpAnyX_take (i := 1) [] (v := ?_) rfl (by kernel_rfl) (by kernel_rfl) (by kernel_rfl) (by kernel_rfl) (fun _ _ _ h => h) (Or.inl ⟨by kernel_rfl, ?_⟩) (by assumption) ?_
  rotate_left 1
  · (intro w hSw; have ⟨q0, q1, q2, q3, q4, q5, q6⟩ := hSw; go_simp; try (with_reducible rfl))
  (try simp only [Act.put, List.getElem_toArray, List.getElem_cons_succ, List.getElem_cons_zero, List.setIfInBounds_toArray, List.set_cons_zero, List.set_cons_succ])
  refine wpAnyX_take (i := 2) [] (v := ?_) rfl (by kernel_rfl) (by kernel_rfl) (by kernel_rfl) (by kernel_rfl) (fun _ _ _ h => h) (Or.inl ⟨by kernel_rfl, ?_⟩) (by assumption) ?_
  rotate_left 1
  · (intro w hSw; have ⟨q0, q1, q2, q3, q4, q5, q6⟩ := hSw; go_simp; try (with_reducible rfl))
  (try simp only [Act.put, List.getElem_toArray, List.getElem_cons_succ, List.getElem_cons_zero, List.setIfInBounds_toArray, List.set_cons_zero, List.set_cons_succ])
  refine wpAnyX_take (i := 3) [] (v := ?_) rfl (by kernel_rfl) (by kernel_rfl) (by kernel_rfl) (by kernel_rfl) (fun _ _ _ h => h) (Or.inl ⟨by kernel_rfl, ?_⟩) (by assumption) ?_
  rotate_left 1
  · (intro w hSw; have ⟨q0, q1, q2, q3, q4, q5, q6⟩ := hSw; go_simp; try (with_reducible rfl))
  (try simp only [Act.put, List.getElem_toArray, List.getElem_cons_succ, List.getElem_cons_zero, List.setIfInBounds_toArray, List.set_cons_zero, List.set_cons_succ])
  refine wpAnyX_take (i := 4) [] (v := ?_) rfl (by kernel_rfl) (by kernel_rfl) (by kernel_rfl) (by kernel_rfl) (fun _ _ _ h => h) (Or.inl ⟨by kernel_rfl, ?_⟩) (by assumption) ?_
  rotate_left 1
  · (intro w hSw; have ⟨q0, q1, q2, q3, q4, q5, q6⟩ := hSw; go_simp; try (with_reducible rfl))
  (try simp only [Act.put, List.getElem_toArray, List.getElem_cons_succ, List.getElem_cons_zero, List.setIfInBounds_toArray, List.set_cons_zero, List.set_cons_succ])
  refine wpAnyX_take (i := 5) [] (v := ?_) rfl (by kernel_rfl) (by kernel_rfl) (by kernel_rfl) (by kernel_rfl) (fun _ _ _ h => h) (Or.inl ⟨by kernel_rfl, ?_⟩) (by assumption) ?_
  rotate_left 1
  · (intro w hSw; have ⟨q0, q1, q2, q3, q4, q5, q6⟩ := hSw; go_simp; try (with_reducible rfl))
  (try simp only [Act.put, List.getElem_toArray, List.getElem_cons_succ, List.getElem_cons_zero, List.setIfInBounds_toArray, List.set_cons_zero, List.set_cons_succ])
  refine wpAnyX_take (i := 6) [] (v := ?_) rfl (by kernel_rfl) (by kernel_rfl) (by kernel_rfl) (by kernel_rfl) (fun _ _ _ h => h) (Or.inl ⟨by kernel_rfl, ?_⟩) (by assumption) ?_
  rotate_left 1
  · (intro w hSw; have ⟨q0, q1, q2, q3, q4, q5, q6⟩ := hSw; go_simp; try (with_reducible rfl))
  (try simp only [Act.put, List.getElem_toArray, List.getElem_cons_succ, List.getElem_cons_zero, List.setIfInBounds_toArray, List.set_cons_zero, List.set_cons_succ])
  refine wpAnyX_take (i := 7) [] (v := ?_) rfl (by kernel_rfl) (by kernel_rfl) (by kernel_rfl) (by kernel_rfl) (fun _ _ _ h => h) (Or.inl ⟨by kernel_rfl, ?_⟩) (by assumption) ?_
  rotate_left 1
  · (intro w hSw; have ⟨q0, q1, q2, q3, q4, q5, q6⟩ := hSw; go_simp; try (with_reducible rfl))
  (try simp only [Act.put, List.getElem_toArray, List.getElem_cons_succ, List.getElem_cons_zero, List.setIfInBounds_toArray, List.set_cons_zero, List.set_cons_succ])
  refine wpAnyX_take (i := 8) [] (v := ?_) rfl (by kernel_rfl) (by kernel_rfl) (by kernel_rfl) (by kernel_rfl) (fun _ _ _ h => h) (Or.inl ⟨by kernel_rfl, ?_⟩) (by assumption) ?_
  rotate_left 1
  · (intro w hSw; have ⟨q0, q1, q2, q3, q4, q5, q6⟩ := hSw; go_simp; try (with_reducible rfl))
  (try simp only [Act.put, List.getElem_toArray, List.getElem_cons_succ, List.getElem_cons_zero, List.setIfInBounds_toArray, List.set_cons_zero, List.set_cons_succ])
  refine wpAnyX_take (i := 9) [] (v := ?_) rfl (by kernel_rfl) (by kernel_rfl) (by kernel_rfl) (by kernel_rfl) (fun _ _ _ h => h) (Or.inl ⟨by kernel_rfl, ?_⟩) (by assumption) ?_
  rotate_left 1
  · (intro w hSw; have ⟨q0, q1, q2, q3, q4, q5, q6⟩ := hSw; go_simp; try (with_reducible rfl))
  (try simp only [Act.put, List.getElem_toArray, List.getElem_cons_succ, List.getElem_cons_zero, List.setIfInBounds_toArray, List.set_cons_zero, List.set_cons_succ])
  refine wpAnyX_take (i := 10) [] (v := ?_) rfl (by kernel_rfl) (by kernel_rfl) (by kernel_rfl) (by kernel_rfl) (fun _ _ _ h => h) (Or.inl ⟨by kernel_rfl, ?_⟩) (by assumption) ?_
  rotate_left 1
  · (intro w hSw; have ⟨q0, q1, q2, q3, q4, q5, q6⟩ := hSw; go_simp; try (with_reducible rfl))
  (try simp only [Act.put, List.getElem_toArray, List.getElem_cons_succ, List.getElem_cons_zero, List.setIfInBounds_toArray, List.set_cons_zero, List.set_cons_succ])
  refine wpAnyX_one 11 (by kernel_rfl) rfl (fun K hK => ?_)
  go_simp
  go_wp2_with (go_at_call 29; refine (C1.out _ ((But.refl _ _).drew)).mono ?_; rintro e w2 ⟨rfl, k2⟩)
  have e0 := k2.cell lw nb d0
  have e1 := k2.cell lw nb d1
  have e2 := k2.cell lw nb d2
  have e3 := k2.cell lw nb d3
  have e4 := k2.cell lw nb d4
  have e5 := k2.cell lg (Ne.symm n1) c1
  have e6 := k2.cell lg (Ne.symm n1) c2
  have HG := Lib.hid (HF.out _ _ ((But.refl _ _).drew) k2)
  clear k2
  refine hK.out _ _ (.inr ⟨e0, e1, e2, e3, e4, e5, e6⟩) ?_
  have hHeld1 : (fun w' => w'.cell? ⟨w.heap.size, 0, none⟩ = some (.int .u32 x0) ∧ w'.cell? ⟨w.heap.size, 1, none⟩ = some (.int .i64 x1) ∧ w'.cell? ⟨w.heap.size, 2, none⟩ = some (.int .i64 x2) ∧ w'.cell? ⟨w.heap.size, 3, none⟩ = some (.int .i64 x3) ∧ w'.cell? ⟨w.heap.size, 4, none⟩ = some (.int .i64 x4) ∧ w'.cell? ⟨g, 1, none⟩ = some (.map (some m1)) ∧ w'.cell? ⟨g, 2, none⟩ = some (.map (some m2))) w2 := ⟨e0, e1, e2, e3, e4, e5, e6⟩
  clear hK K hHeld0
  (try simp only [Act.put, List.getElem_toArray, List.getElem_cons_succ, List.getElem_cons_zero, List.setIfInBounds_toArray, List.set_cons_zero, List.set_cons_succ])
  refine wpAnyX_take (i := 12) [] (v := ?_) rfl (by kernel_rfl) (by kernel_rfl) (by kernel_rfl) (by kernel_rfl) (fun _ _ _ h => h) (Or.inl ⟨by kernel_rfl, ?_⟩) (by assumption) ?_
  rotate_left 1
  · (intro w hSw; have ⟨q0, q1, q2, q3, q4, q5, q6⟩ := hSw; go_simp; try (with_reducible rfl))
  (try simp only [Act.put, List.getElem_toArray, List.getElem_cons_succ, List.getElem_cons_zero, List.setIfInBounds_toArray, List.set_cons_zero, List.set_cons_succ])
  refine wpAnyX_take (i := 13) [] (v := ?_) rfl (by kernel_rfl) (by kernel_rfl) (by kernel_rfl) (by kernel_rfl) (fun _ _ _ h => h) (Or.inl ⟨by kernel_rfl, ?_⟩) (by assumption) ?_
  rotate_left 1
  · (intro w hSw; have ⟨q0, q1, q2, q3, q4, q5, q6⟩ := hSw; go_simp; try (with_reducible rfl))
  (try simp only [Act.put, List.getElem_toArray, List.getElem_cons_succ, List.getElem_cons_zero, List.setIfInBounds_toArray, List.set_cons_zero, List.set_cons_succ])
  refine wpAnyX_take (i := 14) [] (v := undef) rfl (by kernel_rfl) (by kernel_rfl) (by kernel_rfl) (by kernel_rfl) (fun _ _ _ h => h) (Or.inr ⟨by kernel_rfl, rfl⟩) (by assumption) ?_
  (try simp only [Act.put, List.getElem_toArray, List.getElem_cons_succ, List.getElem_cons_zero, List.setIfInBounds_toArray, List.set_cons_zero, List.set_cons_succ])
  refine wpAnyX_take (i := 15) [] (v := undef) rfl (by kernel_rfl) (by kernel_rfl) (by kernel_rfl) (by kernel_rfl) (fun _ _ _ h => h) (Or.inr ⟨by kernel_rfl, rfl⟩) (by assumption) ?_
  (try simp only [Act.put, List.getElem_toArray, List.getElem_cons_succ, List.getElem_cons_zero, List.setIfInBounds_toArray, List.set_cons_zero, List.set_cons_succ])
  refine wpAnyX_take (i := 16) [] (v := undef) rfl (by kernel_rfl) (by kernel_rfl) (by kernel_rfl) (by kernel_rfl) (fun _ _ _ h => h) (Or.inr ⟨by kernel_rfl, rfl⟩) (by assumption) ?_
  (try simp only [Act.put, List.getElem_toArray, List.getElem_cons_succ, List.getElem_cons_zero, List.setIfInBounds_toArray, List.set_cons_zero, List.set_cons_succ])
  refine wpAnyX_take (i := 17) [] (v := undef) rfl (by kernel_rfl) (by kernel_rfl) (by kernel_rfl) (by kernel_rfl) (fun _ _ _ h => h) (Or.inr ⟨by kernel_rfl, rfl⟩) (by assumption) ?_
  (try simp only [Act.put, List.getElem_toArray, List.getElem_cons_succ, List.getElem_cons_zero, List.setIfInBounds_toArray, List.set_cons_zero, List.set_cons_succ])
  refine wpAnyX_take (i := 18) [] (v := undef) rfl (by kernel_rfl) (by kernel_rfl) (by kernel_rfl) (by kernel_rfl) (fun _ _ _ h => h) (Or.inr ⟨by kernel_rfl, rfl⟩) (by assumption) ?_
  (try simp only [Act.put, List.getElem_toArray, List.getElem_cons_succ, List.getElem_cons_zero, List.setIfInBounds_toArray, List.set_cons_zero, List.set_cons_succ])
  refine wpAnyX_take (i := 19) [] (v := undef) rfl (by kernel_rfl) (by kernel_rfl) (by kernel_rfl) (by kernel_rfl) (fun _ _ _ h => h) (Or.inr ⟨by kernel_rfl, rfl⟩) (by assumption) ?_
  (try simp only [Act.put, List.getElem_toArray, List.getElem_cons_succ, List.getElem_cons_zero, List.setIfInBounds_toArray, List.set_cons_zero, List.set_cons_succ])
  refine wpAnyX_take (i := 20) [] (v := undef) rfl (by kernel_rfl) (by kernel_rfl) (by kernel_rfl) (by kernel_rfl) (fun _ _ _ h => h) (Or.inr ⟨by kernel_rfl, rfl⟩) (by assumption) ?_
  (try simp only [Act.put, List.getElem_toArray, List.getElem_cons_succ, List.getElem_cons_zero, List.setIfInBounds_toArray, List.set_cons_zero, List.set_cons_succ])
  refine wpAnyX_take (i := 21) [] (v := undef) rfl (by kernel_rfl) (by kernel_rfl) (by kernel_rfl) (by kernel_rfl) (fun _ _ _ h => h) (Or.inr ⟨by kernel_rfl, rfl⟩) (by assumption) ?_
  (try simp only [Act.put, List.getElem_toArray, List.getElem_cons_succ, List.getElem_cons_zero, List.setIfInBounds_toArray, List.set_cons_zero, List.set_cons_succ])
  refine wpAnyX_take (i := 22) [] (v := undef) rfl (by kernel_rfl) (by kernel_rfl) (by kernel_rfl) (by kernel_rfl) (fun _ _ _ h => h) (Or.inr ⟨by kernel_rfl, rfl⟩) (by assumption) ?_
  (try simp only [Act.put, List.getElem_toArray, List.getElem_cons_succ, List.getElem_cons_zero, List.setIfInBounds_toArray, List.set_cons_zero, List.set_cons_succ])
  refine wpAnyX_take (i := 23) [] (v := undef) rfl (by kernel_rfl) (by kernel_rfl) (by kernel_rfl) (by kernel_rfl) (fun _ _ _ h => h) (Or.inr ⟨by kernel_rfl, rfl⟩) (by assumption) ?_
  (try simp only [Act.put, List.getElem_toArray, List.getElem_cons_succ, List.getElem_cons_zero, List.setIfInBounds_toArray, List.set_cons_zero, List.set_cons_succ])
  refine wpAnyX_take (i := 24) [] (v := undef) rfl (by kernel_rfl) (by kernel_rfl) (by kernel_rfl) (by kernel_rfl) (fun _ _ _ h => h) (Or.inr ⟨by kernel_rfl, rfl⟩) (by assumption) ?_
  (try simp only [Act.put, List.getElem_toArray, List.getElem_cons_succ, List.getElem_cons_zero, List.setIfInBounds_toArray, List.set_cons_zero, List.set_cons_succ])
  refine wpAnyX_take (i := 25) [] (v := undef) rfl (by kernel_rfl) (by kernel_rfl) (by kernel_rfl) (by kernel_rfl) (fun _ _ _ h => h) (Or.inr ⟨by kernel_rfl, rfl⟩) (by assumption) ?_
  (try simp only [Act.put, List.getElem_toArray, List.getElem_cons_succ, List.getElem_cons_zero, List.setIfInBounds_toArray, List.set_cons_zero, List.set_cons_succ])
  refine wpAnyX_take (i := 26) [] (v := ?_) rfl (by kernel_rfl) (by kernel_rfl) (by kernel_rfl) (by kernel_rfl) (fun _ _ _ h => h) (Or.inl ⟨by kernel_rfl, ?_⟩) (by assumption) ?_
  rotate_left 1
  · (intro w hSw; have ⟨q0, q1, q2, q3, q4, q5, q6⟩ := hSw; go_simp; try (with_reducible rfl))
  (try simp only [Act.put, List.getElem_toArray, List.getElem_cons_succ, List.getElem_cons_zero, List.setIfInBounds_toArray, List.set_cons_zero, List.set_cons_succ])
  refine wpAnyX_take (i := 27) [] (v := ?_) rfl (by kernel_rfl) (by kernel_rfl) (by kernel_rfl) (by kernel_rfl) (fun _ _ _ h => h) (Or.inl ⟨by kernel_rfl, ?_⟩) (by assumption) ?_
  rotate_left 1
  · (intro w hSw; have ⟨q0, q1, q2, q3, q4, q5, q6⟩ := hSw; go_simp; try (with_reducible rfl))
  (try simp only [Act.put, List.getElem_toArray, List.getElem_cons_succ, List.getElem_cons_zero, List.setIfInBounds_toArray, List.set_cons_zero, List.set_cons_succ])
  refine wpAnyX_done (by kernel_rfl) ?_ _
  go_wp2
  go_ret
  exact ⟨rfl, HG.out⟩
theorem radd_two (h : TB w g m1 m2 m3 m4 T p R R D D) (hl : R.length < 1000) (hs : U32 x.ssrc) (ht : I64 x.track) (hy : I64 x.layer) (ho : x.ssrc ≤ 2147483647) (f1 : fndG Rt.ssrc R x.ssrc = none) (f2 : fndG Rt.strm R x.strm ≠ none) :
    Calls Try.prog 23 #[.pointer (some ⟨g, 0, none⟩), .agg x.cells.toArray] w fun e w' => e = .returned (.bool false) ∧ But (fun k => k = m1 ∨ k = m2) w w' := by
  obtain ⟨w1, hw1⟩ : ∃ z, z = w.alloc (.cells x.cells.toArray 37) := ⟨_, rfl⟩
  have b1 : But (fun _ => False) w w1 := by rw [hw1]; exact (But.refl _ _).alloc _
  have W1 := (show Whole w1 w.heap.size 37 x.cells.toArray by rw [hw1]; exact Whole.new w _ _)
  have h1 := h.next b1
  have hl' : R.length < maxLen := Nat.lt_trans hl (by decide)
  have C1 := Lib.hid (fun wx (b : But (fun _ => False) w1 wx) => rput_new m1 R x wx (h1.next b).r hs hl' f1)
  have C2 := Lib.hid (fun wx wy (b : But (fun _ => False) w1 wx) (hm : RMap wy m1 (R ++ [x])) (k : But (fun k => k = m1) wx wy) => sput_old m2 R x wy (((h1.next b).putR hm k).s) ht hy hl' f2)
  have HF := Lib.hid (fun wx wy wz (b : But (fun _ => False) w1 wx) (k : But (fun k => k = m1) wx wy) (k2 : But (fun k => k = m2) wy wz) =>
    (show But (fun k => k = m1 ∨ k = m2) w wz from ((((b1.mono (fun _ _ h => h.elim)).trans (b.mono (fun _ _ h => h.elim))).trans (k.mono fun _ _ h => .inl h)).trans (k2.mono fun _ _ h => .inr h))))
  have n1 := h.g1
  have n2 := h.g2
  have nb : w.heap.size ≠ m1 := Nat.ne_of_gt (MapG.lt h.r)
  have nb2 : w.heap.size ≠ m2 := Nat.ne_of_gt (MapG.lt h.s)
  have c1 := h1.st.cell 1
  have c2 := h1.st.cell 2
  have lg := h1.st.lt
  have lw := W1.lt
  obtain ⟨x0, x1, x2, x3, x4⟩ := x
  unfold Rt.cells at *
  dsimp only at *
  have d0 := W1.cell 0
  have d1 := W1.cell 1
  have d2 := W1.cell 2
  have d3 := W1.cell 3
  have d4 := W1.cell 4
  have t0 : decide (x0 < 2147483648) = true := decide_eq_true (by omega)
  clear h h1 b1 W1 hl hl' hs ht hy ho f1 f2
  go_enter Try.func23, Try.ntmps23
  go_upto_region 1 with fail
  rw [← hw1]
  clear hw1
  go_region_held3 (fun w' => w'.cell? ⟨w.heap.size, 0, none⟩ = some (.int .u32 x0) ∧ w'.cell? ⟨w.heap.size, 1, none⟩ = some (.int .i64 x1) ∧ w'.cell? ⟨w.heap.size, 2, none⟩ = some (.int .i64 x2) ∧ w'.cell? ⟨w.heap.size, 3, none⟩ = some (.int .i64 x3) ∧ w'.cell? ⟨w.heap.size, 4, none⟩ = some (.int .i64 x4) ∧ w'.cell? ⟨g, 1, none⟩ = some (.map (some m1)) ∧ w'.cell? ⟨g, 2, none⟩ = some (.map (some m2)))
    (first | exact d0 | exact d1 | exact d2 | exact d3 | exact d4 | exact c1 | exact c2 | exact e0 | exact e1 | exact e2 | exact e3 | exact e4 | exact e5 | exact e6 | exact g0_ | exact g1_ | exact g2_ | exact g3_ | exact g4_ | exact g5_ | exact g6_ | go_keep)
    (first
      | (go_at_call 29; refine (C1.out _ ((But.refl _ _).drew)).mono ?_; rintro e w2 ⟨rfl, hm, k2⟩
         have e0 := k2.cell lw nb d0; have e1 := k2.cell lw nb d1; have e2 := k2.cell lw nb d2; have e3 := k2.cell lw nb d3; have e4 := k2.cell lw nb d4; have e5 := k2.cell lg (Ne.symm n1) c1; have e6 := k2.cell lg (Ne.symm n1) c2
         have k2 := Lib.hid k2; have hm := Lib.hid hm)
      | (go_at_call 30; refine (C2.out _ _ ((But.refl _ _).drew) hm.out k2.out).mono ?_; rintro e w3 ⟨rfl, k3⟩
         have lw2 := Nat.lt_of_lt_of_le lw k2.out.size; have lg2 := Nat.lt_of_lt_of_le lg k2.out.size
         have g0_ := k3.cell lw2 nb2 e0; have g1_ := k3.cell lw2 nb2 e1; have g2_ := k3.cell lw2 nb2 e2; have g3_ := k3.cell lw2 nb2 e3; have g4_ := k3.cell lw2 nb2 e4; have g5_ := k3.cell lg2 (Ne.symm n2) e5; have g6_ := k3.cell lg2 (Ne.symm n2) e6
         have HG := Lib.hid (HF.out _ _ _ ((But.refl _ _).drew) k2.out k3); clear k3))
  go_wp2
  go_ret
  exact ⟨rfl, HG.out⟩
theorem radd_yes (h : TB w g m1 m2 m3 m4 T p R R D D) (hl : R.length < 1000) (hs : U32 x.ssrc) (ht : I64 x.track) (hy : I64 x.layer) (ho : x.ssrc ≤ 2147483647) (f1 : fndG Rt.ssrc R x.ssrc = none) (f2 : fndG Rt.strm R x.strm = none) :
    Calls Try.prog 23 #[.pointer (some ⟨g, 0, none⟩), .agg x.cells.toArray] w fun e w' => e = .returned (.bool true) ∧ TB w' g m1 m2 m3 m4 T p (R ++ [x]) (R ++ [x]) D D ∧ But (fun k => k = m1 ∨ k = m2) w w' := by
  obtain ⟨w1, hw1⟩ : ∃ z, z = w.alloc (.cells x.cells.toArray 37) := ⟨_, rfl⟩
  have b1 : But (fun _ => False) w w1 := by rw [hw1]; exact (But.refl _ _).alloc _
  have W1 := (show Whole w1 w.heap.size 37 x.cells.toArray by rw [hw1]; exact Whole.new w _ _)
  have h1 := h.next b1
  have hl' : R.length < maxLen := Nat.lt_trans hl (by decide)
  have C1 := Lib.hid (fun wx (b : But (fun _ => False) w1 wx) => rput_new m1 R x wx (h1.next b).r hs hl' f1)
  have C2 := Lib.hid (fun wx wy (b : But (fun _ => False) w1 wx) (hm : RMap wy m1 (R ++ [x])) (k : But (fun k => k = m1) wx wy) => sput_new m2 R x wy (((h1.next b).putR hm k).s) ht hy hl' f2)
  have HF := Lib.hid (fun wx wy wz (b : But (fun _ => False) w1 wx) (hm : RMap wy m1 (R ++ [x])) (k : But (fun k => k = m1) wx wy) (hm2 : SMap wz m2 (R ++ [x])) (k2 : But (fun k => k = m2) wy wz) =>
    (show TB wz g m1 m2 m3 m4 T p (R ++ [x]) (R ++ [x]) D D ∧ But (fun k => k = m1 ∨ k = m2) w wz from ⟨((h1.next b).putR hm k).putS hm2 k2, ((((b1.mono (fun _ _ h => h.elim)).trans (b.mono (fun _ _ h => h.elim))).trans (k.mono fun _ _ h => .inl h)).trans (k2.mono fun _ _ h => .inr h))⟩))
  have n1 := h.g1
  have n2 := h.g2
  have nb : w.heap.size ≠ m1 := Nat.ne_of_gt (MapG.lt h.r)
  have nb2 : w.heap.size ≠ m2 := Nat.ne_of_gt (MapG.lt h.s)
  have c1 := h1.st.cell 1
  have c2 := h1.st.cell 2
  have lg := h1.st.lt
  have lw := W1.lt
  obtain ⟨x0, x1, x2, x3, x4⟩ := x
  unfold Rt.cells at *
  dsimp only at *
  have d0 := W1.cell 0
  have d1 := W1.cell 1
  have d2 := W1.cell 2
  have d3 := W1.cell 3
  have d4 := W1.cell 4
  have t0 : decide (x0 < 2147483648) = true := decide_eq_true (by omega)
  clear h h1 b1 W1 hl hl' hs ht hy ho f1 f2
  go_enter Try.func23, Try.ntmps23
  go_upto_region 1 with fail
  rw [← hw1]
  clear hw1
  go_region_held3 (fun w' => w'.cell? ⟨w.heap.size, 0, none⟩ = some (.int .u32 x0) ∧ w'.cell? ⟨w.heap.size, 1, none⟩ = some (.int .i64 x1) ∧ w'.cell? ⟨w.heap.size, 2, none⟩ = some (.int .i64 x2) ∧ w'.cell? ⟨w.heap.size, 3, none⟩ = some (.int .i64 x3) ∧ w'.cell? ⟨w.heap.size, 4, none⟩ = some (.int .i64 x4) ∧ w'.cell? ⟨g, 1, none⟩ = some (.map (some m1)) ∧ w'.cell? ⟨g, 2, none⟩ = some (.map (some m2)))
    (first | exact d0 | exact d1 | exact d2 | exact d3 | exact d4 | exact c1 | exact c2 | exact e0 | exact e1 | exact e2 | exact e3 | exact e4 | exact e5 | exact e6 | exact g0_ | exact g1_ | exact g2_ | exact g3_ | exact g4_ | exact g5_ | exact g6_ | go_keep)
    (first
      | (go_at_call 29; refine (C1.out _ ((But.refl _ _).drew)).mono ?_; rintro e w2 ⟨rfl, hm, k2⟩
         have e0 := k2.cell lw nb d0; have e1 := k2.cell lw nb d1; have e2 := k2.cell lw nb d2; have e3 := k2.cell lw nb d3; have e4 := k2.cell lw nb d4; have e5 := k2.cell lg (Ne.symm n1) c1; have e6 := k2.cell lg (Ne.symm n1) c2
         have k2 := Lib.hid k2; have hm := Lib.hid hm)
      | (go_at_call 30; refine (C2.out _ _ ((But.refl _ _).drew) hm.out k2.out).mono ?_; rintro e w3 ⟨rfl, hm3, k3⟩
         have lw2 := Nat.lt_of_lt_of_le lw k2.out.size; have lg2 := Nat.lt_of_lt_of_le lg k2.out.size
         have g0_ := k3.cell lw2 nb2 e0; have g1_ := k3.cell lw2 nb2 e1; have g2_ := k3.cell lw2 nb2 e2; have g3_ := k3.cell lw2 nb2 e3; have g4_ := k3.cell lw2 nb2 e4; have g5_ := k3.cell lg2 (Ne.symm n2) e5; have g6_ := k3.cell lg2 (Ne.symm n2) e6
         have HG := Lib.hid (HF.out _ _ _ ((But.refl _ _).drew) hm.out k2.out hm3 k3); clear hm3 k3))
  go_wp2
  go_ret
  exact ⟨rfl, HG.out⟩
end
section
variable (g m1 m2 m3 m4 : Nat) (T : List (Int × Option Nat)) (p : Int) (R : List Rt) (D : List Dn) (x : Dn) (w : World)
theorem oadd_low (h : TB w g m1 m2 m3 m4 T p R R D D) (hl : D.length < 1000) (hT : T.length < 500) (hs : U32 x.ssrc) (ht : I64 x.track) (hy : I64 x.who) (ho : ¬ 2147483648 ≤ x.ssrc) :
    Calls Try.prog 25 #[.pointer (some ⟨g, 0, none⟩), .agg x.cells.toArray] w fun e w' => e = .returned (.bool false) ∧ But (fun k => TS g m1 m2 m3 m4 T k) w w' := by
  obtain ⟨w1, hw1⟩ : ∃ z, z = w.alloc (.cells x.cells.toArray 41) := ⟨_, rfl⟩
  have b1 : But (fun _ => False) w w1 := by rw [hw1]; exact (But.refl _ _).alloc _
  have W1 := (show Whole w1 w.heap.size 41 x.cells.toArray by rw [hw1]; exact Whole.new w _ _)
  have h1 := h.next b1
  have hl' : D.length < maxLen := Nat.lt_trans hl (by decide)
  have HF := Lib.hid (fun wx (b : But (fun _ => False) w1 wx) =>
    (show But (fun k => TS g m1 m2 m3 m4 T k) w wx from ((b1.mono (fun _ _ h => h.elim)).trans (b.mono (fun _ _ h => h.elim)))))
  have n1 := h.g3
  have n2 := h.g4
  have nb : w.heap.size ≠ m3 := Nat.ne_of_gt (MapG.lt h.o)
  have nb2 : w.heap.size ≠ m4 := Nat.ne_of_gt (MapG.lt h.t)
  have c1 := h1.st.cell 3
  have c2 := h1.st.cell 4
  have lg := h1.st.lt
  have lw := W1.lt
  obtain ⟨x0, x1, x2, x3, x4, x5, x6, x7, x8, x9⟩ := x
  unfold Dn.cells at *
  dsimp only at *
  have d0 := W1.cell 0
  have d1 := W1.cell 1
  have d2 := W1.cell 2
  have d3 := W1.cell 3
  have d4 := W1.cell 4
  have d5 := W1.cell 5
  have d6 := W1.cell 6
  have d7 := W1.cell 7
  have d8 := W1.cell 8
  have d9 := W1.cell 9
  have t0 : decide (2147483648 ≤ x0) = false := decide_eq_false (by omega)
  clear h h1 b1 W1 hl hl' hs ht hy ho hT
  go_enter Try.func25, Try.ntmps25
  go_upto_region 1 with fail
  rw [← hw1]
  clear hw1
  go_quiet (fail)
  go_wp2
  go_ret
  exact ⟨rfl, HF.out _ ((But.refl _ _).drewN _)⟩
theorem oadd_one (h : TB w g m1 m2 m3 m4 T p R R D D) (hl : D.length < 1000) (hT : T.length < 500) (hs : U32 x.ssrc) (ht : I64 x.track) (hy : I64 x.who) (ho : 2147483648 ≤ x.ssrc) (f1 : fndG Dn.ssrc D x.ssrc ≠ none) :
    Calls Try.prog 25 #[.pointer (some ⟨g, 0, none⟩), .agg x.cells.toArray] w fun e w' => e = .returned (.bool false) ∧ But (fun k => TS g m1 m2 m3 m4 T k) w w' := by
  obtain ⟨w1, hw1⟩ : ∃ z, z = w.alloc (.cells x.cells.toArray 41) := ⟨_, rfl⟩
  have b1 : But (fun _ => False) w w1 := by rw [hw1]; exact (But.refl _ _).alloc _
  have W1 := (show Whole w1 w.heap.size 41 x.cells.toArray by rw [hw1]; exact Whole.new w _ _)
  have h1 := h.next b1
  have hl' : D.length < maxLen := Nat.lt_trans hl (by decide)
  have C1 := Lib.hid (fun wx (b : But (fun _ => False) w1 wx) => oput_old m3 D x wx (h1.next b).o hs hl' f1)
  have HF := Lib.hid (fun wx wy (b : But (fun _ => False) w1 wx) (k : But (fun k => k = m3) wx wy) =>
    (show But (fun k => TS g m1 m2 m3 m4 T k) w wy from (((b1.mono (fun _ _ h => h.elim)).trans (b.mono (fun _ _ h => h.elim))).trans (k.mono fun _ _ h => .inr (.inr (.inr (.inl h)))))))
  have n1 := h.g3
  have n2 := h.g4
  have nb : w.heap.size ≠ m3 := Nat.ne_of_gt (MapG.lt h.o)
  have nb2 : w.heap.size ≠ m4 := Nat.ne_of_gt (MapG.lt h.t)
  have c1 := h1.st.cell 3
  have c2 := h1.st.cell 4
  have lg := h1.st.lt
  have lw := W1.lt
  obtain ⟨x0, x1, x2, x3, x4, x5, x6, x7, x8, x9⟩ := x
  unfold Dn.cells at *
  dsimp only at *
  have d0 := W1.cell 0
  have d1 := W1.cell 1
  have d2 := W1.cell 2
  have d3 := W1.cell 3
  have d4 := W1.cell 4
  have d5 := W1.cell 5
  have d6 := W1.cell 6
  have d7 := W1.cell 7
  have d8 := W1.cell 8
  have d9 := W1.cell 9
  have t0 : decide (2147483648 ≤ x0) = true := decide_eq_true (by omega)
  clear h h1 b1 W1 hl hl' hs ht hy ho f1 hT
  go_enter Try.func25, Try.ntmps25
  go_upto_region 1 with fail
  rw [← hw1]
  clear hw1
  refine wp_region_X (S := fun w' => w'.cell? ⟨w.heap.size, 0, none⟩ = some (.int .u32 x0) ∧ w'.cell? ⟨w.heap.size, 1, none⟩ = some (.int .i64 x1) ∧ w'.cell? ⟨w.heap.size, 2, none⟩ = some (.int .u32 x2) ∧ w'.cell? ⟨w.heap.size, 3, none⟩ = some (.int .i64 x3) ∧ w'.cell? ⟨w.heap.size, 4, none⟩ = some (.int .i64 x4) ∧ w'.cell? ⟨w.heap.size, 5, none⟩ = some (.int .i64 x5) ∧ w'.cell? ⟨w.heap.size, 6, none⟩ = some (.int .i64 x6) ∧ w'.cell? ⟨w.heap.size, 7, none⟩ = some (.int .i64 x7) ∧ w'.cell? ⟨w.heap.size, 8, none⟩ = some (.int .i64 x8) ∧ w'.cell? ⟨w.heap.size, 9, none⟩ = some (.bool x9) ∧ w'.cell? ⟨g, 3, none⟩ = some (.map (some m3)) ∧ w'.cell? ⟨g, 4, none⟩ = some (.map (some m4))) [] (by kernel_rfl) ⟨d0, d1, d2, d3, d4, d5, d6, d7, d8, d9, c1, c2⟩ (fun hHeld0 => ?_)
  refine wpAnyX_take (i := 0) [] (v := ?_) rfl (by kernel_rfl) (by kernel_rfl) (by kernel_rfl) (by kernel_rfl) (fun _ _ _ h => h) (Or.inl ⟨by kernel_rfl, ?_⟩) (by assumption) ?_
  rotate_left 1
  · (intro w hSw; have ⟨q0, q1, q2, q3, q4, q5, q6, q7, q8, q9, q10, q11⟩ := hSw; go_simp; try (with_reducible rfl))
  (try simp only [Act.put, List.getElem_toArray, List.getElem_cons_succ, List.getElem_cons_zero, List.setIfInBounds_toArray, List.set_cons_zero, List.set_cons_succ])
  refine wpAnyX_take (i := 1) [] (v := ?_) rfl (by kernel_rfl) (by kernel_rfl) (by kernel_rfl) (by kernel_rfl) (fun _ _ _ h => h) (Or.inl ⟨by kernel_rfl, ?_⟩) (by assumption) ?_
  rotate_left 1
  · (intro w hSw; have ⟨q0, q1, q2, q3, q4, q5, q6, q7, q8, q9, q10, q11⟩ := hSw; go_simp; try (with_reducible rfl))
  (try simp only [Act.put, List.getElem_toArray, List.getElem_cons_succ, List.getElem_cons_zero, List.setIfInBounds_toArray, List.set_cons_zero, List.set_cons_succ])
  refine wpAnyX_take (i := 2) [] (v := ?_) rfl (by kernel_rfl) (by kernel_rfl) (by kernel_rfl) (by kernel_rfl) (fun _ _ _ h => h) (Or.inl ⟨by kernel_rfl, ?_⟩) (by assumption) ?_
  rotate_left 1
  · (intro w hSw; have ⟨q0, q1, q2, q3, q4, q5, q6, q7, q8, q9, q10, q11⟩ := hSw; go_simp; try (with_reducible rfl))
  (try simp only [Act.put, List.getElem_toArray, List.getElem_cons_succ, List.getElem_cons_zero, List.setIfInBounds_toArray, List.set_cons_zero, List.set_cons_succ])
  refine wpAnyX_take (i := 3) [] (v := ?_) rfl (by kernel_rfl) (by kernel_rfl) (by kernel_rfl) (by kernel_rfl) (fun _ _ _ h => h) (Or.inl ⟨by kernel_rfl, ?_⟩) (by assumption) ?_
  rotate_left 1
  · (intro w hSw; have ⟨q0, q1, q2, q3, q4, q5, q6, q7, q8, q9, q10, q11⟩ := hSw; go_simp; try (with_reducible rfl))
  (try simp only [Act.put, List.getElem_toArray, List.getElem_cons_succ, List.getElem_cons_zero, List.setIfInBounds_toArray, List.set_cons_zero, List.set_cons_succ])
  refine wpAnyX_take (i := 4) [] (v := ?_) rfl (by kernel_rfl) (by kernel_rfl) (by kernel_rfl) (by kernel_rfl) (fun _ _ _ h => h) (Or.inl ⟨by kernel_rfl, ?_⟩) (by assumption) ?_
  rotate_left 1
  · (intro w hSw; have ⟨q0, q1, q2, q3, q4, q5, q6, q7, q8, q9, q10, q11⟩ := hSw; go_simp; try (with_reducible rfl))
  (try simp only [Act.put, List.getElem_toArray, List.getElem_cons_succ, List.getElem_cons_zero, List.setIfInBounds_toArray, List.set_cons_zero, List.set_cons_succ])
  refine wpAnyX_take (i := 5) [] (v := ?_) rfl (by kernel_rfl) (by kernel_rfl) (by kernel_rfl) (by kernel_rfl) (fun _ _ _ h => h) (Or.inl ⟨by kernel_rfl, ?_⟩) (by assumption) ?_
  rotate_left 1
  · (intro w hSw; have ⟨q0, q1, q2, q3, q4, q5, q6, q7, q8, q9, q10, q11⟩ := hSw; go_simp; try (with_reducible rfl))
  (try simp only [Act.put, List.getElem_toArray, List.getElem_cons_succ, List.getElem_cons_zero, List.setIfInBounds_toArray, List.set_cons_zero, List.set_cons_succ])
  refine wpAnyX_take (i := 6) [] (v := ?_) rfl (by kernel_rfl) (by kernel_rfl) (by kernel_rfl) (by kernel_rfl) (fun _ _ _ h => h) (Or.inl ⟨by kernel_rfl, ?_⟩) (by assumption) ?_
  rotate_left 1
  · (intro w hSw; have ⟨q0, q1, q2, q3, q4, q5, q6, q7, q8, q9, q10, q11⟩ := hSw; go_simp; try (with_reducible rfl))
  (try simp only [Act.put, List.getElem_toArray, List.getElem_cons_succ, List.getElem_cons_zero, List.setIfInBounds_toArray, List.set_cons_zero, List.set_cons_succ])
  refine wpAnyX_take (i := 7) [] (v := ?_) rfl (by kernel_rfl) (by kernel_rfl) (by kernel_rfl) (by kernel_rfl) (fun _ _ _ h => h) (Or.inl ⟨by kernel_rfl, ?_⟩) (by assumption) ?_
  rotate_left 1
  · (intro w hSw; have ⟨q0, q1, q2, q3, q4, q5, q6, q7, q8, q9, q10, q11⟩ := hSw; go_simp; try (with_reducible rfl))
  (try simp only [Act.put, List.getElem_toArray, List.getElem_cons_succ, List.getElem_cons_zero, List.setIfInBounds_toArray, List.set_cons_zero, List.set_cons_succ])
  refine wpAnyX_take (i := 8) [] (v := ?_) rfl (by kernel_rfl) (by kernel_rfl) (by kernel_rfl) (by kernel_rfl) (fun _ _ _ h => h) (Or.inl ⟨by kernel_rfl, ?_⟩) (by assumption) ?_
  rotate_left 1
  · (intro w hSw; have ⟨q0, q1, q2, q3, q4, q5, q6, q7, q8, q9, q10, q11⟩ := hSw; go_simp; try (with_reducible rfl))
  (try simp only [Act.put, List.getElem_toArray, List.getElem_cons_succ, List.getElem_cons_zero, List.setIfInBounds_toArray, List.set_cons_zero, List.set_cons_succ])
  refine wpAnyX_take (i := 9) [] (v := ?_) rfl (by kernel_rfl) (by kernel_rfl) (by kernel_rfl) (by kernel_rfl) (fun _ _ _ h => h) (Or.inl ⟨by kernel_rfl, ?_⟩) (by assumption) ?_
  rotate_left 1
  · (intro w hSw; have ⟨q0, q1, q2, q3, q4, q5, q6, q7, q8, q9, q10, q11⟩ := hSw; go_simp; try (with_reducible rfl))
  (try simp only [Act.put, List.getElem_toArray, List.getElem_cons_succ, List.getElem_cons_zero, List.setIfInBounds_toArray, List.set_cons_zero, List.set_cons_succ])
  refine wpAnyX_take (i := 10) [] (v := ?_) rfl (by kernel_rfl) (by kernel_rfl) (by kernel_rfl) (by kernel_rfl) (fun _ _ _ h => h) (Or.inl ⟨by kernel_rfl, ?_⟩) (by assumption) ?_
  rotate_left 1
  · (intro w hSw; have ⟨q0, q1, q2, q3, q4, q5, q6, q7, q8, q9, q10, q11⟩ := hSw; go_simp; try (with_reducible rfl))
  (try simp only [Act.put, List.getElem_toArray, List.getElem_cons_succ, List.getElem_cons_zero, List.setIfInBounds_toArray, List.set_cons_zero, List.set_cons_succ])
  refine wpAnyX_one 11 (by kernel_rfl) rfl (fun K hK => ?_)
  go_simp
  go_wp2_with (go_at_call 31; refine (C1.out _ ((But.refl _ _).drew)).mono ?_; rintro e w2 ⟨rfl, k2⟩)
  have e0 := k2.cell lw nb d0
  have e1 := k2.cell lw nb d1
  have e2 := k2.cell lw nb d2
  have e3 := k2.cell lw nb d3
  have e4 := k2.cell lw nb d4
  have e5 := k2.cell lw nb d5
  have e6 := k2.cell lw nb d6
  have e7 := k2.cell lw nb d7
  have e8 := k2.cell lw nb d8
  have e9 := k2.cell lw nb d9
  have e10 := k2.cell lg (Ne.symm n1) c1
  have e11 := k2.cell lg (Ne.symm n1) c2
  have HG := Lib.hid (HF.out _ _ ((But.refl _ _).drew) k2)
  clear k2
  refine hK.out _ _ (.inr ⟨e0, e1, e2, e3, e4, e5, e6, e7, e8, e9, e10, e11⟩) ?_
  have hHeld1 : (fun w' => w'.cell? ⟨w.heap.size, 0, none⟩ = some (.int .u32 x0) ∧ w'.cell? ⟨w.heap.size, 1, none⟩ = some (.int .i64 x1) ∧ w'.cell? ⟨w.heap.size, 2, none⟩ = some (.int .u32 x2) ∧ w'.cell? ⟨w.heap.size, 3, none⟩ = some (.int .i64 x3) ∧ w'.cell? ⟨w.heap.size, 4, none⟩ = some (.int .i64 x4) ∧ w'.cell? ⟨w.heap.size, 5, none⟩ = some (.int .i64 x5) ∧ w'.cell? ⟨w.heap.size, 6, none⟩ = some (.int .i64 x6) ∧ w'.cell? ⟨w.heap.size, 7, none⟩ = some (.int .i64 x7) ∧ w'.cell? ⟨w.heap.size, 8, none⟩ = some (.int .i64 x8) ∧ w'.cell? ⟨w.heap.size, 9, none⟩ = some (.bool x9) ∧ w'.cell? ⟨g, 3, none⟩ = some (.map (some m3)) ∧ w'.cell? ⟨g, 4, none⟩ = some (.map (some m4))) w2 := ⟨e0, e1, e2, e3, e4, e5, e6, e7, e8, e9, e10, e11⟩
  clear hK K hHeld0
  (try simp only [Act.put, List.getElem_toArray, List.getElem_cons_succ, List.getElem_cons_zero, List.setIfInBounds_toArray, List.set_cons_zero, List.set_cons_succ])
  refine wpAnyX_take (i := 12) [] (v := ?_) rfl (by kernel_rfl) (by kernel_rfl) (by kernel_rfl) (by kernel_rfl) (fun _ _ _ h => h) (Or.inl ⟨by kernel_rfl, ?_⟩) (by assumption) ?_
  rotate_left 1
  · (intro w hSw; have ⟨q0, q1, q2, q3, q4, q5, q6, q7, q8, q9, q10, q11⟩ := hSw; go_simp; try (with_reducible rfl))
  (try simp only [Act.put, List.getElem_toArray, List.getElem_cons_succ, List.getElem_cons_zero, List.setIfInBounds_toArray, List.set_cons_zero, List.set_cons_succ])
  refine wpAnyX_take (i := 13) [] (v := ?_) rfl (by kernel_rfl) (by kernel_rfl) (by kernel_rfl) (by kernel_rfl) (fun _ _ _ h => h) (Or.inl ⟨by kernel_rfl, ?_⟩) (by assumption) ?_
  rotate_left 1
  · (intro w hSw; have ⟨q0, q1, q2, q3, q4, q5, q6, q7, q8, q9, q10, q11⟩ := hSw; go_simp; try (with_reducible rfl))
  (try simp only [Act.put, List.getElem_toArray, List.getElem_cons_succ, List.getElem_cons_zero, List.setIfInBounds_toArray, List.set_cons_zero, List.set_cons_succ])
  refine wpAnyX_take (i := 14) [] (v := undef) rfl (by kernel_rfl) (by kernel_rfl) (by kernel_rfl) (by kernel_rfl) (fun _ _ _ h => h) (Or.inr ⟨by kernel_rfl, rfl⟩) (by assumption) ?_
  (try simp only [Act.put, List.getElem_toArray, List.getElem_cons_succ, List.getElem_cons_zero, List.setIfInBounds_toArray, List.set_cons_zero, List.set_cons_succ])
  refine wpAnyX_take (i := 15) [] (v := undef) rfl (by kernel_rfl) (by kernel_rfl) (by kernel_rfl) (by kernel_rfl) (fun _ _ _ h => h) (Or.inr ⟨by kernel_rfl, rfl⟩) (by assumption) ?_
  (try simp only [Act.put, List.getElem_toArray, List.getElem_cons_succ, List.getElem_cons_zero, List.setIfInBounds_toArray, List.set_cons_zero, List.set_cons_succ])
  refine wpAnyX_take (i := 16) [] (v := undef) rfl (by kernel_rfl) (by kernel_rfl) (by kernel_rfl) (by kernel_rfl) (fun _ _ _ h => h) (Or.inr ⟨by kernel_rfl, rfl⟩) (by assumption) ?_
  (try simp only [Act.put, List.getElem_toArray, List.getElem_cons_succ, List.getElem_cons_zero, List.setIfInBounds_toArray, List.set_cons_zero, List.set_cons_succ])
  refine wpAnyX_take (i := 17) [] (v := undef) rfl (by kernel_rfl) (by kernel_rfl) (by kernel_rfl) (by kernel_rfl) (fun _ _ _ h => h) (Or.inr ⟨by kernel_rfl, rfl⟩) (by assumption) ?_
  (try simp only [Act.put, List.getElem_toArray, List.getElem_cons_succ, List.getElem_cons_zero, List.setIfInBounds_toArray, List.set_cons_zero, List.set_cons_succ])
  refine wpAnyX_take (i := 18) [] (v := undef) rfl (by kernel_rfl) (by kernel_rfl) (by kernel_rfl) (by kernel_rfl) (fun _ _ _ h => h) (Or.inr ⟨by kernel_rfl, rfl⟩) (by assumption) ?_
  (try simp only [Act.put, List.getElem_toArray, List.getElem_cons_succ, List.getElem_cons_zero, List.setIfInBounds_toArray, List.set_cons_zero, List.set_cons_succ])
  refine wpAnyX_take (i := 19) [] (v := undef) rfl (by kernel_rfl) (by kernel_rfl) (by kernel_rfl) (by kernel_rfl) (fun _ _ _ h => h) (Or.inr ⟨by kernel_rfl, rfl⟩) (by assumption) ?_
  (try simp only [Act.put, List.getElem_toArray, List.getElem_cons_succ, List.getElem_cons_zero, List.setIfInBounds_toArray, List.set_cons_zero, List.set_cons_succ])
  refine wpAnyX_take (i := 20) [] (v := undef) rfl (by kernel_rfl) (by kernel_rfl) (by kernel_rfl) (by kernel_rfl) (fun _ _ _ h => h) (Or.inr ⟨by kernel_rfl, rfl⟩) (by assumption) ?_
  (try simp only [Act.put, List.getElem_toArray, List.getElem_cons_succ, List.getElem_cons_zero, List.setIfInBounds_toArray, List.set_cons_zero, List.set_cons_succ])
  refine wpAnyX_take (i := 21) [] (v := undef) rfl (by kernel_rfl) (by kernel_rfl) (by kernel_rfl) (by kernel_rfl) (fun _ _ _ h => h) (Or.inr ⟨by kernel_rfl, rfl⟩) (by assumption) ?_
  (try simp only [Act.put, List.getElem_toArray, List.getElem_cons_succ, List.getElem_cons_zero, List.setIfInBounds_toArray, List.set_cons_zero, List.set_cons_succ])
  refine wpAnyX_take (i := 22) [] (v := undef) rfl (by kernel_rfl) (by kernel_rfl) (by kernel_rfl) (by kernel_rfl) (fun _ _ _ h => h) (Or.inr ⟨by kernel_rfl, rfl⟩) (by assumption) ?_
  (try simp only [Act.put, List.getElem_toArray, List.getElem_cons_succ, List.getElem_cons_zero, List.setIfInBounds_toArray, List.set_cons_zero, List.set_cons_succ])
  refine wpAnyX_take (i := 23) [] (v := ?_) rfl (by kernel_rfl) (by kernel_rfl) (by kernel_rfl) (by kernel_rfl) (fun _ _ _ h => h) (Or.inl ⟨by kernel_rfl, ?_⟩) (by assumption) ?_
  rotate_left 1
  · (intro w hSw; have ⟨q0, q1, q2, q3, q4, q5, q6, q7, q8, q9, q10, q11⟩ := hSw; go_simp; try (with_reducible rfl))
  (try simp only [Act.put, List.getElem_toArray, List.getElem_cons_succ, List.getElem_cons_zero, List.setIfInBounds_toArray, List.set_cons_zero, List.set_cons_succ])
  refine wpAnyX_take (i := 24) [] (v := ?_) rfl (by kernel_rfl) (by kernel_rfl) (by kernel_rfl) (by kernel_rfl) (fun _ _ _ h => h) (Or.inl ⟨by kernel_rfl, ?_⟩) (by assumption) ?_
  rotate_left 1
  · (intro w hSw; have ⟨q0, q1, q2, q3, q4, q5, q6, q7, q8, q9, q10, q11⟩ := hSw; go_simp; try (with_reducible rfl))
  (try simp only [Act.put, List.getElem_toArray, List.getElem_cons_succ, List.getElem_cons_zero, List.setIfInBounds_toArray, List.set_cons_zero, List.set_cons_succ])
  refine wpAnyX_done (by kernel_rfl) ?_ _
  go_wp2
  go_ret
  exact ⟨rfl, HG.out⟩
theorem oadd_two (h : TB w g m1 m2 m3 m4 T p R R D D) (hl : D.length < 1000) (hT : T.length < 500) (hs : U32 x.ssrc) (ht : I64 x.track) (hy : I64 x.who) (ho : 2147483648 ≤ x.ssrc) (f1 : fndG Dn.ssrc D x.ssrc = none) (f2 : fndG Dn.who (trD x.track D) x.who ≠ none) :
    Calls Try.prog 25 #[.pointer (some ⟨g, 0, none⟩), .agg x.cells.toArray] w fun e w' => e = .returned (.bool false) ∧ But (fun k => TS g m1 m2 m3 m4 T k) w w' := by
  obtain ⟨w1, hw1⟩ : ∃ z, z = w.alloc (.cells x.cells.toArray 41) := ⟨_, rfl⟩
  have b1 : But (fun _ => False) w w1 := by rw [hw1]; exact (But.refl _ _).alloc _
  have W1 := (show Whole w1 w.heap.size 41 x.cells.toArray by rw [hw1]; exact Whole.new w _ _)
  have h1 := h.next b1
  have hl' : D.length < maxLen := Nat.lt_trans hl (by decide)
  have hT' : T.length < 1000 := by omega
  have htr : (trD x.track D).length < maxLen := by unfold trD; exact Nat.lt_of_le_of_lt (List.length_filter_le _ _) hl'
  have C1 := Lib.hid (fun wx (b : But (fun _ => False) w1 wx) => oput_new m3 D x wx (h1.next b).o hs hl' f1)
  have C2 := Lib.hid (fun wx wy (b : But (fun _ => False) w1 wx) (hm : OMap wy m3 (D ++ [x])) (k : But (fun k => k = m3) wx wy) => sent_any g m1 m2 m3 m4 T p R R (D ++ [x]) D x.track wy ((h1.next b).putO hm k) ht hT')
  have HW := fun (wz : World) (T' : List (Int × Option Nat)) (q : Nat) (hB : TB wz g m1 m2 m3 m4 T' p R R (D ++ [x]) D) (hq : (x.track, some q) ∈ T') => (show WMap wz q (trD x.track D) from by
    obtain ⟨q', e1, e2⟩ := hB.one _ hq
    injection e1 with e1
    rw [e1]
    exact e2)
  have C3 := Lib.hid (fun wz T' q (hB : TB wz g m1 m2 m3 m4 T' p R R (D ++ [x]) D) (hq : (x.track, some q) ∈ T') => wput_old q (trD x.track D) x wz (HW wz T' q hB hq) hy htr f2)
  have HQ := Lib.hid (fun (T' : List (Int × Option Nat)) (q : Nat) (wy : World) (hq : (x.track, some q) ∈ T') (hT : ∀ e ∈ T', e ∈ T ∨ e.2 = some wy.heap.size) (hs : w.heap.size < wy.heap.size) => (show w.heap.size ≠ q from by
    rcases hT _ hq with h1 | h1
    · have := h.lt q (.inr (.inr (.inr (.inr (.inr ⟨_, h1, rfl⟩)))))
      omega
    · injection h1 with h1
      omega))
  have HF := Lib.hid (fun wx wy wz wv (T' : List (Int × Option Nat)) (q : Nat) (b : But (fun _ => False) w1 wx) (k : But (fun k => k = m3) wx wy) (hB : TB wz g m1 m2 m3 m4 T' p R R (D ++ [x]) D) (hq : (x.track, some q) ∈ T') (k2 : But (fun k => k = m4) wy wz) (hT : ∀ e ∈ T', e ∈ T ∨ e.2 = some wy.heap.size) (hTl : T'.length ≤ T.length + 1) (k3 : But (fun k => k = q) wz wv) =>
    (show But (fun k => TS g m1 m2 m3 m4 T k) w wv from by
      have e1 : But (fun k => TS g m1 m2 m3 m4 T k) w wz := ((((b1.mono (fun _ _ h => h.elim)).trans (b.mono (fun _ _ h => h.elim))).trans (k.mono fun _ _ h => .inr (.inr (.inr (.inl h))))).trans (k2.mono fun _ _ h => .inr (.inr (.inr (.inr (.inl h))))))
      refine ⟨k3.os.trans e1.os, k3.tape.trans e1.tape, k3.output.trans e1.output, Nat.le_trans e1.size k3.size, fun i hi hn => (k3.block i (Nat.lt_of_lt_of_le hi e1.size) ?_).trans (e1.block i hi hn)⟩
      rintro rfl
      rcases hT _ hq with hq | hq
      · exact hn (.inr (.inr (.inr (.inr (.inr ⟨_, hq, rfl⟩)))))
      · injection hq with hq
        have s1 := b1.size
        have s2 := b.size
        have s3 := k.size
        omega))
  have n1 := h.g3
  have n2 := h.g4
  have nb : w.heap.size ≠ m3 := Nat.ne_of_gt (MapG.lt h.o)
  have nb2 : w.heap.size ≠ m4 := Nat.ne_of_gt (MapG.lt h.t)
  have c1 := h1.st.cell 3
  have c2 := h1.st.cell 4
  have lg := h1.st.lt
  have lw := W1.lt
  obtain ⟨x0, x1, x2, x3, x4, x5, x6, x7, x8, x9⟩ := x
  unfold Dn.cells at *
  dsimp only at *
  have d0 := W1.cell 0
  have d1 := W1.cell 1
  have d2 := W1.cell 2
  have d3 := W1.cell 3
  have d4 := W1.cell 4
  have d5 := W1.cell 5
  have d6 := W1.cell 6
  have d7 := W1.cell 7
  have d8 := W1.cell 8
  have d9 := W1.cell 9
  have t0 : decide (2147483648 ≤ x0) = true := decide_eq_true (by omega)
  clear h h1 b1 W1 hl hl' hs ht hy ho f1 f2 HW hT' htr hT
  go_enter Try.func25, Try.ntmps25
  go_upto_region 1 with fail
  rw [← hw1]
  clear hw1
  go_region_held3 (fun w' => w'.cell? ⟨w.heap.size, 0, none⟩ = some (.int .u32 x0) ∧ w'.cell? ⟨w.heap.size, 1, none⟩ = some (.int .i64 x1) ∧ w'.cell? ⟨w.heap.size, 2, none⟩ = some (.int .u32 x2) ∧ w'.cell? ⟨w.heap.size, 3, none⟩ = some (.int .i64 x3) ∧ w'.cell? ⟨w.heap.size, 4, none⟩ = some (.int .i64 x4) ∧ w'.cell? ⟨w.heap.size, 5, none⟩ = some (.int .i64 x5) ∧ w'.cell? ⟨w.heap.size, 6, none⟩ = some (.int .i64 x6) ∧ w'.cell? ⟨w.heap.size, 7, none⟩ = some (.int .i64 x7) ∧ w'.cell? ⟨w.heap.size, 8, none⟩ = some (.int .i64 x8) ∧ w'.cell? ⟨w.heap.size, 9, none⟩ = some (.bool x9) ∧ w'.cell? ⟨g, 3, none⟩ = some (.map (some m3)) ∧ w'.cell? ⟨g, 4, none⟩ = some (.map (some m4)))
    (first | exact d0 | exact d1 | exact d2 | exact d3 | exact d4 | exact d5 | exact d6 | exact d7 | exact d8 | exact d9 | exact c1 | exact c2 | exact e0 | exact e1 | exact e2 | exact e3 | exact e4 | exact e5 | exact e6 | exact e7 | exact e8 | exact e9 | exact e10 | exact e11 | exact g0_ | exact g1_ | exact g2_ | exact g3_ | exact g4_ | exact g5_ | exact g6_ | exact g7_ | exact g8_ | exact g9_ | exact g10_ | exact g11_ | exact h0_ | exact h1_ | exact h2_ | exact h3_ | exact h4_ | exact h5_ | exact h6_ | exact h7_ | exact h8_ | exact h9_ | exact h10_ | exact h11_ | go_keep)
    (first
      | (go_at_call 31; refine (C1.out _ ((But.refl _ _).drew)).mono ?_; rintro e w2 ⟨rfl, hm, k2⟩
         have e0 := k2.cell lw nb d0; have e1 := k2.cell lw nb d1; have e2 := k2.cell lw nb d2; have e3 := k2.cell lw nb d3; have e4 := k2.cell lw nb d4; have e5 := k2.cell lw nb d5; have e6 := k2.cell lw nb d6; have e7 := k2.cell lw nb d7; have e8 := k2.cell lw nb d8; have e9 := k2.cell lw nb d9; have e10 := k2.cell lg (Ne.symm n1) c1; have e11 := k2.cell lg (Ne.symm n1) c2
         have k2 := Lib.hid k2; have hm := Lib.hid hm)
      | (go_at_call 33; refine (C2.out _ _ ((But.refl _ _).drew) hm.out k2.out).mono ?_; rintro e w3 ⟨q, T', rfl, hB, hq, k3, hTT, hTl⟩
         have lw2 := Nat.lt_of_lt_of_le lw k2.out.size; have lg2 := Nat.lt_of_lt_of_le lg k2.out.size
         have g0_ := k3.cell lw2 nb2 e0; have g1_ := k3.cell lw2 nb2 e1; have g2_ := k3.cell lw2 nb2 e2; have g3_ := k3.cell lw2 nb2 e3; have g4_ := k3.cell lw2 nb2 e4; have g5_ := k3.cell lw2 nb2 e5; have g6_ := k3.cell lw2 nb2 e6; have g7_ := k3.cell lw2 nb2 e7; have g8_ := k3.cell lw2 nb2 e8; have g9_ := k3.cell lw2 nb2 e9; have g10_ := k3.cell lg2 (Ne.symm n2) e10; have g11_ := k3.cell lg2 (Ne.symm n2) e11
         have hgq := hB.gT hq rfl; have hwq : w.heap.size ≠ q := HQ.out T' q w2 hq hTT lw2
         have hB := Lib.hid hB; have hq := Lib.hid hq; have k3 := Lib.hid k3; have hTT := Lib.hid hTT; have hTl := Lib.hid hTl)
      | (go_at_call 32; refine (C3.out _ _ _ hB.out hq.out).mono ?_; rintro e w4 ⟨rfl, k4⟩
         have lw3 := Nat.lt_of_lt_of_le lw2 k3.out.size; have lg3 := Nat.lt_of_lt_of_le lg2 k3.out.size
         have h0_ := k4.cell lw3 hwq g0_; have h1_ := k4.cell lw3 hwq g1_; have h2_ := k4.cell lw3 hwq g2_; have h3_ := k4.cell lw3 hwq g3_; have h4_ := k4.cell lw3 hwq g4_; have h5_ := k4.cell lw3 hwq g5_; have h6_ := k4.cell lw3 hwq g6_; have h7_ := k4.cell lw3 hwq g7_; have h8_ := k4.cell lw3 hwq g8_; have h9_ := k4.cell lw3 hwq g9_; have h10_ := k4.cell lg3 (Ne.symm hgq) g10_; have h11_ := k4.cell lg3 (Ne.symm hgq) g11_
         have HG := Lib.hid (HF.out _ _ _ _ _ _ ((But.refl _ _).drew) k2.out hB.out hq.out k3.out hTT.out hTl.out  k4); clear k4))
  go_wp2
  go_ret
  exact ⟨rfl, HG.out⟩
theorem oadd_yes (h : TB w g m1 m2 m3 m4 T p R R D D) (hl : D.length < 1000) (hT : T.length < 500) (hs : U32 x.ssrc) (ht : I64 x.track) (hy : I64 x.who) (ho : 2147483648 ≤ x.ssrc) (f1 : fndG Dn.ssrc D x.ssrc = none) (f2 : fndG Dn.who (trD x.track D) x.who = none) :
    Calls Try.prog 25 #[.pointer (some ⟨g, 0, none⟩), .agg x.cells.toArray] w fun e w' => e = .returned (.bool true) ∧ But (fun k => TS g m1 m2 m3 m4 T k) w w' ∧ ∃ T', TB w' g m1 m2 m3 m4 T' p R R (D ++ [x]) (D ++ [x]) ∧ (∀ e ∈ T', e ∈ T ∨ ∃ k, e.2 = some k ∧ w.heap.size ≤ k) ∧ T'.length ≤ T.length + 1 := by
  obtain ⟨w1, hw1⟩ : ∃ z, z = w.alloc (.cells x.cells.toArray 41) := ⟨_, rfl⟩
  have b1 : But (fun _ => False) w w1 := by rw [hw1]; exact (But.refl _ _).alloc _
  have W1 := (show Whole w1 w.heap.size 41 x.cells.toArray by rw [hw1]; exact Whole.new w _ _)
  have h1 := h.next b1
  have hl' : D.length < maxLen := Nat.lt_trans hl (by decide)
  have hT' : T.length < 1000 := by omega
  have htr : (trD x.track D).length < maxLen := by unfold trD; exact Nat.lt_of_le_of_lt (List.length_filter_le _ _) hl'
  have C1 := Lib.hid (fun wx (b : But (fun _ => False) w1 wx) => oput_new m3 D x wx (h1.next b).o hs hl' f1)
  have C2 := Lib.hid (fun wx wy (b : But (fun _ => False) w1 wx) (hm : OMap wy m3 (D ++ [x])) (k : But (fun k => k = m3) wx wy) => sent_any g m1 m2 m3 m4 T p R R (D ++ [x]) D x.track wy ((h1.next b).putO hm k) ht hT')
  have HW := fun (wz : World) (T' : List (Int × Option Nat)) (q : Nat) (hB : TB wz g m1 m2 m3 m4 T' p R R (D ++ [x]) D) (hq : (x.track, some q) ∈ T') => (show WMap wz q (trD x.track D) from by
    obtain ⟨q', e1, e2⟩ := hB.one _ hq
    injection e1 with e1
    rw [e1]
    exact e2)
  have C3 := Lib.hid (fun wz T' q (hB : TB wz g m1 m2 m3 m4 T' p R R (D ++ [x]) D) (hq : (x.track, some q) ∈ T') => wput_new q (trD x.track D) x wz (HW wz T' q hB hq) hy htr f2)
  have HQ := Lib.hid (fun (T' : List (Int × Option Nat)) (q : Nat) (wy : World) (hq : (x.track, some q) ∈ T') (hT : ∀ e ∈ T', e ∈ T ∨ e.2 = some wy.heap.size) (hs : w.heap.size < wy.heap.size) => (show w.heap.size ≠ q from by
    rcases hT _ hq with h1 | h1
    · have := h.lt q (.inr (.inr (.inr (.inr (.inr ⟨_, h1, rfl⟩)))))
      omega
    · injection h1 with h1
      omega))
  have HF := Lib.hid (fun wx wy wz wv (T' : List (Int × Option Nat)) (q : Nat) (b : But (fun _ => False) w1 wx) (k : But (fun k => k = m3) wx wy) (hB : TB wz g m1 m2 m3 m4 T' p R R (D ++ [x]) D) (hq : (x.track, some q) ∈ T') (k2 : But (fun k => k = m4) wy wz) (hT : ∀ e ∈ T', e ∈ T ∨ e.2 = some wy.heap.size) (hTl : T'.length ≤ T.length + 1) (hm3 : WMap wv q (trD x.track D ++ [x])) (k3 : But (fun k => k = q) wz wv) =>
    (show But (fun k => TS g m1 m2 m3 m4 T k) w wv ∧ ∃ T', TB wv g m1 m2 m3 m4 T' p R R (D ++ [x]) (D ++ [x]) ∧ (∀ e ∈ T', e ∈ T ∨ ∃ k, e.2 = some k ∧ w.heap.size ≤ k) ∧ T'.length ≤ T.length + 1 from ⟨(show But (fun k => TS g m1 m2 m3 m4 T k) w wv from by
      have e1 : But (fun k => TS g m1 m2 m3 m4 T k) w wz := ((((b1.mono (fun _ _ h => h.elim)).trans (b.mono (fun _ _ h => h.elim))).trans (k.mono fun _ _ h => .inr (.inr (.inr (.inl h))))).trans (k2.mono fun _ _ h => .inr (.inr (.inr (.inr (.inl h))))))
      refine ⟨k3.os.trans e1.os, k3.tape.trans e1.tape, k3.output.trans e1.output, Nat.le_trans e1.size k3.size, fun i hi hn => (k3.block i (Nat.lt_of_lt_of_le hi e1.size) ?_).trans (e1.block i hi hn)⟩
      rintro rfl
      rcases hT _ hq with hq | hq
      · exact hn (.inr (.inr (.inr (.inr (.inr ⟨_, hq, rfl⟩)))))
      · injection hq with hq
        have s1 := b1.size
        have s2 := b.size
        have s3 := k.size
        omega), T', hB.putW hq rfl hm3 k3, fun e he => (hT e he).imp id fun h => ⟨_, h, by have s1 := b1.size; have s2 := b.size; have s3 := k.size; omega⟩, hTl⟩))
  have n1 := h.g3
  have n2 := h.g4
  have nb : w.heap.size ≠ m3 := Nat.ne_of_gt (MapG.lt h.o)
  have nb2 : w.heap.size ≠ m4 := Nat.ne_of_gt (MapG.lt h.t)
  have c1 := h1.st.cell 3
  have c2 := h1.st.cell 4
  have lg := h1.st.lt
  have lw := W1.lt
  obtain ⟨x0, x1, x2, x3, x4, x5, x6, x7, x8, x9⟩ := x
  unfold Dn.cells at *
  dsimp only at *
  have d0 := W1.cell 0
  have d1 := W1.cell 1
  have d2 := W1.cell 2
  have d3 := W1.cell 3
  have d4 := W1.cell 4
  have d5 := W1.cell 5
  have d6 := W1.cell 6
  have d7 := W1.cell 7
  have d8 := W1.cell 8
  have d9 := W1.cell 9
  have t0 : decide (2147483648 ≤ x0) = true := decide_eq_true (by omega)
  clear h h1 b1 W1 hl hl' hs ht hy ho f1 f2 HW hT' htr hT
  go_enter Try.func25, Try.ntmps25
  go_upto_region 1 with fail
  rw [← hw1]
  clear hw1
  go_region_held3 (fun w' => w'.cell? ⟨w.heap.size, 0, none⟩ = some (.int .u32 x0) ∧ w'.cell? ⟨w.heap.size, 1, none⟩ = some (.int .i64 x1) ∧ w'.cell? ⟨w.heap.size, 2, none⟩ = some (.int .u32 x2) ∧ w'.cell? ⟨w.heap.size, 3, none⟩ = some (.int .i64 x3) ∧ w'.cell? ⟨w.heap.size, 4, none⟩ = some (.int .i64 x4) ∧ w'.cell? ⟨w.heap.size, 5, none⟩ = some (.int .i64 x5) ∧ w'.cell? ⟨w.heap.size, 6, none⟩ = some (.int .i64 x6) ∧ w'.cell? ⟨w.heap.size, 7, none⟩ = some (.int .i64 x7) ∧ w'.cell? ⟨w.heap.size, 8, none⟩ = some (.int .i64 x8) ∧ w'.cell? ⟨w.heap.size, 9, none⟩ = some (.bool x9) ∧ w'.cell? ⟨g, 3, none⟩ = some (.map (some m3)) ∧ w'.cell? ⟨g, 4, none⟩ = some (.map (some m4)))
    (first | exact d0 | exact d1 | exact d2 | exact d3 | exact d4 | exact d5 | exact d6 | exact d7 | exact d8 | exact d9 | exact c1 | exact c2 | exact e0 | exact e1 | exact e2 | exact e3 | exact e4 | exact e5 | exact e6 | exact e7 | exact e8 | exact e9 | exact e10 | exact e11 | exact g0_ | exact g1_ | exact g2_ | exact g3_ | exact g4_ | exact g5_ | exact g6_ | exact g7_ | exact g8_ | exact g9_ | exact g10_ | exact g11_ | exact h0_ | exact h1_ | exact h2_ | exact h3_ | exact h4_ | exact h5_ | exact h6_ | exact h7_ | exact h8_ | exact h9_ | exact h10_ | exact h11_ | go_keep)
    (first
      | (go_at_call 31; refine (C1.out _ ((But.refl _ _).drew)).mono ?_; rintro e w2 ⟨rfl, hm, k2⟩
         have e0 := k2.cell lw nb d0; have e1 := k2.cell lw nb d1; have e2 := k2.cell lw nb d2; have e3 := k2.cell lw nb d3; have e4 := k2.cell lw nb d4; have e5 := k2.cell lw nb d5; have e6 := k2.cell lw nb d6; have e7 := k2.cell lw nb d7; have e8 := k2.cell lw nb d8; have e9 := k2.cell lw nb d9; have e10 := k2.cell lg (Ne.symm n1) c1; have e11 := k2.cell lg (Ne.symm n1) c2
         have k2 := Lib.hid k2; have hm := Lib.hid hm)
      | (go_at_call 33; refine (C2.out _ _ ((But.refl _ _).drew) hm.out k2.out).mono ?_; rintro e w3 ⟨q, T', rfl, hB, hq, k3, hTT, hTl⟩
         have lw2 := Nat.lt_of_lt_of_le lw k2.out.size; have lg2 := Nat.lt_of_lt_of_le lg k2.out.size
         have g0_ := k3.cell lw2 nb2 e0; have g1_ := k3.cell lw2 nb2 e1; have g2_ := k3.cell lw2 nb2 e2; have g3_ := k3.cell lw2 nb2 e3; have g4_ := k3.cell lw2 nb2 e4; have g5_ := k3.cell lw2 nb2 e5; have g6_ := k3.cell lw2 nb2 e6; have g7_ := k3.cell lw2 nb2 e7; have g8_ := k3.cell lw2 nb2 e8; have g9_ := k3.cell lw2 nb2 e9; have g10_ := k3.cell lg2 (Ne.symm n2) e10; have g11_ := k3.cell lg2 (Ne.symm n2) e11
         have hgq := hB.gT hq rfl; have hwq : w.heap.size ≠ q := HQ.out T' q w2 hq hTT lw2
         have hB := Lib.hid hB; have hq := Lib.hid hq; have k3 := Lib.hid k3; have hTT := Lib.hid hTT; have hTl := Lib.hid hTl)
      | (go_at_call 32; refine (C3.out _ _ _ hB.out hq.out).mono ?_; rintro e w4 ⟨rfl, hm4, k4⟩
         have lw3 := Nat.lt_of_lt_of_le lw2 k3.out.size; have lg3 := Nat.lt_of_lt_of_le lg2 k3.out.size
         have h0_ := k4.cell lw3 hwq g0_; have h1_ := k4.cell lw3 hwq g1_; have h2_ := k4.cell lw3 hwq g2_; have h3_ := k4.cell lw3 hwq g3_; have h4_ := k4.cell lw3 hwq g4_; have h5_ := k4.cell lw3 hwq g5_; have h6_ := k4.cell lw3 hwq g6_; have h7_ := k4.cell lw3 hwq g7_; have h8_ := k4.cell lw3 hwq g8_; have h9_ := k4.cell lw3 hwq g9_; have h10_ := k4.cell lg3 (Ne.symm hgq) g10_; have h11_ := k4.cell lg3 (Ne.symm hgq) g11_
         have HG := Lib.hid (HF.out _ _ _ _ _ _ ((But.refl _ _).drew) k2.out hB.out hq.out k3.out hTT.out hTl.out hm4 k4); clear hm4 k4))
  go_wp2
  go_ret
  exact ⟨rfl, HG.out⟩
end
end Go.Proofs.Ytgjhcnpegaemoaa
