/-
  Contracts of the document's answers of layer 13: rest, round, less; numbers as the document has them.
-/
import Derived.Test.YtpemikncbolkbaaMuL
import Derived.Test.YtpemikncbolkbaaSerM
import Derived.Test.YtpemikncbolkbaaHang
import Derived.Deep.CutBlock
import Derived.IntWalk
import Derived.ChangeAlike
namespace Go.Proofs.Ytpemikncbolkbaa
open Go.RowKit
set_option linter.unusedSimpArgs false

theorem mrest_any (x m : Int) (h1 : 1 ≤ m) (h2 : m ≤ 4294967296) (w : World) : Calls Try.prog 29 #[.int .i64 x, .int .i64 m] w fun e w' => e = .returned (.int .i64 (x % m)) ∧ Below w.heap.size w w' := by
  go_enter Try.func29, Try.ntmps29
  go_wp2
  · have h : x.tmod m < 0 := by assumption
    go_ret
    obtain ⟨g1, g2⟩ := rest_low x m h1 h
    exact ⟨ret_i64 (by rw [IntWalk.wrap64_in _ (by omega), g2]), Below.refl _ _⟩
  · have h : 0 ≤ x.tmod m := by assumption
    go_ret
    exact ⟨ret_i64 (rest_high x m h1 h), Below.refl _ _⟩
theorem four_set {b : Nat} {w0 w : World} {r : Nat} (h : Below b w0 w) (hr : b ≤ r) (u0 u1 u2 u3 : Value) : Below b w0 ((((w.setCell ⟨r, 0, none⟩ u0).setCell ⟨r, 1, none⟩ u1).setCell ⟨r, 2, none⟩ u2).setCell ⟨r, 3, none⟩ u3) :=
  (((h.setCell (p := ⟨r, 0, none⟩) hr u0).setCell (p := ⟨r, 1, none⟩) hr u1).setCell (p := ⟨r, 2, none⟩) hr u2).setCell (p := ⟨r, 3, none⟩) hr u3
theorem Whole.four {w : World} {g : Nat} {t : TypeId} {x0 x1 x2 x3 : Value} (h : Whole w g t #[x0, x1, x2, x3]) (u0 u1 u2 u3 : Value) :
    Whole ((((w.setCell ⟨g, 0, none⟩ u0).setCell ⟨g, 1, none⟩ u1).setCell ⟨g, 2, none⟩ u2).setCell ⟨g, 3, none⟩ u3) g t #[u0, u1, u2, u3] := by
  have h : Whole _ g t #[u0, x1, x2, x3] := h.set 0 u0
  have h : Whole _ g t #[u0, u1, x2, x3] := h.set 1 u1
  have h : Whole _ g t #[u0, u1, u2, x3] := h.set 2 u2
  have h : Whole _ g t #[u0, u1, u2, u3] := h.set 3 u3
  exact h
set_option maxRecDepth 100000 in
set_option maxHeartbeats 1600000 in
theorem round_any (n : Mn) (w : World) : Calls Try.prog 23 #[.agg n.plain] w fun e w' => e = .returned (.agg n.rnd.plain) ∧ Below w.heap.size w w' := by
  obtain ⟨a, b, c, d⟩ := n
  have C1 := Lib.hid (fun w => mrest_any a 65536 (by decide) (by decide) w)
  have C2 := Lib.hid (fun w => mrest_any b 4294967296 (by decide) (by decide) w)
  have C3 := Lib.hid (fun w => mrest_any c 65536 (by decide) (by decide) w)
  have C4 := Lib.hid (fun w => mrest_any d 256 (by decide) (by decide) w)
  dsimp only [Mn.plain, Mn.rnd]
  obtain ⟨a', ha⟩ : ∃ x, a % 65536 = x := ⟨_, rfl⟩
  obtain ⟨b', hb⟩ : ∃ x, b % 4294967296 = x := ⟨_, rfl⟩
  obtain ⟨c', hc⟩ : ∃ x, c % 65536 = x := ⟨_, rfl⟩
  obtain ⟨d', hd⟩ : ∃ x, d % 256 = x := ⟨_, rfl⟩
  rw [ha] at C1
  rw [hb] at C2
  rw [hc] at C3
  rw [hd] at C4
  rw [ha, hb, hc, hd]
  clear ha hb hc hd
  have HX := Lib.hid ((Whole.new w 34 #[.int .i64 a, .int .i64 b, .int .i64 c, .int .i64 d]).alloc (.cells #[.int .i64 0, .int .i64 0, .int .i64 0, .int .i64 0] 34))
  have HQ := Lib.hid (Whole.new2 w (.cells #[.int .i64 a, .int .i64 b, .int .i64 c, .int .i64 d] 34) 34 #[.int .i64 0, .int .i64 0, .int .i64 0, .int .i64 0])
  have HB := Lib.hid (((Below.refl w.heap.size w).alloc (Nat.le_refl _) (.cells #[.int .i64 a, .int .i64 b, .int .i64 c, .int .i64 d] 34)).alloc (by simp) (.cells #[.int .i64 0, .int .i64 0, .int .i64 0, .int .i64 0] 34))
  go_enter Try.func23, Try.ntmps23
  go_upto_region 1 with fail
  obtain ⟨wo, hwo⟩ : ∃ wo, wo = (w.alloc (.cells #[.int .i64 a, .int .i64 b, .int .i64 c, .int .i64 d] 34)).alloc (.cells #[.int .i64 0, .int .i64 0, .int .i64 0, .int .i64 0] 34) := ⟨_, rfl⟩
  rw [← hwo] at HX HQ HB ⊢
  clear hwo
  have hle := HQ.out.lt
  have K6 := Lib.hid (fun w' (b' : Below wo.heap.size wo w') => show (fun w' => w'.cell? ⟨w.heap.size, 0, none⟩ = some (.int .i64 a) ∧ w'.cell? ⟨w.heap.size, 1, none⟩ = some (.int .i64 b) ∧ w'.cell? ⟨w.heap.size, 2, none⟩ = some (.int .i64 c) ∧ w'.cell? ⟨w.heap.size, 3, none⟩ = some (.int .i64 d)) w' from ⟨(HX.out.below b' HX.out.lt).cell 0, (HX.out.below b' HX.out.lt).cell 1, (HX.out.below b' HX.out.lt).cell 2, (HX.out.below b' HX.out.lt).cell 3⟩)
  refine wp_region_X (S := fun w' => w'.cell? ⟨w.heap.size, 0, none⟩ = some (.int .i64 a) ∧ w'.cell? ⟨w.heap.size, 1, none⟩ = some (.int .i64 b) ∧ w'.cell? ⟨w.heap.size, 2, none⟩ = some (.int .i64 c) ∧ w'.cell? ⟨w.heap.size, 3, none⟩ = some (.int .i64 d)) [13] (by kernel_rfl) (K6.out _ (Below.refl _ _).drew) (fun hHeld0 => ?_)
  refine wpAnyX_take (i := 0) [1, 2, 5, 8, 11, 12, 13] (v := ?_) rfl (by kernel_rfl) (by kernel_rfl) (by kernel_rfl) (by kernel_rfl) (fun _ _ _ h => h) (Or.inl ⟨by kernel_rfl, ?_⟩) (by assumption) ?_
  rotate_left 1
  · (intro w hSw; obtain ⟨q0, q1, q2, q3⟩ := hSw; go_simp; try (with_reducible rfl))
  (try simp only [Act.put, List.getElem_toArray, List.getElem_cons_succ, List.getElem_cons_zero, List.setIfInBounds_toArray, List.set_cons_zero, List.set_cons_succ])
  refine wpAnyX_take (i := 1) [2, 5, 8, 11, 12, 13] (v := ?_) rfl (by kernel_rfl) (by kernel_rfl) (by kernel_rfl) (by kernel_rfl) (fun _ _ _ h => h) (Or.inl ⟨by kernel_rfl, ?_⟩) (by assumption) ?_
  rotate_left 1
  · (intro w hSw; obtain ⟨q0, q1, q2, q3⟩ := hSw; go_simp; try (with_reducible rfl))
  (try simp only [Act.put, List.getElem_toArray, List.getElem_cons_succ, List.getElem_cons_zero, List.setIfInBounds_toArray, List.set_cons_zero, List.set_cons_succ])
  refine wpAnyX_take (i := 3) [4, 5, 8, 11, 12, 13] (v := ?_) rfl (by kernel_rfl) (by kernel_rfl) (by kernel_rfl) (by kernel_rfl) (fun _ _ _ h => h) (Or.inl ⟨by kernel_rfl, ?_⟩) (by assumption) ?_
  rotate_left 1
  · (intro w hSw; obtain ⟨q0, q1, q2, q3⟩ := hSw; go_simp; try (with_reducible rfl))
  (try simp only [Act.put, List.getElem_toArray, List.getElem_cons_succ, List.getElem_cons_zero, List.setIfInBounds_toArray, List.set_cons_zero, List.set_cons_succ])
  refine wpAnyX_take (i := 4) [5, 8, 11, 12, 13] (v := ?_) rfl (by kernel_rfl) (by kernel_rfl) (by kernel_rfl) (by kernel_rfl) (fun _ _ _ h => h) (Or.inl ⟨by kernel_rfl, ?_⟩) (by assumption) ?_
  rotate_left 1
  · (intro w hSw; obtain ⟨q0, q1, q2, q3⟩ := hSw; go_simp; try (with_reducible rfl))
  (try simp only [Act.put, List.getElem_toArray, List.getElem_cons_succ, List.getElem_cons_zero, List.setIfInBounds_toArray, List.set_cons_zero, List.set_cons_succ])
  refine wpAnyX_take (i := 6) [7, 8, 11, 12, 13] (v := ?_) rfl (by kernel_rfl) (by kernel_rfl) (by kernel_rfl) (by kernel_rfl) (fun _ _ _ h => h) (Or.inl ⟨by kernel_rfl, ?_⟩) (by assumption) ?_
  rotate_left 1
  · (intro w hSw; obtain ⟨q0, q1, q2, q3⟩ := hSw; go_simp; try (with_reducible rfl))
  (try simp only [Act.put, List.getElem_toArray, List.getElem_cons_succ, List.getElem_cons_zero, List.setIfInBounds_toArray, List.set_cons_zero, List.set_cons_succ])
  refine wpAnyX_take (i := 7) [8, 11, 12, 13] (v := ?_) rfl (by kernel_rfl) (by kernel_rfl) (by kernel_rfl) (by kernel_rfl) (fun _ _ _ h => h) (Or.inl ⟨by kernel_rfl, ?_⟩) (by assumption) ?_
  rotate_left 1
  · (intro w hSw; obtain ⟨q0, q1, q2, q3⟩ := hSw; go_simp; try (with_reducible rfl))
  (try simp only [Act.put, List.getElem_toArray, List.getElem_cons_succ, List.getElem_cons_zero, List.setIfInBounds_toArray, List.set_cons_zero, List.set_cons_succ])
  refine wpAnyX_take (i := 9) [10, 11, 12, 13] (v := ?_) rfl (by kernel_rfl) (by kernel_rfl) (by kernel_rfl) (by kernel_rfl) (fun _ _ _ h => h) (Or.inl ⟨by kernel_rfl, ?_⟩) (by assumption) ?_
  rotate_left 1
  · (intro w hSw; obtain ⟨q0, q1, q2, q3⟩ := hSw; go_simp; try (with_reducible rfl))
  (try simp only [Act.put, List.getElem_toArray, List.getElem_cons_succ, List.getElem_cons_zero, List.setIfInBounds_toArray, List.set_cons_zero, List.set_cons_succ])
  refine wpAnyX_take (i := 10) [11, 12, 13] (v := ?_) rfl (by kernel_rfl) (by kernel_rfl) (by kernel_rfl) (by kernel_rfl) (fun _ _ _ h => h) (Or.inl ⟨by kernel_rfl, ?_⟩) (by assumption) ?_
  rotate_left 1
  · (intro w hSw; obtain ⟨q0, q1, q2, q3⟩ := hSw; go_simp; try (with_reducible rfl))
  (try simp only [Act.put, List.getElem_toArray, List.getElem_cons_succ, List.getElem_cons_zero, List.setIfInBounds_toArray, List.set_cons_zero, List.set_cons_succ])
  refine wpAnyX_one 2 (by kernel_rfl) rfl (fun K hK => ?_)
  go_simp
  go_wp2_with (refine (C1.out _).mono ?_; rintro e v1 ⟨rfl, b1⟩)
  have B1 := (Below.refl wo.heap.size wo).drew.trans (b1.mono (Below.refl wo.heap.size wo).drew.size)
  refine hK.out _ _ (.inr (K6.out _ B1)) ?_
  have hHeld1 := K6.out _ B1
  clear hK K
  (try simp only [Act.put, List.getElem_toArray, List.getElem_cons_succ, List.getElem_cons_zero, List.setIfInBounds_toArray, List.set_cons_zero, List.set_cons_succ])
  refine wpAnyX_one 5 (by kernel_rfl) rfl (fun K hK => ?_)
  go_simp
  go_wp2_with (refine (C2.out _).mono ?_; rintro e v2 ⟨rfl, b2⟩)
  have B2 := B1.trans (b2.mono B1.size)
  refine hK.out _ _ (.inr (K6.out _ B2)) ?_
  have hHeld2 := K6.out _ B2
  clear hK K
  (try simp only [Act.put, List.getElem_toArray, List.getElem_cons_succ, List.getElem_cons_zero, List.setIfInBounds_toArray, List.set_cons_zero, List.set_cons_succ])
  refine wpAnyX_one 8 (by kernel_rfl) rfl (fun K hK => ?_)
  go_simp
  go_wp2_with (refine (C3.out _).mono ?_; rintro e v3 ⟨rfl, b3⟩)
  have B3 := B2.trans (b3.mono B2.size)
  refine hK.out _ _ (.inr (K6.out _ B3)) ?_
  have hHeld3 := K6.out _ B3
  clear hK K
  (try simp only [Act.put, List.getElem_toArray, List.getElem_cons_succ, List.getElem_cons_zero, List.setIfInBounds_toArray, List.set_cons_zero, List.set_cons_succ])
  refine wpAnyX_one 11 (by kernel_rfl) rfl (fun K hK => ?_)
  go_simp
  go_wp2_with (refine (C4.out _).mono ?_; rintro e v4 ⟨rfl, b4⟩)
  have B4 := B3.trans (b4.mono B3.size)
  refine hK.out _ _ (.inr (K6.out _ B4)) ?_
  have hHeld4 := K6.out _ B4
  clear hK K
  (try simp only [Act.put, List.getElem_toArray, List.getElem_cons_succ, List.getElem_cons_zero, List.setIfInBounds_toArray, List.set_cons_zero, List.set_cons_succ])
  refine wpAnyX_take (i := 12) [13] (v := ?_) rfl (by kernel_rfl) (by kernel_rfl) (by kernel_rfl) (by kernel_rfl) (fun _ _ _ h => h) (Or.inl ⟨by kernel_rfl, ?_⟩) (by assumption) ?_
  rotate_left 1
  · (intro w hSw; obtain ⟨q0, q1, q2, q3⟩ := hSw; go_simp; try (with_reducible rfl))
  (try simp only [Act.put, List.getElem_toArray, List.getElem_cons_succ, List.getElem_cons_zero, List.setIfInBounds_toArray, List.set_cons_zero, List.set_cons_succ])
  refine wpAnyX_one 13 (by kernel_rfl) rfl (fun K hK => ?_)
  have Q4 := HQ.out.below B4 HQ.out.lt
  have z0 := Q4.cell 0
  have z1 := Q4.cell 1
  have z2 := Q4.cell 2
  have z3 := Q4.cell 3
  have y0 := Q4.free 0
  have y1 := Q4.free 1
  have y2 := Q4.free 2
  have y3 := Q4.free 3
  have F4 := HB.out.trans (B4.mono HB.out.size)
  go_simp
  refine hK.out _ _ (.inl (by decide)) ?_
  clear hK K
  (try simp only [Act.put, List.getElem_toArray, List.getElem_cons_succ, List.getElem_cons_zero, List.setIfInBounds_toArray, List.set_cons_zero, List.set_cons_succ])
  refine wpAnyX_done (by kernel_rfl) ?_ _
  go_wp2_with fail
  exact bodyPost_ret (v := .agg #[.int .i64 a', .int .i64 b', .int .i64 c', .int .i64 d']) (by simp [results, Try.results23, go_sem, z0, z1, z2, z3]) rfl ⟨rfl, four_set F4 (Nat.le_succ _) _ _ _ _⟩
end Go.Proofs.Ytpemikncbolkbaa
