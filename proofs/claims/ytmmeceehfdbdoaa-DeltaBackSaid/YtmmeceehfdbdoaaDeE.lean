/-
 The law's of (layer 18): a state as the document has it.
-/
import Derived.Conc.WalkWords
import Derived.Test.YtmmeceehfdbdoaaDeB
namespace Go.Proofs.Ytmmeceehfdbdoaa
open Go.RowKit
open Dl
set_option linter.unusedSimpArgs false
set_option linter.unusedVariables false
set_option maxRecDepth 1000000
theorem pnC_add (l : List Pn) (x : Pn) : pnC (l ++ [x]) = pnC l ++ pnV x := by unfold pnC; simp
set_option maxHeartbeats 12800000 in
theorem of18 (a1 a2 a3 a4 : Int) (A : Option Addr) (c : Nat) (l : List Pn) (A2 : Option Addr) (c2 : Nat) (l2 : List Tm) (A3 : Option Addr) (c3 : Nat) (l3 : List Sb) (w : World)
 (hr : Row w w.heap.size 3 A l.length (pnC l)) (hl : l.length ≤ 4096) (hr2 : Row w w.heap.size 4 A2 l2.length (tmC l2)) (hl2 : l2.length ≤ 4096) (hr3 : Row w w.heap.size 5 A3 l3.length (sbC l3)) (hl3 : l3.length ≤ 4096) :
 Calls Try.prog 16 #[.agg #[.int .i64 a1, .int .i64 a2, .int .i64 a3, .int .i64 a4, .slice A l.length c, .slice A2 l2.length c2, .slice A3 l3.length c3]] w fun e w' => Below w.heap.size w w' ∧ ∃ B d B2 d2 B3 d3, e = .returned (.agg #[.int .i64 a1, .int .i64 a2, .int .i64 a3, .int .i64 a4, .slice B l.length d, .slice B2 l2.length d2, .slice B3 l3.length d3]) ∧
  w'.ownsRow (w.heap.size + 3) 70 3 (.slice B l.length d) l.length (pnC l) ∧ w'.ownsRow (w.heap.size + 3) 60 4 (.slice B2 l2.length d2) l2.length (tmC l2) ∧ w'.ownsRow (w.heap.size + 3) 56 5 (.slice B3 l3.length d3) l3.length (sbC l3) := by
 obtain ⟨n, hn⟩ : ∃ n, l.length = n := ⟨_, rfl⟩
 obtain ⟨n2, hn2⟩ : ∃ n, l2.length = n := ⟨_, rfl⟩
 obtain ⟨n3, hn3⟩ : ∃ n, l3.length = n := ⟨_, rfl⟩
 have HN := Lib.hid hn
 have HN2 := Lib.hid hn2
 have HN3 := Lib.hid hn3
 rw [hn] at hl hr ⊢
 rw [hn2] at hl2 hr2 ⊢
 rw [hn3] at hl3 hr3 ⊢
 have HR := Lib.hid hr
 have HR2 := Lib.hid hr2
 have HR3 := Lib.hid hr3
 clear hn hn2 hn3 hr hr2 hr3
 obtain ⟨w1, hw1⟩ : ∃ z, z = ((w.alloc (.cells #[.int .i64 a1, .int .i64 a2, .int .i64 a3, .int .i64 a4, .slice A n c, .slice A2 n2 c2, .slice A3 n3 c3] 31)).alloc (.cells #[.int .i64 0, .int .i64 0, .int .i64 0, .int .i64 0, .slice none 0 0, .slice none 0 0, .slice none 0 0] 37)).alloc (.cells #[.int .i64 a1, .int .i64 a2, .int .i64 a3, .int .i64 a4, .slice none 0 0, .slice none 0 0, .slice none 0 0] 37) := ⟨_, rfl⟩
 have HB1 := Lib.hid (show Below w.heap.size w w1 by rw [hw1]; exact (((Below.refl _ _).alloc (Nat.le_refl _) _).alloc (by simp) _).alloc (by simp; omega) _)
 have HS1 := Lib.hid (show Whole w1 w.heap.size 31 #[.int .i64 a1, .int .i64 a2, .int .i64 a3, .int .i64 a4, .slice A n c, .slice A2 n2 c2, .slice A3 n3 c3] by rw [hw1]; exact ((Whole.new w _ _).alloc _).alloc _)
 have HZ1 := Lib.hid (show Whole w1 (w.heap.size + 1) 37 #[.int .i64 0, .int .i64 0, .int .i64 0, .int .i64 0, .slice none 0 0, .slice none 0 0, .slice none 0 0] by rw [hw1]; exact (Whole.new2 w _ _ _).alloc _)
 have HV1 := Lib.hid (show Whole w1 (w.heap.size + 2) 37 #[.int .i64 a1, .int .i64 a2, .int .i64 a3, .int .i64 a4, .slice none 0 0, .slice none 0 0, .slice none 0 0] by rw [hw1]; have := Whole.new2 (w.alloc (.cells #[.int .i64 a1, .int .i64 a2, .int .i64 a3, .int .i64 a4, .slice A n c, .slice A2 n2 c2, .slice A3 n3 c3] 31)) (.cells #[.int .i64 0, .int .i64 0, .int .i64 0, .int .i64 0, .slice none 0 0, .slice none 0 0, .slice none 0 0] 37) 37 #[.int .i64 a1, .int .i64 a2, .int .i64 a3, .int .i64 a4, .slice none 0 0, .slice none 0 0, .slice none 0 0]; simpa using this)
 have HG1 := Lib.hid (show w.heap.size + 3 ≤ w1.heap.size by rw [hw1]; simp)
 go_enter Try.func16, Try.ntmps16
 go_upto_region 2 with fail
 rw [← hw1, show w.heap.size + 1 + 1 = w.heap.size + 2 from rfl]
 clear hw1
 go_wp2_with fail
 go_loopw [4] (fun v wr => ∃ (k : Nat) (Av : Option Addr) (cv : Nat), k ≤ n ∧ v = .int .i64 (k : Int) ∧ Whole wr w.heap.size 31 #[.int .i64 a1, .int .i64 a2, .int .i64 a3, .int .i64 a4, .slice A n c, .slice A2 n2 c2, .slice A3 n3 c3] ∧ Whole wr (w.heap.size + 1) 37 #[.int .i64 0, .int .i64 0, .int .i64 0, .int .i64 0, .slice none 0 0, .slice none 0 0, .slice none 0 0] ∧ Whole wr (w.heap.size + 2) 37 #[.int .i64 a1, .int .i64 a2, .int .i64 a3, .int .i64 a4, .slice Av k cv, .slice none 0 0, .slice none 0 0] ∧ wr.ownsRow (w.heap.size + 3) 70 3 (.slice Av k cv) k (pnC (l.take k)) ∧ w.heap.size + 3 ≤ wr.heap.size ∧ Below w.heap.size w wr) (fun v _ => n - (intOf v).toNat)
 case atStart => exact ⟨0, none, 0, Nat.zero_le _, rfl, HS1.out, HZ1.out, HV1.out, World.ownsRow_nil _ _ _ _, HG1.out, HB1.out⟩
 case round =>
  obtain ⟨k, Av, cv, hk, rfl, hS, hZ, hV, hO, hG, hb⟩ := hrel
  clear HS1 HZ1 HV1 HG1 HB1
  have HS := Lib.hid hS
  have HZ := Lib.hid hZ
  have HV := Lib.hid hV
  have HO := Lib.hid hO
  have HG := Lib.hid hG
  have HB := Lib.hid hb
  clear hS hZ hV hO hG hb
  by_cases hlt : k < n
  · obtain ⟨x, hx⟩ : ∃ x, l[k]? = some x := ⟨_, List.getElem?_eq_getElem (by rw [HN.out]; exact hlt)⟩
    obtain ⟨g, o, rfl, hg, hc⟩ := HR.out.2 (by omega)
    have e0 := (HB.out.cell (p := ⟨g, o + k * 3, none⟩) hg).trans (by have := hc _ _ ((pnC_get hx 0 (by decide)).trans rfl); simpa [Nat.add_assoc] using this)
    have e1 := (HB.out.cell (p := ⟨g, o + k * 3 + 1, none⟩) hg).trans (by have := hc _ _ ((pnC_get hx 1 (by decide)).trans rfl); simpa [Nat.add_assoc] using this)
    have e2 := (HB.out.cell (p := ⟨g, o + k * 3 + 2, none⟩) hg).trans (by have := hc _ _ ((pnC_get hx 2 (by decide)).trans rfl); simpa [Nat.add_assoc] using this)
    have HTA := Lib.hid (show l.take (k + 1) = l.take k ++ [x] by rw [List.take_add_one, hx]; rfl)
    have i0 : (0 : Int) ≤ (k : Int) := by omega
    have i1 : (k : Int) < (n : Int) := by omega
    have lg : g < wr.heap.size := by have := HB.out.size; omega
    obtain ⟨x0, x1, x2⟩ := x
    dsimp only at e0 e1 e2
    clear hx hc
    have hr0 := HS.out.cell 4
    have hv0 := HV.out.cell 4
    have hs0 := HS.out.lt
    have hs2 := HV.out.lt
    go_wp2_with fail
    obtain ⟨i9, hi9, hz0, hz1, hz2⟩ := info_parts info_P18
    have HI0 := Lib.hid hi9
    have HZ0 := Lib.hid hz0
    have HZ1 := Lib.hid hz1
    have HZ2 := Lib.hid hz2
    clear hi9 hz0 hz1 hz2
    refine wp_region_X (S := fun w' => w'.cell? ⟨w.heap.size + 2, 4, none⟩ = some (.slice Av k cv) ∧ w'.cell? ⟨w.heap.size, 4, none⟩ = some (.slice (some ⟨g, o, none⟩) n c) ∧ w'.cell? ⟨g, o + k * 3, none⟩ = some (.int .i64 x0) ∧ w'.cell? ⟨g, o + k * 3 + 1, none⟩ = some (.int .i64 x1) ∧ w'.cell? ⟨g, o + k * 3 + 2, none⟩ = some (.int .i64 x2)) [24] (by kernel_rfl) ⟨hv0, hr0, e0, e1, e2⟩ (fun hHeld0 => ?_)
    refine tk (i := 0) [1, 22, 24] (v := ?_) ?_ ?_
    rotate_left 1
    · (intro w hSw; have ⟨q0, q1, q2, q3, q4⟩ := hSw; go_simp; try (with_reducible rfl))
    (try walk_nrm)
    refine tk (i := 1) [22, 24] (v := ?_) ?_ ?_
    rotate_left 1
    · (intro w hSw; have ⟨q0, q1, q2, q3, q4⟩ := hSw; go_simp; try (with_reducible rfl))
    (try walk_nrm)
    refine tk (i := 2) [3, 5, 6, 7, 20, 21, 22, 24] (v := ?_) ?_ ?_
    rotate_left 1
    · (intro w hSw; have ⟨q0, q1, q2, q3, q4⟩ := hSw; go_simp; try (with_reducible rfl))
    (try walk_nrm)
    refine tk (i := 3) [5, 6, 7, 20, 21, 22, 24] (v := ?_) ?_ ?_
    rotate_left 1
    · (intro w hSw; have ⟨q0, q1, q2, q3, q4⟩ := hSw; go_simp; try (with_reducible rfl))
    (try walk_nrm)
    refine tk (i := 4) [5, 6, 7, 20, 21, 22, 24] (v := ?_) ?_ ?_
    rotate_left 1
    · (intro w hSw; have ⟨q0, q1, q2, q3, q4⟩ := hSw; go_simp; try (with_reducible rfl))
    (try walk_nrm)
    refine tk (i := 5) [6, 7, 20, 21, 22, 24] (v := ?_) ?_ ?_
    rotate_left 1
    · (intro w hSw; have ⟨q0, q1, q2, q3, q4⟩ := hSw; go_simp; try (with_reducible rfl))
    (try walk_nrm)
    refine tk (i := 6) [7, 20, 21, 22, 24] (v := ?_) ?_ ?_
    rotate_left 1
    · (intro w hSw; have ⟨q0, q1, q2, q3, q4⟩ := hSw; go_simp; try (with_reducible rfl))
    (try walk_nrm)
    refine tk (i := 7) [20, 21, 22, 24] (v := ?_) ?_ ?_
    rotate_left 1
    · (intro w hSw; have ⟨q0, q1, q2, q3, q4⟩ := hSw; go_simp; try (with_reducible rfl))
    (try walk_nrm)
    refine tk (i := 8) [9, 11, 12, 13, 20, 21, 22, 24] (v := ?_) ?_ ?_
    rotate_left 1
    · (intro w hSw; have ⟨q0, q1, q2, q3, q4⟩ := hSw; go_simp; try (with_reducible rfl))
    (try walk_nrm)
    refine tk (i := 9) [11, 12, 13, 20, 21, 22, 24] (v := ?_) ?_ ?_
    rotate_left 1
    · (intro w hSw; have ⟨q0, q1, q2, q3, q4⟩ := hSw; go_simp; try (with_reducible rfl))
    (try walk_nrm)
    refine tk (i := 10) [11, 12, 13, 20, 21, 22, 24] (v := ?_) ?_ ?_
    rotate_left 1
    · (intro w hSw; have ⟨q0, q1, q2, q3, q4⟩ := hSw; go_simp; try (with_reducible rfl))
    (try walk_nrm)
    refine tk (i := 11) [12, 13, 20, 21, 22, 24] (v := ?_) ?_ ?_
    rotate_left 1
    · (intro w hSw; have ⟨q0, q1, q2, q3, q4⟩ := hSw; go_simp; try (with_reducible rfl))
    (try walk_nrm)
    refine tk (i := 12) [13, 20, 21, 22, 24] (v := ?_) ?_ ?_
    rotate_left 1
    · (intro w hSw; have ⟨q0, q1, q2, q3, q4⟩ := hSw; go_simp; try (with_reducible rfl))
    (try walk_nrm)
    refine tk (i := 13) [20, 21, 22, 24] (v := ?_) ?_ ?_
    rotate_left 1
    · (intro w hSw; have ⟨q0, q1, q2, q3, q4⟩ := hSw; go_simp; try (with_reducible rfl))
    (try walk_nrm)
    refine tk (i := 14) [15, 17, 18, 19, 20, 21, 22, 24] (v := ?_) ?_ ?_
    rotate_left 1
    · (intro w hSw; have ⟨q0, q1, q2, q3, q4⟩ := hSw; go_simp; try (with_reducible rfl))
    (try walk_nrm)
    refine tk (i := 15) [17, 18, 19, 20, 21, 22, 24] (v := ?_) ?_ ?_
    rotate_left 1
    · (intro w hSw; have ⟨q0, q1, q2, q3, q4⟩ := hSw; go_simp; try (with_reducible rfl))
    (try walk_nrm)
    refine tk (i := 16) [17, 18, 19, 20, 21, 22, 24] (v := ?_) ?_ ?_
    rotate_left 1
    · (intro w hSw; have ⟨q0, q1, q2, q3, q4⟩ := hSw; go_simp; try (with_reducible rfl))
    (try walk_nrm)
    refine tk (i := 17) [18, 19, 20, 21, 22, 24] (v := ?_) ?_ ?_
    rotate_left 1
    · (intro w hSw; have ⟨q0, q1, q2, q3, q4⟩ := hSw; go_simp; try (with_reducible rfl))
    (try walk_nrm)
    refine tk (i := 18) [19, 20, 21, 22, 24] (v := ?_) ?_ ?_
    rotate_left 1
    · (intro w hSw; have ⟨q0, q1, q2, q3, q4⟩ := hSw; go_simp; try (with_reducible rfl))
    (try walk_nrm)
    refine tk (i := 19) [20, 21, 22, 24] (v := ?_) ?_ ?_
    rotate_left 1
    · (intro w hSw; have ⟨q0, q1, q2, q3, q4⟩ := hSw; go_simp; try (with_reducible rfl))
    (try walk_nrm)
    refine tk (i := 20) [21, 22, 24] (v := ?_) ?_ ?_
    rotate_left 1
    · (intro w hSw; have ⟨q0, q1, q2, q3, q4⟩ := hSw; go_simp; try (with_reducible rfl))
    (try walk_nrm)
    refine wpAnyX_one 21 (by kernel_rfl) rfl (fun K hK => ?_)
    go_simp
    have V2 := HV.out.drew.alloc (.cells #[.int .i64 x0, .int .i64 x1, .int .i64 x2] 70)
    have S2 := HS.out.drew.alloc (.cells #[.int .i64 x0, .int .i64 x1, .int .i64 x2] 70)
    have O2 := HO.out.drew.alloc (.cells #[.int .i64 x0, .int .i64 x1, .int .i64 x2] 70)
    have b2 : Below wr.heap.size wr (wr.drew.alloc (.cells #[.int .i64 x0, .int .i64 x1, .int .i64 x2] 70)) := (Below.refl _ _).drew.alloc (Nat.le_refl _) _
    have hHeld2 : (fun w' => w'.cell? ⟨w.heap.size + 2, 4, none⟩ = some (.slice Av k cv) ∧ w'.cell? ⟨w.heap.size, 4, none⟩ = some (.slice (some ⟨g, o, none⟩) n c) ∧ w'.cell? ⟨g, o + k * 3, none⟩ = some (.int .i64 x0) ∧ w'.cell? ⟨g, o + k * 3 + 1, none⟩ = some (.int .i64 x1) ∧ w'.cell? ⟨g, o + k * 3 + 2, none⟩ = some (.int .i64 x2)) (wr.drew.alloc (.cells #[.int .i64 x0, .int .i64 x1, .int .i64 x2] 70)) := ⟨V2.cell 4, S2.cell 4, (b2.cell (p := ⟨g, o + k * 3, none⟩) lg).trans e0, (b2.cell (p := ⟨g, o + k * 3 + 1, none⟩) lg).trans e1, (b2.cell (p := ⟨g, o + k * 3 + 2, none⟩) lg).trans e2⟩
    refine hK.out _ _ (.inr hHeld2) ?_
    clear hK K hHeld0
    (try walk_nrm)
    refine wpAnyX_one 22 (by kernel_rfl) rfl (fun K hK => ?_)
    refine step_append_lies _ (by rfl) (.tmp 29) (.tmp 49) 33 (by rfl) (w.heap.size + 3) 70 i9 _ 3 24 Try.underlying33 HI0.out HZ0.out HZ1.out HZ2.out rfl (by omega) (.slice Av k cv) k (pnC (l.take k)) (by rfl) O2 ⟨wr.heap.size, 0, none⟩ 1 1 [.int .i64 x0, .int .i64 x1, .int .i64 x2] (by rfl) (by rfl) (World.news_of_block (cs := #[.int .i64 x0, .int .i64 x1, .int .i64 x2]) (t := 70) (fr := (0, 0)) (Whole.new wr.drew 70 #[.int .i64 x0, .int .i64 x1, .int .i64 x2])) (by simp [Value.oneCell']) (by omega) (by unfold maxLen; omega) (by omega) (by have := HG.out; simp; omega) (wr.heap.size + 1) (by simp) ?_
    intro gg cap w2 hown2 hgrow _ hlt9
    have HNE := Lib.hid (fun q (hq : (Value.slice Av k cv).ownBlock = some q) => (HO.out.lt q hq).1)
    have V3 := V2.grown hgrow (fun e => by have := HNE.out _ e.symm; omega)
    have S3 := S2.grown hgrow (fun e => by have := HNE.out _ e.symm; omega)
    have Z3 := (HZ.out.drew.alloc (.cells #[.int .i64 x0, .int .i64 x1, .int .i64 x2] 70)).grown hgrow (fun e => by have := HNE.out _ e.symm; omega)
    have B3 : Below w.heap.size w w2 := (HB.out.drew.alloc HB.out.size (.cells #[.int .i64 x0, .int .i64 x1, .int .i64 x2] 70)).grown hgrow (by have := HB.out.size; simp; omega) (fun q hq => by have := HNE.out q hq; omega)
    have hG3 : w.heap.size + 3 ≤ w2.heap.size := by have h1 := HG.out; have h2 := hgrow.size; simp at h2; omega
    have hx3 : ∀ j v, wr.cell? ⟨g, j, none⟩ = some v → w2.cell? ⟨g, j, none⟩ = some v := fun j v h => (World.cell?_of_block (a := ⟨g, j, none⟩) ((hgrow.block g (by simp; omega) (fun e => by have := HNE.out _ e.symm; omega)).trans (Below.heap_alloc _ _ _ lg))).trans h
    have f9 := V3.free 4
    have v9 := V3.cell 4
    clear hgrow V2 S2 O2
    have hHeld3 : (fun w' => w'.cell? ⟨w.heap.size + 2, 4, none⟩ = some (.slice Av k cv) ∧ w'.cell? ⟨w.heap.size, 4, none⟩ = some (.slice (some ⟨g, o, none⟩) n c) ∧ w'.cell? ⟨g, o + k * 3, none⟩ = some (.int .i64 x0) ∧ w'.cell? ⟨g, o + k * 3 + 1, none⟩ = some (.int .i64 x1) ∧ w'.cell? ⟨g, o + k * 3 + 2, none⟩ = some (.int .i64 x2)) w2 := ⟨V3.cell 4, S3.cell 4, hx3 _ _ e0, hx3 _ _ e1, hx3 _ _ e2⟩
    refine hK.out _ _ (.inr hHeld3) ?_
    clear hK K hHeld2
    (try walk_nrm)
    refine tk (i := 23) [24] (v := ?_) ?_ ?_
    rotate_left 1
    · (intro w hSw; have ⟨q0, q1, q2, q3, q4⟩ := hSw; go_simp; try (with_reducible rfl))
    (try walk_nrm)
    refine wpAnyX_one 24 (by kernel_rfl) rfl (fun K hK => ?_)
    have HV4 := Lib.hid (V3.set 4 (.slice (some ⟨gg, 0, none⟩) (k + 1) cap))
    have HS4 := Lib.hid (S3.far (p := ⟨w.heap.size + 2, 4, none⟩) (show w.heap.size ≠ w.heap.size + 2 by omega) (.slice (some ⟨gg, 0, none⟩) (k + 1) cap))
    have HZ4 := Lib.hid (Z3.far (p := ⟨w.heap.size + 2, 4, none⟩) (show w.heap.size + 1 ≠ w.heap.size + 2 by omega) (.slice (some ⟨gg, 0, none⟩) (k + 1) cap))
    have HB4 := Lib.hid (B3.setCell (p := ⟨w.heap.size + 2, 4, none⟩) (show w.heap.size ≤ w.heap.size + 2 by omega) (.slice (some ⟨gg, 0, none⟩) (k + 1) cap))
    have HO4 := Lib.hid (own_farX (p := ⟨w.heap.size + 2, 4, none⟩) (u := .slice (some ⟨gg, 0, none⟩) (k + 1) cap) hown2 (fun q hq e => by have := (hown2.lt q hq).1; have e' : w.heap.size + 2 = q := e; omega))
    have HG4 := Lib.hid hG3
    clear hown2 B3 Z3 S3 V3 hx3 hG3 
    go_simp
    refine hK.out _ _ (.inl (by decide)) ?_
    clear hK K hHeld3
    (try walk_nrm)
    refine wpAnyX_done (by kernel_rfl) ?_ _
    clear HV HS HZ HB HO HG hr0 hv0 hs0 hs2 f9 v9 HNE HI0 HZ0 HZ1 HZ2 e0 e1 e2
    go_wp2_with fail
    go_roundw
    case rel => exact ⟨k + 1, some ⟨gg, 0, none⟩, cap, by omega, by go_num, HS4.out, HZ4.out, HV4.out, by rw [HTA.out, pnC_add]; exact HO4.out, by simpa using HG4.out, HB4.out⟩
    case measure => simp [intOf]; omega
  · obtain rfl : n = k := by omega
    rw [List.take_of_length_le (by rw [HN.out]; exact Nat.le_refl _)] at HO
    obtain ⟨B0, hB0⟩ : ∃ z, z = Av := ⟨_, rfl⟩
    obtain ⟨d0, hd0⟩ : ∃ z, z = cv := ⟨_, rfl⟩
    rw [← hB0, ← hd0] at HO HV
    clear hB0 hd0
    have hr0 := HS.out.cell 4
    have hs0 := HS.out.lt
    have HP0 := Lib.hid HO.out
    have HS1 := Lib.hid HS.out
    have HZ1 := Lib.hid HZ.out
    have HV1 := Lib.hid HV.out
    have HG1 := Lib.hid HG.out
    have HB1 := Lib.hid HB.out
    clear HS HZ HV HG HB HO
    go_wp2_with fail
    clear hr0 hs0
    go_loopw [5] (fun v wr => ∃ (k : Nat) (Av : Option Addr) (cv : Nat), k ≤ n2 ∧ v = .int .i64 (k : Int) ∧ Whole wr w.heap.size 31 #[.int .i64 a1, .int .i64 a2, .int .i64 a3, .int .i64 a4, .slice A n c, .slice A2 n2 c2, .slice A3 n3 c3] ∧ Whole wr (w.heap.size + 1) 37 #[.int .i64 0, .int .i64 0, .int .i64 0, .int .i64 0, .slice none 0 0, .slice none 0 0, .slice none 0 0] ∧ Whole wr (w.heap.size + 2) 37 #[.int .i64 a1, .int .i64 a2, .int .i64 a3, .int .i64 a4, .slice B0 n d0, .slice Av k cv, .slice none 0 0] ∧ wr.ownsRow (w.heap.size + 3) 60 4 (.slice Av k cv) k (tmC (l2.take k)) ∧ wr.ownsRow (w.heap.size + 3) 70 3 (.slice B0 n d0) n (pnC l) ∧ w.heap.size + 3 ≤ wr.heap.size ∧ Below w.heap.size w wr) (fun v _ => n2 - (intOf v).toNat)
    case atStart => exact ⟨0, none, 0, Nat.zero_le _, rfl, HS1.out, HZ1.out, HV1.out, World.ownsRow_nil _ _ _ _, HP0.out, HG1.out, HB1.out⟩
    case round =>
     obtain ⟨k, Av, cv, hk, rfl, hS, hZ, hV, hO, hP0, hG, hb⟩ := hrel
     clear HS1 HZ1 HV1 HG1 HB1 HP0
     have HS := Lib.hid hS
     have HZ := Lib.hid hZ
     have HV := Lib.hid hV
     have HO := Lib.hid hO
     have HG := Lib.hid hG
     have HB := Lib.hid hb
     have HP0 := Lib.hid hP0
     clear hS hZ hV hO hG hb hP0
     by_cases hlt : k < n2
     · obtain ⟨x, hx⟩ : ∃ x, l2[k]? = some x := ⟨_, List.getElem?_eq_getElem (by rw [HN2.out]; exact hlt)⟩
       obtain ⟨g, o, rfl, hg, hc⟩ := HR2.out.2 (by omega)
       have e0 := (HB.out.cell (p := ⟨g, o + k * 4, none⟩) hg).trans (by have := hc _ _ ((tmC_get hx 0 (by decide)).trans rfl); simpa [Nat.add_assoc] using this)
       have e1 := (HB.out.cell (p := ⟨g, o + k * 4 + 1, none⟩) hg).trans (by have := hc _ _ ((tmC_get hx 1 (by decide)).trans rfl); simpa [Nat.add_assoc] using this)
       have e2 := (HB.out.cell (p := ⟨g, o + k * 4 + 2, none⟩) hg).trans (by have := hc _ _ ((tmC_get hx 2 (by decide)).trans rfl); simpa [Nat.add_assoc] using this)
       have e3 := (HB.out.cell (p := ⟨g, o + k * 4 + 3, none⟩) hg).trans (by have := hc _ _ ((tmC_get hx 3 (by decide)).trans rfl); simpa [Nat.add_assoc] using this)
       have HTA := Lib.hid (show l2.take (k + 1) = l2.take k ++ [x] by rw [List.take_add_one, hx]; rfl)
       have i0 : (0 : Int) ≤ (k : Int) := by omega
       have i1 : (k : Int) < (n2 : Int) := by omega
       have lg : g < wr.heap.size := by have := HB.out.size; omega
       obtain ⟨⟨x0, x1, x2, x3⟩, xA, xc⟩ := x
       dsimp only at e0 e1 e2 e3
       clear hx hc
       have hr0 := HS.out.cell 5
       have hv0 := HV.out.cell 5
       have hs0 := HS.out.lt
       have hs2 := HV.out.lt
       go_wp2_with fail
       obtain ⟨i9, hi9, hz0, hz1, hz2⟩ := info_parts info_T18
       have HI0 := Lib.hid hi9
       have HZ0 := Lib.hid hz0
       have HZ1 := Lib.hid hz1
       have HZ2 := Lib.hid hz2
       clear hi9 hz0 hz1 hz2
       refine wp_region_X (S := fun w' => w'.cell? ⟨w.heap.size + 2, 5, none⟩ = some (.slice Av k cv) ∧ w'.cell? ⟨w.heap.size, 5, none⟩ = some (.slice (some ⟨g, o, none⟩) n2 c2) ∧ w'.cell? ⟨g, o + k * 4, none⟩ = some (.int .i64 x0) ∧ w'.cell? ⟨g, o + k * 4 + 1, none⟩ = some (.int .i64 x1) ∧ w'.cell? ⟨g, o + k * 4 + 2, none⟩ = some (.int .i64 x2) ∧ w'.cell? ⟨g, o + k * 4 + 3, none⟩ = some (.slice xA x3.length xc)) [30] (by kernel_rfl) ⟨hv0, hr0, e0, e1, e2, e3⟩ (fun hHeld0 => ?_)
       refine tk (i := 0) [1, 28, 30] (v := ?_) ?_ ?_
       rotate_left 1
       · (intro w hSw; have ⟨q0, q1, q2, q3, q4, q5⟩ := hSw; go_simp; try (with_reducible rfl))
       (try walk_nrm)
       refine tk (i := 1) [28, 30] (v := ?_) ?_ ?_
       rotate_left 1
       · (intro w hSw; have ⟨q0, q1, q2, q3, q4, q5⟩ := hSw; go_simp; try (with_reducible rfl))
       (try walk_nrm)
       refine tk (i := 2) [3, 5, 6, 7, 26, 27, 28, 30] (v := ?_) ?_ ?_
       rotate_left 1
       · (intro w hSw; have ⟨q0, q1, q2, q3, q4, q5⟩ := hSw; go_simp; try (with_reducible rfl))
       (try walk_nrm)
       refine tk (i := 3) [5, 6, 7, 26, 27, 28, 30] (v := ?_) ?_ ?_
       rotate_left 1
       · (intro w hSw; have ⟨q0, q1, q2, q3, q4, q5⟩ := hSw; go_simp; try (with_reducible rfl))
       (try walk_nrm)
       refine tk (i := 4) [5, 6, 7, 26, 27, 28, 30] (v := ?_) ?_ ?_
       rotate_left 1
       · (intro w hSw; have ⟨q0, q1, q2, q3, q4, q5⟩ := hSw; go_simp; try (with_reducible rfl))
       (try walk_nrm)
       refine tk (i := 5) [6, 7, 26, 27, 28, 30] (v := ?_) ?_ ?_
       rotate_left 1
       · (intro w hSw; have ⟨q0, q1, q2, q3, q4, q5⟩ := hSw; go_simp; try (with_reducible rfl))
       (try walk_nrm)
       refine tk (i := 6) [7, 26, 27, 28, 30] (v := ?_) ?_ ?_
       rotate_left 1
       · (intro w hSw; have ⟨q0, q1, q2, q3, q4, q5⟩ := hSw; go_simp; try (with_reducible rfl))
       (try walk_nrm)
       refine tk (i := 7) [26, 27, 28, 30] (v := ?_) ?_ ?_
       rotate_left 1
       · (intro w hSw; have ⟨q0, q1, q2, q3, q4, q5⟩ := hSw; go_simp; try (with_reducible rfl))
       (try walk_nrm)
       refine tk (i := 8) [9, 11, 12, 13, 26, 27, 28, 30] (v := ?_) ?_ ?_
       rotate_left 1
       · (intro w hSw; have ⟨q0, q1, q2, q3, q4, q5⟩ := hSw; go_simp; try (with_reducible rfl))
       (try walk_nrm)
       refine tk (i := 9) [11, 12, 13, 26, 27, 28, 30] (v := ?_) ?_ ?_
       rotate_left 1
       · (intro w hSw; have ⟨q0, q1, q2, q3, q4, q5⟩ := hSw; go_simp; try (with_reducible rfl))
       (try walk_nrm)
       refine tk (i := 10) [11, 12, 13, 26, 27, 28, 30] (v := ?_) ?_ ?_
       rotate_left 1
       · (intro w hSw; have ⟨q0, q1, q2, q3, q4, q5⟩ := hSw; go_simp; try (with_reducible rfl))
       (try walk_nrm)
       refine tk (i := 11) [12, 13, 26, 27, 28, 30] (v := ?_) ?_ ?_
       rotate_left 1
       · (intro w hSw; have ⟨q0, q1, q2, q3, q4, q5⟩ := hSw; go_simp; try (with_reducible rfl))
       (try walk_nrm)
       refine tk (i := 12) [13, 26, 27, 28, 30] (v := ?_) ?_ ?_
       rotate_left 1
       · (intro w hSw; have ⟨q0, q1, q2, q3, q4, q5⟩ := hSw; go_simp; try (with_reducible rfl))
       (try walk_nrm)
       refine tk (i := 13) [26, 27, 28, 30] (v := ?_) ?_ ?_
       rotate_left 1
       · (intro w hSw; have ⟨q0, q1, q2, q3, q4, q5⟩ := hSw; go_simp; try (with_reducible rfl))
       (try walk_nrm)
       refine tk (i := 14) [15, 17, 18, 19, 26, 27, 28, 30] (v := ?_) ?_ ?_
       rotate_left 1
       · (intro w hSw; have ⟨q0, q1, q2, q3, q4, q5⟩ := hSw; go_simp; try (with_reducible rfl))
       (try walk_nrm)
       refine tk (i := 15) [17, 18, 19, 26, 27, 28, 30] (v := ?_) ?_ ?_
       rotate_left 1
       · (intro w hSw; have ⟨q0, q1, q2, q3, q4, q5⟩ := hSw; go_simp; try (with_reducible rfl))
       (try walk_nrm)
       refine tk (i := 16) [17, 18, 19, 26, 27, 28, 30] (v := ?_) ?_ ?_
       rotate_left 1
       · (intro w hSw; have ⟨q0, q1, q2, q3, q4, q5⟩ := hSw; go_simp; try (with_reducible rfl))
       (try walk_nrm)
       refine tk (i := 17) [18, 19, 26, 27, 28, 30] (v := ?_) ?_ ?_
       rotate_left 1
       · (intro w hSw; have ⟨q0, q1, q2, q3, q4, q5⟩ := hSw; go_simp; try (with_reducible rfl))
       (try walk_nrm)
       refine tk (i := 18) [19, 26, 27, 28, 30] (v := ?_) ?_ ?_
       rotate_left 1
       · (intro w hSw; have ⟨q0, q1, q2, q3, q4, q5⟩ := hSw; go_simp; try (with_reducible rfl))
       (try walk_nrm)
       refine tk (i := 19) [26, 27, 28, 30] (v := ?_) ?_ ?_
       rotate_left 1
       · (intro w hSw; have ⟨q0, q1, q2, q3, q4, q5⟩ := hSw; go_simp; try (with_reducible rfl))
       (try walk_nrm)
       refine tk (i := 20) [21, 23, 24, 25, 26, 27, 28, 30] (v := ?_) ?_ ?_
       rotate_left 1
       · (intro w hSw; have ⟨q0, q1, q2, q3, q4, q5⟩ := hSw; go_simp; try (with_reducible rfl))
       (try walk_nrm)
       refine tk (i := 21) [23, 24, 25, 26, 27, 28, 30] (v := ?_) ?_ ?_
       rotate_left 1
       · (intro w hSw; have ⟨q0, q1, q2, q3, q4, q5⟩ := hSw; go_simp; try (with_reducible rfl))
       (try walk_nrm)
       refine tk (i := 22) [23, 24, 25, 26, 27, 28, 30] (v := ?_) ?_ ?_
       rotate_left 1
       · (intro w hSw; have ⟨q0, q1, q2, q3, q4, q5⟩ := hSw; go_simp; try (with_reducible rfl))
       (try walk_nrm)
       refine tk (i := 23) [24, 25, 26, 27, 28, 30] (v := ?_) ?_ ?_
       rotate_left 1
       · (intro w hSw; have ⟨q0, q1, q2, q3, q4, q5⟩ := hSw; go_simp; try (with_reducible rfl))
       (try walk_nrm)
       refine tk (i := 24) [25, 26, 27, 28, 30] (v := ?_) ?_ ?_
       rotate_left 1
       · (intro w hSw; have ⟨q0, q1, q2, q3, q4, q5⟩ := hSw; go_simp; try (with_reducible rfl))
       (try walk_nrm)
       refine tk (i := 25) [26, 27, 28, 30] (v := ?_) ?_ ?_
       rotate_left 1
       · (intro w hSw; have ⟨q0, q1, q2, q3, q4, q5⟩ := hSw; go_simp; try (with_reducible rfl))
       (try walk_nrm)
       refine tk (i := 26) [27, 28, 30] (v := ?_) ?_ ?_
       rotate_left 1
       · (intro w hSw; have ⟨q0, q1, q2, q3, q4, q5⟩ := hSw; go_simp; try (with_reducible rfl))
       (try walk_nrm)
       refine wpAnyX_one 27 (by kernel_rfl) rfl (fun K hK => ?_)
       go_simp
       have V2 := HV.out.drew.alloc (.cells #[.int .i64 x0, .int .i64 x1, .int .i64 x2, .slice xA x3.length xc] 60)
       have S2 := HS.out.drew.alloc (.cells #[.int .i64 x0, .int .i64 x1, .int .i64 x2, .slice xA x3.length xc] 60)
       have O2 := HO.out.drew.alloc (.cells #[.int .i64 x0, .int .i64 x1, .int .i64 x2, .slice xA x3.length xc] 60)
       have b2 : Below wr.heap.size wr (wr.drew.alloc (.cells #[.int .i64 x0, .int .i64 x1, .int .i64 x2, .slice xA x3.length xc] 60)) := (Below.refl _ _).drew.alloc (Nat.le_refl _) _
       have hHeld2 : (fun w' => w'.cell? ⟨w.heap.size + 2, 5, none⟩ = some (.slice Av k cv) ∧ w'.cell? ⟨w.heap.size, 5, none⟩ = some (.slice (some ⟨g, o, none⟩) n2 c2) ∧ w'.cell? ⟨g, o + k * 4, none⟩ = some (.int .i64 x0) ∧ w'.cell? ⟨g, o + k * 4 + 1, none⟩ = some (.int .i64 x1) ∧ w'.cell? ⟨g, o + k * 4 + 2, none⟩ = some (.int .i64 x2) ∧ w'.cell? ⟨g, o + k * 4 + 3, none⟩ = some (.slice xA x3.length xc)) (wr.drew.alloc (.cells #[.int .i64 x0, .int .i64 x1, .int .i64 x2, .slice xA x3.length xc] 60)) := ⟨V2.cell 5, S2.cell 5, (b2.cell (p := ⟨g, o + k * 4, none⟩) lg).trans e0, (b2.cell (p := ⟨g, o + k * 4 + 1, none⟩) lg).trans e1, (b2.cell (p := ⟨g, o + k * 4 + 2, none⟩) lg).trans e2, (b2.cell (p := ⟨g, o + k * 4 + 3, none⟩) lg).trans e3⟩
       refine hK.out _ _ (.inr hHeld2) ?_
       clear hK K hHeld0
       (try walk_nrm)
       refine wpAnyX_one 28 (by kernel_rfl) rfl (fun K hK => ?_)
       refine step_append_lies _ (by rfl) (.tmp 60) (.tmp 86) 34 (by rfl) (w.heap.size + 3) 60 i9 _ 4 48 Try.underlying34 HI0.out HZ0.out HZ1.out HZ2.out rfl (by omega) (.slice Av k cv) k (tmC (l2.take k)) (by rfl) O2 ⟨wr.heap.size, 0, none⟩ 1 1 [.int .i64 x0, .int .i64 x1, .int .i64 x2, .slice xA x3.length xc] (by rfl) (by rfl) (World.news_of_block (cs := #[.int .i64 x0, .int .i64 x1, .int .i64 x2, .slice xA x3.length xc]) (t := 60) (fr := (0, 0)) (Whole.new wr.drew 60 #[.int .i64 x0, .int .i64 x1, .int .i64 x2, .slice xA x3.length xc])) (by simp [Value.oneCell']) (by omega) (by unfold maxLen; omega) (by omega) (by have := HG.out; simp; omega) (wr.heap.size + 1) (by simp) ?_
       intro gg cap w2 hown2 hgrow _ hlt9
       have HNE := Lib.hid (fun q (hq : (Value.slice Av k cv).ownBlock = some q) => (HO.out.lt q hq).1)
       have V3 := V2.grown hgrow (fun e => by have := HNE.out _ e.symm; omega)
       have S3 := S2.grown hgrow (fun e => by have := HNE.out _ e.symm; omega)
       have Z3 := (HZ.out.drew.alloc (.cells #[.int .i64 x0, .int .i64 x1, .int .i64 x2, .slice xA x3.length xc] 60)).grown hgrow (fun e => by have := HNE.out _ e.symm; omega)
       have B3 : Below w.heap.size w w2 := (HB.out.drew.alloc HB.out.size (.cells #[.int .i64 x0, .int .i64 x1, .int .i64 x2, .slice xA x3.length xc] 60)).grown hgrow (by have := HB.out.size; simp; omega) (fun q hq => by have := HNE.out q hq; omega)
       have P30 := own_grownX (HP0.out.drew.alloc (.cells #[.int .i64 x0, .int .i64 x1, .int .i64 x2, .slice xA x3.length xc] 60)) hgrow (fun q hq => own_apartX (HP0.out.drew.alloc (.cells #[.int .i64 x0, .int .i64 x1, .int .i64 x2, .slice xA x3.length xc] 60)) O2 (by decide) q hq)
       have hG3 : w.heap.size + 3 ≤ w2.heap.size := by have h1 := HG.out; have h2 := hgrow.size; simp at h2; omega
       have hx3 : ∀ j v, wr.cell? ⟨g, j, none⟩ = some v → w2.cell? ⟨g, j, none⟩ = some v := fun j v h => (World.cell?_of_block (a := ⟨g, j, none⟩) ((hgrow.block g (by simp; omega) (fun e => by have := HNE.out _ e.symm; omega)).trans (Below.heap_alloc _ _ _ lg))).trans h
       have f9 := V3.free 5
       have v9 := V3.cell 5
       clear hgrow V2 S2 O2
       have hHeld3 : (fun w' => w'.cell? ⟨w.heap.size + 2, 5, none⟩ = some (.slice Av k cv) ∧ w'.cell? ⟨w.heap.size, 5, none⟩ = some (.slice (some ⟨g, o, none⟩) n2 c2) ∧ w'.cell? ⟨g, o + k * 4, none⟩ = some (.int .i64 x0) ∧ w'.cell? ⟨g, o + k * 4 + 1, none⟩ = some (.int .i64 x1) ∧ w'.cell? ⟨g, o + k * 4 + 2, none⟩ = some (.int .i64 x2) ∧ w'.cell? ⟨g, o + k * 4 + 3, none⟩ = some (.slice xA x3.length xc)) w2 := ⟨V3.cell 5, S3.cell 5, hx3 _ _ e0, hx3 _ _ e1, hx3 _ _ e2, hx3 _ _ e3⟩
       refine hK.out _ _ (.inr hHeld3) ?_
       clear hK K hHeld2
       (try walk_nrm)
       refine tk (i := 29) [30] (v := ?_) ?_ ?_
       rotate_left 1
       · (intro w hSw; have ⟨q0, q1, q2, q3, q4, q5⟩ := hSw; go_simp; try (with_reducible rfl))
       (try walk_nrm)
       refine wpAnyX_one 30 (by kernel_rfl) rfl (fun K hK => ?_)
       have HV4 := Lib.hid (V3.set 5 (.slice (some ⟨gg, 0, none⟩) (k + 1) cap))
       have HS4 := Lib.hid (S3.far (p := ⟨w.heap.size + 2, 5, none⟩) (show w.heap.size ≠ w.heap.size + 2 by omega) (.slice (some ⟨gg, 0, none⟩) (k + 1) cap))
       have HZ4 := Lib.hid (Z3.far (p := ⟨w.heap.size + 2, 5, none⟩) (show w.heap.size + 1 ≠ w.heap.size + 2 by omega) (.slice (some ⟨gg, 0, none⟩) (k + 1) cap))
       have HB4 := Lib.hid (B3.setCell (p := ⟨w.heap.size + 2, 5, none⟩) (show w.heap.size ≤ w.heap.size + 2 by omega) (.slice (some ⟨gg, 0, none⟩) (k + 1) cap))
       have HO4 := Lib.hid (own_farX (p := ⟨w.heap.size + 2, 5, none⟩) (u := .slice (some ⟨gg, 0, none⟩) (k + 1) cap) hown2 (fun q hq e => by have := (hown2.lt q hq).1; have e' : w.heap.size + 2 = q := e; omega))
       have HP40 := Lib.hid (own_farX (p := ⟨w.heap.size + 2, 5, none⟩) (u := .slice (some ⟨gg, 0, none⟩) (k + 1) cap) P30 (fun q hq e => by have := (P30.lt q hq).1; have e' : w.heap.size + 2 = q := e; omega))
       have HG4 := Lib.hid hG3
       clear hown2 B3 Z3 S3 V3 hx3 hG3 P30
       go_simp
       refine hK.out _ _ (.inl (by decide)) ?_
       clear hK K hHeld3
       (try walk_nrm)
       refine wpAnyX_done (by kernel_rfl) ?_ _
       clear HV HS HZ HB HO HG hr0 hv0 hs0 hs2 f9 v9 HNE HI0 HZ0 HZ1 HZ2 e0 e1 e2 e3 HP0
       go_wp2_with fail
       go_roundw
       case rel => exact ⟨k + 1, some ⟨gg, 0, none⟩, cap, by omega, by go_num, HS4.out, HZ4.out, HV4.out, by rw [HTA.out, tmC_add]; exact HO4.out, HP40.out, by simpa using HG4.out, HB4.out⟩
       case measure => simp [intOf]; omega
     · obtain rfl : n2 = k := by omega
       rw [List.take_of_length_le (by rw [HN2.out]; exact Nat.le_refl _)] at HO
       obtain ⟨B1, hB1⟩ : ∃ z, z = Av := ⟨_, rfl⟩
       obtain ⟨d1, hd1⟩ : ∃ z, z = cv := ⟨_, rfl⟩
       rw [← hB1, ← hd1] at HO HV
       clear hB1 hd1
       have hr0 := HS.out.cell 5
       have hs0 := HS.out.lt
       have HP1 := Lib.hid HO.out
       have HS1 := Lib.hid HS.out
       have HZ1 := Lib.hid HZ.out
       have HV1 := Lib.hid HV.out
       have HG1 := Lib.hid HG.out
       have HB1 := Lib.hid HB.out
       clear HS HZ HV HG HB HO
       go_wp2_with fail
       clear hr0 hs0
       go_loopw [6] (fun v wr => ∃ (k : Nat) (Av : Option Addr) (cv : Nat), k ≤ n3 ∧ v = .int .i64 (k : Int) ∧ Whole wr w.heap.size 31 #[.int .i64 a1, .int .i64 a2, .int .i64 a3, .int .i64 a4, .slice A n c, .slice A2 n2 c2, .slice A3 n3 c3] ∧ Whole wr (w.heap.size + 1) 37 #[.int .i64 0, .int .i64 0, .int .i64 0, .int .i64 0, .slice none 0 0, .slice none 0 0, .slice none 0 0] ∧ Whole wr (w.heap.size + 2) 37 #[.int .i64 a1, .int .i64 a2, .int .i64 a3, .int .i64 a4, .slice B0 n d0, .slice B1 n2 d1, .slice Av k cv] ∧ wr.ownsRow (w.heap.size + 3) 56 5 (.slice Av k cv) k (sbC (l3.take k)) ∧ wr.ownsRow (w.heap.size + 3) 70 3 (.slice B0 n d0) n (pnC l) ∧ wr.ownsRow (w.heap.size + 3) 60 4 (.slice B1 n2 d1) n2 (tmC l2) ∧ w.heap.size + 3 ≤ wr.heap.size ∧ Below w.heap.size w wr) (fun v _ => n3 - (intOf v).toNat)
       case atStart => exact ⟨0, none, 0, Nat.zero_le _, rfl, HS1.out, HZ1.out, HV1.out, World.ownsRow_nil _ _ _ _, HP0.out, HP1.out, HG1.out, HB1.out⟩
       case round =>
        obtain ⟨k, Av, cv, hk, rfl, hS, hZ, hV, hO, hP0, hP1, hG, hb⟩ := hrel
        clear HS1 HZ1 HV1 HG1 HB1 HP0 HP1
        have HS := Lib.hid hS
        have HZ := Lib.hid hZ
        have HV := Lib.hid hV
        have HO := Lib.hid hO
        have HG := Lib.hid hG
        have HB := Lib.hid hb
        have HP0 := Lib.hid hP0
        have HP1 := Lib.hid hP1
        clear hS hZ hV hO hG hb hP0 hP1
        by_cases hlt : k < n3
        · obtain ⟨x, hx⟩ : ∃ x, l3[k]? = some x := ⟨_, List.getElem?_eq_getElem (by rw [HN3.out]; exact hlt)⟩
          obtain ⟨g, o, rfl, hg, hc⟩ := HR3.out.2 (by omega)
          have e0 := (HB.out.cell (p := ⟨g, o + k * 5, none⟩) hg).trans (by have := hc _ _ ((sbC_get hx 0 (by decide)).trans rfl); simpa [Nat.add_assoc] using this)
          have e1 := (HB.out.cell (p := ⟨g, o + k * 5 + 1, none⟩) hg).trans (by have := hc _ _ ((sbC_get hx 1 (by decide)).trans rfl); simpa [Nat.add_assoc] using this)
          have e2 := (HB.out.cell (p := ⟨g, o + k * 5 + 2, none⟩) hg).trans (by have := hc _ _ ((sbC_get hx 2 (by decide)).trans rfl); simpa [Nat.add_assoc] using this)
          have e3 := (HB.out.cell (p := ⟨g, o + k * 5 + 3, none⟩) hg).trans (by have := hc _ _ ((sbC_get hx 3 (by decide)).trans rfl); simpa [Nat.add_assoc] using this)
          have e4 := (HB.out.cell (p := ⟨g, o + k * 5 + 4, none⟩) hg).trans (by have := hc _ _ ((sbC_get hx 4 (by decide)).trans rfl); simpa [Nat.add_assoc] using this)
          have HTA := Lib.hid (show l3.take (k + 1) = l3.take k ++ [x] by rw [List.take_add_one, hx]; rfl)
          have i0 : (0 : Int) ≤ (k : Int) := by omega
          have i1 : (k : Int) < (n3 : Int) := by omega
          have lg : g < wr.heap.size := by have := HB.out.size; omega
          obtain ⟨x0, x1, x2, x3, x4⟩ := x
          dsimp only at e0 e1 e2 e3 e4
          clear hx hc
          have hr0 := HS.out.cell 6
          have hv0 := HV.out.cell 6
          have hs0 := HS.out.lt
          have hs2 := HV.out.lt
          go_wp2_with fail
          obtain ⟨i9, hi9, hz0, hz1, hz2⟩ := info_parts info_B18
          have HI0 := Lib.hid hi9
          have HZ0 := Lib.hid hz0
          have HZ1 := Lib.hid hz1
          have HZ2 := Lib.hid hz2
          clear hi9 hz0 hz1 hz2
          refine wp_region_X (S := fun w' => w'.cell? ⟨w.heap.size + 2, 6, none⟩ = some (.slice Av k cv) ∧ w'.cell? ⟨w.heap.size, 6, none⟩ = some (.slice (some ⟨g, o, none⟩) n3 c3) ∧ w'.cell? ⟨g, o + k * 5, none⟩ = some (.int .i64 x0) ∧ w'.cell? ⟨g, o + k * 5 + 1, none⟩ = some (.int .i64 x1) ∧ w'.cell? ⟨g, o + k * 5 + 2, none⟩ = some (.int .i64 x2) ∧ w'.cell? ⟨g, o + k * 5 + 3, none⟩ = some (.int .i64 x3) ∧ w'.cell? ⟨g, o + k * 5 + 4, none⟩ = some (.bool x4)) [36] (by kernel_rfl) ⟨hv0, hr0, e0, e1, e2, e3, e4⟩ (fun hHeld0 => ?_)
          refine tk (i := 0) [1, 34, 36] (v := ?_) ?_ ?_
          rotate_left 1
          · (intro w hSw; have ⟨q0, q1, q2, q3, q4, q5, q6⟩ := hSw; go_simp; try (with_reducible rfl))
          (try walk_nrm)
          refine tk (i := 1) [34, 36] (v := ?_) ?_ ?_
          rotate_left 1
          · (intro w hSw; have ⟨q0, q1, q2, q3, q4, q5, q6⟩ := hSw; go_simp; try (with_reducible rfl))
          (try walk_nrm)
          refine tk (i := 2) [3, 5, 6, 7, 32, 33, 34, 36] (v := ?_) ?_ ?_
          rotate_left 1
          · (intro w hSw; have ⟨q0, q1, q2, q3, q4, q5, q6⟩ := hSw; go_simp; try (with_reducible rfl))
          (try walk_nrm)
          refine tk (i := 3) [5, 6, 7, 32, 33, 34, 36] (v := ?_) ?_ ?_
          rotate_left 1
          · (intro w hSw; have ⟨q0, q1, q2, q3, q4, q5, q6⟩ := hSw; go_simp; try (with_reducible rfl))
          (try walk_nrm)
          refine tk (i := 4) [5, 6, 7, 32, 33, 34, 36] (v := ?_) ?_ ?_
          rotate_left 1
          · (intro w hSw; have ⟨q0, q1, q2, q3, q4, q5, q6⟩ := hSw; go_simp; try (with_reducible rfl))
          (try walk_nrm)
          refine tk (i := 5) [6, 7, 32, 33, 34, 36] (v := ?_) ?_ ?_
          rotate_left 1
          · (intro w hSw; have ⟨q0, q1, q2, q3, q4, q5, q6⟩ := hSw; go_simp; try (with_reducible rfl))
          (try walk_nrm)
          refine tk (i := 6) [7, 32, 33, 34, 36] (v := ?_) ?_ ?_
          rotate_left 1
          · (intro w hSw; have ⟨q0, q1, q2, q3, q4, q5, q6⟩ := hSw; go_simp; try (with_reducible rfl))
          (try walk_nrm)
          refine tk (i := 7) [32, 33, 34, 36] (v := ?_) ?_ ?_
          rotate_left 1
          · (intro w hSw; have ⟨q0, q1, q2, q3, q4, q5, q6⟩ := hSw; go_simp; try (with_reducible rfl))
          (try walk_nrm)
          refine tk (i := 8) [9, 11, 12, 13, 32, 33, 34, 36] (v := ?_) ?_ ?_
          rotate_left 1
          · (intro w hSw; have ⟨q0, q1, q2, q3, q4, q5, q6⟩ := hSw; go_simp; try (with_reducible rfl))
          (try walk_nrm)
          refine tk (i := 9) [11, 12, 13, 32, 33, 34, 36] (v := ?_) ?_ ?_
          rotate_left 1
          · (intro w hSw; have ⟨q0, q1, q2, q3, q4, q5, q6⟩ := hSw; go_simp; try (with_reducible rfl))
          (try walk_nrm)
          refine tk (i := 10) [11, 12, 13, 32, 33, 34, 36] (v := ?_) ?_ ?_
          rotate_left 1
          · (intro w hSw; have ⟨q0, q1, q2, q3, q4, q5, q6⟩ := hSw; go_simp; try (with_reducible rfl))
          (try walk_nrm)
          refine tk (i := 11) [12, 13, 32, 33, 34, 36] (v := ?_) ?_ ?_
          rotate_left 1
          · (intro w hSw; have ⟨q0, q1, q2, q3, q4, q5, q6⟩ := hSw; go_simp; try (with_reducible rfl))
          (try walk_nrm)
          refine tk (i := 12) [13, 32, 33, 34, 36] (v := ?_) ?_ ?_
          rotate_left 1
          · (intro w hSw; have ⟨q0, q1, q2, q3, q4, q5, q6⟩ := hSw; go_simp; try (with_reducible rfl))
          (try walk_nrm)
          refine tk (i := 13) [32, 33, 34, 36] (v := ?_) ?_ ?_
          rotate_left 1
          · (intro w hSw; have ⟨q0, q1, q2, q3, q4, q5, q6⟩ := hSw; go_simp; try (with_reducible rfl))
          (try walk_nrm)
          refine tk (i := 14) [15, 17, 18, 19, 32, 33, 34, 36] (v := ?_) ?_ ?_
          rotate_left 1
          · (intro w hSw; have ⟨q0, q1, q2, q3, q4, q5, q6⟩ := hSw; go_simp; try (with_reducible rfl))
          (try walk_nrm)
          refine tk (i := 15) [17, 18, 19, 32, 33, 34, 36] (v := ?_) ?_ ?_
          rotate_left 1
          · (intro w hSw; have ⟨q0, q1, q2, q3, q4, q5, q6⟩ := hSw; go_simp; try (with_reducible rfl))
          (try walk_nrm)
          refine tk (i := 16) [17, 18, 19, 32, 33, 34, 36] (v := ?_) ?_ ?_
          rotate_left 1
          · (intro w hSw; have ⟨q0, q1, q2, q3, q4, q5, q6⟩ := hSw; go_simp; try (with_reducible rfl))
          (try walk_nrm)
          refine tk (i := 17) [18, 19, 32, 33, 34, 36] (v := ?_) ?_ ?_
          rotate_left 1
          · (intro w hSw; have ⟨q0, q1, q2, q3, q4, q5, q6⟩ := hSw; go_simp; try (with_reducible rfl))
          (try walk_nrm)
          refine tk (i := 18) [19, 32, 33, 34, 36] (v := ?_) ?_ ?_
          rotate_left 1
          · (intro w hSw; have ⟨q0, q1, q2, q3, q4, q5, q6⟩ := hSw; go_simp; try (with_reducible rfl))
          (try walk_nrm)
          refine tk (i := 19) [32, 33, 34, 36] (v := ?_) ?_ ?_
          rotate_left 1
          · (intro w hSw; have ⟨q0, q1, q2, q3, q4, q5, q6⟩ := hSw; go_simp; try (with_reducible rfl))
          (try walk_nrm)
          refine tk (i := 20) [21, 23, 24, 25, 32, 33, 34, 36] (v := ?_) ?_ ?_
          rotate_left 1
          · (intro w hSw; have ⟨q0, q1, q2, q3, q4, q5, q6⟩ := hSw; go_simp; try (with_reducible rfl))
          (try walk_nrm)
          refine tk (i := 21) [23, 24, 25, 32, 33, 34, 36] (v := ?_) ?_ ?_
          rotate_left 1
          · (intro w hSw; have ⟨q0, q1, q2, q3, q4, q5, q6⟩ := hSw; go_simp; try (with_reducible rfl))
          (try walk_nrm)
          refine tk (i := 22) [23, 24, 25, 32, 33, 34, 36] (v := ?_) ?_ ?_
          rotate_left 1
          · (intro w hSw; have ⟨q0, q1, q2, q3, q4, q5, q6⟩ := hSw; go_simp; try (with_reducible rfl))
          (try walk_nrm)
          refine tk (i := 23) [24, 25, 32, 33, 34, 36] (v := ?_) ?_ ?_
          rotate_left 1
          · (intro w hSw; have ⟨q0, q1, q2, q3, q4, q5, q6⟩ := hSw; go_simp; try (with_reducible rfl))
          (try walk_nrm)
          refine tk (i := 24) [25, 32, 33, 34, 36] (v := ?_) ?_ ?_
          rotate_left 1
          · (intro w hSw; have ⟨q0, q1, q2, q3, q4, q5, q6⟩ := hSw; go_simp; try (with_reducible rfl))
          (try walk_nrm)
          refine tk (i := 25) [32, 33, 34, 36] (v := ?_) ?_ ?_
          rotate_left 1
          · (intro w hSw; have ⟨q0, q1, q2, q3, q4, q5, q6⟩ := hSw; go_simp; try (with_reducible rfl))
          (try walk_nrm)
          refine tk (i := 26) [27, 29, 30, 31, 32, 33, 34, 36] (v := ?_) ?_ ?_
          rotate_left 1
          · (intro w hSw; have ⟨q0, q1, q2, q3, q4, q5, q6⟩ := hSw; go_simp; try (with_reducible rfl))
          (try walk_nrm)
          refine tk (i := 27) [29, 30, 31, 32, 33, 34, 36] (v := ?_) ?_ ?_
          rotate_left 1
          · (intro w hSw; have ⟨q0, q1, q2, q3, q4, q5, q6⟩ := hSw; go_simp; try (with_reducible rfl))
          (try walk_nrm)
          refine tk (i := 28) [29, 30, 31, 32, 33, 34, 36] (v := ?_) ?_ ?_
          rotate_left 1
          · (intro w hSw; have ⟨q0, q1, q2, q3, q4, q5, q6⟩ := hSw; go_simp; try (with_reducible rfl))
          (try walk_nrm)
          refine tk (i := 29) [30, 31, 32, 33, 34, 36] (v := ?_) ?_ ?_
          rotate_left 1
          · (intro w hSw; have ⟨q0, q1, q2, q3, q4, q5, q6⟩ := hSw; go_simp; try (with_reducible rfl))
          (try walk_nrm)
          refine tk (i := 30) [31, 32, 33, 34, 36] (v := ?_) ?_ ?_
          rotate_left 1
          · (intro w hSw; have ⟨q0, q1, q2, q3, q4, q5, q6⟩ := hSw; go_simp; try (with_reducible rfl))
          (try walk_nrm)
          refine tk (i := 31) [32, 33, 34, 36] (v := ?_) ?_ ?_
          rotate_left 1
          · (intro w hSw; have ⟨q0, q1, q2, q3, q4, q5, q6⟩ := hSw; go_simp; try (with_reducible rfl))
          (try walk_nrm)
          refine tk (i := 32) [33, 34, 36] (v := ?_) ?_ ?_
          rotate_left 1
          · (intro w hSw; have ⟨q0, q1, q2, q3, q4, q5, q6⟩ := hSw; go_simp; try (with_reducible rfl))
          (try walk_nrm)
          refine wpAnyX_one 33 (by kernel_rfl) rfl (fun K hK => ?_)
          go_simp
          have V2 := HV.out.drew.alloc (.cells #[.int .i64 x0, .int .i64 x1, .int .i64 x2, .int .i64 x3, .bool x4] 56)
          have S2 := HS.out.drew.alloc (.cells #[.int .i64 x0, .int .i64 x1, .int .i64 x2, .int .i64 x3, .bool x4] 56)
          have O2 := HO.out.drew.alloc (.cells #[.int .i64 x0, .int .i64 x1, .int .i64 x2, .int .i64 x3, .bool x4] 56)
          have b2 : Below wr.heap.size wr (wr.drew.alloc (.cells #[.int .i64 x0, .int .i64 x1, .int .i64 x2, .int .i64 x3, .bool x4] 56)) := (Below.refl _ _).drew.alloc (Nat.le_refl _) _
          have hHeld2 : (fun w' => w'.cell? ⟨w.heap.size + 2, 6, none⟩ = some (.slice Av k cv) ∧ w'.cell? ⟨w.heap.size, 6, none⟩ = some (.slice (some ⟨g, o, none⟩) n3 c3) ∧ w'.cell? ⟨g, o + k * 5, none⟩ = some (.int .i64 x0) ∧ w'.cell? ⟨g, o + k * 5 + 1, none⟩ = some (.int .i64 x1) ∧ w'.cell? ⟨g, o + k * 5 + 2, none⟩ = some (.int .i64 x2) ∧ w'.cell? ⟨g, o + k * 5 + 3, none⟩ = some (.int .i64 x3) ∧ w'.cell? ⟨g, o + k * 5 + 4, none⟩ = some (.bool x4)) (wr.drew.alloc (.cells #[.int .i64 x0, .int .i64 x1, .int .i64 x2, .int .i64 x3, .bool x4] 56)) := ⟨V2.cell 6, S2.cell 6, (b2.cell (p := ⟨g, o + k * 5, none⟩) lg).trans e0, (b2.cell (p := ⟨g, o + k * 5 + 1, none⟩) lg).trans e1, (b2.cell (p := ⟨g, o + k * 5 + 2, none⟩) lg).trans e2, (b2.cell (p := ⟨g, o + k * 5 + 3, none⟩) lg).trans e3, (b2.cell (p := ⟨g, o + k * 5 + 4, none⟩) lg).trans e4⟩
          refine hK.out _ _ (.inr hHeld2) ?_
          clear hK K hHeld0
          (try walk_nrm)
          refine wpAnyX_one 34 (by kernel_rfl) rfl (fun K hK => ?_)
          refine step_append_lies _ (by rfl) (.tmp 97) (.tmp 129) 35 (by rfl) (w.heap.size + 3) 56 i9 _ 5 40 Try.underlying35 HI0.out HZ0.out HZ1.out HZ2.out rfl (by omega) (.slice Av k cv) k (sbC (l3.take k)) (by rfl) O2 ⟨wr.heap.size, 0, none⟩ 1 1 [.int .i64 x0, .int .i64 x1, .int .i64 x2, .int .i64 x3, .bool x4] (by rfl) (by rfl) (World.news_of_block (cs := #[.int .i64 x0, .int .i64 x1, .int .i64 x2, .int .i64 x3, .bool x4]) (t := 56) (fr := (0, 0)) (Whole.new wr.drew 56 #[.int .i64 x0, .int .i64 x1, .int .i64 x2, .int .i64 x3, .bool x4])) (by simp [Value.oneCell']) (by omega) (by unfold maxLen; omega) (by omega) (by have := HG.out; simp; omega) (wr.heap.size + 1) (by simp) ?_
          intro gg cap w2 hown2 hgrow _ hlt9
          have HNE := Lib.hid (fun q (hq : (Value.slice Av k cv).ownBlock = some q) => (HO.out.lt q hq).1)
          have V3 := V2.grown hgrow (fun e => by have := HNE.out _ e.symm; omega)
          have S3 := S2.grown hgrow (fun e => by have := HNE.out _ e.symm; omega)
          have Z3 := (HZ.out.drew.alloc (.cells #[.int .i64 x0, .int .i64 x1, .int .i64 x2, .int .i64 x3, .bool x4] 56)).grown hgrow (fun e => by have := HNE.out _ e.symm; omega)
          have B3 : Below w.heap.size w w2 := (HB.out.drew.alloc HB.out.size (.cells #[.int .i64 x0, .int .i64 x1, .int .i64 x2, .int .i64 x3, .bool x4] 56)).grown hgrow (by have := HB.out.size; simp; omega) (fun q hq => by have := HNE.out q hq; omega)
          have P30 := own_grownX (HP0.out.drew.alloc (.cells #[.int .i64 x0, .int .i64 x1, .int .i64 x2, .int .i64 x3, .bool x4] 56)) hgrow (fun q hq => own_apartX (HP0.out.drew.alloc (.cells #[.int .i64 x0, .int .i64 x1, .int .i64 x2, .int .i64 x3, .bool x4] 56)) O2 (by decide) q hq)
          have P31 := own_grownX (HP1.out.drew.alloc (.cells #[.int .i64 x0, .int .i64 x1, .int .i64 x2, .int .i64 x3, .bool x4] 56)) hgrow (fun q hq => own_apartX (HP1.out.drew.alloc (.cells #[.int .i64 x0, .int .i64 x1, .int .i64 x2, .int .i64 x3, .bool x4] 56)) O2 (by decide) q hq)
          have hG3 : w.heap.size + 3 ≤ w2.heap.size := by have h1 := HG.out; have h2 := hgrow.size; simp at h2; omega
          have hx3 : ∀ j v, wr.cell? ⟨g, j, none⟩ = some v → w2.cell? ⟨g, j, none⟩ = some v := fun j v h => (World.cell?_of_block (a := ⟨g, j, none⟩) ((hgrow.block g (by simp; omega) (fun e => by have := HNE.out _ e.symm; omega)).trans (Below.heap_alloc _ _ _ lg))).trans h
          have f9 := V3.free 6
          have v9 := V3.cell 6
          clear hgrow V2 S2 O2
          have hHeld3 : (fun w' => w'.cell? ⟨w.heap.size + 2, 6, none⟩ = some (.slice Av k cv) ∧ w'.cell? ⟨w.heap.size, 6, none⟩ = some (.slice (some ⟨g, o, none⟩) n3 c3) ∧ w'.cell? ⟨g, o + k * 5, none⟩ = some (.int .i64 x0) ∧ w'.cell? ⟨g, o + k * 5 + 1, none⟩ = some (.int .i64 x1) ∧ w'.cell? ⟨g, o + k * 5 + 2, none⟩ = some (.int .i64 x2) ∧ w'.cell? ⟨g, o + k * 5 + 3, none⟩ = some (.int .i64 x3) ∧ w'.cell? ⟨g, o + k * 5 + 4, none⟩ = some (.bool x4)) w2 := ⟨V3.cell 6, S3.cell 6, hx3 _ _ e0, hx3 _ _ e1, hx3 _ _ e2, hx3 _ _ e3, hx3 _ _ e4⟩
          refine hK.out _ _ (.inr hHeld3) ?_
          clear hK K hHeld2
          (try walk_nrm)
          refine tk (i := 35) [36] (v := ?_) ?_ ?_
          rotate_left 1
          · (intro w hSw; have ⟨q0, q1, q2, q3, q4, q5, q6⟩ := hSw; go_simp; try (with_reducible rfl))
          (try walk_nrm)
          refine wpAnyX_one 36 (by kernel_rfl) rfl (fun K hK => ?_)
          have HV4 := Lib.hid (V3.set 6 (.slice (some ⟨gg, 0, none⟩) (k + 1) cap))
          have HS4 := Lib.hid (S3.far (p := ⟨w.heap.size + 2, 6, none⟩) (show w.heap.size ≠ w.heap.size + 2 by omega) (.slice (some ⟨gg, 0, none⟩) (k + 1) cap))
          have HZ4 := Lib.hid (Z3.far (p := ⟨w.heap.size + 2, 6, none⟩) (show w.heap.size + 1 ≠ w.heap.size + 2 by omega) (.slice (some ⟨gg, 0, none⟩) (k + 1) cap))
          have HB4 := Lib.hid (B3.setCell (p := ⟨w.heap.size + 2, 6, none⟩) (show w.heap.size ≤ w.heap.size + 2 by omega) (.slice (some ⟨gg, 0, none⟩) (k + 1) cap))
          have HO4 := Lib.hid (own_farX (p := ⟨w.heap.size + 2, 6, none⟩) (u := .slice (some ⟨gg, 0, none⟩) (k + 1) cap) hown2 (fun q hq e => by have := (hown2.lt q hq).1; have e' : w.heap.size + 2 = q := e; omega))
          have HP40 := Lib.hid (own_farX (p := ⟨w.heap.size + 2, 6, none⟩) (u := .slice (some ⟨gg, 0, none⟩) (k + 1) cap) P30 (fun q hq e => by have := (P30.lt q hq).1; have e' : w.heap.size + 2 = q := e; omega))
          have HP41 := Lib.hid (own_farX (p := ⟨w.heap.size + 2, 6, none⟩) (u := .slice (some ⟨gg, 0, none⟩) (k + 1) cap) P31 (fun q hq e => by have := (P31.lt q hq).1; have e' : w.heap.size + 2 = q := e; omega))
          have HG4 := Lib.hid hG3
          clear hown2 B3 Z3 S3 V3 hx3 hG3 P30 P31
          go_simp
          refine hK.out _ _ (.inl (by decide)) ?_
          clear hK K hHeld3
          (try walk_nrm)
          refine wpAnyX_done (by kernel_rfl) ?_ _
          clear HV HS HZ HB HO HG hr0 hv0 hs0 hs2 f9 v9 HNE HI0 HZ0 HZ1 HZ2 e0 e1 e2 e3 e4 HP0 HP1
          go_wp2_with fail
          go_roundw
          case rel => exact ⟨k + 1, some ⟨gg, 0, none⟩, cap, by omega, by go_num, HS4.out, HZ4.out, HV4.out, by rw [HTA.out, sbC_add]; exact HO4.out, HP40.out, HP41.out, by simpa using HG4.out, HB4.out⟩
          case measure => simp [intOf]; omega
        · obtain rfl : n3 = k := by omega
          rw [List.take_of_length_le (by rw [HN3.out]; exact Nat.le_refl _)] at HO
          obtain ⟨B2, hB2⟩ : ∃ z, z = Av := ⟨_, rfl⟩
          obtain ⟨d2, hd2⟩ : ∃ z, z = cv := ⟨_, rfl⟩
          rw [← hB2, ← hd2] at HO HV
          clear hB2 hd2
          have hr0 := HS.out.cell 6
          have hs0 := HS.out.lt
          have v0 := HV.out.cell 0
          have z0 := HZ.out.cell 0
          have y0 := HZ.out.free 0
          have v1 := HV.out.cell 1
          have z1 := HZ.out.cell 1
          have y1 := HZ.out.free 1
          have v2 := HV.out.cell 2
          have z2 := HZ.out.cell 2
          have y2 := HZ.out.free 2
          have v3 := HV.out.cell 3
          have z3 := HZ.out.cell 3
          have y3 := HZ.out.free 3
          have v4 := HV.out.cell 4
          have z4 := HZ.out.cell 4
          have y4 := HZ.out.free 4
          have v5 := HV.out.cell 5
          have z5 := HZ.out.cell 5
          have y5 := HZ.out.free 5
          have v6 := HV.out.cell 6
          have z6 := HZ.out.cell 6
          have y6 := HZ.out.free 6
          have lz := HZ.out.lt
          have lv := HV.out.lt
          have HF := Lib.hid (show Below w.heap.size w (((((((wr.setCell ⟨w.heap.size + 1, 0, none⟩ (.int .i64 a1)).setCell ⟨w.heap.size + 1, 1, none⟩ (.int .i64 a2)).setCell ⟨w.heap.size + 1, 2, none⟩ (.int .i64 a3)).setCell ⟨w.heap.size + 1, 3, none⟩ (.int .i64 a4)).setCell ⟨w.heap.size + 1, 4, none⟩ (.slice B0 n d0)).setCell ⟨w.heap.size + 1, 5, none⟩ (.slice B1 n2 d1)).setCell ⟨w.heap.size + 1, 6, none⟩ (.slice B2 n3 d2)) ∧ (((((((wr.setCell ⟨w.heap.size + 1, 0, none⟩ (.int .i64 a1)).setCell ⟨w.heap.size + 1, 1, none⟩ (.int .i64 a2)).setCell ⟨w.heap.size + 1, 2, none⟩ (.int .i64 a3)).setCell ⟨w.heap.size + 1, 3, none⟩ (.int .i64 a4)).setCell ⟨w.heap.size + 1, 4, none⟩ (.slice B0 n d0)).setCell ⟨w.heap.size + 1, 5, none⟩ (.slice B1 n2 d1)).setCell ⟨w.heap.size + 1, 6, none⟩ (.slice B2 n3 d2)).ownsRow (w.heap.size + 3) 70 3 (.slice B0 n d0) n (pnC l) ∧ (((((((wr.setCell ⟨w.heap.size + 1, 0, none⟩ (.int .i64 a1)).setCell ⟨w.heap.size + 1, 1, none⟩ (.int .i64 a2)).setCell ⟨w.heap.size + 1, 2, none⟩ (.int .i64 a3)).setCell ⟨w.heap.size + 1, 3, none⟩ (.int .i64 a4)).setCell ⟨w.heap.size + 1, 4, none⟩ (.slice B0 n d0)).setCell ⟨w.heap.size + 1, 5, none⟩ (.slice B1 n2 d1)).setCell ⟨w.heap.size + 1, 6, none⟩ (.slice B2 n3 d2)).ownsRow (w.heap.size + 3) 60 4 (.slice B1 n2 d1) n2 (tmC l2) ∧ (((((((wr.setCell ⟨w.heap.size + 1, 0, none⟩ (.int .i64 a1)).setCell ⟨w.heap.size + 1, 1, none⟩ (.int .i64 a2)).setCell ⟨w.heap.size + 1, 2, none⟩ (.int .i64 a3)).setCell ⟨w.heap.size + 1, 3, none⟩ (.int .i64 a4)).setCell ⟨w.heap.size + 1, 4, none⟩ (.slice B0 n d0)).setCell ⟨w.heap.size + 1, 5, none⟩ (.slice B1 n2 d1)).setCell ⟨w.heap.size + 1, 6, none⟩ (.slice B2 n3 d2)).ownsRow (w.heap.size + 3) 56 5 (.slice B2 n3 d2) n3 (sbC l3) from by
           refine ⟨(Below.setCell (p := ⟨w.heap.size + 1, 6, none⟩) (Below.setCell (p := ⟨w.heap.size + 1, 5, none⟩) (Below.setCell (p := ⟨w.heap.size + 1, 4, none⟩) (Below.setCell (p := ⟨w.heap.size + 1, 3, none⟩) (Below.setCell (p := ⟨w.heap.size + 1, 2, none⟩) (Below.setCell (p := ⟨w.heap.size + 1, 1, none⟩) (Below.setCell (p := ⟨w.heap.size + 1, 0, none⟩) HB.out (by show w.heap.size ≤ w.heap.size + 1; omega) (.int .i64 a1)) (by show w.heap.size ≤ w.heap.size + 1; omega) (.int .i64 a2)) (by show w.heap.size ≤ w.heap.size + 1; omega) (.int .i64 a3)) (by show w.heap.size ≤ w.heap.size + 1; omega) (.int .i64 a4)) (by show w.heap.size ≤ w.heap.size + 1; omega) (.slice B0 n d0)) (by show w.heap.size ≤ w.heap.size + 1; omega) (.slice B1 n2 d1)) (by show w.heap.size ≤ w.heap.size + 1; omega) (.slice B2 n3 d2)), ?_, ?_, ?_⟩
           · have h := HP0.out
             have fq : ∀ q, (Value.slice B0 n d0).ownBlock = some q → ¬ q = w.heap.size + 1 := fun q hq => by have := (h.lt q hq).1; omega
             exact own_farX (own_farX (own_farX (own_farX (own_farX (own_farX (own_farX (h) (fun q hq e => fq q hq e.symm)) (fun q hq e => fq q hq e.symm)) (fun q hq e => fq q hq e.symm)) (fun q hq e => fq q hq e.symm)) (fun q hq e => fq q hq e.symm)) (fun q hq e => fq q hq e.symm)) (fun q hq e => fq q hq e.symm)
           · have h := HP1.out
             have fq : ∀ q, (Value.slice B1 n2 d1).ownBlock = some q → ¬ q = w.heap.size + 1 := fun q hq => by have := (h.lt q hq).1; omega
             exact own_farX (own_farX (own_farX (own_farX (own_farX (own_farX (own_farX (h) (fun q hq e => fq q hq e.symm)) (fun q hq e => fq q hq e.symm)) (fun q hq e => fq q hq e.symm)) (fun q hq e => fq q hq e.symm)) (fun q hq e => fq q hq e.symm)) (fun q hq e => fq q hq e.symm)) (fun q hq e => fq q hq e.symm)
           · have h := HO.out
             have fq : ∀ q, (Value.slice B2 n3 d2).ownBlock = some q → ¬ q = w.heap.size + 1 := fun q hq => by have := (h.lt q hq).1; omega
             exact own_farX (own_farX (own_farX (own_farX (own_farX (own_farX (own_farX (h) (fun q hq e => fq q hq e.symm)) (fun q hq e => fq q hq e.symm)) (fun q hq e => fq q hq e.symm)) (fun q hq e => fq q hq e.symm)) (fun q hq e => fq q hq e.symm)) (fun q hq e => fq q hq e.symm)) (fun q hq e => fq q hq e.symm))
          clear HB HO HP0 HP1
          go_wp2_with fail
          exact bodyPost_ret (v := .agg #[.int .i64 a1, .int .i64 a2, .int .i64 a3, .int .i64 a4, .slice B0 n d0, .slice B1 n2 d1, .slice B2 n3 d2]) (by simp [results, Try.results16, go_sem, z0, z1, z2, z3, z4, z5, z6, lz]) rfl ⟨HF.out.1, B0, d0, B1, d1, B2, d2, rfl, HF.out.2.1, HF.out.2.2.1, HF.out.2.2.2⟩
end Go.Proofs.Ytmmeceehfdbdoaa
