/-
  Contracts of the document's answers of layer 16 (louverref16): Install, Pin, Unpin.
-/
import Derived.Test.YtgacejencnkpmaaPnD
namespace Go.Proofs.Ytgacejencnkpmaa
open Go.RowKit
set_option linter.unusedSimpArgs false
set_option linter.unusedVariables false
set_option maxRecDepth 100000

/-- What a call tells of the workers: they lie where they lay, or in new memory. -/
def PRow (A : Option Addr) (n0 : Nat) (w : World) (A' : Option Addr) (w' : World) (n : Nat) (xs : List Value) : Prop :=
  Row w' w'.heap.size 3 A' n xs ∧ (A' = A ∧ n = n0 ∨ ∀ a, A' = some a → w.heap.size ≤ a.block) ∧ Below w.heap.size w w'
/-- What the document's calls answer: the pair of workers and waits, and an error. -/
def POut (A : Option Addr) (w : World) (n : Nat) (Bv : Value) (vs : Array Value) (xs : List Value) (e : Ending) (w' : World) : Prop := ∃ A' c', e = .returned (.tuple (#[.agg #[.slice A' n c', Bv]] ++ vs)) ∧ PRow A n w A' w' n xs
set_option maxHeartbeats 3200000 in
theorem rinst_any (A : Option Addr) (c : Nat) (l : List Wk) (Bx : Option Addr) (bn bc : Nat) (i e : Int) (w : World) (hr : Row w w.heap.size 3 A l.length (wdC l)) (hl : l.length ≤ 64) :
    Calls Try.prog 10 #[.agg #[.slice A l.length c, .slice Bx bn bc], .int .i64 i, .int .u64 e] w (POut A w l.length (.slice Bx bn bc) #[.int .i64 (instE l i e)] (wdC (instS l i e))) := by
  obtain ⟨w2, hw2⟩ : ∃ z, z = (w.alloc (.cells #[.slice A l.length c, .slice Bx bn bc] 29)).alloc (.cells #[.slice none 0 0, .slice none 0 0] 29) := ⟨_, rfl⟩
  have hb0 : Below w.heap.size w w2 := by rw [hw2]; exact ((Below.refl w.heap.size w).alloc (Nat.le_refl _) _).alloc (by simp) _
  have hz : w2.heap.size = w.heap.size + 2 := by rw [hw2]; simp
  have WP := Lib.hid (show Whole w2 w.heap.size 29 #[.slice A l.length c, .slice Bx bn bc] by rw [hw2]; exact (Whole.new w _ _).alloc _)
  have WR := Lib.hid (show Whole w2 (w.heap.size + 1) 29 #[.slice none 0 0, .slice none 0 0] by rw [hw2]; exact Whole.new2 w _ _ _)
  have HR0 := Lib.hid (hr.below hb0 (Nat.le_refl _))
  have HB0 := Lib.hid hb0
  obtain ⟨n, hn⟩ : ∃ n, l.length = n := ⟨_, rfl⟩
  have HN := Lib.hid hn
  rw [hn] at WP hw2 HR0 hl ⊢
  have r0 := WR.out.cell 0
  have r1 := WR.out.cell 1
  have lR := WR.out.lt
  have rf0 := WR.out.free 0
  have rf1 := WR.out.free 1
  have p0 := WP.out.cell 0
  have p1 := WP.out.cell 1
  have lP := WP.out.lt
  have nPR : w.heap.size ≠ w.heap.size + 1 := by omega
  have HE := Lib.hid (show PRow A n w A ((w2.setCell ⟨w.heap.size + 1, 0, none⟩ (.slice A n c)).setCell ⟨w.heap.size + 1, 1, none⟩ (.slice Bx bn bc)) n (wdC l) from
    ⟨((HR0.out.set (p := ⟨w.heap.size + 1, 0, none⟩) (by simp) _).set (p := ⟨w.heap.size + 1, 1, none⟩) (by simp) _).more (by simp; omega), .inl ⟨rfl, rfl⟩, (HB0.out.setCell (p := ⟨w.heap.size + 1, 0, none⟩) (by simp) _).setCell (p := ⟨w.heap.size + 1, 1, none⟩) (by simp) _⟩)
  clear hr hb0 hn
  by_cases h1 : i < 0
  · have hm : instE l i e = 1 ∧ instS l i e = l := by unfold instE instS; rw [wkAt_low h1]; exact ⟨rfl, rfl⟩
    rw [hm.1, hm.2]
    clear hm HR0 HB0 HN
    go_enter Try.func10, Try.ntmps10
    go_upto_region 1 with fail
    rw [← hw2]
    clear hw2
    go_wp2_with fail
    exact bodyPost_ret (v := .tuple #[.agg #[.slice A n c, .slice Bx bn bc], .int .i64 1]) (by simp [results, Try.results10, go_sem, r0, r1, lR]) rfl ⟨A, c, rfl, HE.out⟩
  obtain ⟨k, rfl⟩ : ∃ k : Nat, i = (k : Int) := ⟨i.toNat, by omega⟩
  by_cases h2 : n ≤ k
  · have hm : instE l k e = 1 ∧ instS l k e = l := by unfold instE instS; rw [wkAt_high (by rw [HN.out]; exact h2)]; exact ⟨rfl, rfl⟩
    rw [hm.1, hm.2]
    have h2' : (n : Int) ≤ (k : Int) := by omega
    clear hm HR0 HB0 HN
    go_enter Try.func10, Try.ntmps10
    go_upto_region 1 with fail
    rw [← hw2]
    clear hw2
    go_wp2_with fail
    exact bodyPost_ret (v := .tuple #[.agg #[.slice A n c, .slice Bx bn bc], .int .i64 1]) (by simp [results, Try.results10, go_sem, r0, r1, lR]) rfl ⟨A, c, rfl, HE.out⟩
  have h2' : ¬ (n : Int) ≤ (k : Int) := by omega
  obtain ⟨y, hy⟩ : ∃ y, l[k]? = some y := ⟨_, List.getElem?_eq_getElem (by rw [HN.out]; omega)⟩
  obtain ⟨g, o, rfl, hg, hc⟩ := HR0.out.2 (by omega)
  obtain ⟨e0, e1, e2⟩ := wdC_get hy
  have c0 := hc _ _ e0
  have c1 := hc _ _ e1
  have c2 := hc _ _ e2
  rw [← Nat.add_assoc] at c1 c2
  have i0 : (0 : Int) ≤ (k : Int) := by omega
  have i1 : (k : Int) < (n : Int) := by omega
  have lg : g < w2.heap.size := by omega
  have gR : g ≠ w.heap.size + 1 := by omega
  obtain ⟨ya, ys⟩ := y
  dsimp only at c0 c1 c2
  by_cases h3 : e < ya
  · have hm : instE l k e = 23 ∧ instS l k e = l := by unfold instE instS; rw [wkAt_nat, hy]; dsimp only; rw [if_pos h3, if_pos h3]; exact ⟨rfl, rfl⟩
    rw [hm.1, hm.2]
    clear hm HR0 HB0 HN hy e0 e1 e2 hc c1 c2
    go_enter Try.func10, Try.ntmps10
    go_upto_region 1 with fail
    rw [← hw2]
    clear hw2
    go_wp2_with fail
    exact bodyPost_ret (v := .tuple #[.agg #[.slice (some ⟨g, o, none⟩) n c, .slice Bx bn bc], .int .i64 23]) (by simp [results, Try.results10, go_sem, r0, r1, lR]) rfl ⟨_, c, rfl, HE.out⟩
  · have hm : instE l k e = 0 ∧ instS l k e = l.set k ⟨e, ys⟩ := by unfold instE instS; rw [wkAt_nat, hy]; dsimp only; rw [if_neg h3, if_neg h3, Int.toNat_natCast]; exact ⟨rfl, rfl⟩
    rw [hm.1, hm.2, wdC_set]
    have CW := Lib.hid (fun w' (b : Below w2.heap.size w2 w') => pwith_any (some ⟨g, o, none⟩) c l Bx bn bc k e (ys.getD 0) ys.isSome w' (by rw [HN.out]; exact (HR0.out.below b (by omega)).more (by have := b.size; omega)) (by rw [HN.out]; exact hl) (by rw [HN.out]; omega))
    rw [HN.out] at CW
    obtain ⟨D, hD⟩ : ∃ D, (((wdC l).set (k * 3) (.int .u64 e)).set (k * 3 + 1) (.int .u64 (ys.getD 0))).set (k * 3 + 2) (.bool ys.isSome) = D := ⟨_, rfl⟩
    rw [hD] at CW ⊢
    clear hm HN hy e0 e1 e2 hc hD HE
    go_enter Try.func10, Try.ntmps10
    go_upto_region 1 with fail
    rw [← hw2]
    clear hw2
    go_wp2_with fail
    refine (CW.out _ ((Below.refl _ _).alloc (Nat.le_refl _) _)).mono ?_
    rintro e' w4 ⟨g2, cap, rfl, hown, b4⟩
    have R4 := (WR.out.alloc (.cells #[.int .u64 e, .int .u64 (ys.getD 0), .bool ys.isSome] 65)).below b4 (by simp; omega)
    have B4 : Below w.heap.size w w4 := HB0.out.trans (((Below.refl w2.heap.size w2).alloc (Nat.le_refl _) (.cells #[.int .u64 e, .int .u64 (ys.getD 0), .bool ys.isSome] 65)).trans (b4.mono (by simp)) |>.mono (by omega))
    have hlo : w2.heap.size < g2 := by have := own_lo hown _ rfl; simp at this; omega
    have HF := Lib.hid (show PRow (some ⟨g, o, none⟩) n w (some ⟨g2, 0, none⟩) ((w4.setCell ⟨w.heap.size + 1, 0, none⟩ (.slice (some ⟨g2, 0, none⟩) n cap)).setCell ⟨w.heap.size + 1, 1, none⟩ (.slice Bx bn bc)) n D from
      ⟨by simpa using row_farX (p := ⟨w.heap.size + 1, 1, none⟩) (u := .slice Bx bn bc) (row_farX (p := ⟨w.heap.size + 1, 0, none⟩) (u := .slice (some ⟨g2, 0, none⟩) n cap) (Row.of_own hown) (fun a ha e => by injection ha with ha; subst ha; have e : w.heap.size + 1 = g2 := e; omega)) (fun a ha e => by injection ha with ha; subst ha; have e : w.heap.size + 1 = g2 := e; omega),
        .inr (fun a ha => by injection ha with ha; subst ha; show w.heap.size ≤ g2; omega), (B4.setCell (p := ⟨w.heap.size + 1, 0, none⟩) (by simp) _).setCell (p := ⟨w.heap.size + 1, 1, none⟩) (by simp) _⟩)
    clear r0 r1 lR rf0 rf1 p0 p1 lP c0 c1 c2
    have r0 := R4.cell 0
    have r1 := R4.cell 1
    have lR := R4.lt
    have rf0 := R4.free 0
    have rf1 := R4.free 1
    clear R4 B4 hown b4 CW WR WP HR0 HB0 hlo
    go_wp2_with fail
    exact bodyPost_ret (v := .tuple #[.agg #[.slice (some ⟨g2, 0, none⟩) n cap, .slice Bx bn bc], .int .i64 0]) (by simp [results, Try.results10, go_sem, r0, r1, lR]) rfl ⟨_, cap, rfl, HF.out⟩
end Go.Proofs.Ytgacejencnkpmaa
