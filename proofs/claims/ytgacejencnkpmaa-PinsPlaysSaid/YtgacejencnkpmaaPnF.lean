/-
  Contracts of the document's answers of layer 16 (louverref16): Pin, Unpin.
-/
import Derived.Test.YtgacejencnkpmaaPnE
namespace Go.Proofs.Ytgacejencnkpmaa
open Go.RowKit
set_option linter.unusedSimpArgs false
set_option linter.unusedVariables false
set_option maxRecDepth 100000

set_option maxHeartbeats 3200000 in
theorem rpin_any (A : Option Addr) (c : Nat) (l : List Wk) (Bx : Option Addr) (bn bc : Nat) (i : Int) (w : World) (hr : Row w w.heap.size 3 A l.length (wdC l)) (hl : l.length ≤ 64) :
    Calls Try.prog 12 #[.agg #[.slice A l.length c, .slice Bx bn bc], .int .i64 i] w (POut A w l.length (.slice Bx bn bc) #[.int .u64 (pinX l i), .int .i64 (pinE l i)] (wdC (pinS l i))) := by
  obtain ⟨w2, hw2⟩ : ∃ z, z = (w.alloc (.cells #[.slice A l.length c, .slice Bx bn bc] 29)).alloc (.cells #[.slice none 0 0, .slice none 0 0] 29) := ⟨_, rfl⟩
  have hb0 : Below w.heap.size w w2 := by rw [hw2]; exact ((Below.refl w.heap.size w).alloc (Nat.le_refl _) _).alloc (by simp) _
  have hz : w2.heap.size = w.heap.size + 2 := by rw [hw2]; simp
  have WP := Lib.hid (show Whole w2 w.heap.size 29 #[.slice A l.length c, .slice Bx bn bc] by rw [hw2]; exact (Whole.new w _ _).alloc _)
  have WR := Lib.hid (show Whole w2 (w.heap.size + 1) 29 #[.slice none 0 0, .slice none 0 0] by rw [hw2]; exact Whole.new2 w _ _ _)
  have HR0 := Lib.hid (hr.below hb0 (Nat.le_refl _))
  have HB0 := Lib.hid hb0
  obtain ⟨n, hn⟩ : ∃ n, l.length = n := ⟨_, rfl⟩
  have HN := Lib.hid hn
  rw [hn] at WP hw2 HR0 hl ⊢
  have r0 := WR.out.cell 0
  have r1 := WR.out.cell 1
  have lR := WR.out.lt
  have rf0 := WR.out.free 0
  have rf1 := WR.out.free 1
  have p0 := WP.out.cell 0
  have p1 := WP.out.cell 1
  have lP := WP.out.lt
  have nPR : w.heap.size ≠ w.heap.size + 1 := by omega
  have HE := Lib.hid (show PRow A n w A ((w2.setCell ⟨w.heap.size + 1, 0, none⟩ (.slice A n c)).setCell ⟨w.heap.size + 1, 1, none⟩ (.slice Bx bn bc)) n (wdC l) from
    ⟨((HR0.out.set (p := ⟨w.heap.size + 1, 0, none⟩) (by simp) _).set (p := ⟨w.heap.size + 1, 1, none⟩) (by simp) _).more (by simp; omega), .inl ⟨rfl, rfl⟩, (HB0.out.setCell (p := ⟨w.heap.size + 1, 0, none⟩) (by simp) _).setCell (p := ⟨w.heap.size + 1, 1, none⟩) (by simp) _⟩)
  clear hr hb0 hn
  by_cases h1 : i < 0
  · have hm : pinX l i = 0 ∧ pinE l i = 1 ∧ pinS l i = l := by unfold pinX pinE pinS; rw [wkAt_low h1]; exact ⟨rfl, rfl, rfl⟩
    rw [hm.1, hm.2.1, hm.2.2]
    clear hm HR0 HB0 HN
    go_enter Try.func12, Try.ntmps12
    go_upto_region 1 with fail
    rw [← hw2]
    clear hw2
    go_wp2_with fail
    exact bodyPost_ret (v := .tuple #[.agg #[.slice A n c, .slice Bx bn bc], .int .u64 0, .int .i64 1]) (by simp [results, Try.results12, go_sem, r0, r1, lR]) rfl ⟨A, c, rfl, HE.out⟩
  obtain ⟨k, rfl⟩ : ∃ k : Nat, i = (k : Int) := ⟨i.toNat, by omega⟩
  by_cases h2 : n ≤ k
  · have hm : pinX l k = 0 ∧ pinE l k = 1 ∧ pinS l k = l := by unfold pinX pinE pinS; rw [wkAt_high (by rw [HN.out]; exact h2)]; exact ⟨rfl, rfl, rfl⟩
    rw [hm.1, hm.2.1, hm.2.2]
    have h2' : (n : Int) ≤ (k : Int) := by omega
    clear hm HR0 HB0 HN
    go_enter Try.func12, Try.ntmps12
    go_upto_region 1 with fail
    rw [← hw2]
    clear hw2
    go_wp2_with fail
    exact bodyPost_ret (v := .tuple #[.agg #[.slice A n c, .slice Bx bn bc], .int .u64 0, .int .i64 1]) (by simp [results, Try.results12, go_sem, r0, r1, lR]) rfl ⟨A, c, rfl, HE.out⟩
  have h2' : ¬ (n : Int) ≤ (k : Int) := by omega
  obtain ⟨y, hy⟩ : ∃ y, l[k]? = some y := ⟨_, List.getElem?_eq_getElem (by rw [HN.out]; omega)⟩
  obtain ⟨g, o, rfl, hg, hc⟩ := HR0.out.2 (by omega)
  obtain ⟨e0, e1, e2⟩ := wdC_get hy
  have c0 := hc _ _ e0
  have c1 := hc _ _ e1
  have c2 := hc _ _ e2
  rw [← Nat.add_assoc] at c1 c2
  have i0 : (0 : Int) ≤ (k : Int) := by omega
  have i1 : (k : Int) < (n : Int) := by omega
  have lg : g < w2.heap.size := by omega
  have gR : g ≠ w.heap.size + 1 := by omega
  obtain ⟨ya, ys⟩ := y
  cases ys with
  | some ys =>
    dsimp only [Option.getD, Option.isSome] at c0 c1 c2
    have hm : pinX l k = 0 ∧ pinE l k = 23 ∧ pinS l k = l := by unfold pinX pinE pinS; rw [wkAt_nat, hy]; exact ⟨rfl, rfl, rfl⟩
    rw [hm.1, hm.2.1, hm.2.2]
    clear hm HR0 HB0 HN hy e0 e1 e2 hc
    go_enter Try.func12, Try.ntmps12
    go_upto_region 1 with fail
    rw [← hw2]
    clear hw2
    go_wp2_with fail
    exact bodyPost_ret (v := .tuple #[.agg #[.slice (some ⟨g, o, none⟩) n c, .slice Bx bn bc], .int .u64 0, .int .i64 23]) (by simp [results, Try.results12, go_sem, r0, r1, lR]) rfl ⟨_, c, rfl, ⟨(HE.out.1.alloc (Nat.le_refl _) _).more (by simp), HE.out.2.1, HE.out.2.2.alloc HE.out.2.2.size _⟩⟩
  | none =>
    dsimp only [Option.getD, Option.isSome] at c0 c1 c2
    have hm : pinX l k = ya ∧ pinE l k = 0 ∧ pinS l k = l.set k ⟨ya, some ya⟩ := by unfold pinX pinE pinS; rw [wkAt_nat, hy]; simp
    rw [hm.1, hm.2.1, hm.2.2]
    rw [wdC_set]
    have CW := Lib.hid (fun w' (b : Below w2.heap.size w2 w') => pwith_any (some ⟨g, o, none⟩) c l Bx bn bc k ya (ya) true w' (by rw [HN.out]; exact (HR0.out.below b (by omega)).more (by have := b.size; omega)) (by rw [HN.out]; exact hl) (by rw [HN.out]; omega))
    rw [HN.out] at CW
    dsimp only [Option.getD, Option.isSome]
    obtain ⟨D, hD⟩ : ∃ D, (((wdC l).set (k * 3) (.int .u64 ya)).set (k * 3 + 1) (.int .u64 ya)).set (k * 3 + 2) (.bool true) = D := ⟨_, rfl⟩
    rw [hD] at CW ⊢
    clear hm HN hy e0 e1 e2 hc hD HE
    go_enter Try.func12, Try.ntmps12
    go_upto_region 1 with fail
    rw [← hw2]
    clear hw2
    go_upto_region 6 with fail
    obtain ⟨w5, hw5⟩ : ∃ z, z = w2.alloc (.cells #[.int .u64 ya, .int .u64 0, .bool false] 65) := ⟨_, rfl⟩
    have b5 : Below w2.heap.size w2 w5 := by rw [hw5]; exact (Below.refl _ _).alloc (Nat.le_refl _) _
    have hz5 : w5.heap.size = w2.heap.size + 1 := by rw [hw5]; simp
    have XW := Lib.hid (show Whole w5 (w.heap.size + 2) 65 #[.int .u64 ya, .int .u64 0, .bool false] by rw [hw5, ← hz]; exact Whole.new w2 _ _)
    rw [← hw5]
    clear hw5
    have P5 := WP.out.below b5 WP.out.lt
    have R5 := WR.out.below b5 WR.out.lt
    have KS := Lib.hid (fun w' (b' : Below w5.heap.size w5 w') => show (fun w' => w'.cell? ⟨w.heap.size, 0, none⟩ = some (.slice (some ⟨g, o, none⟩) n c) ∧ w'.cell? ⟨w.heap.size, 1, none⟩ = some (.slice Bx bn bc) ∧ w'.cell? ⟨w.heap.size + 2, 0, none⟩ = some (.int .u64 ya)) w' from ⟨(P5.below b' P5.lt).cell 0, (P5.below b' P5.lt).cell 1, (XW.out.below b' XW.out.lt).cell 0⟩)
    have hK0 := KS.out w5 (Below.refl _ _)
    have HP5 := Lib.hid P5
    have HR5 := Lib.hid R5
    have lP5 := P5.lt
    have lR5 := R5.lt
    have hB5 := Lib.hid (HB0.out.trans (b5.mono (by omega)))
    have hb5 := Lib.hid b5
    clear r0 r1 lR rf0 rf1 p0 p1 lP P5 R5 b5 c0 c1 c2 HB0
    have Rg : w.heap.size + 1 ≠ g := by omega
    have i2 : g < w5.heap.size := by omega
    go_region_held3 (fun w' => w'.cell? ⟨w.heap.size, 0, none⟩ = some (.slice (some ⟨g, o, none⟩) n c) ∧ w'.cell? ⟨w.heap.size, 1, none⟩ = some (.slice Bx bn bc) ∧ w'.cell? ⟨w.heap.size + 2, 0, none⟩ = some (.int .u64 ya))
      (first | exact hK0 | exact KS.out _ (Below.refl _ _).drew | exact KS.out _ ‹Below w5.heap.size w5 _› | go_keep)
      (first | (go_at_call 23; refine (CW.out _ hb5.out.drew).mono ?_; rintro e v1 ⟨g2, cap, rfl, hown, b1⟩; have B1 := (Below.refl w5.heap.size w5).drew.trans b1; have R1 := HR5.out.below B1 HR5.out.lt; have r0 := R1.cell 0; have r1 := R1.cell 1; have fr0 := R1.free 0; have fr1 := R1.free 1; have lR := R1.lt; have kv0 := (KS.out v1 B1).1; have kv1 := (KS.out v1 B1).2.1; have kv2 := (KS.out v1 B1).2.2))
    have B4 : Below w.heap.size w v1 := hB5.out.trans (B1.mono (by omega))
    have hlo : w2.heap.size ≤ g2 := by have := own_lo hown _ rfl; simp at this; omega
    have HF := Lib.hid (show PRow (some ⟨g, o, none⟩) n w (some ⟨g2, 0, none⟩) ((v1.setCell ⟨w.heap.size + 1, 0, none⟩ (.slice (some ⟨g2, 0, none⟩) n cap)).setCell ⟨w.heap.size + 1, 1, none⟩ (.slice Bx bn bc)) n D from
      ⟨by simpa using row_farX (p := ⟨w.heap.size + 1, 1, none⟩) (u := .slice Bx bn bc) (row_farX (p := ⟨w.heap.size + 1, 0, none⟩) (u := .slice (some ⟨g2, 0, none⟩) n cap) (Row.of_own hown) (fun a ha e => by injection ha with ha; subst ha; have e : w.heap.size + 1 = g2 := e; omega)) (fun a ha e => by injection ha with ha; subst ha; have e : w.heap.size + 1 = g2 := e; omega),
        .inr (fun a ha => by injection ha with ha; subst ha; show w.heap.size ≤ g2; omega), (B4.setCell (p := ⟨w.heap.size + 1, 0, none⟩) (by simp) _).setCell (p := ⟨w.heap.size + 1, 1, none⟩) (by simp) _⟩)
    clear R1 B4 hown b1 hlo
    go_wp2_with fail
    exact bodyPost_ret (v := .tuple #[.agg #[.slice (some ⟨g2, 0, none⟩) n cap, .slice Bx bn bc], .int .u64 ya, .int .i64 0]) (by simp [results, Try.results12, go_sem, r0, r1, lR]) rfl ⟨_, cap, rfl, HF.out⟩

set_option maxHeartbeats 3200000 in
theorem runpin_any (A : Option Addr) (c : Nat) (l : List Wk) (Bx : Option Addr) (bn bc : Nat) (i : Int) (w : World) (hr : Row w w.heap.size 3 A l.length (wdC l)) (hl : l.length ≤ 64) :
    Calls Try.prog 14 #[.agg #[.slice A l.length c, .slice Bx bn bc], .int .i64 i] w (POut A w l.length (.slice Bx bn bc) #[.int .i64 (unpE l i)] (wdC (unpS l i))) := by
  obtain ⟨w2, hw2⟩ : ∃ z, z = (w.alloc (.cells #[.slice A l.length c, .slice Bx bn bc] 29)).alloc (.cells #[.slice none 0 0, .slice none 0 0] 29) := ⟨_, rfl⟩
  have hb0 : Below w.heap.size w w2 := by rw [hw2]; exact ((Below.refl w.heap.size w).alloc (Nat.le_refl _) _).alloc (by simp) _
  have hz : w2.heap.size = w.heap.size + 2 := by rw [hw2]; simp
  have WP := Lib.hid (show Whole w2 w.heap.size 29 #[.slice A l.length c, .slice Bx bn bc] by rw [hw2]; exact (Whole.new w _ _).alloc _)
  have WR := Lib.hid (show Whole w2 (w.heap.size + 1) 29 #[.slice none 0 0, .slice none 0 0] by rw [hw2]; exact Whole.new2 w _ _ _)
  have HR0 := Lib.hid (hr.below hb0 (Nat.le_refl _))
  have HB0 := Lib.hid hb0
  obtain ⟨n, hn⟩ : ∃ n, l.length = n := ⟨_, rfl⟩
  have HN := Lib.hid hn
  rw [hn] at WP hw2 HR0 hl ⊢
  have r0 := WR.out.cell 0
  have r1 := WR.out.cell 1
  have lR := WR.out.lt
  have rf0 := WR.out.free 0
  have rf1 := WR.out.free 1
  have p0 := WP.out.cell 0
  have p1 := WP.out.cell 1
  have lP := WP.out.lt
  have nPR : w.heap.size ≠ w.heap.size + 1 := by omega
  have HE := Lib.hid (show PRow A n w A ((w2.setCell ⟨w.heap.size + 1, 0, none⟩ (.slice A n c)).setCell ⟨w.heap.size + 1, 1, none⟩ (.slice Bx bn bc)) n (wdC l) from
    ⟨((HR0.out.set (p := ⟨w.heap.size + 1, 0, none⟩) (by simp) _).set (p := ⟨w.heap.size + 1, 1, none⟩) (by simp) _).more (by simp; omega), .inl ⟨rfl, rfl⟩, (HB0.out.setCell (p := ⟨w.heap.size + 1, 0, none⟩) (by simp) _).setCell (p := ⟨w.heap.size + 1, 1, none⟩) (by simp) _⟩)
  clear hr hb0 hn
  by_cases h1 : i < 0
  · have hm : unpE l i = 1 ∧ unpS l i = l := by unfold unpE unpS; rw [wkAt_low h1]; exact ⟨rfl, rfl⟩
    rw [hm.1, hm.2]
    clear hm HR0 HB0 HN
    go_enter Try.func14, Try.ntmps14
    go_upto_region 1 with fail
    rw [← hw2]
    clear hw2
    go_wp2_with fail
    exact bodyPost_ret (v := .tuple #[.agg #[.slice A n c, .slice Bx bn bc], .int .i64 1]) (by simp [results, Try.results14, go_sem, r0, r1, lR]) rfl ⟨A, c, rfl, HE.out⟩
  obtain ⟨k, rfl⟩ : ∃ k : Nat, i = (k : Int) := ⟨i.toNat, by omega⟩
  by_cases h2 : n ≤ k
  · have hm : unpE l k = 1 ∧ unpS l k = l := by unfold unpE unpS; rw [wkAt_high (by rw [HN.out]; exact h2)]; exact ⟨rfl, rfl⟩
    rw [hm.1, hm.2]
    have h2' : (n : Int) ≤ (k : Int) := by omega
    clear hm HR0 HB0 HN
    go_enter Try.func14, Try.ntmps14
    go_upto_region 1 with fail
    rw [← hw2]
    clear hw2
    go_wp2_with fail
    exact bodyPost_ret (v := .tuple #[.agg #[.slice A n c, .slice Bx bn bc], .int .i64 1]) (by simp [results, Try.results14, go_sem, r0, r1, lR]) rfl ⟨A, c, rfl, HE.out⟩
  have h2' : ¬ (n : Int) ≤ (k : Int) := by omega
  obtain ⟨y, hy⟩ : ∃ y, l[k]? = some y := ⟨_, List.getElem?_eq_getElem (by rw [HN.out]; omega)⟩
  obtain ⟨g, o, rfl, hg, hc⟩ := HR0.out.2 (by omega)
  obtain ⟨e0, e1, e2⟩ := wdC_get hy
  have c0 := hc _ _ e0
  have c1 := hc _ _ e1
  have c2 := hc _ _ e2
  rw [← Nat.add_assoc] at c1 c2
  have i0 : (0 : Int) ≤ (k : Int) := by omega
  have i1 : (k : Int) < (n : Int) := by omega
  have lg : g < w2.heap.size := by omega
  have gR : g ≠ w.heap.size + 1 := by omega
  obtain ⟨ya, ys⟩ := y
  cases ys with
  | some ys =>
    dsimp only [Option.getD, Option.isSome] at c0 c1 c2
    have hm : unpE l k = 0 ∧ unpS l k = l.set k ⟨ya, none⟩ := by unfold unpE unpS; rw [wkAt_nat, hy]; simp
    rw [hm.1, hm.2]
    rw [wdC_set]
    have CW := Lib.hid (fun w' (b : Below w2.heap.size w2 w') => pwith_any (some ⟨g, o, none⟩) c l Bx bn bc k ya 0 false w' (by rw [HN.out]; exact (HR0.out.below b (by omega)).more (by have := b.size; omega)) (by rw [HN.out]; exact hl) (by rw [HN.out]; omega))
    rw [HN.out] at CW
    dsimp only [Option.getD, Option.isSome]
    obtain ⟨D, hD⟩ : ∃ D, (((wdC l).set (k * 3) (.int .u64 ya)).set (k * 3 + 1) (.int .u64 0)).set (k * 3 + 2) (.bool false) = D := ⟨_, rfl⟩
    rw [hD] at CW ⊢
    clear hm HN hy e0 e1 e2 hc hD HE
    go_enter Try.func14, Try.ntmps14
    go_upto_region 1 with fail
    rw [← hw2]
    clear hw2
    go_upto_region 5 with fail
    obtain ⟨w5, hw5⟩ : ∃ z, z = w2 := ⟨_, rfl⟩
    have b5 : Below w2.heap.size w2 w5 := by rw [hw5]; exact Below.refl _ _
    have hz5 : w2.heap.size ≤ w5.heap.size := by rw [hw5]; exact Nat.le_refl _
    have k5 : w5.cell? ⟨g, o + k * 3, none⟩ = some (.int .u64 ya) := by rw [hw5]; exact c0
    rw [show w2 = w5 from hw5.symm]
    clear hw5
    have P5 := WP.out.below b5 WP.out.lt
    have R5 := WR.out.below b5 WR.out.lt
    have KS := Lib.hid (fun w' (b' : Below w5.heap.size w5 w') => show (fun w' => w'.cell? ⟨w.heap.size, 0, none⟩ = some (.slice (some ⟨g, o, none⟩) n c) ∧ w'.cell? ⟨w.heap.size, 1, none⟩ = some (.slice Bx bn bc) ∧ w'.cell? ⟨g, o + k * 3, none⟩ = some (.int .u64 ya)) w' from ⟨(P5.below b' P5.lt).cell 0, (P5.below b' P5.lt).cell 1, (b'.cell (p := ⟨g, o + k * 3, none⟩) (by show g < w5.heap.size; omega)).trans k5⟩)
    have hK0 := KS.out w5 (Below.refl _ _)
    have HP5 := Lib.hid P5
    have HR5 := Lib.hid R5
    have lP5 := P5.lt
    have lR5 := R5.lt
    have hB5 := Lib.hid (HB0.out.trans (b5.mono (by omega)))
    have hb5 := Lib.hid b5
    clear r0 r1 lR rf0 rf1 p0 p1 lP P5 R5 b5 c0 c1 c2 HB0
    have Rg : w.heap.size + 1 ≠ g := by omega
    have i2 : g < w5.heap.size := by omega
    go_region_held3 (fun w' => w'.cell? ⟨w.heap.size, 0, none⟩ = some (.slice (some ⟨g, o, none⟩) n c) ∧ w'.cell? ⟨w.heap.size, 1, none⟩ = some (.slice Bx bn bc) ∧ w'.cell? ⟨g, o + k * 3, none⟩ = some (.int .u64 ya))
      (first | exact hK0 | exact KS.out _ (Below.refl _ _).drew | exact KS.out _ ‹Below w5.heap.size w5 _› | go_keep)
      (first | (go_at_call 23; refine (CW.out _ hb5.out.drew).mono ?_; rintro e v1 ⟨g2, cap, rfl, hown, b1⟩; have B1 := (Below.refl w5.heap.size w5).drew.trans b1; have R1 := HR5.out.below B1 HR5.out.lt; have r0 := R1.cell 0; have r1 := R1.cell 1; have fr0 := R1.free 0; have fr1 := R1.free 1; have lR := R1.lt; have kv0 := (KS.out v1 B1).1; have kv1 := (KS.out v1 B1).2.1; have kv2 := (KS.out v1 B1).2.2))
    have B4 : Below w.heap.size w v1 := hB5.out.trans (B1.mono (by omega))
    have hlo : w2.heap.size ≤ g2 := by have := own_lo hown _ rfl; simp at this; omega
    have HF := Lib.hid (show PRow (some ⟨g, o, none⟩) n w (some ⟨g2, 0, none⟩) ((v1.setCell ⟨w.heap.size + 1, 0, none⟩ (.slice (some ⟨g2, 0, none⟩) n cap)).setCell ⟨w.heap.size + 1, 1, none⟩ (.slice Bx bn bc)) n D from
      ⟨by simpa using row_farX (p := ⟨w.heap.size + 1, 1, none⟩) (u := .slice Bx bn bc) (row_farX (p := ⟨w.heap.size + 1, 0, none⟩) (u := .slice (some ⟨g2, 0, none⟩) n cap) (Row.of_own hown) (fun a ha e => by injection ha with ha; subst ha; have e : w.heap.size + 1 = g2 := e; omega)) (fun a ha e => by injection ha with ha; subst ha; have e : w.heap.size + 1 = g2 := e; omega),
        .inr (fun a ha => by injection ha with ha; subst ha; show w.heap.size ≤ g2; omega), (B4.setCell (p := ⟨w.heap.size + 1, 0, none⟩) (by simp) _).setCell (p := ⟨w.heap.size + 1, 1, none⟩) (by simp) _⟩)
    clear R1 B4 hown b1 hlo
    go_wp2_with fail
    exact bodyPost_ret (v := .tuple #[.agg #[.slice (some ⟨g2, 0, none⟩) n cap, .slice Bx bn bc], .int .i64 0]) (by simp [results, Try.results14, go_sem, r0, r1, lR]) rfl ⟨_, cap, rfl, HF.out⟩
  | none =>
    dsimp only [Option.getD, Option.isSome] at c0 c1 c2
    have hm : unpE l k = 23 ∧ unpS l k = l := by unfold unpE unpS; rw [wkAt_nat, hy]; exact ⟨rfl, rfl⟩
    rw [hm.1, hm.2]
    clear hm HR0 HB0 HN hy e0 e1 e2 hc
    go_enter Try.func14, Try.ntmps14
    go_upto_region 1 with fail
    rw [← hw2]
    clear hw2
    go_wp2_with fail
    exact bodyPost_ret (v := .tuple #[.agg #[.slice (some ⟨g, o, none⟩) n c, .slice Bx bn bc], .int .i64 23]) (by simp [results, Try.results14, go_sem, r0, r1, lR]) rfl ⟨_, c, rfl, HE.out⟩
end Go.Proofs.Ytgacejencnkpmaa
