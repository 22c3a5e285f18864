/-
  Contracts of package pins: oldest, what compares two workers, the lowest one, Oldest.
-/
import Derived.Test.YtgacejencnkpmaaPnCc
namespace Go.Proofs.Ytgacejencnkpmaa
open Go.RowKit
set_option linter.unusedSimpArgs false
set_option linter.unusedVariables false
set_option maxRecDepth 100000

/-- A worker's cells. -/
def wkV (k : Wk) : Value := .agg #[.int .u64 k.at', .int .u64 (k.sees.getD 0), .bool k.sees.isSome]
theorem wold_any (k : Wk) (w : World) : Calls Try.prog 30 #[wkV k] w fun e w' => e = .returned (.int .u64 k.old) ∧ Below w.heap.size w w' := by
  obtain ⟨a, s⟩ := k
  unfold wkV Wk.old
  cases s with
  | none =>
    dsimp only [Option.getD, Option.isSome]
    have HB := Lib.hid ((Below.refl w.heap.size w).alloc (Nat.le_refl _) (.cells #[.int .u64 a, .int .u64 0, .bool false] 71))
    go_enter Try.func30, Try.ntmps30
    go_wp2
    go_ret
    exact ⟨rfl, HB.out⟩
  | some s =>
    dsimp only [Option.getD, Option.isSome]
    have HB := Lib.hid ((Below.refl w.heap.size w).alloc (Nat.le_refl _) (.cells #[.int .u64 a, .int .u64 s, .bool true] 71))
    go_enter Try.func30, Try.ntmps30
    go_wp2
    go_ret
    exact ⟨rfl, HB.out⟩
theorem isnan_u64 (a : Int) (w : World) : Calls Try.prog 32 #[.int .u64 a] w fun e w' => e = .returned (.bool false) ∧ w' = w := by
  go_enter Try.func32, Try.ntmps32
  go_wp2
  go_ret
  exact ⟨rfl, rfl⟩
/-- -1, 0 or 1. -/
def cmpS (a b : Int) : Int := if a < b then -1 else if b < a then 1 else 0
theorem cmp_u64 (a b : Int) (w : World) : Calls Try.prog 29 #[.int .u64 a, .int .u64 b] w fun e w' => e = .returned (.int .i64 (cmpS a b)) ∧ w' = w := by
  unfold cmpS
  have C := Lib.hid (fun x wx => isnan_u64 x wx)
  by_cases h1 : a < b
  · rw [if_pos h1]
    go_enter Try.func29, Try.ntmps29
    go_wp2_with fail
    refine (C.out _ _).mono ?_
    rintro e w1 ⟨rfl, rfl⟩
    go_wp2_with fail
    refine (C.out _ _).mono ?_
    rintro e w2 ⟨rfl, rfl⟩
    go_wp2
    go_ret
    exact ⟨rfl, rfl⟩
  · rw [if_neg h1]
    by_cases h2 : b < a
    · rw [if_pos h2]
      go_enter Try.func29, Try.ntmps29
      go_wp2_with fail
      refine (C.out _ _).mono ?_
      rintro e w1 ⟨rfl, rfl⟩
      go_wp2_with fail
      refine (C.out _ _).mono ?_
      rintro e w2 ⟨rfl, rfl⟩
      go_wp2
      go_ret
      exact ⟨rfl, rfl⟩
    · rw [if_neg h2]
      go_enter Try.func29, Try.ntmps29
      go_wp2_with fail
      refine (C.out _ _).mono ?_
      rintro e w1 ⟨rfl, rfl⟩
      go_wp2_with fail
      refine (C.out _ _).mono ?_
      rintro e w2 ⟨rfl, rfl⟩
      go_wp2
      go_ret
      exact ⟨rfl, rfl⟩
set_option maxHeartbeats 1600000 in
theorem wcmp_any (x y : Wk) (w : World) : Calls Try.prog 28 #[wkV x, wkV y] w fun e w' => e = .returned (.int .i64 (cmpS x.old y.old)) ∧ Below w.heap.size w w' := by
  have hb0 := ((Below.refl w.heap.size w).alloc (Nat.le_refl _) (.cells #[.int .u64 x.at', .int .u64 (x.sees.getD 0), .bool x.sees.isSome] 71)).alloc (by simp) (.cells #[.int .u64 y.at', .int .u64 (y.sees.getD 0), .bool y.sees.isSome] 71)
  have hx := (Whole.new w 71 #[.int .u64 x.at', .int .u64 (x.sees.getD 0), .bool x.sees.isSome]).alloc (.cells #[.int .u64 y.at', .int .u64 (y.sees.getD 0), .bool y.sees.isSome] 71)
  have hy := Whole.new2 w (.cells #[.int .u64 x.at', .int .u64 (x.sees.getD 0), .bool x.sees.isSome] 71) 71 #[.int .u64 y.at', .int .u64 (y.sees.getD 0), .bool y.sees.isSome]
  have C := fun wx => wold_any x wx
  have D := fun wx => wold_any y wx
  have E := Lib.hid (fun a b wx => cmp_u64 a b wx)
  unfold wkV at C D ⊢
  obtain ⟨xo, hxo⟩ : ∃ xo, x.old = xo := ⟨_, rfl⟩
  obtain ⟨yo, hyo⟩ : ∃ yo, y.old = yo := ⟨_, rfl⟩
  rw [hxo] at C ⊢
  rw [hyo] at D ⊢
  obtain ⟨xa, hxa⟩ : ∃ z, x.at' = z := ⟨_, rfl⟩
  obtain ⟨xs, hxs⟩ : ∃ z, x.sees.getD 0 = z := ⟨_, rfl⟩
  obtain ⟨xl, hxl⟩ : ∃ z, x.sees.isSome = z := ⟨_, rfl⟩
  obtain ⟨ya, hya⟩ : ∃ z, y.at' = z := ⟨_, rfl⟩
  obtain ⟨ys, hys⟩ : ∃ z, y.sees.getD 0 = z := ⟨_, rfl⟩
  obtain ⟨yl, hyl⟩ : ∃ z, y.sees.isSome = z := ⟨_, rfl⟩
  rw [hxa, hxs, hxl] at C hx ⊢
  rw [hya, hys, hyl] at D hx hy ⊢
  rw [hxa, hxs, hxl] at hy
  rw [hxa, hxs, hxl, hya, hys, hyl] at hb0
  clear hxa hxs hxl hya hys hyl hxo hyo
  obtain ⟨wq, hwq⟩ : ∃ z, (w.alloc (.cells #[.int .u64 xa, .int .u64 xs, .bool xl] 71)).alloc (.cells #[.int .u64 ya, .int .u64 ys, .bool yl] 71) = z := ⟨_, rfl⟩
  rw [hwq] at hb0 hx hy
  have KEEP := Lib.hid (fun w' (b : Below wq.heap.size wq w') => show w'.cell? ⟨w.heap.size, 0, none⟩ = some (.int .u64 xa) ∧ w'.cell? ⟨w.heap.size, 1, none⟩ = some (.int .u64 xs) ∧ w'.cell? ⟨w.heap.size, 2, none⟩ = some (.bool xl) ∧ w'.cell? ⟨w.heap.size + 1, 0, none⟩ = some (.int .u64 ya) ∧ w'.cell? ⟨w.heap.size + 1, 1, none⟩ = some (.int .u64 ys) ∧ w'.cell? ⟨w.heap.size + 1, 2, none⟩ = some (.bool yl) ∧ Below wq.heap.size wq w' from
    ⟨(hx.below b hx.lt).cell 0, (hx.below b hx.lt).cell 1, (hx.below b hx.lt).cell 2, (hy.below b hy.lt).cell 0, (hy.below b hy.lt).cell 1, (hy.below b hy.lt).cell 2, b⟩)
  have C1 := Lib.hid (fun w' (b : Below wq.heap.size wq w') => (C w').mono fun e w'' (hh : e = .returned (.int .u64 xo) ∧ Below w'.heap.size w' w'') => show e = .returned (.int .u64 xo) ∧ Below wq.heap.size wq w'' from ⟨hh.1, bnext b hh.2⟩)
  have D1 := Lib.hid (fun w' (b : Below wq.heap.size wq w') => (D w').mono fun e w'' (hh : e = .returned (.int .u64 yo) ∧ Below w'.heap.size w' w'') => show e = .returned (.int .u64 yo) ∧ Below wq.heap.size wq w'' from ⟨hh.1, bnext b hh.2⟩)
  have HB := Lib.hid hb0
  have HW := Lib.hid hwq
  clear hx hy C D hb0 hwq
  go_enter Try.func28, Try.ntmps28
  go_wp2_with fail
  rw [HW.out]
  go_region_held3 (fun w' => w'.cell? ⟨w.heap.size, 0, none⟩ = some (.int .u64 xa) ∧ w'.cell? ⟨w.heap.size, 1, none⟩ = some (.int .u64 xs) ∧ w'.cell? ⟨w.heap.size, 2, none⟩ = some (.bool xl) ∧ w'.cell? ⟨w.heap.size + 1, 0, none⟩ = some (.int .u64 ya) ∧ w'.cell? ⟨w.heap.size + 1, 1, none⟩ = some (.int .u64 ys) ∧ w'.cell? ⟨w.heap.size + 1, 2, none⟩ = some (.bool yl) ∧ Below wq.heap.size wq w')
    (first | exact KEEP.out _ (Below.refl _ _).drew | exact KEEP.out _ b9 | exact KEEP.out _ b8 | exact ‹_ ∧ _ ∧ _ ∧ _ ∧ _ ∧ _ ∧ Below _ _ _› | go_keep)
    (first
      | (go_at_call 30; with_reducible refine (C1.out _ ?_).mono ?_; (exact (‹_ ∧ _ ∧ _ ∧ _ ∧ _ ∧ _ ∧ Below _ _ _›).2.2.2.2.2.2); rintro e w8 ⟨rfl, b8⟩)
      | (go_at_call 30; with_reducible refine (D1.out _ ?_).mono ?_; (exact (‹_ ∧ _ ∧ _ ∧ _ ∧ _ ∧ _ ∧ Below _ _ _›).2.2.2.2.2.2); rintro e w9 ⟨rfl, b9⟩)
      | (go_at_call 29; refine (E.out _ _ _).mono ?_; rintro e w10 ⟨rfl, rfl⟩))
  have HZ := Lib.hid (show Below w.heap.size w w10 from bnext HB.out (by assumption))
  clear KEEP C1 D1 E HB HW
  go_wp2
  go_ret
  exact ⟨rfl, HZ.out⟩

theorem cmpS_neg (a b : Int) : cmpS a b < 0 ↔ a < b := by
  unfold cmpS
  by_cases h : a < b
  · simp [h]
  · by_cases h2 : b < a <;> simp [h, h2]
/-- The lowest one of the first k. -/
def LowAt (l : List Wk) (k : Nat) (y : Wk) : Prop := y ∈ l ∧ ∀ j z, j < k → l[j]? = some z → y.old ≤ z.old
theorem LowAt.one {l : List Wk} {y : Wk} (h : l[0]? = some y) : LowAt l 1 y := ⟨List.mem_of_getElem? h, fun j z hj hz => by
  obtain rfl : j = 0 := by omega
  rw [h] at hz
  injection hz with hz
  rw [hz]
  exact Int.le_refl _⟩
theorem LowAt.keep {l : List Wk} {k : Nat} {x y : Wk} (h : LowAt l k y) (hx : l[k]? = some x) (hn : ¬ x.old < y.old) : LowAt l (k + 1) y := ⟨h.1, fun j z hj hz => by
  rcases Nat.lt_or_ge j k with h1 | h1
  · exact h.2 j z h1 hz
  · obtain rfl : j = k := by omega
    rw [hx] at hz
    injection hz with hz
    subst hz
    omega⟩
theorem LowAt.turn {l : List Wk} {k : Nat} {x y : Wk} (h : LowAt l k y) (hx : l[k]? = some x) (hn : x.old < y.old) : LowAt l (k + 1) x := ⟨List.mem_of_getElem? hx, fun j z hj hz => by
  rcases Nat.lt_or_ge j k with h1 | h1
  · have := h.2 j z h1 hz; omega
  · obtain rfl : j = k := by omega
    rw [hx] at hz
    injection hz with hz
    subst hz
    exact Int.le_refl _⟩
/-- The lowest one's cells: one of those that are there, and none is older. -/
def Lowest (l : List Wk) (w : World) (e : Ending) (w' : World) : Prop := ∃ y, e = .returned (wkV y) ∧ y ∈ l ∧ (∀ z ∈ l, y.old ≤ z.old) ∧ Below w.heap.size w w'
set_option maxHeartbeats 1600000 in
theorem wmin_any (l : List Wk) (r c : Nat) (w : World) (hR : Whole w r 71 (wkP l)) (h1 : 1 ≤ l.length) (h4 : l.length ≤ 4) :
    Calls Try.prog 27 #[.slice (some ⟨r, 0, none⟩) l.length c, .func (.func 28) #[] #[]] w (Lowest l w) := by
  obtain ⟨n, hn⟩ : ∃ n, l.length = n := ⟨_, rfl⟩
  have HN := Lib.hid hn
  rw [hn] at h1 h4 ⊢
  obtain ⟨y0, hy0⟩ : ∃ y, l[0]? = some y := ⟨_, List.getElem?_eq_getElem (by omega)⟩
  obtain ⟨e0, e1, e2⟩ := wkP_get hy0
  have c0 := (hR.cell 0).trans e0
  have c1 := (hR.cell 1).trans e1
  have c2 := (hR.cell 2).trans e2
  have HR := Lib.hid hR
  have hrl := hR.lt
  have HY := Lib.hid hy0
  have C := Lib.hid (fun x y wx => wcmp_any x y wx)
  unfold wkV at C
  have n1 : ¬ (n : Int) < 1 := by omega
  have n0 : (0 : Int) < (n : Int) := by omega
  have hrn : r ≠ w.heap.size := by omega
  have hrn2 : r ≠ w.heap.size + 1 := by omega
  clear hR hn hy0 e0 e1 e2
  go_enter Try.func27, Try.ntmps27
  go_wp2_with fail
  have HS := Lib.hid (show Whole ((w.alloc (.cells #[.int .u64 0, .int .u64 0, .bool false] 71)).alloc (.cells #[.int .u64 y0.at', .int .u64 (y0.sees.getD 0), .bool y0.sees.isSome] 71)) (w.heap.size + 1) 71 #[.int .u64 y0.at', .int .u64 (y0.sees.getD 0), .bool y0.sees.isSome] ∧ Whole ((w.alloc (.cells #[.int .u64 0, .int .u64 0, .bool false] 71)).alloc (.cells #[.int .u64 y0.at', .int .u64 (y0.sees.getD 0), .bool y0.sees.isSome] 71)) w.heap.size 71 #[.int .u64 0, .int .u64 0, .bool false] ∧ Below w.heap.size w ((w.alloc (.cells #[.int .u64 0, .int .u64 0, .bool false] 71)).alloc (.cells #[.int .u64 y0.at', .int .u64 (y0.sees.getD 0), .bool y0.sees.isSome] 71)) from
    ⟨Whole.new2 w _ _ _, (Whole.new w _ _).alloc _, ((Below.refl w.heap.size w).alloc (Nat.le_refl _) _).alloc (by simp) _⟩)
  have HL0 := Lib.hid (show LowAt l 1 y0 from LowAt.one HY.out)
  clear c0 c1 c2 HY
  go_loopw [6] (fun i wr => ∃ (k : Nat) (y : Wk), 1 ≤ k ∧ k ≤ n ∧ i = .int .i64 (k : Int) ∧ Hid (LowAt l k y) ∧ Whole wr (w.heap.size + 1) 71 #[.int .u64 y.at', .int .u64 (y.sees.getD 0), .bool y.sees.isSome] ∧ Whole wr w.heap.size 71 #[.int .u64 0, .int .u64 0, .bool false] ∧ Below w.heap.size w wr) (fun i _ => n - (intOf i).toNat)
  case atStart => exact ⟨1, y0, Nat.le_refl _, h1, rfl, HL0, HS.out⟩
  case round =>
    obtain ⟨k, y, hk1, hk, rfl, HL, hm, hz, hb⟩ := hrel
    have m0 := hm.cell 0
    have m1 := hm.cell 1
    have m2 := hm.cell 2
    have z0 := hz.cell 0
    have z1 := hz.cell 1
    have z2 := hz.cell 2
    have p0 := hm.free 0
    have p1 := hm.free 1
    have p2 := hm.free 2
    have t0 := hz.free 0
    have t1 := hz.free 1
    have t2 := hz.free 2
    have hsz := hb.size
    have hml := hm.lt
    by_cases hlt : k < n
    · obtain ⟨x, hx⟩ : ∃ x, l[k]? = some x := ⟨_, List.getElem?_eq_getElem (by rw [HN.out]; exact hlt)⟩
      obtain ⟨e0, e1, e2⟩ := wkP_get hx
      have R1 := HR.out.below hb hrl
      have c0 := (R1.cell (k * 3)).trans e0
      have c1 := (R1.cell (k * 3 + 1)).trans e1
      have c2 := (R1.cell (k * 3 + 2)).trans e2
      have i0 : (0 : Int) ≤ (k : Int) := by omega
      have i1 : (k : Int) < (n : Int) := by omega
      have hrl1 : r < wr.heap.size := by omega
      have CC := C.out x y
      have HM := Lib.hid hm
      have HZ0 := Lib.hid hz
      have HB := Lib.hid hb
      have HX := Lib.hid hx
      clear hm hz hb
      have hq := cmpS_neg x.old y.old
      obtain ⟨d, hd⟩ : ∃ d, cmpS x.old y.old = d := ⟨_, rfl⟩
      rw [hd] at CC hq
      clear hd
      have HQ := Lib.hid hq
      have HE := Lib.hid (And.intro e0 (And.intro e1 e2))
      have HK := Lib.hid (fun w' (b : Below wr.heap.size wr w') => show w'.cell? ⟨r, k * 3, none⟩ = some (.int .u64 x.at') ∧ w'.cell? ⟨r, k * 3 + 1, none⟩ = some (.int .u64 (x.sees.getD 0)) ∧ w'.cell? ⟨r, k * 3 + 2, none⟩ = some (.bool x.sees.isSome) ∧ w'.cell? ⟨w.heap.size + 1, 0, none⟩ = some (.int .u64 y.at') ∧ w'.cell? ⟨w.heap.size + 1, 1, none⟩ = some (.int .u64 (y.sees.getD 0)) ∧ w'.cell? ⟨w.heap.size + 1, 2, none⟩ = some (.bool y.sees.isSome) ∧ Below wr.heap.size wr w' from
        ⟨(b.cell (p := ⟨r, k * 3, none⟩) hrl1).trans c0, (b.cell (p := ⟨r, k * 3 + 1, none⟩) hrl1).trans c1, (b.cell (p := ⟨r, k * 3 + 2, none⟩) hrl1).trans c2, (b.cell (p := ⟨w.heap.size + 1, 0, none⟩) hml).trans m0, (b.cell (p := ⟨w.heap.size + 1, 1, none⟩) hml).trans m1, (b.cell (p := ⟨w.heap.size + 1, 2, none⟩) hml).trans m2, b⟩)
      have HC := Lib.hid (fun w' (b : Below wr.heap.size wr w') => (CC w').mono fun e w'' (hh : e = .returned (.int .i64 d) ∧ Below w'.heap.size w' w'') => show e = .returned (.int .i64 d) ∧ Below wr.heap.size wr w'' from ⟨hh.1, bnext b hh.2⟩)
      clear hq CC e0 e1 e2 hx R1
      by_cases hd : d < 0
      · go_wp2_with fail
        go_region_held3 (fun w' => w'.cell? ⟨r, k * 3, none⟩ = some (.int .u64 x.at') ∧ w'.cell? ⟨r, k * 3 + 1, none⟩ = some (.int .u64 (x.sees.getD 0)) ∧ w'.cell? ⟨r, k * 3 + 2, none⟩ = some (.bool x.sees.isSome) ∧ w'.cell? ⟨w.heap.size + 1, 0, none⟩ = some (.int .u64 y.at') ∧ w'.cell? ⟨w.heap.size + 1, 1, none⟩ = some (.int .u64 (y.sees.getD 0)) ∧ w'.cell? ⟨w.heap.size + 1, 2, none⟩ = some (.bool y.sees.isSome) ∧ Below wr.heap.size wr w')
          (first | exact ⟨c0, c1, c2, m0, m1, m2, (Below.refl _ _).drew⟩ | exact HK.out _ b8 | exact ‹_ ∧ _ ∧ _ ∧ _ ∧ _ ∧ _ ∧ Below _ _ _› | go_keep)
          ((go_at_call 28; refine (HC.out _ ?_).mono ?_; (exact (‹_ ∧ _ ∧ _ ∧ _ ∧ _ ∧ _ ∧ Below _ _ _›).2.2.2.2.2.2); rintro e w8 ⟨rfl, b8⟩))
        have R8 := HR.out.below (HB.out.trans (b8.mono hsz)) hrl
        have M8 := HM.out.below b8 HM.out.lt
        have Z8 := HZ0.out.below b8 HZ0.out.lt
        have q0 := (R8.cell (k * 3)).trans HE.out.1
        have q1 := (R8.cell (k * 3 + 1)).trans HE.out.2.1
        have q2 := (R8.cell (k * 3 + 2)).trans HE.out.2.2
        have r0 := M8.free 0
        have r1 := M8.free 1
        have r2 := M8.free 2
        have r3 := M8.cell 0
        have r4 := M8.cell 1
        have r5 := M8.cell 2
        have hrl8 : r < w8.heap.size := by have := b8.size; omega
        have hml8 : w.heap.size + 1 < w8.heap.size := by have := b8.size; omega
        have HB8 := Lib.hid (HB.out.trans (b8.mono hsz))
        have HM8 := Lib.hid M8
        have HZ8 := Lib.hid Z8
        clear b8 R8 M8 Z8 c0 c1 c2 m0 m1 m2 z0 z1 z2 p0 p1 p2 t0 t1 t2 HM HZ0 HB HK HC
        go_wp2_with fail
        go_roundw
        case rel =>
          exact ⟨k + 1, x, by omega, by omega, by go_num, Lib.hid (HL.out.turn HX.out (HQ.out.1 hd)),
            (show Whole _ _ _ #[.int .u64 x.at', .int .u64 (x.sees.getD 0), .bool x.sees.isSome] from ((HM8.out.set 0 _).set 1 _).set 2 _),
            ((HZ8.out.far (p := ⟨w.heap.size + 1, 0, none⟩) (by simp) _).far (p := ⟨w.heap.size + 1, 1, none⟩) (by simp) _).far (p := ⟨w.heap.size + 1, 2, none⟩) (by simp) _,
            ((HB8.out.setCell (p := ⟨w.heap.size + 1, 0, none⟩) (Nat.le_succ _) _).setCell (p := ⟨w.heap.size + 1, 1, none⟩) (Nat.le_succ _) _).setCell (p := ⟨w.heap.size + 1, 2, none⟩) (Nat.le_succ _) _⟩
        case measure => simp [intOf]; omega
      · go_wp2_with fail
        go_region_held3 (fun w' => w'.cell? ⟨r, k * 3, none⟩ = some (.int .u64 x.at') ∧ w'.cell? ⟨r, k * 3 + 1, none⟩ = some (.int .u64 (x.sees.getD 0)) ∧ w'.cell? ⟨r, k * 3 + 2, none⟩ = some (.bool x.sees.isSome) ∧ w'.cell? ⟨w.heap.size + 1, 0, none⟩ = some (.int .u64 y.at') ∧ w'.cell? ⟨w.heap.size + 1, 1, none⟩ = some (.int .u64 (y.sees.getD 0)) ∧ w'.cell? ⟨w.heap.size + 1, 2, none⟩ = some (.bool y.sees.isSome) ∧ Below wr.heap.size wr w')
          (first | exact ⟨c0, c1, c2, m0, m1, m2, (Below.refl _ _).drew⟩ | exact HK.out _ b8 | exact ‹_ ∧ _ ∧ _ ∧ _ ∧ _ ∧ _ ∧ Below _ _ _› | go_keep)
          ((go_at_call 28; refine (HC.out _ ?_).mono ?_; (exact (‹_ ∧ _ ∧ _ ∧ _ ∧ _ ∧ _ ∧ Below _ _ _›).2.2.2.2.2.2); rintro e w8 ⟨rfl, b8⟩))
        have R8 := HR.out.below (HB.out.trans (b8.mono hsz)) hrl
        have M8 := HM.out.below b8 HM.out.lt
        have Z8 := HZ0.out.below b8 HZ0.out.lt
        have q0 := (R8.cell (k * 3)).trans HE.out.1
        have q1 := (R8.cell (k * 3 + 1)).trans HE.out.2.1
        have q2 := (R8.cell (k * 3 + 2)).trans HE.out.2.2
        have r0 := M8.free 0
        have r1 := M8.free 1
        have r2 := M8.free 2
        have r3 := M8.cell 0
        have r4 := M8.cell 1
        have r5 := M8.cell 2
        have hrl8 : r < w8.heap.size := by have := b8.size; omega
        have hml8 : w.heap.size + 1 < w8.heap.size := by have := b8.size; omega
        have HB8 := Lib.hid (HB.out.trans (b8.mono hsz))
        have HM8 := Lib.hid M8
        have HZ8 := Lib.hid Z8
        clear b8 R8 M8 Z8 c0 c1 c2 m0 m1 m2 z0 z1 z2 p0 p1 p2 t0 t1 t2 HM HZ0 HB HK HC
        go_wp2_with fail
        go_roundw
        case rel => exact ⟨k + 1, y, by omega, by omega, by go_num, Lib.hid (HL.out.keep HX.out (fun h => by have := HQ.out.2 h; omega)), HM8.out, HZ8.out, HB8.out⟩
        case measure => simp [intOf]; omega
    · obtain rfl : k = n := by omega
      have HF := Lib.hid (show Lowest l w (.returned (wkV y)) ((((wr.setCell ⟨w.heap.size, 0, none⟩ (.int .u64 y.at')).setCell ⟨w.heap.size, 1, none⟩ (.int .u64 (y.sees.getD 0))).setCell ⟨w.heap.size, 2, none⟩ (.bool y.sees.isSome))) from
        ⟨y, rfl, HL.out.1, fun z hz => by obtain ⟨j, hj⟩ := List.getElem?_of_mem hz; exact HL.out.2 j z (by have := (List.getElem?_eq_some_iff.1 hj).1; rw [HN.out] at this; exact this) hj,
          ((hb.setCell (p := ⟨w.heap.size, 0, none⟩) (Nat.le_refl _) _).setCell (p := ⟨w.heap.size, 1, none⟩) (Nat.le_refl _) _).setCell (p := ⟨w.heap.size, 2, none⟩) (Nat.le_refl _) _⟩)
      have s0 := (((hz.set 0 (.int .u64 y.at')).set 1 (.int .u64 (y.sees.getD 0))).set 2 (.bool y.sees.isSome)).cell 0
      have s1 := (((hz.set 0 (.int .u64 y.at')).set 1 (.int .u64 (y.sees.getD 0))).set 2 (.bool y.sees.isSome)).cell 1
      have s2 := (((hz.set 0 (.int .u64 y.at')).set 1 (.int .u64 (y.sees.getD 0))).set 2 (.bool y.sees.isSome)).cell 2
      clear hm hz hb HL
      unfold wkV at HF
      go_wp2_with fail
      exact bodyPost_ret (v := .agg #[.int .u64 y.at', .int .u64 (y.sees.getD 0), .bool y.sees.isSome]) (by simp [results, Try.results27, go_sem, s0, s1, s2]) rfl HF.out

section
variable (l : List Wk) (q : List Wt) (g : Nat) (S : Nat → Prop) (w : World)
theorem pold_nil : Calls Try.prog 20 #[.pointer none] w fun e w' => e = .returned (.int .u64 0) ∧ Below w.heap.size w w' := by
  have HB := Lib.hid (Below.refl w.heap.size w)
  go_enter Try.func20, Try.ntmps20
  go_wp2
  go_ret
  exact ⟨rfl, HB.out⟩
theorem pold_any (h : PAt w g S l q) : Calls Try.prog 20 #[.pointer (some ⟨g, 0, none⟩)] w fun e w' => e = .returned (.int .u64 (oldS l)) ∧ Below w.heap.size w w' := by
  obtain ⟨r, A, c, hne, hS, hG, hR, hO, hL, hb⟩ := h
  have C := Lib.hid (wmin_any l r l.length w hR hL.1 hL.2.1)
  have D := Lib.hid (fun y wx => wold_any y wx)
  unfold wkV at D
  obtain ⟨n, hn⟩ : ∃ n, l.length = n := ⟨_, rfl⟩
  rw [hn] at C hG hL
  have g0 := hG.cell 0
  have n0 : ¬ (n : Int) = 0 := by omega
  have HBe := Lib.hid hb
  clear hG hR hO hS hb hn
  go_enter Try.func20, Try.ntmps20
  go_wp2_with fail
  refine C.out.mono ?_
  rintro e w1 ⟨y, rfl, hy, hyl, b1⟩
  have HO := Lib.hid (old_first HBe.out hy hyl)
  have HB := Lib.hid (b1.alloc b1.size (.cells #[.int .u64 y.at', .int .u64 (y.sees.getD 0), .bool y.sees.isSome] 71))
  clear C hy hyl b1
  unfold wkV
  go_wp2_with fail
  refine (D.out y _).mono ?_
  rintro e w2 ⟨rfl, b2⟩
  have HB2 := Lib.hid (bnext HB.out b2)
  rw [← HO.out]
  clear b2 HB D HO
  go_wp2
  go_ret
  exact ⟨rfl, HB2.out⟩
end
end Go.Proofs.Ytgacejencnkpmaa
