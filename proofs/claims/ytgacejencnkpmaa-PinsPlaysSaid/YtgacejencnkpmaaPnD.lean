/-
  Contracts of the document's answers of layer 16 (louverref16): with, Install, Pin, Unpin.
-/
import Derived.Test.YtgacejencnkpmaaPnL
import Derived.Test.YtgacejencnkpmaaOwnX
import Derived.Test.YtgacejencnkpmaaHang
import Derived.Test.YtgacejencnkpmaaProg
import Derived.Laws.OwnMore
import Derived.Deep.CutBlock
import Derived.Deep.DeepCutAuto
import Derived.Deep.RegionHeld3
import Derived.Deep.QuietTactic
import Derived.RegionTactic
import Derived.BigQuiet
import Derived.IntWalk
namespace Go.Proofs.Ytgacejencnkpmaa
open Go.RowKit
set_option linter.unusedSimpArgs false
set_option linter.unusedVariables false
set_option maxRecDepth 100000

/-- A worker as the document has it. -/
def Wk.cells (k : Wk) : List Value := [.int .u64 k.at', .int .u64 (k.sees.getD 0), .bool k.sees.isSome]
def wdC (l : List Wk) : List Value := (l.map Wk.cells).flatten
theorem wdC_cons (y : Wk) (l : List Wk) : wdC (y :: l) = .int .u64 y.at' :: .int .u64 (y.sees.getD 0) :: .bool y.sees.isSome :: wdC l := rfl
theorem wdC_length (l : List Wk) : (wdC l).length = l.length * 3 := by
  induction l with
  | nil => rfl
  | cons y l ih => rw [wdC_cons]; simp only [List.length_cons, ih]; omega
theorem wdC_get {l : List Wk} : ∀ {i : Nat} {y : Wk}, l[i]? = some y → (wdC l)[i * 3]? = some (.int .u64 y.at') ∧ (wdC l)[i * 3 + 1]? = some (.int .u64 (y.sees.getD 0)) ∧ (wdC l)[i * 3 + 2]? = some (.bool y.sees.isSome) := by
  induction l with
  | nil => intro i y h; simp at h
  | cons a l ih =>
    intro i y h
    rw [wdC_cons]
    cases i with
    | zero => simp at h; subst h; exact ⟨rfl, rfl, rfl⟩
    | succ i =>
      have := ih (i := i) (y := y) (by simpa using h)
      rw [show (i + 1) * 3 = i * 3 + 3 by omega]
      exact this
theorem wdC_set {l : List Wk} : ∀ {i : Nat} (y : Wk), wdC (l.set i y) = (((wdC l).set (i * 3) (.int .u64 y.at')).set (i * 3 + 1) (.int .u64 (y.sees.getD 0))).set (i * 3 + 2) (.bool y.sees.isSome) := by
  induction l with
  | nil => intro i y; simp [wdC]
  | cons a l ih =>
    intro i y
    cases i with
    | zero => rfl
    | succ i =>
      rw [List.set_cons_succ, wdC_cons, wdC_cons, ih, show (i + 1) * 3 = i * 3 + 3 by omega]
      rfl
theorem wdC_one (l : List Wk) : ∀ u ∈ wdC l, u.oneCell' = true := by
  intro u hu
  unfold wdC at hu
  rw [List.mem_flatten] at hu
  obtain ⟨r, hr, hu⟩ := hu
  obtain ⟨y, hy, rfl⟩ := List.mem_map.1 hr
  simp [Wk.cells] at hu
  rcases hu with rfl | rfl | rfl <;> rfl
theorem info_WD : (Try.prog.info? 65).map (fun i => (i.zero, i.size, i.bytes)) = some (some (.agg #[.int .u64 0, .int .u64 0, .bool false]), 3, 24) := by kernel_rfl

set_option maxHeartbeats 1600000 in
theorem pwith_any (A : Option Addr) (c : Nat) (l : List Wk) (Bx : Option Addr) (bn bc : Nat) (i : Nat) (x s : Int) (b : Bool) (w : World) (hr : Row w w.heap.size 3 A l.length (wdC l)) (hl : l.length ≤ 64) (hi : i < l.length) :
    Calls Try.prog 23 #[.agg #[.slice A l.length c, (.slice Bx bn bc)], .int .i64 (i : Int), .agg #[.int .u64 x, .int .u64 s, .bool b]] w fun e w' => ∃ g cap, e = .returned (.agg #[.slice (some ⟨g, 0, none⟩) l.length cap, (.slice Bx bn bc)]) ∧
      w'.ownsRow w.heap.size 65 3 (.slice (some ⟨g, 0, none⟩) l.length cap) l.length ((((wdC l).set (i * 3) (.int .u64 x)).set (i * 3 + 1) (.int .u64 s)).set (i * 3 + 2) (.bool b)) ∧ Below w.heap.size w w' := by
  obtain ⟨w3, hw3⟩ : ∃ z, z = ((w.alloc (.cells #[.slice A l.length c, (.slice Bx bn bc)] 29)).alloc (.cells #[.int .u64 x, .int .u64 s, .bool b] 65)).alloc (.cells #[.slice none 0 0, .slice none 0 0] 29) := ⟨_, rfl⟩
  have hb0 : Below w.heap.size w w3 := by rw [hw3]; exact (((Below.refl w.heap.size w).alloc (Nat.le_refl _) _).alloc (by simp) _).alloc (by simp; omega) _
  have hz : w3.heap.size = w.heap.size + 3 := by rw [hw3]; simp
  have WP := Lib.hid (show Whole w3 w.heap.size 29 #[.slice A l.length c, (.slice Bx bn bc)] by rw [hw3]; exact ((Whole.new w _ _).alloc _).alloc _)
  have WW := Lib.hid (show Whole w3 (w.heap.size + 1) 65 #[.int .u64 x, .int .u64 s, .bool b] by rw [hw3]; exact (Whole.new2 w _ _ _).alloc _)
  have WR := Lib.hid (show Whole w3 (w.heap.size + 1 + 1) 29 #[.slice none 0 0, .slice none 0 0] by
    rw [hw3]
    have := Whole.new ((w.alloc (.cells #[.slice A l.length c, (.slice Bx bn bc)] 29)).alloc (.cells #[.int .u64 x, .int .u64 s, .bool b] 65)) 29 #[.slice none 0 0, .slice none 0 0]
    simpa using this)
  have HR0 := Lib.hid ((hr.below hb0 (Nat.le_refl _)).more (show w.heap.size ≤ w.heap.size + 3 by omega))
  have HB0 := Lib.hid hb0
  have h1' := wdC_one l
  have hn0 : 0 < l.length := by omega
  obtain ⟨n, hn⟩ : ∃ n, l.length = n := ⟨_, rfl⟩
  obtain ⟨D, hD⟩ : ∃ D, wdC l = D := ⟨_, rfl⟩
  rw [hn] at WP hw3
  rw [hn, hD] at HR0
  rw [hD] at h1'
  rw [hn] at hl hi hn0
  rw [hn, hD]
  have i0 : (0 : Int) ≤ (i : Int) := by omega
  have i1 : (i : Int) < (n : Int) := by omega
  have p0 : w3.cell? ⟨w.heap.size, 0, none⟩ = some (.slice A n c) := WP.out.cell 0
  have p1 : w3.cell? ⟨w.heap.size, 1, none⟩ = some (.slice Bx bn bc) := WP.out.cell 1
  clear hr hb0 hn hD
  go_enter Try.func23, Try.ntmps23
  go_wp2_with (at_builtin; rw [← hw3]; refine wpl_append _ rfl (.tmp 8) (.tmp 10) 26 rfl (w.heap.size + 3) 65 (.agg #[.int .u64 0, .int .u64 0, .bool false]) 3 24 Try.underlying26 info_WD rfl (by decide) _ 0 [] rfl (World.ownsRow_nil _ _ _ _) _ _ n c _ rfl HR0.out h1' ?c1 ?c2 ?c3 ?_)
  case c1 => unfold maxLen; omega
  case c2 => omega
  case c3 => omega
  intro v w4 hown hg _
  rw [← hw3] at hg
  clear hw3 p0 p1
  obtain ⟨Av, cv, rfl⟩ := own_form hown
  obtain ⟨g, cur, rfl, hgb, hgw, hcs⟩ := own_wholeX hown hn0
  have hb4 : Below w.heap.size w w4 := HB0.out.trans ((show Below w3.heap.size w3 w4 from ⟨hg.os, hg.tape, hg.output, hg.size, fun k hk => hg.block k hk (by simp [Value.ownBlock])⟩).mono (by omega))
  have P4 := WP.out.grown hg (by simp [Value.ownBlock])
  have W4 : Whole w4 (w.heap.size + 1) 65 #[.int .u64 x, .int .u64 s, .bool b] := WW.out.grown hg (by simp [Value.ownBlock])
  have R4 := WR.out.grown hg (by simp [Value.ownBlock])
  have p0 := P4.cell 0
  have p1 := P4.cell 1
  have pf := P4.free 0
  have lP := P4.lt
  have x0 := W4.cell 0
  have x1 := W4.cell 1
  have x2 := W4.cell 2
  have lW := W4.lt
  have r0 := R4.cell 0
  have r1 := R4.cell 1
  have rf0 := R4.free 0
  have rf1 := R4.free 1
  have lR := R4.lt
  have lg := hgw.lt
  have hcell : ∀ j, j < n * 3 → ∃ u, w4.cell? ⟨g, j, none⟩ = some u := fun j hj => by
    rw [hgw.cell]
    exact ⟨_, Array.getElem?_eq_getElem (by omega)⟩
  obtain ⟨u0, z0⟩ := hcell (i * 3) (by omega)
  obtain ⟨u1, z1⟩ := hcell (i * 3 + 1) (by omega)
  obtain ⟨u2, z2⟩ := hcell (i * 3 + 2) (by omega)
  have fz0 := hgw.free (i * 3)
  have fz1 := hgw.free (i * 3 + 1)
  have fz2 := hgw.free (i * 3 + 2)
  have gP : g ≠ w.heap.size := by omega
  have gW : g ≠ w.heap.size + 1 := by omega
  have gR : g ≠ w.heap.size + 1 + 1 := by omega
  have Pg : w.heap.size ≠ g := by omega
  have Wg : w.heap.size + 1 ≠ g := by omega
  have Rg : w.heap.size + 1 + 1 ≠ g := by omega
  have O1 := (((hown.stored (i * 3) (.int .u64 x)).1.stored (i * 3 + 1) (.int .u64 s)).1.stored (i * 3 + 2) (.bool b)).1
  have O2 := own_farX (p := ⟨w.heap.size + 1 + 1, 1, none⟩) (u := .slice Bx bn bc) (own_farX (p := ⟨w.heap.size + 1 + 1, 0, none⟩) (u := .slice (some ⟨g, 0, none⟩) n cv) (own_farX (p := ⟨w.heap.size, 0, none⟩) (u := .slice (some ⟨g, 0, none⟩) n cv) O1 (fun q hq e => by injection hq with hq; subst hq; exact Pg e)) (fun q hq e => by injection hq with hq; subst hq; exact Rg e)) (fun q hq e => by injection hq with hq; subst hq; exact Rg e)
  have HO := Lib.hid (own_base O2 (show w.heap.size ≤ w.heap.size + 3 by omega))
  have HB := Lib.hid ((((((hb4.setCell (p := ⟨g, i * 3, none⟩) (by show w.heap.size ≤ g; omega) (.int .u64 x)).setCell (p := ⟨g, i * 3 + 1, none⟩) (by show w.heap.size ≤ g; omega) (.int .u64 s)).setCell (p := ⟨g, i * 3 + 2, none⟩) (by show w.heap.size ≤ g; omega) (.bool b)).setCell (p := ⟨w.heap.size, 0, none⟩) (Nat.le_refl _) (.slice (some ⟨g, 0, none⟩) n cv)).setCell (p := ⟨w.heap.size + 1 + 1, 0, none⟩) (by show w.heap.size ≤ w.heap.size + 1 + 1; omega) (.slice (some ⟨g, 0, none⟩) n cv)).setCell (p := ⟨w.heap.size + 1 + 1, 1, none⟩) (by show w.heap.size ≤ w.heap.size + 1 + 1; omega) (.slice Bx bn bc))
  clear hown hg hgw hb4 hcell P4 W4 R4 O1 O2 HB0 WP WW WR HR0 hcs hgb h1'
  go_wp2_with fail
  exact bodyPost_ret (v := .agg #[.slice (some ⟨g, 0, none⟩) n cv, .slice Bx bn bc]) (by simp [results, Try.results23, go_sem, r0, r1, lR]) rfl ⟨g, cv, rfl, HO.out, HB.out⟩
end Go.Proofs.Ytgacejencnkpmaa
