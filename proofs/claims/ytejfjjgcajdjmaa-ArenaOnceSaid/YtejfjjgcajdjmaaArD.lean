/-
  Contracts of the document's answers of layer 15 (louverref15): with, Get, Free, Take.
-/
import Derived.Test.YtejfjjgcajdjmaaArQ
import Derived.Test.YtejfjjgcajdjmaaArCa
import Derived.Test.YtejfjjgcajdjmaaArE
import Derived.Test.YtejfjjgcajdjmaaMemW
import Derived.Test.YtejfjjgcajdjmaaOwnW
import Derived.Test.YtejfjjgcajdjmaaProg
import Derived.Laws.OwnMore
import Derived.Deep.CutBlock
import Derived.Deep.DeepCutAuto
import Derived.Deep.RegionHeld3
import Derived.Deep.QuietTactic
import Derived.BigQuiet
import Derived.IntWalk
namespace Go.Proofs.Ytejfjjgcajdjmaa
open Go.RowKit
set_option linter.unusedSimpArgs false
set_option linter.unusedVariables false
set_option maxRecDepth 100000

/-- Slots as the document has them. -/
def docC (l : List Sl) : List Value := (l.map fun y => [y.x, Value.int .u32 (y.turn : Int), Value.bool y.used]).flatten
def OneC (l : List Sl) : Prop := ∀ y ∈ l, y.x.oneCell' = true
theorem docC_length (l : List Sl) : (docC l).length = l.length * 3 := by
  induction l with
  | nil => rfl
  | cons y l ih => unfold docC at *; simp only [List.map_cons, List.flatten_cons, List.length_append, List.length_cons, List.length_nil, ih]; omega
theorem docC_cons (y : Sl) (l : List Sl) : docC (y :: l) = y.x :: .int .u32 (y.turn : Int) :: .bool y.used :: docC l := rfl
theorem docC_get {l : List Sl} : ∀ {i : Nat} {y : Sl}, l[i]? = some y → (docC l)[i * 3]? = some y.x ∧ (docC l)[i * 3 + 1]? = some (.int .u32 (y.turn : Int)) ∧ (docC l)[i * 3 + 2]? = some (.bool y.used) := by
  induction l with
  | nil => intro i y h; simp at h
  | cons a l ih =>
    intro i y h
    rw [docC_cons]
    cases i with
    | zero => simp at h; subst h; exact ⟨rfl, rfl, rfl⟩
    | succ i =>
      have := ih (i := i) (y := y) (by simpa using h)
      rw [show (i + 1) * 3 = i * 3 + 3 by omega]
      exact this
theorem docC_set {l : List Sl} : ∀ {i : Nat} (y : Sl), docC (l.set i y) = (((docC l).set (i * 3) y.x).set (i * 3 + 1) (.int .u32 (y.turn : Int))).set (i * 3 + 2) (.bool y.used) := by
  induction l with
  | nil => intro i y; simp [docC]
  | cons a l ih =>
    intro i y
    cases i with
    | zero => rfl
    | succ i =>
      rw [List.set_cons_succ, docC_cons, docC_cons, ih, show (i + 1) * 3 = i * 3 + 3 by omega]
      rfl
theorem docC_one {l : List Sl} (h : OneC l) : ∀ u ∈ docC l, u.oneCell' = true := by
  intro u hu
  unfold docC at hu
  rw [List.mem_flatten] at hu
  obtain ⟨r, hr, hu⟩ := hu
  obtain ⟨y, hy, rfl⟩ := List.mem_map.1 hr
  simp at hu
  rcases hu with rfl | rfl | rfl
  · exact h y hy
  · rfl
  · rfl
theorem info_SD : (Try.prog.info? 46).map (fun i => (i.zero, i.size, i.bytes)) = some (some (.agg #[.int .i64 0, .int .u32 0, .bool false]), 3, 16) := by kernel_rfl

set_option maxHeartbeats 1600000 in
theorem rwith_any (A : Option Addr) (c : Nat) (l : List Sl) (i : Nat) (x : Int) (t : Nat) (b : Bool) (w : World) (hr : Row w w.heap.size 3 A l.length (docC l)) (hl : l.length ≤ 64) (hi : i < l.length) (h1 : OneC l) :
    Calls Try.prog 23 #[.slice A l.length c, .int .i64 (i : Int), .agg #[.int .i64 x, .int .u32 (t : Int), .bool b]] w fun e w' => ∃ g cap, e = .returned (.slice (some ⟨g, 0, none⟩) l.length cap) ∧
      w'.ownsRow w.heap.size 46 3 (.slice (some ⟨g, 0, none⟩) l.length cap) l.length (docC (l.set i ⟨.int .i64 x, t, b⟩)) ∧ Below w.heap.size w w' := by
  have hb0 := (Below.refl w.heap.size w).alloc (Nat.le_refl _) (.cells #[.int .i64 x, .int .u32 (t : Int), .bool b] 46)
  have hr0 := (hr.below hb0 (Nat.le_refl _)).more (show w.heap.size ≤ w.heap.size + 1 by omega)
  have hs := docC_set (l := l) (i := i) ⟨.int .i64 x, t, b⟩
  have HS := Lib.hid hs
  have HB0 := Lib.hid hb0
  have h1' := docC_one h1
  have hn0 : 0 < l.length := by omega
  have W0 := Whole.new w 46 #[.int .i64 x, .int .u32 (t : Int), .bool b]
  obtain ⟨n, hn⟩ : ∃ n, l.length = n := ⟨_, rfl⟩
  obtain ⟨D, hD⟩ : ∃ D, docC l = D := ⟨_, rfl⟩
  rw [hn, hD] at hr0
  rw [hD] at h1' HS
  rw [hn] at hl hi hn0 ⊢
  have i0 : (0 : Int) ≤ (i : Int) := by omega
  have i1 : (i : Int) < (n : Int) := by omega
  clear hr hs h1 hb0 hn hD
  go_enter Try.func23, Try.ntmps23
  go_wp2_with (at_builtin; refine wpl_append _ rfl (.tmp 8) (.tmp 9) 26 rfl (w.heap.size + 1) 46 (.agg #[.int .i64 0, .int .u32 0, .bool false]) 3 16 Try.underlying26 info_SD rfl (by decide) _ 0 [] rfl (World.ownsRow_nil _ _ _ _) _ _ n c _ rfl hr0 h1' ?c1 ?c2 ?c3 ?_)
  case c1 => unfold maxLen; omega
  case c2 => omega
  intro v w2 hown hg _
  have W2 := W0.grown hg (by simp [Value.ownBlock])
  have hz : (w.alloc (.cells #[.int .i64 x, .int .u32 (t : Int), .bool b] 46)).heap.size = w.heap.size + 1 := by simp
  have hb2 : Below (w.heap.size + 1) (w.alloc (.cells #[.int .i64 x, .int .u32 (t : Int), .bool b] 46)) w2 := ⟨hg.os, hg.tape, hg.output, hg.size, fun k hk => hg.block k (by rw [hz]; exact hk) (by simp [Value.ownBlock])⟩
  obtain ⟨g, cap, rfl, hgb⟩ : ∃ g cap, v = .slice (some ⟨g, 0, none⟩) n cap ∧ w.heap.size + 1 ≤ g := by
    rcases hown.2 with ⟨_, h⟩ | ⟨g, cap, _, h, hb, _⟩
    · omega
    · exact ⟨g, cap, h, hb⟩
  have y0 := W2.cell 0
  have y1 := W2.cell 1
  have y2 := W2.cell 2
  have hlW := W2.lt
  obtain ⟨cap', cur, hgw, hcc⟩ : ∃ (cap' : Nat) (cur : Array Value), Whole w2 g 46 cur ∧ n * 3 ≤ cur.size := by
    rcases hown.2 with ⟨_, h⟩ | ⟨g', cap', cur, h, hb, hh, h1, _, h2, _⟩
    · omega
    · injection h with h _ _
      injection h with h
      injection h with h
      subst h
      exact ⟨cap', cur, hh, by omega⟩
  have hcell : ∀ j, j < n * 3 → ∃ u, w2.cell? ⟨g, j, none⟩ = some u := fun j hj => by
    rw [hgw.cell]
    exact ⟨_, Array.getElem?_eq_getElem (by omega)⟩
  obtain ⟨u0, z0⟩ := hcell (i * 3) (by omega)
  obtain ⟨u1, z1⟩ := hcell (i * 3 + 1) (by omega)
  obtain ⟨u2, z2⟩ := hcell (i * 3 + 2) (by omega)
  have fz0 := hgw.free (i * 3)
  have fz1 := hgw.free (i * 3 + 1)
  have fz2 := hgw.free (i * 3 + 2)
  have hgl := hgw.lt
  have O1 := (((hown.stored (i * 3) (.int .i64 x)).1.stored (i * 3 + 1) (.int .u32 (t : Int))).1.stored (i * 3 + 2) (.bool b)).1
  have HO := Lib.hid (own_base O1 (show w.heap.size ≤ w.heap.size + 1 by omega))
  have HB := Lib.hid ((((HB0.out.trans (hb2.mono (by omega))).setCell (p := ⟨g, i * 3, none⟩) (by show w.heap.size ≤ g; omega) (.int .i64 x)).setCell (p := ⟨g, i * 3 + 1, none⟩) (by show w.heap.size ≤ g; omega) (.int .u32 (t : Int))).setCell (p := ⟨g, i * 3 + 2, none⟩) (by show w.heap.size ≤ g; omega) (.bool b))
  clear hown hg W2 hb2 hcell hgw hcc O1 HB0
  go_wp2
  go_ret
  exact ⟨g, cap, rfl, by rw [HS.out]; exact HO.out, HB.out⟩

/-- What Get tells. -/
def gotD (z : Value) (l : List Sl) (s t : Int) : Value := .tuple #[(getA l s t).getD z, .int .i64 (if (getA l s t).isSome = true then 0 else 26)]
set_option maxHeartbeats 1600000 in
theorem rget_any (A : Option Addr) (c : Nat) (l : List Sl) (s t : Int) (w : World) (hr : Row w w.heap.size 3 A l.length (docC l)) (hl : l.length ≤ 64) :
    Calls Try.prog 14 #[.slice A l.length c, .agg #[.int .i64 s, .int .u32 t]] w fun e w' => e = .returned (gotD (.int .i64 0) l s t) ∧ Below w.heap.size w w' := by
  have HB := Lib.hid ((Below.refl w.heap.size w).alloc (Nat.le_refl _) (.cells #[.int .i64 s, .int .u32 t] 30))
  obtain ⟨n, hn⟩ : ∃ n, l.length = n := ⟨_, rfl⟩
  by_cases h1 : s < 0
  · have HG := Lib.hid (show gotD (.int .i64 0) l s t = .tuple #[.int .i64 0, .int .i64 26] by unfold gotD; rw [getA_low h1]; rfl)
    rw [hn] at hl ⊢
    rw [HG.out]
    have d1 : decide (s < 0) = true := decide_eq_true h1
    clear hr hn HG h1
    go_enter Try.func14, Try.ntmps14
    go_wp2_with fail
    go_quiet (fail)
    go_wp2
    go_ret2
    exact ⟨rfl, bdrewN HB.out _⟩
  obtain ⟨k, rfl⟩ : ∃ k : Nat, s = (k : Int) := ⟨s.toNat, by omega⟩
  have d1 : decide ((k : Int) < 0) = false := decide_eq_false h1
  by_cases h2 : n ≤ k
  · have HG := Lib.hid (show gotD (.int .i64 0) l k t = .tuple #[.int .i64 0, .int .i64 26] by unfold gotD; rw [getA_high (by omega)]; rfl)
    rw [hn] at hl ⊢
    rw [HG.out]
    have d2 : decide (n ≤ k) = true := decide_eq_true h2
    clear hr hn HG h1 h2
    go_enter Try.func14, Try.ntmps14
    go_wp2_with fail
    go_quiet (fail)
    go_wp2
    go_ret2
    exact ⟨rfl, bdrewN HB.out _⟩
  have d2 : decide (n ≤ k) = false := decide_eq_false h2
  obtain ⟨y, hy⟩ : ∃ y, l[k]? = some y := ⟨_, List.getElem?_eq_getElem (by omega)⟩
  obtain ⟨g, o, rfl, hg, hc⟩ := hr.2 (by omega)
  obtain ⟨e0, e1, e2⟩ := docC_get hy
  have c0 := (HB.out.cell (p := ⟨g, o + k * 3, none⟩) hg).trans (hc _ _ e0)
  have c1 := (HB.out.cell (p := ⟨g, o + (k * 3 + 1), none⟩) hg).trans (hc _ _ e1)
  have c2 := (HB.out.cell (p := ⟨g, o + (k * 3 + 2), none⟩) hg).trans (hc _ _ e2)
  rw [← Nat.add_assoc] at c1 c2
  have i0 : (0 : Int) ≤ (k : Int) := by omega
  have i1 : (k : Int) < (n : Int) := by omega
  have HG := Lib.hid (show gotD (.int .i64 0) l k t = .tuple #[(if y.used = true ∧ (y.turn : Int) = t then some y.x else none).getD (.int .i64 0), .int .i64 (if (if y.used = true ∧ (y.turn : Int) = t then some y.x else none).isSome = true then 0 else 26)] by unfold gotD; rw [getA_in hy])
  rw [hn] at hl ⊢
  rw [HG.out]
  obtain ⟨yx, yt, yu⟩ := y
  dsimp only at c0 c1 c2 ⊢
  clear hr hn HG hy hc e0 e1 e2 h1 h2
  cases yu with
  | false =>
    rw [if_neg (by simp)]
    dsimp only [Option.getD, Option.isSome]
    rw [if_neg (by simp)]
    go_enter Try.func14, Try.ntmps14
    go_wp2_with fail
    go_quiet (fail)
    go_wp2
    go_ret2
    exact ⟨rfl, bdrewN HB.out _⟩
  | true =>
    by_cases h3 : (yt : Int) = t
    · have d3 : ((yt : Int) != t) = false := by simp [h3]
      rw [if_pos ⟨rfl, h3⟩]
      dsimp only [Option.getD, Option.isSome]
      rw [if_pos rfl]
      clear h3
      go_enter Try.func14, Try.ntmps14
      go_wp2_with fail
      go_quiet (fail)
      go_wp2
      go_ret2
      exact ⟨rfl, bdrewN HB.out _⟩
    · have d3 : ((yt : Int) != t) = true := by simp [h3]
      rw [if_neg (by simp [h3])]
      dsimp only [Option.getD, Option.isSome]
      rw [if_neg (by simp)]
      clear h3
      go_enter Try.func14, Try.ntmps14
      go_wp2_with fail
      go_quiet (fail)
      go_wp2
      go_ret2
      exact ⟨rfl, bdrewN HB.out _⟩
end Go.Proofs.Ytejfjjgcajdjmaa
