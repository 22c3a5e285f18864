/-
  Contracts of the document's answers of layer 16 (louverref16): Retire, Sweep.
-/
import Derived.Test.YtgacejencnkpmaaPnE
import Derived.Test.YtgacejencnkpmaaPnG
namespace Go.Proofs.Ytgacejencnkpmaa
open Go.RowKit
set_option linter.unusedSimpArgs false
set_option linter.unusedVariables false
set_option maxRecDepth 100000

/-- What waits, as the document has it. -/
def Wt.cells (t : Wt) : List Value := [.int .i64 t.slot, .int .u32 t.turn, .int .u64 t.ep]
def wtC (q : List Wt) : List Value := (q.map Wt.cells).flatten
theorem wtC_cons (y : Wt) (l : List Wt) : wtC (y :: l) = .int .i64 y.slot :: .int .u32 y.turn :: .int .u64 y.ep :: wtC l := rfl
theorem wtC_length (l : List Wt) : (wtC l).length = l.length * 3 := by
  induction l with
  | nil => rfl
  | cons y l ih => rw [wtC_cons]; simp only [List.length_cons, ih]; omega
theorem wtC_get {l : List Wt} : ∀ {i : Nat} {y : Wt}, l[i]? = some y → (wtC l)[i * 3]? = some (.int .i64 y.slot) ∧ (wtC l)[i * 3 + 1]? = some (.int .u32 y.turn) ∧ (wtC l)[i * 3 + 2]? = some (.int .u64 y.ep) := by
  induction l with
  | nil => intro i y h; simp at h
  | cons a l ih =>
    intro i y h
    rw [wtC_cons]
    cases i with
    | zero => simp at h; subst h; exact ⟨rfl, rfl, rfl⟩
    | succ i =>
      have := ih (i := i) (y := y) (by simpa using h)
      rw [show (i + 1) * 3 = i * 3 + 3 by omega]
      exact this
theorem wtC_add (l : List Wt) (t : Wt) : wtC (l ++ [t]) = wtC l ++ [.int .i64 t.slot, .int .u32 t.turn, .int .u64 t.ep] := by simp [wtC, Wt.cells]
theorem wtC_one (l : List Wt) : ∀ u ∈ wtC l, u.oneCell' = true := by
  intro u hu
  unfold wtC at hu
  rw [List.mem_flatten] at hu
  obtain ⟨r, hr, hu⟩ := hu
  obtain ⟨y, hy, rfl⟩ := List.mem_map.1 hr
  simp [Wt.cells] at hu
  rcases hu with rfl | rfl | rfl <;> rfl
theorem info_TD : (Try.prog.info? 73).map (fun i => (i.zero, i.size, i.bytes)) = some (some (.agg #[.int .i64 0, .int .u32 0, .int .u64 0]), 3, 24) := by kernel_rfl
theorem info_RD : (Try.prog.info? 33).map (fun i => (i.zero, i.size, i.bytes)) = some (some (.agg #[.int .i64 0, .int .u32 0]), 2, 16) := by kernel_rfl

/-- What Retire answers. -/
def ROut (Av : Value) (B : Option Addr) (q : List Wt) (t : Wt) (w : World) (e : Ending) (w' : World) : Prop :=
  ∃ B' d', e = .returned (.tuple #[.agg #[Av, .slice B' (retS q t).length d'], .int .i64 (retE q)]) ∧ PRow B q.length w B' w' (retS q t).length (wtC (retS q t))
set_option maxHeartbeats 3200000 in
theorem rret_any (Ax : Option Addr) (an ac : Nat) (B : Option Addr) (q : List Wt) (d : Nat) (s t e : Int) (w : World) (hr : Row w w.heap.size 3 B q.length (wtC q)) (hl : q.length ≤ 64) :
    Calls Try.prog 16 #[.agg #[.slice Ax an ac, .slice B q.length d], .agg #[.int .i64 s, .int .u32 t], .int .u64 e] w (ROut (.slice Ax an ac) B q ⟨s, t, e⟩ w) := by
  obtain ⟨w3, hw3⟩ : ∃ z, z = ((w.alloc (.cells #[.slice Ax an ac, .slice B q.length d] 29)).alloc (.cells #[.int .i64 s, .int .u32 t] 33)).alloc (.cells #[.slice none 0 0, .slice none 0 0] 29) := ⟨_, rfl⟩
  have hb0 : Below w.heap.size w w3 := by rw [hw3]; exact (((Below.refl w.heap.size w).alloc (Nat.le_refl _) _).alloc (by simp) _).alloc (by simp; omega) _
  have hz : w3.heap.size = w.heap.size + 3 := by rw [hw3]; simp
  have WP := Lib.hid (show Whole w3 w.heap.size 29 #[.slice Ax an ac, .slice B q.length d] by rw [hw3]; exact ((Whole.new w _ _).alloc _).alloc _)
  have WF := Lib.hid (show Whole w3 (w.heap.size + 1) 33 #[.int .i64 s, .int .u32 t] by rw [hw3]; exact (Whole.new2 w _ _ _).alloc _)
  have WR := Lib.hid (show Whole w3 (w.heap.size + 1 + 1) 29 #[.slice none 0 0, .slice none 0 0] by
    rw [hw3]
    have := Whole.new ((w.alloc (.cells #[.slice Ax an ac, .slice B q.length d] 29)).alloc (.cells #[.int .i64 s, .int .u32 t] 33)) 29 #[.slice none 0 0, .slice none 0 0]
    simpa using this)
  have HR0 := Lib.hid (hr.below hb0 (Nat.le_refl _))
  have HB0 := Lib.hid hb0
  have HQ1 := Lib.hid (wtC_one q)
  unfold ROut
  obtain ⟨n, hn⟩ : ∃ n, q.length = n := ⟨_, rfl⟩
  have HN := Lib.hid hn
  have r0 := WR.out.cell 0
  have r1 := WR.out.cell 1
  have lR := WR.out.lt
  have rf0 := WR.out.free 0
  have rf1 := WR.out.free 1
  rw [hn] at WP hw3 HR0 hl ⊢
  have p0 := WP.out.cell 0
  have p1 := WP.out.cell 1
  have lP := WP.out.lt
  have pf1 := WP.out.free 1
  have nPR : w.heap.size ≠ w.heap.size + 1 + 1 := by omega
  by_cases hf : 64 ≤ n
  · have hm : retE q = 20 ∧ retS q ⟨s, t, e⟩ = q := by unfold retE retS; rw [if_pos (by omega), if_pos (by omega)]; exact ⟨rfl, rfl⟩
    rw [hm.1, hm.2, hn]
    have HE := Lib.hid (show PRow B n w B ((w3.setCell ⟨w.heap.size + 1 + 1, 0, none⟩ (.slice Ax an ac)).setCell ⟨w.heap.size + 1 + 1, 1, none⟩ (.slice B n d)) n (wtC q) from
      ⟨((HR0.out.set (p := ⟨w.heap.size + 1 + 1, 0, none⟩) (by simp; omega) _).set (p := ⟨w.heap.size + 1 + 1, 1, none⟩) (by simp; omega) _).more (by simp; omega), .inl ⟨rfl, rfl⟩, (HB0.out.setCell (p := ⟨w.heap.size + 1 + 1, 0, none⟩) (by simp; omega) _).setCell (p := ⟨w.heap.size + 1 + 1, 1, none⟩) (by simp; omega) _⟩)
    have hf' : (64 : Int) ≤ (n : Int) := by omega
    clear hr hb0 hn hm HR0 HB0 HN WF WR WP
    go_enter Try.func16, Try.ntmps16
    go_upto_region 1 with fail
    rw [← hw3]
    clear hw3
    go_wp2_with fail
    exact bodyPost_ret (v := .tuple #[.agg #[.slice Ax an ac, .slice B n d], .int .i64 20]) (by simp [results, Try.results16, go_sem, r0, r1, lR]) rfl ⟨B, d, rfl, HE.out⟩
  · have hm : retE q = 0 ∧ retS q ⟨s, t, e⟩ = q ++ [⟨s, t, e⟩] := by unfold retE retS; rw [if_neg (by omega), if_neg (by omega)]; exact ⟨rfl, rfl⟩
    rw [hm.1, hm.2, List.length_append, hn, wtC_add]
    dsimp only [List.length_cons, List.length_nil]
    obtain ⟨D, hD⟩ : ∃ z, wtC q = z := ⟨_, rfl⟩
    rw [hD] at HR0 HQ1 ⊢
    have hf' : ¬ (64 : Int) ≤ (n : Int) := by omega
    have HR1 := Lib.hid (HR0.out.more (show w.heap.size ≤ w3.heap.size by omega))
    clear hr hb0 hn hm HR0 HN hD
    go_enter Try.func16, Try.ntmps16
    go_upto_region 1 with fail
    rw [← hw3]
    clear hw3
    go_wp2_with (at_builtin; refine wpl_append _ rfl (.tmp 14) (.tmp 16) 27 rfl (w.heap.size + 3) 73 (.agg #[.int .i64 0, .int .u32 0, .int .u64 0]) 3 24 Try.underlying27 info_TD rfl (by decide) _ 0 [] rfl (World.ownsRow_nil _ _ _ _) _ _ n d _ rfl HR1.out HQ1.out ?c1 ?c2 ?c3 ?_)
    case c1 => unfold maxLen; omega
    case c2 => omega
    intro v w4 hown hg _
    have b4 : Below w3.heap.size w3 w4 := ⟨hg.os, hg.tape, hg.output, hg.size, fun k hk => hg.block k hk (by simp [Value.ownBlock])⟩
    have P4 := WP.out.below b4 WP.out.lt
    have F4 := WF.out.below b4 WF.out.lt
    have R4 := WR.out.below b4 WR.out.lt
    have hvlo : ∀ q, v.ownBlock = some q → w3.heap.size ≤ q := fun q hq => by have := (hown.lt q hq).1; omega
    have HV := Lib.hid hvlo
    have HO := Lib.hid hown
    have HP4 := Lib.hid P4
    have HF4 := Lib.hid F4
    have HR4 := Lib.hid R4
    have HB4 := Lib.hid (HB0.out.trans (b4.mono (by omega)))
    have hz4 := b4.size
    have f0 := F4.cell 0
    have f1 := F4.cell 1
    have lF := F4.lt
    clear hown hg b4 P4 F4 R4 hvlo r0 r1 lR rf0 rf1 p0 p1 lP pf1 HB0 WP WF WR HR1 HQ1
    have HRow := Lib.hid (Row.fresh w4 73 #[.int .i64 s, .int .u32 t, .int .u64 e] 3 1 [.int .i64 s, .int .u32 t, .int .u64 e] rfl rfl)
    go_wp2_with (at_builtin; refine wpl_append _ rfl (.tmp 18) (.tmp 22) 27 rfl (w.heap.size + 3) 73 (.agg #[.int .i64 0, .int .u32 0, .int .u64 0]) 3 24 Try.underlying27 info_TD rfl (by decide) _ n D rfl (HO.out.alloc _) _ _ 1 1 [.int .i64 s, .int .u32 t, .int .u64 e] rfl HRow.out (by simp [Value.oneCell']) ?d1 ?d2 ?d3 ?_)
    case d1 => unfold maxLen; omega
    case d2 => omega
    case d3 => simp; omega
    intro v6 w6 hown6 hg6 _
    have hne : ∀ k, k < w3.heap.size → some k ≠ v.ownBlock := fun k hk e => by have := HV.out k e.symm; omega
    have P6 := (HP4.out.alloc (.cells #[.int .i64 s, .int .u32 t, .int .u64 e] 73)).grown hg6 (hne _ (by omega))
    have R6 := (HR4.out.alloc (.cells #[.int .i64 s, .int .u32 t, .int .u64 e] 73)).grown hg6 (hne _ (by omega))
    have B6 : Below w.heap.size w w6 := (HB4.out.alloc (by omega) _).grown hg6 (by simp; omega) (fun q hq => by have := HV.out q hq; omega)
    obtain ⟨A6, c6, rfl⟩ := own_form hown6
    obtain ⟨g6, cur, rfl, hgb, _, _⟩ := own_wholeX hown6 (by omega)
    have O1 := row_farX (p := ⟨w.heap.size + 1 + 1, 1, none⟩) (u := .slice (some ⟨g6, 0, none⟩) (n + 1) c6) (row_farX (p := ⟨w.heap.size + 1 + 1, 0, none⟩) (u := .slice Ax an ac) (row_farX (p := ⟨w.heap.size, 1, none⟩) (u := .slice (some ⟨g6, 0, none⟩) (n + 1) c6) (Row.of_own hown6) (fun a ha e => by injection ha with ha; subst ha; have e : w.heap.size = g6 := e; omega)) (fun a ha e => by injection ha with ha; subst ha; have e : w.heap.size + 1 + 1 = g6 := e; omega)) (fun a ha e => by injection ha with ha; subst ha; have e : w.heap.size + 1 + 1 = g6 := e; omega)
    have HF := Lib.hid (show PRow B n w (some ⟨g6, 0, none⟩) (((w6.setCell ⟨w.heap.size, 1, none⟩ (.slice (some ⟨g6, 0, none⟩) (n + 1) c6)).setCell ⟨w.heap.size + 1 + 1, 0, none⟩ (.slice Ax an ac)).setCell ⟨w.heap.size + 1 + 1, 1, none⟩ (.slice (some ⟨g6, 0, none⟩) (n + 1) c6)) (n + (0 + 1)) (D ++ [.int .i64 s, .int .u32 t, .int .u64 e]) from
      ⟨by simpa using O1, .inr (fun a ha => by injection ha with ha; subst ha; show w.heap.size ≤ g6; omega), ((B6.setCell (p := ⟨w.heap.size, 1, none⟩) (Nat.le_refl _) _).setCell (p := ⟨w.heap.size + 1 + 1, 0, none⟩) (by show w.heap.size ≤ w.heap.size + 1 + 1; omega) _).setCell (p := ⟨w.heap.size + 1 + 1, 1, none⟩) (by show w.heap.size ≤ w.heap.size + 1 + 1; omega) _⟩)
    have p0 := P6.cell 0
    have p1 := P6.cell 1
    have pf1 := P6.free 1
    have lP := P6.lt
    have r0 := R6.cell 0
    have r1 := R6.cell 1
    have rf0 := R6.free 0
    have rf1 := R6.free 1
    have lR := R6.lt
    clear hown6 hg6 hne P6 R6 B6 O1 HO HV HP4 HF4 HR4 HB4 HRow f0 f1
    go_wp2_with fail
    exact bodyPost_ret (v := .tuple #[.agg #[.slice Ax an ac, .slice (some ⟨g6, 0, none⟩) (n + 1) c6], .int .i64 0]) (by simp [results, Try.results16, go_sem, r0, r1, lR]) rfl ⟨_, c6, rfl, HF.out⟩
end Go.Proofs.Ytgacejencnkpmaa
