/-
  Contracts of the document's answers of layer 3 (louverref03).
-/
import Derived.Test.YtigimpnghecdiaaQueP
import Derived.Laws.OwnMore
namespace Go.Proofs.Ytigimpnghecdiaa
open Go.RowKit

/-- What the document's row is in memory, and as a value: the numbers l; the block that it lies in is such a one. -/
def RefRow (w : World) (P : Nat → Prop) (A : Option Addr) (c : Nat) (l : List Int) : Prop :=
  l.length ≤ c ∧ c ≤ maxLen ∧ Row w w.heap.size 1 A l.length (l.map (Value.int .i64)) ∧ ∀ a, A = some a → a.block < w.heap.size ∧ P a.block

section
variable {w w' : World} {P P' : Nat → Prop} {A : Option Addr} {c : Nat} {l : List Int}
theorem RefRow.next (h : RefRow w P A c l) (hb : Below w.heap.size w w') : RefRow w' P A c l :=
  ⟨h.1, h.2.1, (h.2.2.1.below hb (Nat.le_refl _)).more hb.size, fun a ha => ⟨Nat.lt_of_lt_of_le (h.2.2.2 a ha).1 hb.size, (h.2.2.2 a ha).2⟩⟩
theorem RefRow.keep (h : RefRow w P A c l) (hs : w.heap.size ≤ w'.heap.size) (hk : ∀ k, P k → k < w.heap.size → w'.heap[k]? = w.heap[k]?) : RefRow w' P A c l := by
  obtain ⟨h1, h2, h3, h4⟩ := h
  refine ⟨h1, h2, ⟨h3.1, fun hn => ?_⟩, fun a ha => ⟨Nat.lt_of_lt_of_le (h4 a ha).1 hs, (h4 a ha).2⟩⟩
  obtain ⟨g, o, e, hb, hc⟩ := h3.2 hn
  have hz := (h4 _ e).2
  exact ⟨g, o, e, by omega, fun j u hu => (World.cell?_of_block (a := ⟨g, o + j, none⟩) (hk g hz hb)).trans (hc j u hu)⟩
theorem RefRow.two {g r : Nat} (h : RefRow w P A c l) (k : Two g r w w') (hg : ¬ P g) (hr : ¬ P r) : RefRow w' P A c l :=
  h.keep (Nat.le_of_eq k.size.symm) fun i hi _ => k.block i (fun e => hg (e ▸ hi)) (fun e => hr (e ▸ hi))
theorem RefRow.set (h : RefRow w P A c l) {p : Addr} (hp : ¬ P p.block) (u : Value) : RefRow (w.setCell p u) P A c l :=
  h.keep (by simp) fun i hi _ => Below.heap_setCell _ _ _ _ (fun e => hp (e ▸ hi))
theorem RefRow.weak (h : RefRow w P A c l) (hP : ∀ b, b < w.heap.size → P b → P' b) : RefRow w P' A c l :=
  ⟨h.1, h.2.1, h.2.2.1, fun a ha => ⟨(h.2.2.2 a ha).1, hP _ (h.2.2.2 a ha).1 (h.2.2.2 a ha).2⟩⟩
theorem RefRow.drewN (h : RefRow w P A c l) (m : Nat) : RefRow (w.drewN m) P A c l := h
end

def RPushed (N : Nat) (b : Bool) (l : List Int) (P : Nat → Prop) (w : World) (e : Ending) (w' : World) : Prop :=
  ∃ A c, e = .returned (.tuple #[.agg #[.slice A l.length c, .int .i64 N], .bool b]) ∧ RefRow w' P A c l ∧ Below w.heap.size w w'

theorem refPush_no (A : Option Addr) (c : Nat) (l : List Int) (N : Nat) (x : Int) (P : Nat → Prop) (w : World) (h : RefRow w P A c l) (hN : N ≤ l.length) :
    Calls Try.prog 10 #[.agg #[.slice A l.length c, .int .i64 N], .int .i64 x] w (RPushed N false l P w) := by
  have ht : (N : Int) ≤ (l.length : Int) := by omega
  have b1 := ((Below.refl w.heap.size w).alloc (Nat.le_refl _) (.cells #[.slice A l.length c, .int .i64 N] 28))
  have H := fun o => h.next (b1.alloc (by simp) o)
  go_enter Try.func10, Try.ntmps10
  go_wp2
  exact bodyPost_ret (v := .tuple #[.agg #[.slice A l.length c, .int .i64 N], .bool false]) (by simp [results, Try.results10, go_sem]) rfl ⟨A, c, rfl, H _, b1.alloc (by simp) _⟩

theorem refPush_yes (A : Option Addr) (c : Nat) (l : List Int) (N : Nat) (x : Int) (P : Nat → Prop) (w : World) (h : RefRow w P A c l) (hN : l.length < N) (hl : l.length ≤ 4096) (hz : ∀ b, w.heap.size ≤ b → P b) :
    Calls Try.prog 10 #[.agg #[.slice A l.length c, .int .i64 N], .int .i64 x] w (RPushed N true (l ++ [x]) P w) := by
  have ht : ¬ (N : Int) ≤ (l.length : Int) := by omega
  have hq1 := (Whole.new w 28 #[.slice A l.length c, .int .i64 N]).alloc (.cells #[.slice none 0 0, .int .i64 0] 28)
  have hq2 := Whole.new2 w (.cells #[.slice A l.length c, .int .i64 N] 28) 28 #[.slice none 0 0, .int .i64 0]
  have b2 := ((Below.refl w.heap.size w).alloc (Nat.le_refl _) (.cells #[.slice A l.length c, .int .i64 N] 28)).alloc (by simp) (.cells #[.slice none 0 0, .int .i64 0] 28)
  have r2 := h.2.2.1.below b2 (Nat.le_refl _)
  have hl2 : (l ++ [x]).length = l.length + 1 := by simp
  have HL2 := Lib.hid hl2
  clear h hl2
  go_enter Try.func10, Try.ntmps10
  go_wp2_with (at_builtin; refine wpl_append _ rfl (.tmp 14) (.tmp 16) 26 rfl (w.heap.size + 2) 3 (.int .i64 0) 1 8 Try.underlying26 info_I rfl (by decide) _ 0 [] rfl (World.ownsRow_nil _ _ _ _) _ _ l.length c _ rfl r2 (by intro u hu; obtain ⟨_, _, rfl⟩ := List.mem_map.1 hu; rfl) ?c1 ?c2 ?c3 ?_)
  case c1 => unfold maxLen; omega
  case c2 => omega
  intro v3 w3 hown3 hg3 _
  have hq1 := hq1.grown hg3 (by simp [Value.ownBlock])
  have hq2 := hq2.grown hg3 (by simp [Value.ownBlock])
  have b3 := b2.grown hg3 (by simp; omega) (fun q hq => by simp [Value.ownBlock] at hq)
  have hz3 : w.heap.size + 2 ≤ w3.heap.size := by have := hg3.size; simp at this; omega
  clear hg3 r2 b2
  go_wp2_with (at_builtin; refine wpl_append _ rfl (.tmp 18) (.tmp 20) 26 rfl (w.heap.size + 2) 3 (.int .i64 0) 1 8 Try.underlying26 info_I rfl (by decide) _ _ _ rfl (hown3.alloc _) _ _ 1 1 [.int .i64 x] rfl (Row.fresh w3 3 #[.int .i64 x] 1 1 _ rfl rfl) (by simp [Value.oneCell']) ?d1 ?d2 ?d3 ?_)
  case d1 => unfold maxLen; omega
  case d2 => omega
  case d3 => first | omega | (simp; omega)
  intro v4 w4 hown4 hg4 _
  have hfar := fun q hq => (hown3.lt q hq).1
  have hq1 := (hq1.alloc _).grown hg4 (fun e => by have := hfar _ e.symm; omega)
  have hq2 := (hq2.alloc _).grown hg4 (fun e => by have := hfar _ e.symm; omega)
  have b4 := (b3.alloc (by omega) _).grown hg4 (by simp; omega) (fun q hq => by have := hfar q hq; omega)
  obtain ⟨A4, c4, rfl⟩ := own_form hown4
  have hc0 := hq1.cell 0
  have hc1 := hq1.cell 1
  have hd0 := hq2.cell 0
  have hd1 := hq2.cell 1
  have hf0 := hq1.free 0
  have hf1 := hq2.free 0
  have hf2 := hq2.free 1
  have hfin : ∀ u1 u2 u3, RPushed N true (l ++ [x]) P w (.returned (.tuple #[.agg #[.slice A4 (l.length + 1) c4, .int .i64 N], .bool true])) (((w4.setCell ⟨w.heap.size, 0, none⟩ u1).setCell ⟨w.heap.size + 1, 0, none⟩ u2).setCell ⟨w.heap.size + 1, 1, none⟩ u3) := by
    intro u1 u2 u3
    have hown5 := ownsRow_setCell_below (ownsRow_setCell_below (ownsRow_setCell_below hown4 (a := ⟨w.heap.size, 0, none⟩) (by simp) u1) (a := ⟨w.heap.size + 1, 0, none⟩) (by simp) u2) (a := ⟨w.heap.size + 1, 1, none⟩) (by simp) u3
    have e : (l ++ [x]).map (Value.int .i64) = l.map (Value.int .i64) ++ [.int .i64 x] := by simp
    refine ⟨A4, c4, by rw [HL2.out], ⟨by rw [HL2.out]; exact (own_cap hown4).1, (own_cap hown4).2, ?_⟩, ((b4.setCell (by simp) _).setCell (by simp) _).setCell (by simp) _⟩
    refine ⟨?_, fun a ha => ⟨by subst ha; exact (hown5.lt a.block rfl).2, hz _ (by have := own_lo hown4 a ha; omega)⟩⟩
    rw [HL2.out, e]
    exact Row.of_own hown5
  have HF := Lib.hid hfin
  clear hfin hown3 hown4 hg4 hfar b3 b4 hq1 hq2
  go_wp2
  refine bodyPost_ret (v := .tuple #[.agg #[.slice A4 (l.length + 1) c4, .int .i64 N], .bool true]) (by simp [results, Try.results10, go_sem, hd0, hd1]) rfl (HF.out _ _ _)

def RPopped (N : Nat) (x : Int) (b : Bool) (l : List Int) (P : Nat → Prop) (w : World) (e : Ending) (w' : World) : Prop :=
  ∃ A c, e = .returned (.tuple #[.agg #[.slice A l.length c, .int .i64 N], .int .i64 x, .bool b]) ∧ RefRow w' P A c l ∧ Below w.heap.size w w'

theorem refPop_no (A : Option Addr) (c : Nat) (N : Nat) (P : Nat → Prop) (w : World) (h : RefRow w P A c []) :
    Calls Try.prog 12 #[.agg #[.slice A 0 c, .int .i64 N]] w (RPopped N 0 false [] P w) := by
  have b1 := ((Below.refl w.heap.size w).alloc (Nat.le_refl _) (.cells #[.slice A 0 c, .int .i64 N] 28))
  have H := fun o => h.next (b1.alloc (by simp) o)
  go_enter Try.func12, Try.ntmps12
  go_wp2
  exact bodyPost_ret (v := .tuple #[.agg #[.slice A 0 c, .int .i64 N], .int .i64 0, .bool false]) (by simp [results, Try.results12, go_sem]) rfl ⟨A, c, rfl, H _, b1.alloc (by simp) _⟩

theorem refPop_yes (A : Option Addr) (c : Nat) (l : List Int) (x : Int) (N : Nat) (P : Nat → Prop) (w : World) (h : RefRow w P A c (x :: l)) :
    Calls Try.prog 12 #[.agg #[.slice A (l.length + 1) c, .int .i64 N]] w (RPopped N x true l P w) := by
  obtain ⟨h1, h2, h3, h4⟩ := h
  have h30 := h3
  obtain ⟨g, o, hA, hg, hcell⟩ := h3.2 (by simp)
  subst hA
  have hzg := h4 _ rfl
  have hx := hcell 0 _ rfl
  rw [Nat.add_zero] at hx
  rw [List.length_cons] at h1
  have h2' := h2
  unfold maxLen at h2'
  have hdrop : ∀ w' A', Below w.heap.size w w' → (A' = if c = 1 then some ⟨g, o, none⟩ else (some (⟨g, o, none⟩ : Addr)).map fun x => x.add 1) → RPopped N x true l P w (.returned (.tuple #[.agg #[.slice A' l.length (c - 1), .int .i64 N], .int .i64 x, .bool true])) w' := by
    intro w' A' hb hA'
    have hd := Row.drop (k := 1) (c := c) (A' := A') h30 (by simp) (by simpa using h1) hA'
    exact ⟨A', c - 1, rfl, ⟨by omega, by unfold maxLen; omega, by simpa using (hd.below hb (Nat.le_refl _)).more hb.size, fun a ha => by
      rw [hA'] at ha
      split at ha <;> simp [Addr.add_lit] at ha <;> subst ha <;> exact ⟨Nat.lt_of_lt_of_le hg hb.size, hzg.2⟩⟩, hb⟩
  have H := Lib.hid hdrop
  have b2 := ((Below.refl w.heap.size w).alloc (Nat.le_refl _) (.cells #[.slice (some ⟨g, o, none⟩) (l.length + 1) c, .int .i64 N] 28)).alloc (by simp) (.cells #[.slice none 0 0, .int .i64 0] 28)
  have hx2 := (b2.cell (p := ⟨g, o, none⟩) hg).trans hx
  have hc1 : 1 ≤ c := by omega
  have hne : g ≠ w.heap.size := by omega
  have hne2 : g ≠ w.heap.size + 1 := by omega
  clear hdrop hcell h30 h3
  by_cases hc : c = 1
  · have hl0 : l.length = 0 := by omega
    obtain rfl : l = [] := List.eq_nil_of_length_eq_zero hl0
    subst hc
    go_enter Try.func12, Try.ntmps12
    go_wp2
    exact bodyPost_ret (v := .tuple #[.agg #[.slice (some ⟨g, o, none⟩) 0 0, .int .i64 N], .int .i64 x, .bool true]) (by simp [results, Try.results12, go_sem]) rfl (H.out _ _ (((Below.refl _ _).alloc (Nat.le_refl _) _).alloc (by simp) _) (by simp))
  · go_enter Try.func12, Try.ntmps12
    go_wp2
    exact bodyPost_ret (v := .tuple #[.agg #[.slice (some ⟨g, o + 1, none⟩) l.length (c - 1), .int .i64 N], .int .i64 x, .bool true]) (by simp [results, Try.results12, go_sem]) rfl (H.out _ _ (((Below.refl _ _).alloc (Nat.le_refl _) _).alloc (by simp) _) (by simp [hc, Addr.add_lit]))
end Go.Proofs.Ytigimpnghecdiaa
