/-
  For the laws of layer 15: the arena and the document's slots side by side, and the row of Refs that were told.
-/
import Derived.Test.YtejfjjgcajdjmaaArC
import Derived.Test.YtejfjjgcajdjmaaArF
namespace Go.Proofs.Ytejfjjgcajdjmaa
open Go.RowKit
set_option linter.unusedSimpArgs false
set_option linter.unusedVariables false

/-- A row stays, where none of its block is turned. -/
theorem row_but {S : Nat → Prop} {w w' : World} {B z n : Nat} {A : Option Addr} {xs : List Value} (h : Row w B z A n xs) (hB : B ≤ w.heap.size) (k : But S w w') (hS : ∀ a, A = some a → ¬ S a.block) : Row w' B z A n xs :=
  ⟨h.1, fun hn => by
    obtain ⟨g, o, e, hb, hc⟩ := h.2 hn
    exact ⟨g, o, e, hb, fun j u hu => (World.cell?_of_block (a := ⟨g, o + j, none⟩) (k.block g (by omega) (hS _ e))).trans (hc j u hu)⟩⟩
theorem own_but15 {w w' : World} {S : Nat → Prop} {base : Nat} {e : TypeId} {z n : Nat} {v : Value} {xs : List Value} (h : w.ownsRow base e z v n xs) (k : But S w w') (hv : ∀ q, v.ownBlock = some q → ¬ S q) : w'.ownsRow base e z v n xs := by
  refine ⟨h.1, h.2.imp id ?_⟩
  rintro ⟨g, cap, cur, h1, h2, h3, h4⟩
  have hg : ¬ S g := hv g (by rw [h1]; rfl)
  have hlt : g < w.heap.size := (Array.getElem?_eq_some_iff.1 h3).1
  exact ⟨g, cap, cur, h1, h2, (k.block g hlt hg).trans h3, h4⟩

theorem refC_length (l : List (Nat × Nat)) : (refC l).length = l.length * 2 := by
  induction l with
  | nil => rfl
  | cons y l ih => unfold refC at *; simp only [List.map_cons, List.flatten_cons, List.length_append, List.length_cons, List.length_nil, ih]; omega
theorem refC_get {l : List (Nat × Nat)} : ∀ {i : Nat} {y : Nat × Nat}, l[i]? = some y → (refC l)[i * 2]? = some (.int .i64 (y.1 : Int)) ∧ (refC l)[i * 2 + 1]? = some (.int .u32 (y.2 : Int)) := by
  induction l with
  | nil => intro i y h; simp at h
  | cons a l ih =>
    intro i y h
    have e : refC (a :: l) = .int .i64 (a.1 : Int) :: .int .u32 (a.2 : Int) :: refC l := rfl
    rw [e]
    cases i with
    | zero => simp at h; subst h; exact ⟨rfl, rfl⟩
    | succ i =>
      have := ih (i := i) (y := y) (by simpa using h)
      rw [show (i + 1) * 2 = i * 2 + 2 by omega]
      exact this
/-- Numbers stand there. -/
def NumC (l : List Sl) : Prop := ∀ y ∈ l, ∃ x : Int, y.x = .int .i64 x
theorem NumC.one {l : List Sl} (h : NumC l) : OneC l := fun y hy => by obtain ⟨x, hx⟩ := h y hy; rw [hx]; rfl
theorem NumC.fresh (n : Nat) : NumC (freshA zI n) := fun y hy => by unfold freshA at hy; rw [List.eq_of_mem_replicate hy]; exact ⟨0, rfl⟩
theorem NumC.take {l : List Sl} (h : NumC l) (x : Int) : NumC (takeA l (.int .i64 x)) := by
  unfold takeA
  by_cases hl : lowA l < l.length
  · rw [if_pos hl]; exact fun y hy => (List.mem_or_eq_of_mem_set hy).elim (h y) (fun e => by rw [e]; exact ⟨x, rfl⟩)
  · rw [if_neg hl]; exact h
theorem NumC.free {l : List Sl} (h : NumC l) (s t : Int) : NumC (freeA zI l s t) := by
  unfold freeA
  by_cases hl : (getA l s t).isSome = true
  · rw [if_pos hl]; exact fun y hy => (List.mem_or_eq_of_mem_set hy).elim (h y) (fun e => by rw [e]; exact ⟨0, rfl⟩)
  · rw [if_neg hl]; exact h
/-- What both Gets tell. -/
theorem got_same {l : List Sl} (h : NumC l) (s t : Int) : ∃ x e : Int, gotA zI l s t = .tuple #[.int .i64 x, .int .i64 e] ∧ gotD (.int .i64 0) l s t = .tuple #[.int .i64 x, .int .i64 e] := by
  unfold gotA gotD
  cases hg : getA l s t with
  | none => exact ⟨0, 26, rfl, rfl⟩
  | some v =>
    obtain ⟨_, y, hy, _, _, hx⟩ := getA_turn hg
    obtain ⟨x, h1⟩ := h y (List.mem_of_getElem? hy)
    rw [hx] at h1
    subst h1
    exact ⟨x, 0, rfl, rfl⟩
theorem freeA_zI (l : List Sl) (s t : Int) : freeA (.int .i64 0) l s t = freeA zI l s t := rfl

/-- The arena (la), the document's slots (ld), and the Refs that were told, in one world. -/
structure Sync (w0 : World) (g n : Nat) (la ld : List Sl) (S : Nat → Prop) (A : Option Addr) (told : List (Nat × Nat)) (v9 : Value) (wr : World) : Prop where
  len : ld.length = n
  pos : 0 < n
  ar : ArAt true wr g S la
  sLo : ∀ j, S j → w0.heap.size ≤ j
  row : Row wr wr.heap.size 3 A n (docC ld)
  rowLo : ∀ a, A = some a → w0.heap.size ≤ a.block ∧ ¬ S a.block ∧ v9.ownBlock ≠ some a.block
  own : wr.ownsRow w0.heap.size 30 2 v9 told.length (refC told)
  ownNot : ∀ b, v9.ownBlock = some b → ¬ S b
  below : Below w0.heap.size w0 wr

section
variable {w0 wr w' : World} {g n : Nat} {la ld : List Sl} {S : Nat → Prop} {A : Option Addr} {told : List (Nat × Nat)} {v9 : Value}
theorem Sync.next (h : Sync w0 g n la ld S A told v9 wr) (hb : Below wr.heap.size wr w') : Sync w0 g n la ld S A told v9 w' :=
  ⟨h.len, h.pos, h.ar.next hb, h.sLo, (h.row.below hb (Nat.le_refl _)).more hb.size, h.rowLo, own_below h.own hb (Nat.le_refl _), h.ownNot, h.below.trans (hb.mono h.below.size)⟩
/-- A step of the document's slots. -/
theorem Sync.doc (h : Sync w0 g n la ld S A told v9 wr) {A' : Option Addr} {c c' : Nat} {l' : List Sl} (hl : l'.length = ld.length) (d : DRow A c ld wr A' c' l' w') : Sync w0 g n la l' S A' told v9 w' := by
  obtain ⟨h1, h2, h3⟩ := d
  rw [h.len] at h1
  refine ⟨hl.trans h.len, h.pos, h.ar.next h3, h.sLo, h1, fun a ha => ?_, own_below h.own h3 (Nat.le_refl _), h.ownNot, h.below.trans (h3.mono h.below.size)⟩
  rcases h2 with ⟨rfl, _⟩ | h2
  · exact h.rowLo a ha
  · have hge := h2 a ha
    exact ⟨Nat.le_trans h.below.size hge, fun hs => Nat.not_lt_of_le hge (h.ar.lt _ hs), fun ho => Nat.not_lt_of_le hge (h.own.lt _ ho).2⟩
/-- A step of the arena. -/
theorem Sync.arena (h : Sync w0 g n la ld S A told v9 wr) {S' : Nat → Prop} {l' : List Sl} (d : ArAt true w' g S' l') (k : But S wr w') (m : ∀ k, k < wr.heap.size → S' k → S k) : Sync w0 g n l' ld S' A told v9 w' := by
  have hb : Below w0.heap.size w0 w' := h.below.trans (k.below h.below.size (fun j hj hs => Nat.not_le_of_lt hj (h.sLo j hs)))
  refine ⟨h.len, h.pos, d, fun j hj => (Nat.lt_or_ge j wr.heap.size).elim (fun hl => h.sLo j (m j hl hj)) (fun hl => Nat.le_trans h.below.size hl), (row_but h.row (Nat.le_refl _) k (fun a ha => (h.rowLo a ha).2.1)).more k.size, fun a ha => ?_, own_but15 h.own k h.ownNot, fun b hb hs => h.ownNot b hb (m b (h.own.lt b hb).2 hs), hb⟩
  obtain ⟨h1, h2, h3⟩ := h.rowLo a ha
  refine ⟨h1, fun hs => h2 (m _ ?_ hs), h3⟩
  obtain ⟨g', o', e, hlt, _⟩ := h.row.2 h.pos
  rw [e] at ha
  injection ha with ha
  subst ha
  exact hlt
/-- A Ref that is told goes into the row. -/
theorem Sync.add (h : Sync w0 g n la ld S A told v9 wr) {v' : Value} {p : Nat × Nat} (o : w'.ownsRow w0.heap.size 30 2 v' (told.length + 1) (refC told ++ [.int .i64 (p.1 : Int), .int .u32 (p.2 : Int)])) (gr : wr.grownBy w' v9.ownBlock)
    (hv : v'.ownBlock = v9.ownBlock ∨ v'.ownBlock = some wr.heap.size) : Sync w0 g n la ld S A (told ++ [p]) v' w' := by
  have hrl : ∀ a, A = some a → a.block < wr.heap.size := by
    intro a ha
    obtain ⟨g', o', e, hlt, _⟩ := h.row.2 h.pos
    rw [e] at ha
    injection ha with ha
    subst ha
    exact hlt
  refine ⟨h.len, h.pos, h.ar.keep gr.size (fun k hk => gr.block k (h.ar.lt k hk) (fun e => h.ownNot k e.symm hk)), h.sLo, ?_, fun a ha => ⟨(h.rowLo a ha).1, (h.rowLo a ha).2.1, ?_⟩, ?_, ?_, h.below.grown gr h.below.size (fun q hq => (h.own.lt q hq).1)⟩
  · refine ⟨h.row.1, fun hn => ?_⟩
    obtain ⟨g', o', e, hb, hc⟩ := h.row.2 hn
    exact ⟨g', o', e, Nat.lt_of_lt_of_le hb gr.size, fun j u hu => (World.cell?_of_block (a := ⟨g', o' + j, none⟩) (gr.block g' hb (fun e' => (h.rowLo _ e).2.2 e'.symm))).trans (hc j u hu)⟩
  · rcases hv with hv | hv
    · rw [hv]; exact (h.rowLo a ha).2.2
    · rw [hv]; intro e; injection e with e; have := hrl a ha; omega
  · rw [refC_add, List.length_append]; exact o
  · intro b hb hs
    rcases hv with hv | hv
    · exact h.ownNot b (hv ▸ hb) hs
    · rw [hv] at hb; injection hb with hb; have := h.ar.lt b hs; omega
end
end Go.Proofs.Ytejfjjgcajdjmaa
