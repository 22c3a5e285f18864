/-
  For PinsPlays: the code's thing, the document's workers and waits, and the law's own variable that holds them, in one world.
-/
import Derived.Test.YtgacejencnkpmaaPnA
import Derived.Test.YtgacejencnkpmaaPnF
import Derived.Test.YtgacejencnkpmaaPnI
namespace Go.Proofs.Ytgacejencnkpmaa
open Go.RowKit
set_option linter.unusedSimpArgs false
set_option linter.unusedVariables false

/-- Where a row with elements lies: in no block of S, not in X. -/
def FarSX (A : Option Addr) (n : Nat) (S : Nat → Prop) (X : Nat) : Prop := 0 < n → ∀ a, A = some a → ¬ S a.block ∧ a.block ≠ X
theorem row_lt {w : World} {z n : Nat} {A : Option Addr} {xs : List Value} (h : Row w w.heap.size z A n xs) (hn : 0 < n) : ∀ a, A = some a → a.block < w.heap.size := by
  intro a ha
  obtain ⟨g, o, e, hlt, _⟩ := h.2 hn
  rw [e] at ha
  injection ha with ha
  subst ha
  exact hlt
theorem row_butN {S : Nat → Prop} {w w' : World} {z n : Nat} {A : Option Addr} {xs : List Value} (h : Row w w.heap.size z A n xs) (k : But S w w') (hS : 0 < n → ∀ a, A = some a → ¬ S a.block) : Row w' w'.heap.size z A n xs :=
  ⟨h.1, fun hn => by
    obtain ⟨g, o, e, hb, hc⟩ := h.2 hn
    exact ⟨g, o, e, Nat.lt_of_lt_of_le hb k.size, fun j u hu => (World.cell?_of_block (a := ⟨g, o + j, none⟩) (k.block g hb (hS hn _ e))).trans (hc j u hu)⟩⟩
theorem row_farN {w : World} {z n : Nat} {A : Option Addr} {xs : List Value} {p : Addr} {u : Value} (h : Row w w.heap.size z A n xs) (hS : 0 < n → ∀ a, A = some a → a.block ≠ p.block) : Row (w.setCell p u) (w.setCell p u).heap.size z A n xs :=
  ⟨h.1, fun hn => by
    obtain ⟨g, o, e, hb, hc⟩ := h.2 hn
    exact ⟨g, o, e, by simpa using hb, fun j u' hu => (World.cell?_of_block (a := ⟨g, o + j, none⟩) (Below.heap_setCell _ _ _ _ (fun e' => hS hn _ e e'))).trans (hc j u' hu)⟩⟩

structure Syn (w0 : World) (g X : Nat) (l ld : List Wk) (q qd : List Wt) (S : Nat → Prop) (A B : Option Addr) (c d : Nat) (wr : World) : Prop where
  at' : PAt wr g S l q
  sLo : ∀ j, S j → w0.heap.size ≤ j
  x : Whole wr X 29 #[.slice A ld.length c, .slice B qd.length d]
  xLo : w0.heap.size ≤ X
  xS : ¬ S X
  rA : Row wr wr.heap.size 3 A ld.length (wdC ld)
  rB : Row wr wr.heap.size 3 B qd.length (wtC qd)
  fA : FarSX A ld.length S X
  fB : FarSX B qd.length S X
  below : Below w0.heap.size w0 wr

section
variable {w0 wr w' : World} {g X : Nat} {l ld : List Wk} {q qd : List Wt} {S : Nat → Prop} {A B : Option Addr} {c d : Nat}
theorem Syn.next (h : Syn w0 g X l ld q qd S A B c d wr) (hb : Below wr.heap.size wr w') : Syn w0 g X l ld q qd S A B c d w' :=
  ⟨h.at'.next hb, h.sLo, h.x.below hb h.x.lt, h.xLo, h.xS, (h.rA.below hb (Nat.le_refl _)).more hb.size, (h.rB.below hb (Nat.le_refl _)).more hb.size, h.fA, h.fB, h.below.trans (hb.mono h.below.size)⟩
/-- A call of the code's. -/
theorem Syn.code (h : Syn w0 g X l ld q qd S A B c d wr) {l' : List Wk} {q' : List Wt} {S' : Nat → Prop} (a : PAt w' g S' l' q') (k : But S wr w') (m : ∀ k, k < wr.heap.size → S' k → S k) : Syn w0 g X l' ld q' qd S' A B c d w' :=
  ⟨a, fun j hj => (Nat.lt_or_ge j wr.heap.size).elim (fun hl => h.sLo j (m j hl hj)) (fun hl => Nat.le_trans h.below.size hl), h.x.but k h.xS, h.xLo, fun hs => h.xS (m _ h.x.lt hs), row_butN h.rA k (fun hn a ha => (h.fA hn a ha).1), row_butN h.rB k (fun hn a ha => (h.fB hn a ha).1),
    fun hn a ha => ⟨fun hs => (h.fA hn a ha).1 (m _ (row_lt h.rA hn a ha) hs), (h.fA hn a ha).2⟩, fun hn a ha => ⟨fun hs => (h.fB hn a ha).1 (m _ (row_lt h.rB hn a ha) hs), (h.fB hn a ha).2⟩, h.below.trans (k.below h.below.size (fun j hj hs => Nat.not_le_of_lt hj (h.sLo j hs)))⟩
/-- The document's answer is stored into the law's variable: other workers. -/
theorem Syn.docA (h : Syn w0 g X l ld q qd S A B c d wr) {A' : Option Addr} {c' : Nat} {ld' : List Wk} {w1 : World} (p : PRow A ld.length wr A' w1 ld'.length (wdC ld')) (hb : Below w1.heap.size w1 w') :
    Syn w0 g X l ld' q qd S A' B c' d ((w'.setCell ⟨X, 0, none⟩ (.slice A' ld'.length c')).setCell ⟨X, 1, none⟩ (.slice B qd.length d)) := by
  obtain ⟨p1, p2, p3⟩ := p
  have hX := h.x.lt
  have hb2 : Below wr.heap.size wr w' := p3.trans (hb.mono p3.size)
  have H := h.next hb2
  have fA' : FarSX A' ld'.length S X := by
    intro hn a ha
    rcases p2 with ⟨rfl, e⟩ | p2
    · exact h.fA (by omega) a ha
    · have := p2 a ha
      exact ⟨fun hs => by have := h.at'.lt _ hs; omega, by omega⟩
  have rA' : Row w' w'.heap.size 3 A' ld'.length (wdC ld') := (p1.below hb (Nat.le_refl _)).more hb.size
  refine ⟨H.at'.keep (by simp) (fun k hk => ?_), h.sLo, ?_, h.xLo, h.xS, row_farN (row_farN rA' (fun hn a ha => (fA' hn a ha).2)) (fun hn a ha => (fA' hn a ha).2), row_farN (row_farN H.rB (fun hn a ha => (h.fB hn a ha).2)) (fun hn a ha => (h.fB hn a ha).2), fA', h.fB, (H.below.setCell (p := ⟨X, 0, none⟩) h.xLo _).setCell (p := ⟨X, 1, none⟩) h.xLo _⟩
  · have hk' : k ≠ X := fun e => h.xS (e ▸ hk)
    exact (Below.heap_setCell _ _ _ _ hk').trans (Below.heap_setCell _ _ _ _ hk')
  · exact (H.x.set 0 _).set 1 _
/-- .. or other waits. -/
theorem Syn.docB (h : Syn w0 g X l ld q qd S A B c d wr) {B' : Option Addr} {d' : Nat} {qd' : List Wt} {w1 : World} (p : PRow B qd.length wr B' w1 qd'.length (wtC qd')) (hb : Below w1.heap.size w1 w') :
    Syn w0 g X l ld q qd' S A B' c d' ((w'.setCell ⟨X, 0, none⟩ (.slice A ld.length c)).setCell ⟨X, 1, none⟩ (.slice B' qd'.length d')) := by
  obtain ⟨p1, p2, p3⟩ := p
  have hX := h.x.lt
  have hb2 : Below wr.heap.size wr w' := p3.trans (hb.mono p3.size)
  have H := h.next hb2
  have fB' : FarSX B' qd'.length S X := by
    intro hn a ha
    rcases p2 with ⟨rfl, e⟩ | p2
    · exact h.fB (by omega) a ha
    · have := p2 a ha
      exact ⟨fun hs => by have := h.at'.lt _ hs; omega, by omega⟩
  have rB' : Row w' w'.heap.size 3 B' qd'.length (wtC qd') := (p1.below hb (Nat.le_refl _)).more hb.size
  refine ⟨H.at'.keep (by simp) (fun k hk => ?_), h.sLo, ?_, h.xLo, h.xS, row_farN (row_farN H.rA (fun hn a ha => (h.fA hn a ha).2)) (fun hn a ha => (h.fA hn a ha).2), row_farN (row_farN rB' (fun hn a ha => (fB' hn a ha).2)) (fun hn a ha => (fB' hn a ha).2), h.fA, fB', (H.below.setCell (p := ⟨X, 0, none⟩) h.xLo _).setCell (p := ⟨X, 1, none⟩) h.xLo _⟩
  · have hk' : k ≠ X := fun e => h.xS (e ▸ hk)
    exact (Below.heap_setCell _ _ _ _ hk').trans (Below.heap_setCell _ _ _ _ hk')
  · exact (H.x.set 0 _).set 1 _
end
end Go.Proofs.Ytgacejencnkpmaa
