/-
  Package rtcp's readers of bodies: what the closures share.
-/
import Derived.Test.YtcjmiidnhbmclaaDoorRcK
namespace Go.Proofs.YtcjmiidnhbmclaaDoor
open Go.RowKit
set_option maxRecDepth 100000
variable {lo : Nat}
/-- Nothing that was is turned but blocks gm and g. -/
structure Prt (gm g : Nat) (w w' : World) : Prop where
  os : w'.os = w.os
  tape : w'.tape = w.tape
  output : w'.output = w.output
  size : w.heap.size ≤ w'.heap.size
  block : ∀ k, k < w.heap.size → k ≠ gm → k ≠ g → w'.heap[k]? = w.heap[k]?
section
variable {gm g : Nat} {w w' w'' : World}
theorem Prt.refl (gm g : Nat) (w : World) : Prt gm g w w := ⟨rfl, rfl, rfl, Nat.le_refl _, fun _ _ _ _ => rfl⟩
theorem Prt.trans (h : Prt gm g w w') (k : Prt gm g w' w'') : Prt gm g w w'' :=
  ⟨k.os.trans h.os, k.tape.trans h.tape, k.output.trans h.output, Nat.le_trans h.size k.size, fun i hi h1 h2 => (k.block i (Nat.lt_of_lt_of_le hi h.size) h1 h2).trans (h.block i hi h1 h2)⟩
theorem Prt.drew (h : Prt gm g w w') : Prt gm g w w'.drew := ⟨h.os, h.tape, h.output, h.size, h.block⟩
theorem Prt.of_grown (h : w.grownBy w' (some g)) : Prt gm g w w' := ⟨h.os, h.tape, h.output, h.size, fun i hi _ h2 => h.block i hi (fun e => h2 (by injection e))⟩
theorem Prt.of_drewn (h : w.drew.grownBy w' (some g)) : Prt gm g w w' := Prt.of_grown (grown_drewR h)
theorem Prt.next (h : Prt gm g w w') (k : w'.grownBy w'' (some g)) : Prt gm g w w'' := h.trans (Prt.of_grown k)
theorem Prt.set (h : Prt gm g w w') (i : Nat) (u : Value) : Prt gm g w (w'.setCell ⟨gm, i, none⟩ u) :=
  ⟨h.os, h.tape, h.output, by simpa using h.size, fun k hk h1 h2 => (Below.heap_setCell _ _ _ _ h1).trans (h.block k hk h1 h2)⟩
theorem Prt.below (h : Prt gm g w w') {B : Nat} (hB : B ≤ w.heap.size) (h1 : B ≤ gm) (h2 : B ≤ g) : Below B w w' := ⟨h.os, h.tape, h.output, h.size, fun i hi => h.block i (by omega) (by omega) (by omega)⟩
theorem Prt.from (hb : Below w.heap.size w w') (k : Prt gm g w' w'') : Prt gm g w w'' := (Prt.mk hb.os hb.tape hb.output hb.size (fun i hi _ _ => hb.block i hi)).trans k
theorem Prt.of_below (hb : Below w.heap.size w w') : Prt gm g w w' := ⟨hb.os, hb.tape, hb.output, hb.size, fun i hi _ _ => hb.block i hi⟩
theorem Whole.prt {b : Nat} {t : TypeId} {cs : Array Value} (h : Whole w b t cs) (k : Prt gm g w w') (h1 : b ≠ gm) (h2 : b ≠ g) : Whole w' b t cs := (k.block b h.lt h1 h2).trans h
end
theorem CutAt.farset {w : World} {g : Nat} {l : List UInt8} {e : Int} (h : CutAt w lo g l e) {gm : Nat} (hlo : gm < lo ∨ g < gm) (hg : lo ≤ g) (i : Nat) (u : Value) : CutAt (w.setCell ⟨gm, i, none⟩ u) lo g l e := by
  rcases hlo with h1 | h1
  · exact h.low h1 hg u
  · exact h.far h1 u

/-- A message's rows lie in blocks from B on. -/
def SlNew (B : Nat) (s : Sl) : Prop := (∀ a, s.rA = some a → B ≤ a.block) ∧ (∀ a, s.wA = some a → B ≤ a.block) ∧ (∀ a, s.pA = some a → B ≤ a.block) ∧ (∀ a, s.aA = some a → B ≤ a.block)
theorem SlNew.less {B B' : Nat} {s : Sl} (h : SlNew B s) (hb : B' ≤ B) : SlNew B' s :=
  ⟨fun a e => Nat.le_trans hb (h.1 a e), fun a e => Nat.le_trans hb (h.2.1 a e), fun a e => Nat.le_trans hb (h.2.2.1 a e), fun a e => Nat.le_trans hb (h.2.2.2 a e)⟩
theorem SlNew.empty (B : Nat) : SlNew B ⟨none, 0, none, 0, none, 0, none, 0⟩ := ⟨fun _ e => (by cases e), fun _ e => (by cases e), fun _ e => (by cases e), fun _ e => (by cases e)⟩
theorem Row.setNew {w : World} {B z n b rx : Nat} {A : Option Addr} {xs : List Value} (h : Row w B z A n xs) (hA : ∀ a, A = some a → b ≤ a.block) (hr : rx < b) (i : Nat) (u : Value) : Row (w.setCell ⟨rx, i, none⟩ u) B z A n xs := by
  refine ⟨h.1, fun hn => ?_⟩
  obtain ⟨g, o, e, hg, hc⟩ := h.2 hn
  have hgb : b ≤ g := hA _ e
  refine ⟨g, o, e, hg, fun j v hj => ?_⟩
  rw [World.cell?_setCell_other _ _ _ _ (fun e => by injection e with e; omega)]
  exact hc j v hj
theorem CmAt.setNew {w : World} {B b rx : Nat} {m : Ms} {s : Sl} (h : CmAt w B m s) (hs : SlNew b s) (hr : rx < b) (i : Nat) (u : Value) : CmAt (w.setCell ⟨rx, i, none⟩ u) B m s :=
  ⟨h.reps.setNew hs.1 hr i u, h.who.setNew hs.2.1 hr i u, h.pairs.setNew hs.2.2.1 hr i u, h.asks.setNew hs.2.2.2 hr i u⟩

/-- What a closure's call tells: the message in block gm, its rows, and the cut. -/
def ReadR (m' : List UInt8 → Ms) (z : Nat) (lo gm g : Nat) (l : List UInt8) (w : World) (en : Ending) (w' : World) : Prop :=
  ∃ (m : Ms) (s : Sl) (l' : List UInt8) (e' : Int), en = .returned (.tuple #[]) ∧ Whole w' gm 59 (m.cells s).toArray ∧ CmAt w' w'.heap.size m s ∧ SlNew w.heap.size s ∧ m.Fits ∧ (e' = 0 → m = m' l) ∧ e' = (if z ≤ l.length then 0 else 10) ∧ CutAt w' lo g l' e' ∧ Prt gm g w w'

theorem rdRep_drop (l : List UInt8) (a b : Nat) : rdRep (l.drop a) b = rdRep l (a + b) := by
  unfold rdRep
  simp only [numAt_drop, Nat.add_assoc]
theorem own_setG {w : World} {base gm : Nat} {t : TypeId} {z n : Nat} {v : Value} {xs : List Value} (h : w.ownsRow base t z v n xs) (hlt : gm < base) (i : Nat) (u : Value) : (w.setCell ⟨gm, i, none⟩ u).ownsRow base t z v n xs :=
  own_grownG h (grown_set w gm i u) hlt
end Go.Proofs.YtcjmiidnhbmclaaDoor
