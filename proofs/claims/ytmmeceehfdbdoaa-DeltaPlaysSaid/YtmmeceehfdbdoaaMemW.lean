/-
  Plain words on memory beside the first ones: what is kept below a later world, and 'nothing that was is turned but for the blocks of S'. Nothing here names the program but for its types' numbers.
-/
import Derived.Test.YtmmeceehfdbdoaaWords
namespace Go.Proofs.Ytmmeceehfdbdoaa
open Go.RowKit

theorem bnext {w w1 w2 : World} (h1 : Below w.heap.size w w1) (h2 : Below w1.heap.size w1 w2) : Below w.heap.size w w2 := h1.trans (h2.mono h1.size)
theorem bdrewN {w w' : World} {B : Nat} (h : Below B w w') (m : Nat) : Below B w (w'.drewN m) := ⟨h.os, h.tape, h.output, h.size, h.block⟩
theorem ret_i64 {a b : Int} (h : a = b) : Ending.returned (.int .i64 a) = .returned (.int .i64 b) := by rw [h]
theorem ret_bool {a b : Bool} (h : a = b) : Ending.returned (.bool a) = .returned (.bool b) := by rw [h]
theorem own_below {w w' : World} {base : Nat} {e : TypeId} {z n : Nat} {v : Value} {xs : List Value} {b : Nat} (h : w.ownsRow base e z v n xs) (k : Below b w w') (hb : w.heap.size ≤ b) : w'.ownsRow base e z v n xs :=
  h.kept (row := none) ⟨k.os, k.tape, k.output, k.size, fun i hi _ => k.block i (by omega)⟩ (by cases v.ownBlock <;> simp)
theorem Row.fresh2 (w : World) (o : Obj) (t : TypeId) (cs : Array Value) (z n : Nat) (xs : List Value) (h : cs.size = n * z) (hx : cs.toList = xs) :
    Row ((w.alloc o).alloc (.cells cs t)) ((w.alloc o).alloc (.cells cs t)).heap.size z (some ⟨w.heap.size + 1, 0, none⟩) n xs := by
  have := Row.fresh (w.alloc o) t cs z n xs h hx
  simpa using this

/-! ### But for the blocks of S nothing that was is turned -/
structure But (S : Nat → Prop) (w w' : World) : Prop where
  os : w'.os = w.os
  tape : w'.tape = w.tape
  output : w'.output = w.output
  size : w.heap.size ≤ w'.heap.size
  block : ∀ k, k < w.heap.size → ¬ S k → w'.heap[k]? = w.heap[k]?

section
variable {S S' : Nat → Prop} {w w' w'' : World}
theorem But.refl (S : Nat → Prop) (w : World) : But S w w := ⟨rfl, rfl, rfl, Nat.le_refl _, fun _ _ _ => rfl⟩
theorem But.drewN (h : But S w w') (m : Nat) : But S w (w'.drewN m) := ⟨h.os, h.tape, h.output, h.size, h.block⟩
theorem But.drew (h : But S w w') : But S w w'.drew := ⟨h.os, h.tape, h.output, h.size, h.block⟩
theorem But.trans (h : But S w w') (k : But S w' w'') : But S w w'' :=
  ⟨k.os.trans h.os, k.tape.trans h.tape, k.output.trans h.output, Nat.le_trans h.size k.size, fun i h1 h2 => (k.block i (Nat.lt_of_lt_of_le h1 h.size) h2).trans (h.block i h1 h2)⟩
theorem But.alloc (h : But S w w') (o : Obj) : But S w (w'.alloc o) :=
  h.trans ⟨rfl, rfl, rfl, by simp, fun k hk _ => Below.heap_alloc _ _ _ hk⟩
theorem But.set (h : But S w w') {p : Addr} (hp : S p.block ∨ w.heap.size ≤ p.block) (u : Value) : But S w (w'.setCell p u) :=
  ⟨h.os, h.tape, h.output, by simpa using h.size, fun k h1 h2 => (Below.heap_setCell _ _ _ _ (fun e => by subst e; exact hp.elim h2 (by omega))).trans (h.block k h1 h2)⟩
theorem But.turned (h : But S w w') {m : Nat} (hm : S m) (k : w'.mapTurned w'' m) : But S w w'' := by
  have g := k.grown
  exact h.trans ⟨g.os, g.tape, g.output, g.size, fun i hi hs => g.block i hi (fun e => hs (by injection e with e; rw [e]; exact hm))⟩
theorem But.below (h : But S w w') {B : Nat} (hB : B ≤ w.heap.size) (hS : ∀ k, k < B → ¬ S k) : Below B w w' :=
  ⟨h.os, h.tape, h.output, h.size, fun k hk => h.block k (by omega) (hS k hk)⟩
theorem But.mono (h : But S w w') (hS : ∀ k, k < w.heap.size → S k → S' k) : But S' w w' :=
  ⟨h.os, h.tape, h.output, h.size, fun k h1 h2 => h.block k h1 fun h3 => h2 (hS k h1 h3)⟩
theorem but_of_below (h : Below w.heap.size w w') : But S w w' := ⟨h.os, h.tape, h.output, h.size, fun k h1 _ => h.block k h1⟩
theorem Row.but {z n : Nat} {A : Option Addr} {xs : List Value} {B : Nat} (h : Row w B z A n xs) (hB : B ≤ w.heap.size) (k : But S w w') (hS : ∀ i, i < B → ¬ S i) : Row w' B z A n xs :=
  h.below (k.below hB hS) (Nat.le_refl _)
theorem Whole.but {b : Nat} {t : TypeId} {cs : Array Value} (h : Whole w b t cs) (k : But S w w') (hb : ¬ S b) : Whole w' b t cs := (k.block b h.lt hb).trans h
theorem turned_block {m g : Nat} (k : w.mapTurned w' m) (hg : g ≠ m) : w'.heap[g]? = w.heap[g]? := by
  obtain ⟨es, clock, es', clock', _, rfl⟩ := k
  exact ChangeMaps.heap_setBlock_other ‹_› _ hg
theorem turned_size {m : Nat} (k : w.mapTurned w' m) : w'.heap.size = w.heap.size := by
  obtain ⟨es, clock, es', clock', _, rfl⟩ := k
  simp [ChangeMaps.setBlock]
theorem Whole.turned {b m : Nat} {t : TypeId} {cs : Array Value} (h : Whole w b t cs) (k : w.mapTurned w' m) (hb : b ≠ m) : Whole w' b t cs := (turned_block k hb).trans h
end
end Go.Proofs.Ytmmeceehfdbdoaa
