/-
  Plain words on a queue in memory: a ring, whose things go round, and what a push and a pop turn of it. Nothing here names the program.
-/
import Derived.Test.YtpemikncbolkbaaWords
namespace Go.Proofs.Ytpemikncbolkbaa
open Go.RowKit

/-- The same world, but for how often an order was drawn. -/
def Like (w' w : World) : Prop := w'.heap = w.heap ∧ w'.os = w.os ∧ w'.tape = w.tape ∧ w'.output = w.output

/-- Nothing that was is turned but the blocks g and r; nothing is made. -/
structure Two (g r : Nat) (w w' : World) : Prop where
  os : w'.os = w.os
  tape : w'.tape = w.tape
  output : w'.output = w.output
  size : w'.heap.size = w.heap.size
  block : ∀ k, k ≠ g → k ≠ r → w'.heap[k]? = w.heap[k]?

section
variable {g r : Nat} {w w' w'' : World}
theorem Two.refl (g r : Nat) (w : World) : Two g r w w := ⟨rfl, rfl, rfl, rfl, fun _ _ _ => rfl⟩
theorem Two.drewN (h : Two g r w w') (m : Nat) : Two g r w (w'.drewN m) := ⟨h.os, h.tape, h.output, h.size, h.block⟩
theorem Two.drew (h : Two g r w w') : Two g r w w'.drew := ⟨h.os, h.tape, h.output, h.size, h.block⟩
theorem Two.set (h : Two g r w w') {p : Addr} (hp : p.block = g ∨ p.block = r) (u : Value) : Two g r w (w'.setCell p u) :=
  ⟨h.os, h.tape, h.output, by simpa using h.size, fun k h1 h2 => (Below.heap_setCell _ _ _ _ (by omega)).trans (h.block k h1 h2)⟩
theorem Two.trans (h : Two g r w w') (k : Two g r w' w'') : Two g r w w'' :=
  ⟨k.os.trans h.os, k.tape.trans h.tape, k.output.trans h.output, k.size.trans h.size, fun i h1 h2 => (k.block i h1 h2).trans (h.block i h1 h2)⟩
theorem Two.below (h : Two g r w w') {B : Nat} (hg : B ≤ g) (hr : B ≤ r) : Below B w w' :=
  ⟨h.os, h.tape, h.output, Nat.le_of_eq h.size.symm, fun k hk => h.block k (by omega) (by omega)⟩
theorem bnext {w1 w2 : World} (h1 : Below w.heap.size w w1) (h2 : Below w1.heap.size w1 w2) : Below w.heap.size w w2 := h1.trans (h2.mono h1.size)
theorem bdrewN {B : Nat} (h : Below B w w') (m : Nat) : Below B w (w'.drewN m) := ⟨h.os, h.tape, h.output, h.size, h.block⟩
theorem Row.two {B z n : Nat} {A : Option Addr} {xs : List Value} (h : Row w B z A n xs) (k : Two g r w w') (hg : B ≤ g) (hr : B ≤ r) : Row w' B z A n xs :=
  h.below (k.below hg hr) (Nat.le_refl _)
theorem Whole.two {b : Nat} {t : TypeId} {cs : Array Value} (h : Whole w b t cs) (k : Two g r w w') (hg : b ≠ g) (hr : b ≠ r) : Whole w' b t cs := (k.block b hg hr).trans h
end

theorem Two.like {g r : Nat} {w w1 w' : World} (h : Two g r w w1) (k : Like w' w1) : Two g r w w' := by
  obtain ⟨k1, k2, k3, k4⟩ := k
  exact ⟨k2.trans h.os, k3.trans h.tape, k4.trans h.output, by rw [k1]; exact h.size, fun i h1 h2 => by rw [k1]; exact h.block i h1 h2⟩
theorem Whole.like {w w' : World} {g : Nat} {t : TypeId} {cs : Array Value} (h : Whole w g t cs) (k : Like w' w) : Whole w' g t cs := by
  unfold Whole at *
  rw [k.1]; exact h

/-- The things l go round in the cells cs, the first one at f. -/
def Ring (cs : Array Value) (room f : Nat) (l : List Value) : Prop :=
  cs.size = room ∧ f < room ∧ l.length ≤ room ∧ ∀ j v, l[j]? = some v → cs[(f + j) % room]? = some v

theorem mod_ne {f room i j : Nat} (hi : i < room) (hj : j < room) (hne : i ≠ j) : (f + i) % room ≠ (f + j) % room := by
  intro h
  have hr : 0 < room := by omega
  have h1 := Nat.div_add_mod (f + i) room
  have h2 := Nat.div_add_mod (f + j) room
  rcases Nat.lt_trichotomy ((f + i) / room) ((f + j) / room) with h3 | h3 | h3
  · have : room * ((f + i) / room) + room ≤ room * ((f + j) / room) := by
      rw [← Nat.mul_succ]; exact Nat.mul_le_mul_left _ h3
    omega
  · rw [h3] at h1; omega
  · have : room * ((f + j) / room) + room ≤ room * ((f + i) / room) := by
      rw [← Nat.mul_succ]; exact Nat.mul_le_mul_left _ h3
    omega

section
variable {cs : Array Value} {room f : Nat} {l : List Value}
theorem Ring.push (h : Ring cs room f l) (hn : l.length < room) (x : Value) {p : Nat} (hp : (f + l.length) % room = p) : Ring (cs.setIfInBounds p x) room f (l ++ [x]) := by
  obtain ⟨h1, h2, h3, h4⟩ := h
  have hpr : p < room := by rw [← hp]; exact Nat.mod_lt _ (by omega)
  refine ⟨by simpa using h1, h2, by simp; omega, fun j v hj => ?_⟩
  rcases Nat.lt_or_ge j l.length with hlt | hge
  · rw [List.getElem?_append_left hlt] at hj
    have hne : p ≠ (f + j) % room := by rw [← hp]; exact mod_ne (by omega) (by omega) (by omega)
    rw [Array.getElem?_setIfInBounds_ne hne]
    exact h4 j v hj
  · have : j = l.length := by have := (List.getElem?_eq_some_iff.1 hj).1; simp at this; omega
    subst this
    simp at hj
    subst hj
    rw [hp]
    simp [h1, hpr]
theorem Ring.pop {x z : Value} (h : Ring cs room f (x :: l)) {p : Nat} (hp : (f + 1) % room = p) : Ring (cs.setIfInBounds f z) room p l := by
  obtain ⟨h1, h2, h3, h4⟩ := h
  simp at h3
  have hpr : p < room := by rw [← hp]; exact Nat.mod_lt _ (by omega)
  refine ⟨by simpa using h1, hpr, by omega, fun j v hj => ?_⟩
  have hlt := (List.getElem?_eq_some_iff.1 hj).1
  have e : (p + j) % room = (f + (j + 1)) % room := by rw [← hp, Nat.mod_add_mod]; congr 1; omega
  rw [e]
  have hne : f ≠ (f + (j + 1)) % room := by
    have := @mod_ne f room 0 (j + 1) (by omega) (by omega) (by omega)
    rwa [Nat.add_zero, Nat.mod_eq_of_lt h2] at this
  rw [Array.getElem?_setIfInBounds_ne hne]
  exact h4 (j + 1) v (by simpa using hj)
theorem Ring.head {x : Value} (h : Ring cs room f (x :: l)) : cs[f]? = some x := by
  have := h.2.2.2 0 x rfl
  rwa [Nat.add_zero, Nat.mod_eq_of_lt h.2.1] at this
theorem Ring.fits (h : Ring cs room f l) : l.length ≤ room := h.2.2.1
theorem Ring.mk0 (room : Nat) (h : 1 ≤ room) (z : Value) : Ring (Array.replicate room z) room 0 [] := ⟨by simp, by omega, by simp, by simp⟩
end

/-- Block g is a queue (of type ts) whose ring (of elements of type te) is block r, and whose things are l. -/
def QAt (ts te : TypeId) (w : World) (g r room : Nat) (l : List Value) : Prop :=
  ∃ f n cs, n = l.length ∧ Whole w g ts #[.slice (some ⟨r, 0, none⟩) room room, .int .i64 (f : Nat), .int .i64 (n : Nat)] ∧ Whole w r te cs ∧ Ring cs room f l ∧ 1 ≤ room ∧ room ≤ 4096

section
variable {ts te : TypeId} {w w' : World} {g r room : Nat} {l : List Value}
theorem QAt.ne (h : QAt ts te w g r room l) (ht : ts ≠ te) : g ≠ r := by
  obtain ⟨f, n, cs, _, h1, h2, _⟩ := h
  intro e
  subst e
  have h1' : w.heap[g]? = some (.cells #[.slice (some ⟨g, 0, none⟩) room room, .int .i64 (f : Nat), .int .i64 (n : Nat)] ts (0, 0)) := h1
  have h2' : w.heap[g]? = some (.cells cs te (0, 0)) := h2
  rw [h1'] at h2'
  injection h2' with h2'
  injection h2' with _ e
  exact ht e
theorem QAt.lt (h : QAt ts te w g r room l) : g < w.heap.size ∧ r < w.heap.size := by
  obtain ⟨f, n, cs, _, h1, h2, _⟩ := h
  exact ⟨h1.lt, h2.lt⟩
theorem QAt.len (h : QAt ts te w g r room l) : l.length ≤ room ∧ 1 ≤ room ∧ room ≤ 4096 := by
  obtain ⟨f, n, cs, _, _, _, h3, h4⟩ := h
  exact ⟨h3.fits, h4⟩
theorem QAt.below (h : QAt ts te w g r room l) {b : Nat} (hb : Below b w w') (hg : g < b) (hr : r < b) : QAt ts te w' g r room l := by
  obtain ⟨f, n, cs, h0, h1, h2, h3⟩ := h
  exact ⟨f, n, cs, h0, h1.below hb hg, h2.below hb hr, h3⟩
theorem QAt.next (h : QAt ts te w g r room l) (hb : Below w.heap.size w w') : QAt ts te w' g r room l := h.below hb h.lt.1 h.lt.2
theorem QAt.two {g' r' : Nat} (h : QAt ts te w g r room l) (k : Two g' r' w w') (h1 : g ≠ g') (h2 : g ≠ r') (h3 : r ≠ g') (h4 : r ≠ r') : QAt ts te w' g r room l := by
  obtain ⟨f, n, cs, h0, a, b, h5⟩ := h
  exact ⟨f, n, cs, h0, a.two k h1 h2, b.two k h3 h4, h5⟩
theorem QAt.drewN (h : QAt ts te w g r room l) (m : Nat) : QAt ts te (w.drewN m) g r room l := h
theorem QAt.far (h : QAt ts te w g r room l) {p : Addr} (h1 : g ≠ p.block) (h2 : r ≠ p.block) (u : Value) : QAt ts te (w.setCell p u) g r room l := by
  obtain ⟨f, n, cs, h0, a, b, h5⟩ := h
  exact ⟨f, n, cs, h0, a.far h1 u, b.far h2 u, h5⟩
theorem QAt.alloc (h : QAt ts te w g r room l) (o : Obj) : QAt ts te (w.alloc o) g r room l := by
  obtain ⟨f, n, cs, h0, a, b, h5⟩ := h
  exact ⟨f, n, cs, h0, a.alloc o, b.alloc o, h5⟩
theorem QAt.grown {row : Option Nat} (h : QAt ts te w g r room l) (hg : w.grownBy w' row) (h1 : some g ≠ row) (h2 : some r ≠ row) : QAt ts te w' g r room l := by
  obtain ⟨f, n, cs, h0, a, b, h5⟩ := h
  exact ⟨f, n, cs, h0, a.grown hg h1, b.grown hg h2, h5⟩
end

section
variable {w w' : World} {base : Nat} {e : TypeId} {z n : Nat} {v : Value} {xs : List Value}
theorem own_form (h : w.ownsRow base e z v n xs) : ∃ A c, v = .slice A n c := by
  rcases h.2 with ⟨rfl, rfl⟩ | ⟨g, cap, cur, rfl, _⟩
  · exact ⟨_, _, rfl⟩
  · exact ⟨_, _, rfl⟩
theorem own_base {b' : Nat} (h : w.ownsRow base e z v n xs) (hb : b' ≤ base) : w.ownsRow b' e z v n xs :=
  ⟨h.1, h.2.imp id fun ⟨g, cap, cur, h1, h2, h3⟩ => ⟨g, cap, cur, h1, Nat.le_trans hb h2, h3⟩⟩
theorem own_cap {c : Nat} {A : Option Addr} (h : w.ownsRow base e z (.slice A n c) n xs) : n ≤ c ∧ c ≤ maxLen := by
  rcases h.2 with ⟨hv, rfl⟩ | ⟨g, cap, cur, hv, _, _, h1, h2, _⟩
  · have : c = 0 := by injection hv
    subst this
    exact ⟨Nat.le_refl _, by decide⟩
  · have : c = cap := by injection hv
    subst this
    exact ⟨h1, h2⟩
theorem own_lo {c : Nat} {A : Option Addr} (h : w.ownsRow base e z (.slice A n c) n xs) : ∀ a, A = some a → base ≤ a.block := by
  intro a ha
  subst ha
  exact (h.lt a.block rfl).1
theorem own_two {g r : Nat} (h : w.ownsRow base e z v n xs) (k : Two g r w w') (hg : g < base) (hr : r < base) : w'.ownsRow base e z v n xs := by
  refine ⟨h.1, h.2.imp id fun ⟨q, cap, cur, h1, h2, h3, h4⟩ => ⟨q, cap, cur, h1, h2, ?_, h4⟩⟩
  rw [k.block q (by omega) (by omega)]
  exact h3
theorem own_below {b : Nat} (h : w.ownsRow base e z v n xs) (k : Below b w w') (hb : w.heap.size ≤ b) : w'.ownsRow base e z v n xs :=
  h.kept (row := none) ⟨k.os, k.tape, k.output, k.size, fun i hi _ => k.block i (by omega)⟩ (by cases v.ownBlock <;> simp)
end

/-- Two rows of the call's own lie apart. -/
def Apart (v u : Value) : Prop := ∀ q, v.ownBlock = some q → u.ownBlock ≠ some q
theorem Apart.symm {v u : Value} (h : Apart v u) : Apart u v := fun q hq hv => h q hv hq
theorem Apart.none (v : Value) : Apart v (.slice none 0 0) := fun q _ h => by simp [Value.ownBlock] at h
theorem Apart.or {v u : Value} (h : Apart v u) : v.ownBlock = .none ∨ v.ownBlock ≠ u.ownBlock := by
  cases e : v.ownBlock with
  | none => exact .inl rfl
  | some q => exact .inr fun h' => h q e h'.symm
theorem Apart.grown {v v' u : Value} {w : World} {base : Nat} {e : TypeId} {z n : Nat} {xs : List Value} (h : Apart v u) (hv : v'.ownBlock = v.ownBlock ∨ v'.ownBlock = some w.heap.size) (hu : w.ownsRow base e z u n xs) : Apart v' u := by
  intro q hq hq'
  rcases hv with hv | hv
  · exact h q (by rw [← hv, hq]) hq'
  · rw [hq] at hv
    injection hv with hv
    have := (hu.lt q hq').2
    omega
end Go.Proofs.Ytpemikncbolkbaa
