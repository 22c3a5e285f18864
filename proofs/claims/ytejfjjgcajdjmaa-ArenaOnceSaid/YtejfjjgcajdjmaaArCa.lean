/-
  Arenas in memory.
-/
import Derived.Test.YtejfjjgcajdjmaaArL
import Derived.Test.YtejfjjgcajdjmaaMemW
import Derived.Test.YtejfjjgcajdjmaaOwnW
import Derived.Test.YtejfjjgcajdjmaaProg
namespace Go.Proofs.Ytejfjjgcajdjmaa
open Go.RowKit
set_option linter.unusedSimpArgs false
set_option linter.unusedVariables false

/-- Slots as the program has them. -/
def slC (l : List Sl) : Array Value := ((l.map fun y => [Value.int .u32 (y.turn : Int), Value.bool y.used, y.x]).flatten).toArray
theorem slC_size (l : List Sl) : (slC l).size = l.length * 3 := by
  unfold slC
  induction l with
  | nil => rfl
  | cons y l ih => simp only [List.map_cons, List.flatten_cons, List.size_toArray, List.length_append, List.length_cons, List.length_nil] at ih ⊢; omega
theorem slC_cons (y : Sl) (l : List Sl) : (slC (y :: l)).toList = .int .u32 (y.turn : Int) :: .bool y.used :: y.x :: (slC l).toList := rfl
theorem slC_get {l : List Sl} : ∀ {i : Nat} {y : Sl}, l[i]? = some y → (slC l)[i * 3]? = some (.int .u32 (y.turn : Int)) ∧ (slC l)[i * 3 + 1]? = some (.bool y.used) ∧ (slC l)[i * 3 + 2]? = some y.x := by
  induction l with
  | nil => intro i y h; simp at h
  | cons a l ih =>
    intro i y h
    simp only [← Array.getElem?_toList]
    rw [slC_cons]
    cases i with
    | zero => simp at h; subst h; exact ⟨rfl, rfl, rfl⟩
    | succ i =>
      have := ih (i := i) (y := y) (by simpa using h)
      simp only [← Array.getElem?_toList] at this
      rw [show (i + 1) * 3 = i * 3 + 3 by omega]
      exact this
theorem slC_set {l : List Sl} {i : Nat} (y : Sl) : slC (l.set i y) = (((slC l).setIfInBounds (i * 3) (.int .u32 (y.turn : Int))).setIfInBounds (i * 3 + 1) (.bool y.used)).setIfInBounds (i * 3 + 2) y.x := by
  apply Array.ext'
  simp only [Array.toList_setIfInBounds]
  revert i
  induction l with
  | nil => intro i; simp [slC]
  | cons a l ih =>
    intro i
    cases i with
    | zero => rfl
    | succ i =>
      rw [List.set_cons_succ, slC_cons, slC_cons, ih, show (i + 1) * 3 = i * 3 + 3 by omega]
      rfl
theorem made_sl (z : Value) (n : Nat) : madeCells #[.int .u32 0, .bool false, z] (n * 3) = slC (freshA z n) := by
  apply Array.ext_getElem?
  intro j
  by_cases hj : j < n * 3
  · have e1 : (madeCells #[.int .u32 0, .bool false, z] (n * 3))[j]? = some ((#[.int .u32 0, .bool false, z] : Array Value)[j % 3]!) := by
      simp [madeCells, hj]
    have hf : (freshA z n)[j / 3]? = some ⟨z, 0, false⟩ := by
      unfold freshA
      rw [List.getElem?_replicate, if_pos (by omega)]
    obtain ⟨g0, g1, g2⟩ := slC_get hf
    rw [e1]
    have h3 : j % 3 = 0 ∨ j % 3 = 1 ∨ j % 3 = 2 := by omega
    rcases h3 with h | h | h
    · rw [h, show j = j / 3 * 3 by omega, g0]; rfl
    · rw [h, show j = j / 3 * 3 + 1 by omega, g1]; rfl
    · rw [h, show j = j / 3 * 3 + 2 by omega, g2]; rfl
  · rw [Array.getElem?_eq_none (by simp [madeCells]; omega), Array.getElem?_eq_none (by rw [slC_size, freshA_length]; omega)]

/-- A number (true), a text (false). -/
def Plain (b : Bool) (v : Value) : Prop := if b = true then ∃ x : Int, v = .int .i64 x else ∃ x : ByteArray, v = .string x
/-- An arena of numbers (true), of texts (false), in memory: its struct's block g, its slots' block; S: these two. -/
def ArAt (b : Bool) (w : World) (g : Nat) (S : Nat → Prop) (l : List Sl) : Prop :=
  ∃ r, r ≠ g ∧ (∀ k, S k ↔ (k = g ∨ k = r)) ∧ Whole w g (if b = true then 62 else 71) #[.slice (some ⟨r, 0, none⟩) l.length l.length] ∧
    Whole w r (if b = true then 66 else 74) (slC l) ∧ ∀ y ∈ l, Plain b y.x
theorem ArAt.lt {b : Bool} {w : World} {g : Nat} {S : Nat → Prop} {l : List Sl} (h : ArAt b w g S l) : ∀ k, S k → k < w.heap.size := by
  obtain ⟨r, _, hs, h1, h2, _⟩ := h
  intro k hk
  rcases (hs k).1 hk with rfl | rfl
  · exact h1.lt
  · exact h2.lt
theorem ArAt.keep {b : Bool} {w w' : World} {g : Nat} {S : Nat → Prop} {l : List Sl} (h : ArAt b w g S l) (hs : w.heap.size ≤ w'.heap.size) (hk : ∀ k, S k → w'.heap[k]? = w.heap[k]?) : ArAt b w' g S l := by
  obtain ⟨r, hne, hs, h1, h2, h3⟩ := h
  exact ⟨r, hne, hs, (hk g ((hs g).2 (.inl rfl))).trans h1, (hk r ((hs r).2 (.inr rfl))).trans h2, h3⟩
theorem ArAt.next {b : Bool} {w w' : World} {g : Nat} {S : Nat → Prop} {l : List Sl} (h : ArAt b w g S l) (hb : Below w.heap.size w w') : ArAt b w' g S l := h.keep hb.size fun k hk => hb.block k (h.lt k hk)
def zI : Value := .int .i64 0
def zS : Value := .string { data := #[] }
/-- A new arena. -/
def ArMade (b : Bool) (z : Value) (n : Nat) (w : World) (e : Ending) (w' : World) : Prop := ∃ g S, e = .returned (.pointer (some ⟨g, 0, none⟩)) ∧ ArAt b w' g S (freshA z n) ∧ (∀ k, S k → w.heap.size ≤ k) ∧ Below w.heap.size w w'
/-- An arena's call: what it answers, what is there behind it; nothing but the arena's own blocks turns. -/
def ArDone (b : Bool) (g : Nat) (S : Nat → Prop) (v : Value) (l : List Sl) (w : World) (e : Ending) (w' : World) : Prop := ∃ S', e = .returned v ∧ ArAt b w' g S' l ∧ But S w w' ∧ ∀ k, k < w.heap.size → S' k → S k
def refV (s t : Nat) : Value := .agg #[.int .i64 (s : Int), .int .u32 (t : Int)]
/-- What Get tells. -/
def gotA (z : Value) (l : List Sl) (s t : Int) : Value := .tuple #[(getA l s t).getD z, .int .i64 (if (getA l s t).isSome = true then 0 else 26)]
/-- A row of Refs, as cells. -/
def refC (l : List (Nat × Nat)) : List Value := (l.map fun p => [Value.int .i64 (p.1 : Int), Value.int .u32 (p.2 : Int)]).flatten
theorem getA_low {l : List Sl} {s t : Int} (h : s < 0) : getA l s t = none := by unfold getA; rw [if_pos h]
theorem getA_high {l : List Sl} {k : Nat} {t : Int} (h : l.length ≤ k) : getA l (k : Int) t = none := by
  unfold getA
  rw [if_neg (by omega), Int.toNat_natCast, List.getElem?_eq_none h]
theorem getA_in {l : List Sl} {k : Nat} {t : Int} {y : Sl} (h : l[k]? = some y) : getA l (k : Int) t = if y.used = true ∧ (y.turn : Int) = t then some y.x else none := by
  unfold getA
  rw [if_neg (by omega), Int.toNat_natCast, h]
end Go.Proofs.Ytejfjjgcajdjmaa
