/-
  Slots that are used again, as plain functions: what a take, a get and a free make of a row of slots; what the laws of layer 15 say of them. Nothing here names the program.
-/
import Derived.Test.YtejfjjgcajdjmaaWords
namespace Go.Proofs.Ytejfjjgcajdjmaa

/-- A slot: what stands there, by which turn, whether it is used. -/
structure Sl where
  x : Value
  turn : Nat
  used : Bool
def freshA (z : Value) (n : Nat) : List Sl := List.replicate n ⟨z, 0, false⟩
/-- The lowest slot that is free (as many as there are, if none is). -/
def lowA (l : List Sl) : Nat := l.findIdx fun y => !y.used
def turnA (l : List Sl) : Nat := match l[lowA l]? with | some y => y.turn + 1 | none => 0
def takeA (l : List Sl) (x : Value) : List Sl := if lowA l < l.length then l.set (lowA l) ⟨x, turnA l, true⟩ else l
def errA (l : List Sl) : Int := if lowA l < l.length then 0 else 20
def slotA (l : List Sl) : Nat := if lowA l < l.length then lowA l else 0
def turnT (l : List Sl) : Nat := if lowA l < l.length then turnA l else 0
/-- What stands in a slot, by a turn. -/
def getA (l : List Sl) (s t : Int) : Option Value :=
  if s < 0 then none else match l[s.toNat]? with
  | some y => if y.used = true ∧ (y.turn : Int) = t then some y.x else none
  | none => none
def freeA (z : Value) (l : List Sl) (s t : Int) : List Sl := if (getA l s t).isSome = true then l.set s.toNat ⟨z, t.toNat, false⟩ else l
def liveA (l : List Sl) : Nat := l.countP fun y => y.used
/-- The Refs of the slots from i on. -/
def refsF : Nat → List Sl → List (Nat × Nat)
  | _, [] => []
  | i, y :: l => if y.used = true then (i, y.turn) :: refsF (i + 1) l else refsF (i + 1) l
def refsA (l : List Sl) : List (Nat × Nat) := refsF 0 l

theorem freshA_length (z : Value) (n : Nat) : (freshA z n).length = n := by simp [freshA]
theorem takeA_length (l : List Sl) (x : Value) : (takeA l x).length = l.length := by unfold takeA; split <;> simp
theorem freeA_length (z : Value) (l : List Sl) (s t : Int) : (freeA z l s t).length = l.length := by unfold freeA; split <;> simp
theorem refsF_length (l : List Sl) : ∀ i, (refsF i l).length = liveA l := by
  induction l with
  | nil => intro i; rfl
  | cons y l ih =>
    intro i
    unfold refsF liveA
    rw [List.countP_cons]
    by_cases h : y.used = true
    · rw [if_pos h, List.length_cons, ih, if_pos h]; rfl
    · rw [if_neg h, ih, if_neg h]; rfl
theorem liveA_le (l : List Sl) : liveA l ≤ l.length := List.countP_le_length
theorem lowA_le (l : List Sl) : lowA l ≤ l.length := List.findIdx_le_length
theorem lowA_free {l : List Sl} (h : lowA l < l.length) : (l[lowA l]'h).used = false := by
  have := List.findIdx_getElem (w := h)
  unfold lowA
  simpa using this
theorem lowA_used {l : List Sl} {k : Nat} {y : Sl} (h : k < lowA l) (hy : l[k]? = some y) : y.used = true := by
  have hk : k < l.length := Nat.lt_of_lt_of_le h (lowA_le l)
  rw [List.getElem?_eq_getElem hk] at hy
  injection hy with hy
  subst hy
  have := List.not_of_lt_findIdx (p := fun y : Sl => !y.used) (i := k) h
  simpa using this
theorem lowA_eq {l : List Sl} {k : Nat} {y : Sl} (hy : l[k]? = some y) (h : y.used = false) (hk : ∀ (j : Nat) (z : Sl), j < k → l[j]? = some z → z.used = true) : lowA l = k := by
  have hkl : k < l.length := by
    rcases Nat.lt_or_ge k l.length with h' | h'
    · exact h'
    · rw [List.getElem?_eq_none h'] at hy; cases hy
  rcases Nat.lt_trichotomy (lowA l) k with h1 | h1 | h1
  · have := hk _ _ h1 (List.getElem?_eq_getElem (by omega))
    rw [lowA_free (by omega)] at this
    cases this
  · exact h1
  · have := lowA_used h1 hy
    rw [h] at this
    cases this
theorem lowA_none {l : List Sl} (h : ∀ (j : Nat) (z : Sl), l[j]? = some z → z.used = true) : lowA l = l.length := by
  rcases Nat.lt_or_ge (lowA l) l.length with h1 | h1
  · have := h _ _ (List.getElem?_eq_getElem h1)
    rw [lowA_free h1] at this
    cases this
  · have := lowA_le l; omega
/-- Turns have a bound. -/
def Turns (c : Nat) (l : List Sl) : Prop := ∀ y ∈ l, y.turn ≤ c
theorem Turns.fresh (z : Value) (n : Nat) : Turns 0 (freshA z n) := by
  intro y hy
  unfold freshA at hy
  rw [List.eq_of_mem_replicate hy]
  exact Nat.le_refl 0
theorem Turns.more {c c' : Nat} {l : List Sl} (h : Turns c l) (hc : c ≤ c') : Turns c' l := fun y hy => Nat.le_trans (h y hy) hc
theorem Turns.take {c : Nat} {l : List Sl} (h : Turns c l) (x : Value) : Turns (c + 1) (takeA l x) := by
  unfold takeA
  by_cases hl : lowA l < l.length
  · rw [if_pos hl]
    intro y hy
    rcases List.mem_or_eq_of_mem_set hy with h1 | h1
    · exact Nat.le_trans (h y h1) (Nat.le_succ c)
    · subst h1
      dsimp only
      unfold turnA
      rw [List.getElem?_eq_getElem hl]
      dsimp only
      have := h _ (List.getElem_mem hl)
      omega
  · rw [if_neg hl]
    exact h.more (Nat.le_succ c)
theorem getA_turn {l : List Sl} {s t : Int} {v : Value} (h : getA l s t = some v) : 0 ≤ s ∧ ∃ y, l[s.toNat]? = some y ∧ y.used = true ∧ (y.turn : Int) = t ∧ y.x = v := by
  unfold getA at h
  by_cases hs : s < 0
  · rw [if_pos hs] at h; cases h
  · rw [if_neg hs] at h
    cases hy : l[s.toNat]? with
    | none => rw [hy] at h; cases h
    | some y =>
      rw [hy] at h
      dsimp only at h
      by_cases hc : y.used = true ∧ (y.turn : Int) = t
      · rw [if_pos hc] at h
        injection h with h
        exact ⟨by omega, y, rfl, hc.1, hc.2, h⟩
      · rw [if_neg hc] at h; cases h
theorem Turns.free {c : Nat} {l : List Sl} (h : Turns c l) (z : Value) (s t : Int) : Turns c (freeA z l s t) := by
  unfold freeA
  by_cases hl : (getA l s t).isSome = true
  · rw [if_pos hl]
    obtain ⟨v, hv⟩ := Option.isSome_iff_exists.1 hl
    obtain ⟨_, w, h1, _, h3, _⟩ := getA_turn hv
    intro y hy
    rcases List.mem_or_eq_of_mem_set hy with h4 | h4
    · exact h y h4
    · subst h4
      have := h w (List.mem_of_getElem? h1)
      dsimp only
      omega
  · rw [if_neg hl]; exact h
end Go.Proofs.Ytejfjjgcajdjmaa
