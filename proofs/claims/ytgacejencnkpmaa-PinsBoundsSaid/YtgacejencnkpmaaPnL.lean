/-
  Who looks at which epoch, as plain functions: what each call makes of a row of workers, and of a row of what waits. Nothing here names the program.
-/
import Derived.Test.YtgacejencnkpmaaWords
namespace Go.Proofs.Ytgacejencnkpmaa

/-- A worker: the epoch that it is at, the one that it looks at, if any. -/
structure Wk where
  at' : Int
  sees : Option Int
/-- What waits. -/
structure Wt where
  slot : Int
  turn : Int
  ep : Int
def wkAt (l : List Wk) (i : Int) : Option Wk := if i < 0 then none else l[i.toNat]?
def instE (l : List Wk) (i e : Int) : Int := match wkAt l i with | none => 1 | some k => if e < k.at' then 23 else 0
def instS (l : List Wk) (i e : Int) : List Wk := match wkAt l i with | none => l | some k => if e < k.at' then l else l.set i.toNat ⟨e, k.sees⟩
def pinE (l : List Wk) (i : Int) : Int := match wkAt l i with | none => 1 | some k => if k.sees.isSome = true then 23 else 0
def pinX (l : List Wk) (i : Int) : Int := match wkAt l i with | none => 0 | some k => if k.sees.isSome = true then 0 else k.at'
def pinS (l : List Wk) (i : Int) : List Wk := match wkAt l i with | none => l | some k => if k.sees.isSome = true then l else l.set i.toNat ⟨k.at', some k.at'⟩
def unpE (l : List Wk) (i : Int) : Int := match wkAt l i with | none => 1 | some k => if k.sees.isSome = true then 0 else 23
def unpS (l : List Wk) (i : Int) : List Wk := match wkAt l i with | none => l | some k => if k.sees.isSome = true then l.set i.toNat ⟨k.at', none⟩ else l
/-- The lower one of a number and what a worker is at, or looks at. -/
def lowK (x : Int) (k : Wk) : Int :=
  match k.sees with
  | none => if k.at' < x then k.at' else x
  | some s => if s < (if k.at' < x then k.at' else x) then s else if k.at' < x then k.at' else x
def oldS (l : List Wk) : Int := match l with | [] => 0 | k :: m => (k :: m).foldl lowK k.at'
def retE (q : List Wt) : Int := if 64 ≤ q.length then 20 else 0
def retS (q : List Wt) (t : Wt) : List Wt := if 64 ≤ q.length then q else q ++ [t]
def goes (x : Int) (q : List Wt) : List Wt := q.filter fun t => decide (t.ep ≤ x)
def stays (x : Int) (q : List Wt) : List Wt := q.filter fun t => decide (x < t.ep)
/-- Refs as cells. -/
def rfC (q : List Wt) : List Value := (q.map fun t => [Value.int .i64 t.slot, Value.int .u32 t.turn]).flatten
def freshK (n : Nat) : List Wk := List.replicate n ⟨0, none⟩

theorem wkAt_low {l : List Wk} {i : Int} (h : i < 0) : wkAt l i = none := by unfold wkAt; rw [if_pos h]
theorem wkAt_nat (l : List Wk) (i : Nat) : wkAt l (i : Int) = l[i]? := by unfold wkAt; rw [if_neg (by omega), Int.toNat_natCast]
theorem wkAt_high {l : List Wk} {i : Nat} (h : l.length ≤ i) : wkAt l (i : Int) = none := by rw [wkAt_nat, List.getElem?_eq_none h]
theorem instS_length (l : List Wk) (i e : Int) : (instS l i e).length = l.length := by unfold instS; split <;> (try split) <;> simp
theorem pinS_length (l : List Wk) (i : Int) : (pinS l i).length = l.length := by unfold pinS; split <;> (try split) <;> simp
theorem unpS_length (l : List Wk) (i : Int) : (unpS l i).length = l.length := by unfold unpS; split <;> (try split) <;> simp
theorem freshK_length (n : Nat) : (freshK n).length = n := by simp [freshK]
theorem rfC_length (q : List Wt) : (rfC q).length = q.length * 2 := by
  induction q with
  | nil => rfl
  | cons y l ih => unfold rfC at *; simp only [List.map_cons, List.flatten_cons, List.length_append, List.length_cons, List.length_nil, ih]; omega
theorem rfC_add (q : List Wt) (t : Wt) : rfC (q ++ [t]) = rfC q ++ [.int .i64 t.slot, .int .u32 t.turn] := by simp [rfC]
theorem rfC_get {q : List Wt} : ∀ {i : Nat} {t : Wt}, q[i]? = some t → (rfC q)[i * 2]? = some (.int .i64 t.slot) ∧ (rfC q)[i * 2 + 1]? = some (.int .u32 t.turn) := by
  induction q with
  | nil => intro i y h; simp at h
  | cons a l ih =>
    intro i y h
    have e : rfC (a :: l) = .int .i64 a.slot :: .int .u32 a.turn :: rfC l := rfl
    rw [e]
    cases i with
    | zero => simp at h; subst h; exact ⟨rfl, rfl⟩
    | succ i =>
      have := ih (i := i) (t := y) (by simpa using h)
      rw [show (i + 1) * 2 = i * 2 + 2 by omega]
      exact this

/-! ### The oldest epoch -/
theorem low2_le (x y : Int) : (if y < x then y else x) ≤ x ∧ (if y < x then y else x) ≤ y := by by_cases h : y < x <;> simp [h] <;> omega
theorem lowK_le (x : Int) (k : Wk) : lowK x k ≤ x ∧ lowK x k ≤ k.at' ∧ ∀ s, k.sees = some s → lowK x k ≤ s := by
  have h1 := low2_le x k.at'
  unfold lowK
  cases hs : k.sees with
  | none => exact ⟨h1.1, h1.2, fun s h => by cases h⟩
  | some s =>
    have h2 := low2_le (if k.at' < x then k.at' else x) s
    dsimp only
    exact ⟨Int.le_trans h2.1 h1.1, Int.le_trans h2.1 h1.2, fun s' h => by injection h with h; subst h; exact h2.2⟩
/-- It is one of these. -/
theorem low2_one (x y : Int) : (if y < x then y else x) = x ∨ (if y < x then y else x) = y := by by_cases h : y < x <;> simp [h]
theorem lowK_one (x : Int) (k : Wk) : lowK x k = x ∨ lowK x k = k.at' ∨ k.sees = some (lowK x k) := by
  have h1 := low2_one x k.at'
  unfold lowK
  cases hs : k.sees with
  | none => exact h1.elim .inl (fun h => .inr (.inl h))
  | some s =>
    dsimp only
    rcases low2_one (if k.at' < x then k.at' else x) s with h | h
    · rw [h]; exact h1.elim .inl (fun h => .inr (.inl h))
    · rw [h]; exact .inr (.inr rfl)
theorem fold_le (l : List Wk) : ∀ x, l.foldl lowK x ≤ x ∧ ∀ k ∈ l, l.foldl lowK x ≤ k.at' ∧ ∀ s, k.sees = some s → l.foldl lowK x ≤ s := by
  induction l with
  | nil => intro x; exact ⟨Int.le_refl _, fun k hk => by simp at hk⟩
  | cons a l ih =>
    intro x
    rw [List.foldl_cons]
    obtain ⟨h1, h2⟩ := ih (lowK x a)
    obtain ⟨a1, a2, a3⟩ := lowK_le x a
    refine ⟨Int.le_trans h1 a1, fun k hk => ?_⟩
    rcases List.mem_cons.1 hk with rfl | hk
    · exact ⟨Int.le_trans h1 a2, fun s hs => Int.le_trans h1 (a3 s hs)⟩
    · exact h2 k hk
theorem fold_one (l : List Wk) : ∀ x, l.foldl lowK x = x ∨ ∃ k ∈ l, l.foldl lowK x = k.at' ∨ k.sees = some (l.foldl lowK x) := by
  induction l with
  | nil => intro x; exact .inl rfl
  | cons a l ih =>
    intro x
    rw [List.foldl_cons]
    rcases ih (lowK x a) with h | ⟨k, hk, h⟩
    · rw [h]
      rcases lowK_one x a with h | h | h
      · exact .inl h
      · exact .inr ⟨a, List.mem_cons_self .., .inl h⟩
      · exact .inr ⟨a, List.mem_cons_self .., .inr h⟩
    · exact .inr ⟨k, List.mem_cons_of_mem _ hk, h⟩
/-- The oldest epoch is below none that somebody is at, or looks at, and it is one of these. -/
theorem oldS_le {l : List Wk} {k : Wk} (hk : k ∈ l) : oldS l ≤ k.at' ∧ ∀ s, k.sees = some s → oldS l ≤ s := by
  cases l with
  | nil => simp at hk
  | cons a m => exact (fold_le (a :: m) a.at').2 k hk
theorem oldS_one {l : List Wk} (h : l ≠ []) : ∃ k ∈ l, oldS l = k.at' ∨ k.sees = some (oldS l) := by
  cases l with
  | nil => exact absurd rfl h
  | cons a m =>
    rcases fold_one (a :: m) a.at' with h1 | h1
    · exact ⟨a, List.mem_cons_self .., .inl h1⟩
    · exact h1
/-- Any number that is such. -/
theorem oldS_eq {l : List Wk} {x : Int} (h1 : ∀ k ∈ l, x ≤ k.at' ∧ ∀ s, k.sees = some s → x ≤ s) (h2 : ∃ k ∈ l, x = k.at' ∨ k.sees = some x) : oldS l = x := by
  obtain ⟨k, hk, h⟩ := h2
  obtain ⟨k2, hk2, h3⟩ := oldS_one (l := l) (by rintro rfl; simp at hk)
  have a1 := oldS_le hk
  have a2 := h1 k2 hk2
  have b1 : oldS l ≤ x := h.elim (fun h => h ▸ a1.1) (fun h => a1.2 _ h)
  have b2 : x ≤ oldS l := h3.elim (fun h => h ▸ a2.1) (fun h => a2.2 _ h)
  omega
theorem goes_stays (x : Int) (q : List Wt) : (goes x q).length + (stays x q).length = q.length := by
  unfold goes stays
  induction q with
  | nil => rfl
  | cons t q ih =>
    rw [List.filter_cons, List.filter_cons]
    by_cases h : t.ep ≤ x
    · rw [if_pos (by simpa using h), if_neg (by simp; omega), List.length_cons, List.length_cons]; omega
    · rw [if_neg (by simpa using h), if_pos (by simp; omega), List.length_cons, List.length_cons]; omega
theorem stays_le (x : Int) (q : List Wt) : (stays x q).length ≤ q.length := List.length_filter_le ..
theorem goes_le (x : Int) (q : List Wt) : (goes x q).length ≤ q.length := List.length_filter_le ..
theorem retS_le {q : List Wt} (h : q.length ≤ 64) (t : Wt) : (retS q t).length ≤ 64 := by
  unfold retS
  split
  · exact h
  · simp; omega
end Go.Proofs.Ytgacejencnkpmaa
