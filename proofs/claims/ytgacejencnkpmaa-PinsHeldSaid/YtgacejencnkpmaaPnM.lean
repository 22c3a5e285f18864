/-
  Plain facts for the laws of layer 16: how the oldest epoch moves; what a sweep leaves.
-/
import Derived.Test.YtgacejencnkpmaaPnL
namespace Go.Proofs.Ytgacejencnkpmaa

theorem oldS_rise {l l' : List Wk} (hne : l' ≠ []) (h : ∀ k ∈ l', oldS l ≤ k.at' ∧ ∀ s, k.sees = some s → oldS l ≤ s) : oldS l ≤ oldS l' := by
  obtain ⟨k, hk, h1⟩ := oldS_one hne
  obtain ⟨h2, h3⟩ := h k hk
  rcases h1 with h1 | h1
  · rw [h1]; exact h2
  · exact h3 _ h1
theorem set_ne {α : Type} {l : List α} {i : Nat} {k : α} (h : l ≠ []) : l.set i k ≠ [] := fun e => h (List.length_eq_zero_iff.1 (by rw [← List.length_set (as := l) (i := i) (a := k), e]; rfl))
theorem rise_set {l : List Wk} {i : Nat} {k : Wk} (hne : l ≠ []) (h1 : oldS l ≤ k.at') (h2 : ∀ s, k.sees = some s → oldS l ≤ s) : oldS l ≤ oldS (l.set i k) :=
  oldS_rise (set_ne hne) fun y hy => (List.mem_or_eq_of_mem_set hy).elim (fun h => oldS_le h) (fun h => by rw [h]; exact ⟨h1, h2⟩)
theorem wkAt_mem {l : List Wk} {i : Int} {k : Wk} (h : wkAt l i = some k) : k ∈ l := by
  unfold wkAt at h
  by_cases h0 : i < 0
  · rw [if_pos h0] at h; cases h
  · rw [if_neg h0] at h; exact List.mem_of_getElem? h
theorem rise_inst {l : List Wk} (hne : l ≠ []) (i e : Int) : oldS l ≤ oldS (instS l i e) := by
  unfold instS
  cases hk : wkAt l i with
  | none => exact Int.le_refl _
  | some k =>
    dsimp only
    have h := oldS_le (wkAt_mem hk)
    by_cases h1 : e < k.at'
    · rw [if_pos h1]; exact Int.le_refl _
    · rw [if_neg h1]; exact rise_set hne (by show oldS l ≤ e; omega) h.2
theorem rise_pin {l : List Wk} (hne : l ≠ []) (i : Int) : oldS l ≤ oldS (pinS l i) := by
  unfold pinS
  cases hk : wkAt l i with
  | none => exact Int.le_refl _
  | some k =>
    dsimp only
    have h := oldS_le (wkAt_mem hk)
    by_cases h1 : k.sees.isSome = true
    · rw [if_pos h1]; exact Int.le_refl _
    · rw [if_neg h1]; exact rise_set hne h.1 (fun s hs => by injection hs with hs; rw [← hs]; exact h.1)
theorem rise_unp {l : List Wk} (hne : l ≠ []) (i : Int) : oldS l ≤ oldS (unpS l i) := by
  unfold unpS
  cases hk : wkAt l i with
  | none => exact Int.le_refl _
  | some k =>
    dsimp only
    have h := oldS_le (wkAt_mem hk)
    by_cases h1 : k.sees.isSome = true
    · rw [if_pos h1]; exact rise_set hne h.1 (fun s hs => by cases hs)
    · rw [if_neg h1]; exact Int.le_refl _
theorem old_fresh {n : Nat} (h : 1 ≤ n) : oldS (freshK n) = 0 := by
  have hall : ∀ k ∈ freshK n, k = ⟨0, none⟩ := fun k hk => by unfold freshK at hk; exact List.eq_of_mem_replicate hk
  refine oldS_eq (fun k hk => ?_) ?_
  · rw [hall k hk]; exact ⟨Int.le_refl _, fun s hs => by cases hs⟩
  · refine ⟨⟨0, none⟩, ?_, .inl rfl⟩
    unfold freshK
    rw [List.mem_replicate]
    exact ⟨by omega, rfl⟩
theorem goes_add {x : Int} {q : List Wt} {t : Wt} (h : t.ep ≤ x) : goes x (q ++ [t]) = goes x q ++ [t] := by unfold goes; rw [List.filter_append]; simp [h]
theorem goes_add_no {x : Int} {q : List Wt} {t : Wt} (h : x < t.ep) : goes x (q ++ [t]) = goes x q := by
  have h' : ¬ t.ep ≤ x := by omega
  unfold goes
  rw [List.filter_append]
  simp [h']
/-- Let go, and gone on: it looks at none, and is far ahead. -/
theorem freed {l : List Wk} {i : Nat} {y : Wk} (h : l[i]? = some y) (M : Int) : ∃ z, (instS (unpS l (i : Int)) (i : Int) M)[i]? = some z ∧ z.sees = none ∧ M ≤ z.at' := by
  have hi : i < l.length := (List.getElem?_eq_some_iff.1 h).1
  have h1 : (unpS l (i : Int))[i]? = some ⟨y.at', none⟩ := by
    unfold unpS
    rw [wkAt_nat, h]
    dsimp only
    by_cases hs : y.sees.isSome = true
    · rw [if_pos hs, Int.toNat_natCast, List.getElem?_set_self hi]
    · rw [if_neg hs, h]
      obtain ⟨ya, ys⟩ := y
      cases ys with
      | none => rfl
      | some s => simp at hs
  have hi1 : i < (unpS l (i : Int)).length := (List.getElem?_eq_some_iff.1 h1).1
  unfold instS
  rw [wkAt_nat, h1]
  dsimp only
  by_cases hM : M < y.at'
  · rw [if_pos hM]; exact ⟨_, h1, rfl, by show M ≤ y.at'; omega⟩
  · rw [if_neg hM, Int.toNat_natCast]; exact ⟨_, List.getElem?_set_self hi1, rfl, Int.le_refl _⟩
theorem unp_other {l : List Wk} {i j : Nat} (h : i ≠ j) : (unpS l (i : Int))[j]? = l[j]? := by
  unfold unpS
  split
  · rfl
  · split
    · rw [Int.toNat_natCast, List.getElem?_set_ne h]
    · rfl
theorem inst_other {l : List Wk} {i j : Nat} (h : i ≠ j) (e : Int) : (instS l (i : Int) e)[j]? = l[j]? := by
  unfold instS
  split
  · rfl
  · split
    · rfl
    · rw [Int.toNat_natCast, List.getElem?_set_ne h]
theorem ne_of_len {α : Type} {l : List α} (h : 1 ≤ l.length) : l ≠ [] := fun e => by rw [e] at h; simp at h
end Go.Proofs.Ytgacejencnkpmaa
