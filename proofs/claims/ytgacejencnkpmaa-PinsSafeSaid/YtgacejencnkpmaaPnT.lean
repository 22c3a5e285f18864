/-
  For PinsSafe: the code's thing, the law's three rows of numbers and bools, and its row of epochs, in one world.
-/
import Derived.Test.YtgacejencnkpmaaPnA
import Derived.Test.YtgacejencnkpmaaPnM
import Derived.Test.YtgacejencnkpmaaOwnX
namespace Go.Proofs.Ytgacejencnkpmaa
open Go.RowKit
set_option linter.unusedSimpArgs false
set_option linter.unusedVariables false

def atC (l : List Wk) : Array Value := (l.map fun k => Value.int .u64 k.at').toArray
def lkC (l : List Wk) : Array Value := (l.map fun k => Value.bool k.sees.isSome).toArray
def svC (s : List Int) : Array Value := (s.map (Value.int .u64)).toArray
theorem atC_size (l : List Wk) : (atC l).size = l.length := by simp [atC]
theorem lkC_size (l : List Wk) : (lkC l).size = l.length := by simp [lkC]
theorem svC_size (l : List Int) : (svC l).size = l.length := by simp [svC]
theorem atC_get {l : List Wk} {i : Nat} {k : Wk} (h : l[i]? = some k) : (atC l)[i]? = some (.int .u64 k.at') := by simp [atC, h]
theorem lkC_get {l : List Wk} {i : Nat} {k : Wk} (h : l[i]? = some k) : (lkC l)[i]? = some (.bool k.sees.isSome) := by simp [lkC, h]
theorem svC_get {l : List Int} {i : Nat} {k : Int} (h : l[i]? = some k) : (svC l)[i]? = some (.int .u64 k) := by simp [svC, h]
theorem atC_set (l : List Wk) (i : Nat) (k : Wk) : atC (l.set i k) = (atC l).setIfInBounds i (.int .u64 k.at') := by unfold atC; rw [List.map_set]; simp
theorem lkC_set (l : List Wk) (i : Nat) (k : Wk) : lkC (l.set i k) = (lkC l).setIfInBounds i (.bool k.sees.isSome) := by unfold lkC; rw [List.map_set]; simp
theorem svC_set (l : List Int) (i : Nat) (k : Int) : svC (l.set i k) = (svC l).setIfInBounds i (.int .u64 k) := by unfold svC; rw [List.map_set]; simp
theorem arr_same {a : Array Value} {k : Nat} {v : Value} (h : a[k]? = some v) : a.setIfInBounds k v = a := by
  apply Array.ext_getElem?
  intro j
  by_cases e : k = j
  · subst e
    obtain ⟨hk, hv⟩ := Array.getElem?_eq_some_iff.1 h
    rw [Array.getElem?_setIfInBounds_self_of_lt hk, h]
  · rw [Array.getElem?_setIfInBounds_ne e]
/-- The epochs that are looked at stand in the law's row. -/
def Sees (l : List Wk) (sv : List Int) : Prop := sv.length = l.length ∧ ∀ (i : Nat) (k : Wk) (s : Int), l[i]? = some k → k.sees = some s → sv[i]? = some s
/-- What waits is of the epochs that were told. -/
def Told (q : List Wt) (E : List Int) : Prop := ∀ t ∈ q, 0 ≤ t.slot ∧ t.slot < E.length ∧ E[t.slot.toNat]? = some t.ep
theorem Told.stays {q : List Wt} {E : List Int} (h : Told q E) (x : Int) : Told (stays x q) E := fun t ht => h t (List.mem_filter.1 ht).1
theorem Told.add {q : List Wt} {E : List Int} (h : Told q E) (t : Int) (e : Int) : Told (q ++ [⟨(E.length : Int), t, e⟩]) (E ++ [e]) := by
  intro y hy
  rw [List.length_append, List.length_cons, List.length_nil]
  rcases List.mem_append.1 hy with hy | hy
  · obtain ⟨h1, h2, h3⟩ := h y hy
    refine ⟨h1, by omega, ?_⟩
    rw [List.getElem?_append_left (by omega)]
    exact h3
  · rw [List.mem_singleton.1 hy]
    refine ⟨by show (0 : Int) ≤ (E.length : Int); omega, by show (E.length : Int) < _; omega, ?_⟩
    show (E ++ [e])[((E.length : Int)).toNat]? = some e
    rw [Int.toNat_natCast, List.getElem?_append_right (Nat.le_refl _), Nat.sub_self]
    rfl
/-- What goes: of which epoch, and nobody is below it. -/
theorem goes_told {q : List Wt} {E : List Int} {x : Int} (h : Told q E) {j : Nat} {t : Wt} (hj : (goes x q)[j]? = some t) : t.ep ≤ x ∧ 0 ≤ t.slot ∧ t.slot < E.length ∧ E[t.slot.toNat]? = some t.ep := by
  have hm := List.mem_filter.1 (List.mem_of_getElem? hj)
  exact ⟨by simpa using hm.2, h t hm.1⟩

structure Saf (w0 : World) (g g8 g9 g10 : Nat) (l : List Wk) (q : List Wt) (sv : List Int) (la lk : List Wk) (E : List Int) (S : Nat → Prop) (v11 : Value) (wr : World) : Prop where
  at' : PAt wr g S l q
  sLo : ∀ j, S j → w0.heap.size ≤ j
  b8 : Whole wr g8 30 (atC la)
  b9 : Whole wr g9 30 (svC sv)
  b10 : Whole wr g10 4 (lkC lk)
  lo : w0.heap.size ≤ g8 ∧ w0.heap.size ≤ g9 ∧ w0.heap.size ≤ g10
  ne : g8 ≠ g9 ∧ g8 ≠ g10 ∧ g9 ≠ g10
  no : ¬ S g8 ∧ ¬ S g9 ∧ ¬ S g10
  own : wr.ownsRow w0.heap.size 30 1 v11 E.length (E.map (Value.int .u64))
  oS : ∀ b, v11.ownBlock = some b → ¬ S b ∧ b ≠ g8 ∧ b ≠ g9 ∧ b ≠ g10
  below : Below w0.heap.size w0 wr

section
variable {w0 wr w' : World} {g g8 g9 g10 : Nat} {l la lk : List Wk} {q : List Wt} {sv : List Int} {E : List Int} {S : Nat → Prop} {v11 : Value}
theorem Saf.next (h : Saf w0 g g8 g9 g10 l q sv la lk E S v11 wr) (hb : Below wr.heap.size wr w') : Saf w0 g g8 g9 g10 l q sv la lk E S v11 w' :=
  ⟨h.at'.next hb, h.sLo, h.b8.below hb h.b8.lt, h.b9.below hb h.b9.lt, h.b10.below hb h.b10.lt, h.lo, h.ne, h.no, own_below h.own hb (Nat.le_refl _), h.oS, h.below.trans (hb.mono h.below.size)⟩
theorem Saf.code (h : Saf w0 g g8 g9 g10 l q sv la lk E S v11 wr) {l' : List Wk} {q' : List Wt} {S' : Nat → Prop} (a : PAt w' g S' l' q') (k : But S wr w') (m : ∀ k, k < wr.heap.size → S' k → S k) : Saf w0 g g8 g9 g10 l' q' sv la lk E S' v11 w' :=
  ⟨a, fun j hj => (Nat.lt_or_ge j wr.heap.size).elim (fun hl => h.sLo j (m j hl hj)) (fun hl => Nat.le_trans h.below.size hl), h.b8.but k h.no.1, h.b9.but k h.no.2.1, h.b10.but k h.no.2.2, h.lo, h.ne,
    ⟨fun hs => h.no.1 (m _ h.b8.lt hs), fun hs => h.no.2.1 (m _ h.b9.lt hs), fun hs => h.no.2.2 (m _ h.b10.lt hs)⟩, own_butX h.own k (fun b hb => (h.oS b hb).1),
    fun b hb => ⟨fun hs => (h.oS b hb).1 (m _ (h.own.lt b hb).2 hs), (h.oS b hb).2⟩, h.below.trans (k.below h.below.size (fun j hj hs => Nat.not_le_of_lt hj (h.sLo j hs)))⟩
theorem Saf.set8 (h : Saf w0 g g8 g9 g10 l q sv la lk E S v11 wr) (i : Nat) (k : Wk) : Saf w0 g g8 g9 g10 l q sv (la.set i k) lk E S v11 (wr.setCell ⟨g8, i, none⟩ (.int .u64 k.at')) :=
  ⟨h.at'.keep (by simp) (fun b hb => Below.heap_setCell _ _ _ _ (fun e => h.no.1 (by have e' : b = g8 := e; exact e' ▸ hb))), h.sLo, by rw [atC_set]; exact h.b8.set i _, h.b9.far (p := ⟨g8, i, none⟩) h.ne.1.symm _, h.b10.far (p := ⟨g8, i, none⟩) h.ne.2.1.symm _, h.lo, h.ne, h.no,
    own_farX (p := ⟨g8, i, none⟩) h.own (fun b hb e => (h.oS b hb).2.1 e.symm), h.oS, h.below.setCell (p := ⟨g8, i, none⟩) h.lo.1 _⟩
theorem Saf.set9 (h : Saf w0 g g8 g9 g10 l q sv la lk E S v11 wr) (i : Nat) (x : Int) : Saf w0 g g8 g9 g10 l q (sv.set i x) la lk E S v11 (wr.setCell ⟨g9, i, none⟩ (.int .u64 x)) :=
  ⟨h.at'.keep (by simp) (fun b hb => Below.heap_setCell _ _ _ _ (fun e => h.no.2.1 (by have e' : b = g9 := e; exact e' ▸ hb))), h.sLo, h.b8.far (p := ⟨g9, i, none⟩) h.ne.1 _, by rw [svC_set]; exact h.b9.set i _, h.b10.far (p := ⟨g9, i, none⟩) h.ne.2.2.symm _, h.lo, h.ne, h.no,
    own_farX (p := ⟨g9, i, none⟩) h.own (fun b hb e => (h.oS b hb).2.2.1 e.symm), h.oS, h.below.setCell (p := ⟨g9, i, none⟩) h.lo.2.1 _⟩
theorem Saf.set10 (h : Saf w0 g g8 g9 g10 l q sv la lk E S v11 wr) (i : Nat) (k : Wk) : Saf w0 g g8 g9 g10 l q sv la (lk.set i k) E S v11 (wr.setCell ⟨g10, i, none⟩ (.bool k.sees.isSome)) :=
  ⟨h.at'.keep (by simp) (fun b hb => Below.heap_setCell _ _ _ _ (fun e => h.no.2.2 (by have e' : b = g10 := e; exact e' ▸ hb))), h.sLo, h.b8.far (p := ⟨g10, i, none⟩) h.ne.2.1 _, h.b9.far (p := ⟨g10, i, none⟩) h.ne.2.2 _, by rw [lkC_set]; exact h.b10.set i _, h.lo, h.ne, h.no,
    own_farX (p := ⟨g10, i, none⟩) h.own (fun b hb e => (h.oS b hb).2.2.2 e.symm), h.oS, h.below.setCell (p := ⟨g10, i, none⟩) h.lo.2.2 _⟩
theorem Saf.la' {la' : List Wk} (h : Saf w0 g g8 g9 g10 l q sv la lk E S v11 wr) (e : atC la = atC la') : Saf w0 g g8 g9 g10 l q sv la' lk E S v11 wr := { h with b8 := e ▸ h.b8 }
theorem Saf.lk' {lk' : List Wk} (h : Saf w0 g g8 g9 g10 l q sv la lk E S v11 wr) (e : lkC lk = lkC lk') : Saf w0 g g8 g9 g10 l q sv la lk' E S v11 wr := { h with b10 := e ▸ h.b10 }
theorem Saf.add (h : Saf w0 g g8 g9 g10 l q sv la lk E S v11 wr) {v' : Value} {x : Int} (o : w'.ownsRow w0.heap.size 30 1 v' (E.length + 1) (E.map (Value.int .u64) ++ [.int .u64 x])) (gr : wr.grownBy w' v11.ownBlock)
    (hv : v'.ownBlock = v11.ownBlock ∨ v'.ownBlock = some wr.heap.size) : Saf w0 g g8 g9 g10 l q sv la lk (E ++ [x]) S v' w' :=
  ⟨h.at'.keep gr.size (fun k hk => gr.block k (h.at'.lt k hk) (fun e => (h.oS k e.symm).1 hk)), h.sLo, h.b8.grown gr (fun e => (h.oS _ e.symm).2.1 rfl), h.b9.grown gr (fun e => (h.oS _ e.symm).2.2.1 rfl), h.b10.grown gr (fun e => (h.oS _ e.symm).2.2.2 rfl), h.lo, h.ne, h.no,
    by rw [List.map_append, List.length_append]; exact o, fun b hb => hv.elim (fun e => h.oS b (e ▸ hb)) (fun e => by
      rw [e] at hb
      injection hb with hb
      have h8 := h.b8.lt
      have h9 := h.b9.lt
      have h10 := h.b10.lt
      exact ⟨fun hs => by have := h.at'.lt b hs; omega, by omega, by omega, by omega⟩), h.below.grown gr h.below.size (fun q hq => (h.own.lt q hq).1)⟩
end

/-! ### What each act makes of these -/
theorem inst_ok {l : List Wk} {i : Nat} {e : Int} (h : instE l (i : Int) e = 0) : ∃ k, l[i]? = some k ∧ ¬ e < k.at' ∧ instS l (i : Int) e = l.set i ⟨e, k.sees⟩ := by
  unfold instE at h
  unfold instS
  rw [wkAt_nat] at h ⊢
  cases hk : l[i]? with
  | none => rw [hk] at h; simp at h
  | some k =>
    rw [hk] at h
    dsimp only at h ⊢
    by_cases h1 : e < k.at'
    · rw [if_pos h1] at h; simp at h
    · exact ⟨k, rfl, h1, by rw [if_neg h1, Int.toNat_natCast]⟩
theorem inst_no {l : List Wk} {i e : Int} (h : instE l i e ≠ 0) : instS l i e = l := by
  unfold instE at h
  unfold instS
  cases hk : wkAt l i with
  | none => rfl
  | some k =>
    rw [hk] at h
    dsimp only at h ⊢
    by_cases h1 : e < k.at'
    · rw [if_pos h1]
    · rw [if_neg h1] at h; exact absurd rfl h
theorem pin_ok {l : List Wk} {i : Nat} (h : pinE l (i : Int) = 0) : ∃ k, l[i]? = some k ∧ k.sees = none ∧ pinX l (i : Int) = k.at' ∧ pinS l (i : Int) = l.set i ⟨k.at', some k.at'⟩ := by
  unfold pinE at h
  unfold pinX pinS
  rw [wkAt_nat] at h ⊢
  cases hk : l[i]? with
  | none => rw [hk] at h; simp at h
  | some k =>
    rw [hk] at h
    dsimp only at h ⊢
    by_cases h1 : k.sees.isSome = true
    · rw [if_pos h1] at h; simp at h
    · exact ⟨k, rfl, by simpa using h1, by rw [if_neg h1], by rw [if_neg h1, Int.toNat_natCast]⟩
theorem pin_no {l : List Wk} {i : Int} (h : pinE l i ≠ 0) : pinS l i = l := by
  unfold pinE at h
  unfold pinS
  cases hk : wkAt l i with
  | none => rfl
  | some k =>
    rw [hk] at h
    dsimp only at h ⊢
    by_cases h1 : k.sees.isSome = true
    · rw [if_pos h1]
    · rw [if_neg h1] at h; exact absurd rfl h
theorem unp_ok {l : List Wk} {i : Nat} (h : unpE l (i : Int) = 0) : ∃ k, l[i]? = some k ∧ unpS l (i : Int) = l.set i ⟨k.at', none⟩ := by
  unfold unpE at h
  unfold unpS
  rw [wkAt_nat] at h ⊢
  cases hk : l[i]? with
  | none => rw [hk] at h; simp at h
  | some k =>
    rw [hk] at h
    dsimp only at h ⊢
    by_cases h1 : k.sees.isSome = true
    · exact ⟨k, rfl, by rw [if_pos h1, Int.toNat_natCast]⟩
    · rw [if_neg h1] at h; simp at h
theorem unp_no {l : List Wk} {i : Int} (h : unpE l i ≠ 0) : unpS l i = l := by
  unfold unpE at h
  unfold unpS
  cases hk : wkAt l i with
  | none => rfl
  | some k =>
    rw [hk] at h
    dsimp only at h ⊢
    by_cases h1 : k.sees.isSome = true
    · rw [if_pos h1] at h; exact absurd rfl h
    · rw [if_neg h1]
theorem out_none {l : List Wk} {i : Int} (h : ¬ (0 ≤ i ∧ i < l.length)) : wkAt l i = none := by
  by_cases h0 : i < 0
  · exact wkAt_low h0
  · obtain ⟨k, rfl⟩ : ∃ k : Nat, i = (k : Int) := ⟨i.toNat, by omega⟩
    exact wkAt_high (by omega)
theorem Sees.set {l : List Wk} {sv : List Int} (h : Sees l sv) (i : Nat) {k : Wk} (hk : ∀ s, k.sees = some s → sv[i]? = some s) : Sees (l.set i k) sv := by
  refine ⟨by rw [List.length_set]; exact h.1, fun j y s hj hy => ?_⟩
  by_cases e : i = j
  · subst e
    have hi : i < l.length := by have := (List.getElem?_eq_some_iff.1 hj).1; rwa [List.length_set] at this
    rw [List.getElem?_set_self hi] at hj
    injection hj with hj
    subst hj
    exact hk s hy
  · rw [List.getElem?_set_ne e] at hj
    exact h.2 j y s hj hy
theorem Sees.put {l : List Wk} {sv : List Int} (h : Sees l sv) {i : Nat} {k : Wk} {s : Int} (hi : i < l.length) (hk : k.sees = some s) : Sees (l.set i k) (sv.set i s) := by
  refine ⟨by rw [List.length_set, List.length_set]; exact h.1, fun j y s' hj hy => ?_⟩
  by_cases e : i = j
  · subst e
    rw [List.getElem?_set_self hi] at hj
    injection hj with hj
    subst hj
    rw [hk] at hy
    injection hy with hy
    subst hy
    rw [List.getElem?_set_self (by rw [h.1]; exact hi)]
  · rw [List.getElem?_set_ne e] at hj ⊢
    exact h.2 j y s' hj hy
end Go.Proofs.Ytgacejencnkpmaa
