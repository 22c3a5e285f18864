/-
  Pins in memory: workers in a row, what waits in another one.
-/
import Derived.Test.YtgacejencnkpmaaPnL
import Derived.Test.YtgacejencnkpmaaMemW
import Derived.Test.YtgacejencnkpmaaOwnW
import Derived.Test.YtgacejencnkpmaaOwnX
import Derived.Test.YtgacejencnkpmaaProg
namespace Go.Proofs.Ytgacejencnkpmaa
open Go.RowKit
set_option linter.unusedSimpArgs false
set_option linter.unusedVariables false

/-- Workers as the program has them: where one looks at none, its 'sees' is 0. -/
def wkP (l : List Wk) : Array Value := ((l.map fun k => [Value.int .u64 k.at', Value.int .u64 (k.sees.getD 0), Value.bool k.sees.isSome]).flatten).toArray
theorem wkP_size (l : List Wk) : (wkP l).size = l.length * 3 := by
  unfold wkP
  induction l with
  | nil => rfl
  | cons y l ih => simp only [List.map_cons, List.flatten_cons, List.size_toArray, List.length_append, List.length_cons, List.length_nil] at ih ⊢; omega
theorem wkP_cons (y : Wk) (l : List Wk) : (wkP (y :: l)).toList = .int .u64 y.at' :: .int .u64 (y.sees.getD 0) :: .bool y.sees.isSome :: (wkP l).toList := rfl
theorem wkP_get {l : List Wk} : ∀ {i : Nat} {y : Wk}, l[i]? = some y → (wkP l)[i * 3]? = some (.int .u64 y.at') ∧ (wkP l)[i * 3 + 1]? = some (.int .u64 (y.sees.getD 0)) ∧ (wkP l)[i * 3 + 2]? = some (.bool y.sees.isSome) := by
  induction l with
  | nil => intro i y h; simp at h
  | cons a l ih =>
    intro i y h
    simp only [← Array.getElem?_toList]
    rw [wkP_cons]
    cases i with
    | zero => simp at h; subst h; exact ⟨rfl, rfl, rfl⟩
    | succ i =>
      have := ih (i := i) (y := y) (by simpa using h)
      simp only [← Array.getElem?_toList] at this
      rw [show (i + 1) * 3 = i * 3 + 3 by omega]
      exact this
theorem wkP_set {l : List Wk} {i : Nat} (y : Wk) : wkP (l.set i y) = (((wkP l).setIfInBounds (i * 3) (.int .u64 y.at')).setIfInBounds (i * 3 + 1) (.int .u64 (y.sees.getD 0))).setIfInBounds (i * 3 + 2) (.bool y.sees.isSome) := by
  apply Array.ext'
  simp only [Array.toList_setIfInBounds]
  revert i
  induction l with
  | nil => intro i; simp [wkP]
  | cons a l ih =>
    intro i
    cases i with
    | zero => rfl
    | succ i =>
      rw [List.set_cons_succ, wkP_cons, wkP_cons, ih, show (i + 1) * 3 = i * 3 + 3 by omega]
      rfl
/-- Stores of what stands there already turn nothing. -/
theorem arr_set_same {a : Array Value} {k : Nat} {v : Value} (h : a[k]? = some v) : a.setIfInBounds k v = a := by
  apply Array.ext_getElem?
  intro j
  by_cases hj : k = j
  · subst hj
    have hl := (Array.getElem?_eq_some_iff.1 h).1
    rw [Array.getElem?_setIfInBounds, if_pos rfl, if_pos hl, h]
  · rw [Array.getElem?_setIfInBounds, if_neg hj]
theorem arr_set_comm {a : Array Value} {i j : Nat} {u v : Value} (h : i ≠ j) : (a.setIfInBounds i u).setIfInBounds j v = (a.setIfInBounds j v).setIfInBounds i u := by
  apply Array.ext_getElem?
  intro k
  simp only [Array.getElem?_setIfInBounds, Array.size_setIfInBounds]
  by_cases h1 : i = k <;> by_cases h2 : j = k <;> simp [h1, h2]
  omega
/-- One cell of a worker. -/
theorem wkP_at {l : List Wk} {i : Nat} {y : Wk} (h : l[i]? = some y) (e : Int) : (wkP l).setIfInBounds (i * 3) (.int .u64 e) = wkP (l.set i ⟨e, y.sees⟩) := by
  obtain ⟨h0, h1, h2⟩ := wkP_get h
  rw [wkP_set, arr_set_same (k := i * 3 + 1), arr_set_same (k := i * 3 + 2)]
  · rw [Array.getElem?_setIfInBounds, if_neg (by omega)]; exact h2
  · rw [Array.getElem?_setIfInBounds, if_neg (by omega)]; exact h1
theorem wkP_sees {l : List Wk} {i : Nat} {y : Wk} (h : l[i]? = some y) (s : Option Int) : ((wkP l).setIfInBounds (i * 3 + 1) (.int .u64 (s.getD 0))).setIfInBounds (i * 3 + 2) (.bool s.isSome) = wkP (l.set i ⟨y.at', s⟩) := by
  obtain ⟨h0, h1, h2⟩ := wkP_get h
  rw [wkP_set, arr_set_same (k := i * 3) (v := .int .u64 y.at') h0]
theorem made_wk (n : Nat) : madeCells #[.int .u64 0, .int .u64 0, .bool false] (n * 3) = wkP (freshK n) := by
  apply Array.ext_getElem?
  intro j
  by_cases hj : j < n * 3
  · have e1 : (madeCells #[.int .u64 0, .int .u64 0, .bool false] (n * 3))[j]? = some ((#[.int .u64 0, .int .u64 0, .bool false] : Array Value)[j % 3]!) := by
      simp [madeCells, hj]
    have hf : (freshK n)[j / 3]? = some ⟨0, none⟩ := by
      unfold freshK
      rw [List.getElem?_replicate, if_pos (by omega)]
    obtain ⟨g0, g1, g2⟩ := wkP_get hf
    rw [e1]
    have h3 : j % 3 = 0 ∨ j % 3 = 1 ∨ j % 3 = 2 := by omega
    rcases h3 with h | h | h
    · rw [h, show j = j / 3 * 3 by omega, g0]; rfl
    · rw [h, show j = j / 3 * 3 + 1 by omega, g1]; rfl
    · rw [h, show j = j / 3 * 3 + 2 by omega, g2]; rfl
  · rw [Array.getElem?_eq_none (by simp [madeCells]; omega), Array.getElem?_eq_none (by rw [wkP_size, freshK_length]; omega)]

/-- What waits, as cells. -/
def wtP (q : List Wt) : List Value := (q.map fun t => [Value.int .i64 t.slot, Value.int .u32 t.turn, Value.int .u64 t.ep]).flatten
theorem wtP_length (q : List Wt) : (wtP q).length = q.length * 3 := by
  induction q with
  | nil => rfl
  | cons y l ih => unfold wtP at *; simp only [List.map_cons, List.flatten_cons, List.length_append, List.length_cons, List.length_nil, ih]; omega
theorem wtP_add (q : List Wt) (t : Wt) : wtP (q ++ [t]) = wtP q ++ [.int .i64 t.slot, .int .u32 t.turn, .int .u64 t.ep] := by simp [wtP]
theorem wtP_append (q r : List Wt) : wtP (q ++ r) = wtP q ++ wtP r := by simp [wtP]
theorem wtP_cons (t : Wt) (q : List Wt) : wtP (t :: q) = .int .i64 t.slot :: .int .u32 t.turn :: .int .u64 t.ep :: wtP q := rfl
theorem wtP_get {q : List Wt} : ∀ {i : Nat} {t : Wt}, q[i]? = some t → (wtP q)[i * 3]? = some (.int .i64 t.slot) ∧ (wtP q)[i * 3 + 1]? = some (.int .u32 t.turn) ∧ (wtP q)[i * 3 + 2]? = some (.int .u64 t.ep) := by
  induction q with
  | nil => intro i y h; simp at h
  | cons a l ih =>
    intro i y h
    rw [wtP_cons]
    cases i with
    | zero => simp at h; subst h; exact ⟨rfl, rfl, rfl⟩
    | succ i =>
      have := ih (i := i) (t := y) (by simpa using h)
      rw [show (i + 1) * 3 = i * 3 + 3 by omega]
      exact this
theorem wtP_set {q : List Wt} {i : Nat} (t : Wt) : wtP (q.set i t) = (((wtP q).set (i * 3) (.int .i64 t.slot)).set (i * 3 + 1) (.int .u32 t.turn)).set (i * 3 + 2) (.int .u64 t.ep) := by
  revert i
  induction q with
  | nil => intro i; simp [wtP]
  | cons a l ih =>
    intro i
    cases i with
    | zero => rfl
    | succ i =>
      rw [List.set_cons_succ, wtP_cons, wtP_cons, ih, show (i + 1) * 3 = i * 3 + 3 by omega]
      rfl

/-- What a worker's oldest epoch is: the one that it looks at, or else is at. -/
def Wk.old (k : Wk) : Int := k.sees.getD k.at'
/-- No worker looks at an epoch behind the one that it is at. -/
def Behind (l : List Wk) : Prop := ∀ k ∈ l, ∀ s, k.sees = some s → s ≤ k.at'
theorem Behind.set {l : List Wk} (h : Behind l) (i : Nat) {k : Wk} (hk : ∀ s, k.sees = some s → s ≤ k.at') : Behind (l.set i k) := fun z hz => (List.mem_or_eq_of_mem_set hz).elim (h z) (fun e => by rw [e]; exact hk)
theorem old_first {l : List Wk} (hb : Behind l) {k : Wk} (hk : k ∈ l) (h : ∀ z ∈ l, k.old ≤ z.old) : oldS l = k.old := by
  refine oldS_eq (fun z hz => ?_) ⟨k, hk, ?_⟩
  · have h1 := h z hz
    unfold Wk.old at h1 ⊢
    cases hs : z.sees with
    | none => rw [hs] at h1; exact ⟨h1, fun s e => by cases e⟩
    | some s =>
      have := hb z hz s hs
      rw [hs] at h1
      simp only [Option.getD_some] at h1
      exact ⟨Int.le_trans h1 this, fun s' e => by injection e with e; subst e; exact h1⟩
  · unfold Wk.old
    cases hs : k.sees with
    | none => exact .inl rfl
    | some s => exact .inr rfl

/-- A Pins in memory: its struct's block g; S: its blocks. -/
def PAt (w : World) (g : Nat) (S : Nat → Prop) (l : List Wk) (q : List Wt) : Prop :=
  ∃ r A c, r ≠ g ∧ (∀ k, S k ↔ (k = g ∨ k = r ∨ (Value.slice A q.length c).ownBlock = some k)) ∧ Whole w g 63 #[.slice (some ⟨r, 0, none⟩) l.length l.length, .slice A q.length c] ∧
    Whole w r 71 (wkP l) ∧ w.ownsRow 0 75 3 (.slice A q.length c) q.length (wtP q) ∧ (1 ≤ l.length ∧ l.length ≤ 4 ∧ q.length ≤ 64) ∧ Behind l
theorem PAt.lt {w : World} {g : Nat} {S : Nat → Prop} {l : List Wk} {q : List Wt} (h : PAt w g S l q) : ∀ k, S k → k < w.heap.size := by
  obtain ⟨r, A, c, _, hs, h1, h2, h3, _⟩ := h
  intro k hk
  rcases (hs k).1 hk with rfl | rfl | h4
  · exact h1.lt
  · exact h2.lt
  · exact (h3.lt k h4).2
theorem PAt.len {w : World} {g : Nat} {S : Nat → Prop} {l : List Wk} {q : List Wt} (h : PAt w g S l q) : 1 ≤ l.length ∧ l.length ≤ 4 ∧ q.length ≤ 64 := by
  obtain ⟨r, A, c, _, _, _, _, _, h, _⟩ := h
  exact h
theorem own_keepB {w w' : World} {base : Nat} {e : TypeId} {z n : Nat} {v : Value} {xs : List Value} (h : w.ownsRow base e z v n xs) (hk : ∀ k, v.ownBlock = some k → w'.heap[k]? = w.heap[k]?) : w'.ownsRow base e z v n xs := by
  refine ⟨h.1, h.2.imp id ?_⟩
  rintro ⟨g, cap, cur, h1, h2, h3, h4⟩
  exact ⟨g, cap, cur, h1, h2, (hk g (by rw [h1]; rfl)).trans h3, h4⟩
theorem PAt.keep {w w' : World} {g : Nat} {S : Nat → Prop} {l : List Wk} {q : List Wt} (h : PAt w g S l q) (hs : w.heap.size ≤ w'.heap.size) (hk : ∀ k, S k → w'.heap[k]? = w.heap[k]?) : PAt w' g S l q := by
  obtain ⟨r, A, c, hne, hS, h1, h2, h3, h4⟩ := h
  exact ⟨r, A, c, hne, hS, (hk g ((hS g).2 (.inl rfl))).trans h1, (hk r ((hS r).2 (.inr (.inl rfl)))).trans h2, own_keepB h3 fun k h => hk k ((hS k).2 (.inr (.inr h))), h4⟩
theorem PAt.next {w w' : World} {g : Nat} {S : Nat → Prop} {l : List Wk} {q : List Wt} (h : PAt w g S l q) (hb : Below w.heap.size w w') : PAt w' g S l q := h.keep hb.size fun k hk => hb.block k (h.lt k hk)
/-- A new one. -/
def PMade (n : Nat) (w : World) (e : Ending) (w' : World) : Prop := ∃ g S, e = .returned (.pointer (some ⟨g, 0, none⟩)) ∧ PAt w' g S (freshK n) [] ∧ (∀ k, S k → w.heap.size ≤ k) ∧ Below w.heap.size w w'
/-- A call: what it answers, what is there behind it; nothing but its own blocks turns. -/
def PDone (g : Nat) (S : Nat → Prop) (v : Value) (l : List Wk) (q : List Wt) (w : World) (e : Ending) (w' : World) : Prop := ∃ S', e = .returned v ∧ PAt w' g S' l q ∧ But S w w' ∧ ∀ k, k < w.heap.size → S' k → S k
/-- Sweep: the Refs of those that go, in new memory. -/
def PSwept (g : Nat) (S : Nat → Prop) (l : List Wk) (q : List Wt) (w : World) (e : Ending) (w' : World) : Prop :=
  ∃ A c S', e = .returned (.slice A (goes (oldS l) q).length c) ∧ Row w' w'.heap.size 2 A (goes (oldS l) q).length (rfC (goes (oldS l) q)) ∧ PAt w' g S' l (stays (oldS l) q) ∧ But S w w' ∧ ∀ k, k < w.heap.size → S' k → S k
end Go.Proofs.Ytgacejencnkpmaa
