/-
  Plain words on packets that are kept: rows of packets, where the last one of a number is, and a map in memory that says where. Nothing here names the program.
-/
import Derived.Test.YtbjighmjgjmphaaDedL
namespace Go.Proofs.Ytbjighmjgjmphaa
open Go.RowKit Go.Maps

/-- A packet: its number, its bytes. -/
structure Pk where
  seq : Int
  d : List UInt8

/-- Where the last packet of number k is. -/
def lastAt : List Pk → Int → Option Nat
  | [], _ => none
  | x :: t, k => match lastAt t k with
    | some i => some (i + 1)
    | none => if x.seq = k then some 0 else none
/-- How many numbers there are. -/
def dis : List Pk → Nat
  | [] => 0
  | x :: t => dis t + if (lastAt t x.seq).isSome then 0 else 1
/-- What is kept behind one more. -/
def addL (room : Nat) (l : List Pk) (p : Pk) : List Pk := if l.length < room then l ++ [p] else l.tail ++ [p]
/-- The packet that is told. -/
def getL (l : List Pk) (k : Int) : Option (List UInt8) := (lastAt l k).bind fun i => (l[i]?).map Pk.d

section
variable {l t : List Pk} {x y : Pk} {k : Int} {i : Nat}
theorem lastAt_cons (x : Pk) (t : List Pk) (k : Int) : lastAt (x :: t) k = match lastAt t k with
    | some i => some (i + 1)
    | none => if x.seq = k then some 0 else none := rfl
theorem lastAt_snoc (l : List Pk) (y : Pk) (k : Int) : lastAt (l ++ [y]) k = if y.seq = k then some l.length else lastAt l k := by
  induction l with
  | nil => simp [lastAt]
  | cons x t ih =>
    rw [List.cons_append, lastAt_cons, ih]
    by_cases h : y.seq = k
    · simp [h]
    · rw [if_neg h, if_neg h, lastAt_cons]
theorem lastAt_some (h : lastAt l k = some i) : ∃ p, l[i]? = some p ∧ p.seq = k := by
  induction l generalizing i with
  | nil => simp [lastAt] at h
  | cons x t ih =>
    rw [lastAt_cons] at h
    cases ht : lastAt t k with
    | some j =>
      rw [ht] at h
      simp at h
      subst h
      simpa using ih ht
    | none =>
      rw [ht] at h
      dsimp only at h
      split at h
      · simp at h
        subst h
        exact ⟨x, rfl, by assumption⟩
      · cases h
theorem lastAt_lt (h : lastAt l k = some i) : i < l.length := by
  obtain ⟨p, hp, _⟩ := lastAt_some h
  exact (List.getElem?_eq_some_iff.1 hp).1
theorem lastAt_none : lastAt l k = none ↔ ∀ p ∈ l, p.seq ≠ k := by
  induction l with
  | nil => simp [lastAt]
  | cons x t ih =>
    rw [lastAt_cons]
    cases ht : lastAt t k with
    | some j =>
      obtain ⟨p, hp, hk⟩ := lastAt_some ht
      have hm := List.mem_of_getElem? hp
      simp only [reduceCtorEq, false_iff]
      intro h
      exact h p (by simp [hm]) hk
    | none =>
      have := ih.1 ht
      by_cases hx : x.seq = k
      · simp [hx]
      · refine ⟨fun _ p hp => ?_, fun _ => by simp [hx]⟩
        rcases List.mem_cons.1 hp with rfl | hp
        · exact hx
        · exact this p hp
theorem dis_cons (x : Pk) (t : List Pk) : dis (x :: t) = dis t + if (lastAt t x.seq).isSome then 0 else 1 := rfl
theorem dis_le (l : List Pk) : dis l ≤ l.length := by
  induction l with
  | nil => simp [dis]
  | cons x t ih => rw [dis_cons, List.length_cons]; split <;> omega
theorem lastAt_head (x : Pk) (t : List Pk) : (lastAt (x :: t) x.seq).isSome = true := by
  rw [lastAt_cons]
  cases lastAt t x.seq <;> simp
theorem dis_snoc (l : List Pk) (y : Pk) : dis (l ++ [y]) = dis l + if (lastAt l y.seq).isSome then 0 else 1 := by
  induction l with
  | nil => simp [dis, lastAt]
  | cons x t ih =>
    rw [List.cons_append, dis_cons, ih, dis_cons, lastAt_snoc, lastAt_cons]
    by_cases h : y.seq = x.seq
    · have h' : x.seq = y.seq := h.symm
      simp only [h']
      cases hh : lastAt t y.seq <;> simp
    · have h' : ¬ x.seq = y.seq := fun e => h e.symm
      simp only [if_neg h, if_neg h']
      cases hh : lastAt t y.seq <;> simp <;> omega
theorem addL_length (room : Nat) (hr : 1 ≤ room) (l : List Pk) (p : Pk) (hl : l.length ≤ room) : (addL room l p).length = if l.length < room then l.length + 1 else room := by
  unfold addL
  split
  · simp
  · simp; omega
theorem getL_snoc (l : List Pk) (y : Pk) (k : Int) : getL (l ++ [y]) k = if y.seq = k then some y.d else getL l k := by
  unfold getL
  rw [lastAt_snoc]
  by_cases h : y.seq = k
  · rw [if_pos h, if_pos h]; simp
  · rw [if_neg h, if_neg h]
    cases hl : lastAt l k with
    | none => rfl
    | some i =>
      have := lastAt_lt hl
      simp [List.getElem?_append_left this]
end

/-! ### A map in memory that says where -/
def posElem (v : Value) : Option (DataW Unit × List MemPlace) :=
  match v with
  | .int .i64 n => some (.lit (.int .i64 n), [])
  | _ => none
theorem posElem_mk (n : Int) : posElem (.int .i64 n) = some (.lit (.int .i64 n), []) := rfl
theorem posElem_inv {v : Value} {n : Int} {ps : List MemPlace} (h : posElem v = some (.lit (.int .i64 n), ps)) : v = .int .i64 n := by
  unfold posElem at h
  split at h
  · simp only [Option.some.injEq, Prod.mk.injEq, DataW.lit.injEq, Lit.int.injEq, true_and] at h
    rw [h.1]
  · cases h

/-- The map of block m (keys of type kt) tells F, and holds n entries. -/
def Spots (P : Program) (kt : TypeId) (w : World) (m : Nat) (F : Int → Option Nat) (n : Nat) : Prop :=
  ∃ D, w.ownsMap P kt posElem m n D ∧ Maps.size D = n ∧ (∀ k, Maps.has D (.int .u16 k) = (F k).isSome) ∧ ∀ k i, F k = some i → ∀ z, D.atKey (.int .u16 k) z = .lit (.int .i64 (i : Nat))

section
variable {P : Program} {kt et t : TypeId} {w w' : World} {m n : Nat} {F G : Int → Option Nat}
theorem Spots.lt (h : Spots P kt w m F n) : m < w.heap.size := by
  obtain ⟨D, h, _⟩ := h
  exact h.lt
theorem Spots.same (h : Spots P kt w m F n) (hb : w'.heap[m]? = w.heap[m]?) : Spots P kt w' m F n := by
  obtain ⟨D, ⟨es, clock, h1, h2⟩, h3⟩ := h
  exact ⟨D, ⟨es, clock, hb.trans h1, h2⟩, h3⟩
theorem Spots.as (h : Spots P kt w m F n) (e : ∀ k, F k = G k) : Spots P kt w m G n := by
  have : F = G := funext e
  exact this ▸ h
theorem Spots.new (P : Program) (kt : TypeId) (w : World) : Spots P kt (w.alloc (.map #[] 0)) w.heap.size (fun _ => none) 0 :=
  ⟨.map [], World.ownsMap_made w P kt posElem, rfl, fun k => rfl, fun k e h => by cases h⟩
theorem Spots.not_cells (h : Spots P kt w m F n) {g : Nat} {ct : TypeId} {cs : Array Value} (hw : Whole w g ct cs) : m ≠ g := by
  rintro rfl
  obtain ⟨D, ⟨es, clock, h1, _⟩, _⟩ := h
  have h2 : w.heap[m]? = some (.cells cs ct (0, 0)) := hw
  rw [h1] at h2
  cases h2

/-- 'v, ok := m[k]'. -/
theorem Spots.look (h : Spots P kt w m F n) (K : Keyed P kt) (ht : P.underlying t = some (.map kt et)) (hz : (zeroValue et).run P w = .ok (.int .i64 0) w) {k : Int} (hk : keyOf P kt (.int .u16 k) = some (.int .u16 k)) :
    (Instr.lookup t (.map (some m)) (.int .u16 k) true).run P w = .ok (.tuple #[.int .i64 ((F k).getD 0 : Nat), .bool (F k).isSome]) w := by
  obtain ⟨D, h1, _, h3, h4⟩ := h
  obtain ⟨v, ps, hrun, hv⟩ := h1.look_ok K ht hz (posElem_mk 0) hk
  rw [hrun, h3 k]
  cases hf : F k with
  | none =>
    have hh := h3 k
    rw [hf] at hh
    rw [Maps.atKey_of_not_has (by simpa using hh)] at hv
    rw [posElem_inv hv]
    rfl
  | some e =>
    rw [h4 k e hf] at hv
    rw [posElem_inv hv]
    rfl
/-- 'm[k]' of a number that is there. -/
theorem Spots.look1 (h : Spots P kt w m F n) (K : Keyed P kt) (ht : P.underlying t = some (.map kt et)) (hz : (zeroValue et).run P w = .ok (.int .i64 0) w) {k : Int} (hk : keyOf P kt (.int .u16 k) = some (.int .u16 k)) {i : Nat} (hf : F k = some i) :
    (Instr.lookup t (.map (some m)) (.int .u16 k) false).run P w = .ok (.int .i64 (i : Nat)) w := by
  obtain ⟨D, h1, _, h3, h4⟩ := h
  obtain ⟨v, ps, hrun, hv⟩ := h1.lookup K ht hz (posElem_mk 0) hk
  rw [h4 k i hf] at hv
  rw [hrun, posElem_inv hv]

theorem skey_lit (k : Int) : WideAt.IsKeyLit (.int .u16 k) := trivial
theorem skey_ne {k k' : Int} (h : k' ≠ k) : (Lit.int .u16 k') ≠ .int .u16 k := fun e => h (by injection e)

/-- 'm[k] = i'. -/
theorem Spots.put (h : Spots P kt w m F n) (K : Keyed P kt) (ht : P.underlying t = some (.map kt et)) (hn : n < maxLen) {k : Int} (hk : keyOf P kt (.int .u16 k) = some (.int .u16 k)) (i : Nat) :
    ∃ w', (Instr.mapUpdate t (.map (some m)) (.int .u16 k) (.int .i64 (i : Nat))).run P w = .ok () w' ∧ Spots P kt w' m (fun k' => if k' = k then some i else F k') (if (F k).isSome then n else n + 1) ∧ w.mapTurned w' m := by
  obtain ⟨D, h1, h2, h3, h4⟩ := h
  obtain ⟨w', hrun, ho, hturn⟩ := h1.store K ht hn hk (posElem_mk (i : Nat))
  have hh := h3 k
  have hsize : Maps.size (D.put (.int .u16 k) (.lit (.int .i64 (i : Nat)))) = if (F k).isSome then n else n + 1 := by
    rw [Maps.size_put (h1.tidy K), hh, h2]
  refine ⟨w', hrun, ⟨_, owns_tight ho hsize, hsize, fun k' => ?_, fun k' j hj z => ?_⟩, hturn⟩
  · dsimp only
    by_cases e : k' = k
    · subst e
      rw [Maps.has_put_same h1.isMap (skey_lit _)]
      simp
    · rw [Maps.has_put_other (skey_ne e), h3, if_neg e]
  · dsimp only at hj
    by_cases e : k' = k
    · subst e
      rw [if_pos rfl] at hj
      injection hj with hj
      subst hj
      rw [Maps.atKey_put_same h1.isMap (skey_lit _)]
    · rw [if_neg e] at hj
      rw [Maps.atKey_put_other (skey_ne e)]
      exact h4 k' j hj z
/-- 'delete(m, k)'. -/
theorem Spots.del (h : Spots P kt w m F n) (K : Keyed P kt) (ht : P.underlying t = some (.map kt et)) {k : Int} (hk : keyOf P kt (.int .u16 k) = some (.int .u16 k)) (ty : TypeId) :
    ∃ w', (Builtin.delete_ #[t, kt] ty #[.map (some m), .int .u16 k]).run P w = .ok (.tuple #[]) w' ∧ Spots P kt w' m (fun k' => if k' = k then none else F k') (n - if (F k).isSome then 1 else 0) ∧ w.mapTurned w' m := by
  obtain ⟨D, h1, h2, h3, h4⟩ := h
  obtain ⟨w', hrun, ho, hturn⟩ := h1.drop K ht hk ty
  have hh := h3 k
  have hsize : Maps.size (D.del (.int .u16 k)) = n - if (F k).isSome then 1 else 0 := by
    have := Maps.size_del (k := .int .u16 k) (h1.tidy K)
    rw [hh, h2] at this
    omega
  refine ⟨w', hrun, ⟨_, owns_tight ho hsize, hsize, fun k' => ?_, fun k' j hj z => ?_⟩, hturn⟩
  · dsimp only
    by_cases e : k' = k
    · subst e
      rw [Maps.has_del_same]
      simp
    · rw [Maps.has_del_other (skey_ne e), h3, if_neg e]
  · dsimp only at hj
    by_cases e : k' = k
    · subst e
      rw [if_pos rfl] at hj
      cases hj
    · rw [if_neg e] at hj
      rw [Maps.atKey_del_other (skey_ne e)]
      exact h4 k' j hj z
end
end Go.Proofs.Ytbjighmjgjmphaa
