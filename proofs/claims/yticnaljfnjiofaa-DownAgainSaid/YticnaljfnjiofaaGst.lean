/-
  Several texts in one (DedL, StoL): what each of them says stands at its head.
-/
import Derived.Test.YticnaljfnjiofaaGpl
import Derived.Maps.OwnSet
/-
  Plain words on a table of requests: rows of requests, what starts and answers come to, a map in memory that holds just a row, and 'but for the blocks of S nothing is turned'. Nothing here names the program.
-/
namespace Go.Proofs.Yticnaljfnjiofaa
open Go.RowKit Go.Maps

/-- A request, its answer, and whether it has one. -/
structure Ent where
  id : Int
  ans : ByteArray
  done : Bool

def fnd (l : List Ent) (k : Int) : Option Ent := l.find? fun e => e.id == k
def waits (l : List Ent) : Nat := (l.filter fun e => !e.done).length
def fresh (k : Int) : Ent := ⟨k, ⟨#[]⟩, false⟩
/-- Request k has this answer. -/
def upd (l : List Ent) (k : Int) (s : ByteArray) : List Ent := l.map fun e => if e.id = k then ⟨k, s, true⟩ else e
/-- What a start comes to: the error, and the row. -/
def startL (room : Nat) (l : List Ent) (k : Int) : Int × List Ent :=
  match fnd l k with
  | some _ => (22, l)
  | none => if l.length < room then (0, l ++ [fresh k]) else
    match l with
    | [] => (20, [])
    | e :: t => if e.done then (0, t ++ [fresh k]) else (20, e :: t)
/-- What an answer comes to. -/
def endL (l : List Ent) (k : Int) (s : ByteArray) : Int × List Ent :=
  match fnd l k with
  | none => (21, l)
  | some e => if e.done then (23, l) else (0, upd l k s)

def IdsApart (l : List Ent) : Prop := l.Pairwise fun a b => a.id ≠ b.id

section
variable {l t : List Ent} {k k' : Int} {e : Ent} {s : ByteArray}
theorem fnd_none : fnd l k = none ↔ ∀ e ∈ l, e.id ≠ k := by simp [fnd, List.find?_eq_none]
theorem fnd_some (h : fnd l k = some e) : e ∈ l ∧ e.id = k := ⟨List.mem_of_find?_eq_some h, by have := List.find?_some h; simpa using this⟩
theorem fnd_snoc (l : List Ent) (k k' : Int) : fnd (l ++ [fresh k]) k' = (fnd l k').or (if k = k' then some (fresh k) else none) := by
  unfold fnd
  rw [List.find?_append]
  simp [List.find?_cons, fresh]
  split <;> simp_all
theorem fnd_tail (h : IdsApart (e :: t)) : fnd t k' = if k' = e.id then none else fnd (e :: t) k' := by
  obtain ⟨h1, _⟩ := List.pairwise_cons.1 h
  split
  · subst k'
    exact fnd_none.2 fun x hx => (h1 x hx).symm
  · rename_i hne
    unfold fnd
    rw [List.find?_cons_of_neg (by simpa using fun e' => hne e'.symm)]
theorem fnd_cons (e : Ent) (t : List Ent) (k : Int) : fnd (e :: t) k = if e.id = k then some e else fnd t k := by
  unfold fnd
  split
  · rw [List.find?_cons_of_pos (by simpa)]
  · rw [List.find?_cons_of_neg (by simpa)]
theorem upd_cons (e : Ent) (t : List Ent) (k : Int) (s : ByteArray) : upd (e :: t) k s = (if e.id = k then ⟨k, s, true⟩ else e) :: upd t k s := rfl
theorem fnd_upd (l : List Ent) (k : Int) (s : ByteArray) (k' : Int) : fnd (upd l k s) k' = if k' = k then (fnd l k).map (fun _ => ⟨k, s, true⟩) else fnd l k' := by
  induction l with
  | nil => simp [fnd, upd]
  | cons e t ih =>
    rw [upd_cons, fnd_cons, fnd_cons, fnd_cons, ih]
    by_cases h1 : e.id = k
    · rw [if_pos h1]
      by_cases h2 : k' = k
      · subst h2
        simp [h1]
      · rw [if_neg (fun h => h2 h.symm), if_neg h2, if_neg h2, if_neg (by rw [h1]; exact fun h => h2 h.symm)]
    · rw [if_neg h1]
      by_cases h2 : k' = k
      · subst h2
        simp [h1]
      · simp [h2]
theorem upd_ids (l : List Ent) (k : Int) (s : ByteArray) : (upd l k s).map Ent.id = l.map Ent.id := by
  unfold upd
  rw [List.map_map]
  apply List.map_congr_left
  intro e _
  simp only [Function.comp]
  split <;> simp_all
theorem upd_length (l : List Ent) (k : Int) (s : ByteArray) : (upd l k s).length = l.length := by simp [upd]
theorem apart_ids : IdsApart l ↔ (l.map Ent.id).Nodup := by
  unfold IdsApart List.Nodup
  rw [List.pairwise_map]
theorem IdsApart.upd (h : IdsApart l) (k : Int) (s : ByteArray) : IdsApart (upd l k s) := by
  rw [apart_ids] at *
  rwa [upd_ids]
theorem IdsApart.snoc (h : IdsApart l) (hk : fnd l k = none) : IdsApart (l ++ [fresh k]) := by
  unfold IdsApart at *
  rw [List.pairwise_append]
  refine ⟨h, by simp, fun a ha b hb => ?_⟩
  simp at hb
  subst hb
  exact fnd_none.1 hk a ha
theorem IdsApart.tail (h : IdsApart (e :: t)) : IdsApart t := (List.pairwise_cons.1 h).2
theorem waits_snoc (l : List Ent) (k : Int) : waits (l ++ [fresh k]) = waits l + 1 := by simp [waits, fresh]
theorem waits_cons (e : Ent) (t : List Ent) : waits (e :: t) = waits t + if e.done then 0 else 1 := by
  unfold waits
  cases h : e.done <;> simp [h]
theorem waits_le (l : List Ent) : waits l ≤ l.length := by unfold waits; exact List.length_filter_le _ _
theorem upd_none (h : fnd l k = none) : upd l k s = l := by
  unfold upd
  conv => rhs; rw [← List.map_id l]
  apply List.map_congr_left
  intro x hx
  rw [if_neg (fnd_none.1 h x hx)]
  rfl
theorem waits_upd (h : IdsApart l) (hf : fnd l k = some e) (hd : e.done = false) : waits (upd l k s) + 1 = waits l := by
  induction l with
  | nil => simp [fnd] at hf
  | cons x t ih =>
    have ht := h.tail
    by_cases hx : x.id = k
    · have hfx : fnd (x :: t) k = some x := by unfold fnd; rw [List.find?_cons_of_pos (by simpa using hx)]
      rw [hfx] at hf
      obtain rfl : x = e := by simpa using hf
      have hn : fnd t k = none := fnd_none.2 fun y hy => by rw [← hx]; exact fun e' => (List.pairwise_cons.1 h).1 y hy e'.symm
      have : upd (x :: t) k s = ⟨k, s, true⟩ :: t := by
        have := upd_none (s := s) hn
        unfold upd at *
        rw [List.map_cons, this, if_pos hx]
      rw [this, waits_cons, waits_cons, hd]
      simp
    · have hft : fnd t k = some e := by
        unfold fnd at *
        rwa [List.find?_cons_of_neg (by simpa using hx)] at hf
      have := ih ht hft
      have e1 : upd (x :: t) k s = x :: upd t k s := by unfold upd; rw [List.map_cons, if_neg hx]
      rw [e1, waits_cons, waits_cons]
      omega
end

/-! ### A map in memory that holds just a row -/
def reqD (s : ByteArray) (b : Bool) : DataW Unit := .agg [.lit (.string s.data.toList), .lit (.bool b)]
def reqV (s : ByteArray) (b : Bool) : Value := .agg #[.string s, .bool b]
def reqElem (v : Value) : Option (DataW Unit × List MemPlace) :=
  match v with
  | .agg ⟨[.string s, .bool b]⟩ => some (reqD s b, [])
  | _ => none
theorem reqElem_mk (s : ByteArray) (b : Bool) : reqElem (reqV s b) = some (reqD s b, []) := rfl
theorem reqElem_inv {v : Value} {s : ByteArray} {b : Bool} {ps : List MemPlace} (h : reqElem v = some (reqD s b, ps)) : v = reqV s b := by
  unfold reqElem at h
  split at h
  · rename_i s' b'
    simp only [Option.some.injEq, Prod.mk.injEq, reqD, DataW.agg.injEq, List.cons.injEq, DataW.lit.injEq, Lit.string.injEq, Lit.bool.injEq, and_true] at h
    obtain ⟨⟨h1, h2⟩, _⟩ := h
    have : s' = s := by
      apply ByteArray.ext
      apply Array.ext'
      exact h1
    subst this
    subst h2
    rfl
  · cases h

/-- The map of block m (keys of type kt) holds just the row l. -/
def Holds (P : Program) (kt : TypeId) (w : World) (m : Nat) (l : List Ent) : Prop :=
  ∃ D, w.ownsMap P kt reqElem m l.length D ∧ Maps.size D = l.length ∧ (∀ k, Maps.has D (.int .u64 k) = (fnd l k).isSome) ∧ ∀ k e, fnd l k = some e → ∀ z, D.atKey (.int .u64 k) z = reqD e.ans e.done

theorem owns_tight {P : Program} {kt : TypeId} {R : Value → Option (DataW Unit × List MemPlace)} {w : World} {m n : Nat} {D : DataW Unit} (h : w.ownsMap P kt R m n D) {n' : Nat} (hn : Maps.size D = n') : w.ownsMap P kt R m n' D := by
  obtain ⟨es, clock, hb, F, _, rfl⟩ := h
  refine ⟨es, clock, hb, F, ?_, rfl⟩
  rw [← hn]
  simp [Maps.size, length_sorted]

section
variable {P : Program} {kt et t : TypeId} {w w' : World} {m : Nat} {l : List Ent}
theorem Holds.lt (h : Holds P kt w m l) : m < w.heap.size := by
  obtain ⟨D, h, _⟩ := h
  exact h.lt
theorem Holds.same (h : Holds P kt w m l) (hb : w'.heap[m]? = w.heap[m]?) : Holds P kt w' m l := by
  obtain ⟨D, ⟨es, clock, h1, h2⟩, h3⟩ := h
  exact ⟨D, ⟨es, clock, hb.trans h1, h2⟩, h3⟩
theorem Holds.new (P : Program) (kt : TypeId) (w : World) : Holds P kt (w.alloc (.map #[] 0)) w.heap.size [] :=
  ⟨.map [], World.ownsMap_made w P kt reqElem, rfl, fun k => rfl, fun k e h => by simp [fnd] at h⟩
theorem Holds.not_cells (h : Holds P kt w m l) {g : Nat} {ct : TypeId} {cs : Array Value} (hw : Whole w g ct cs) : m ≠ g := by
  rintro rfl
  obtain ⟨D, ⟨es, clock, h1, _⟩, _⟩ := h
  have h2 : w.heap[m]? = some (.cells cs ct (0, 0)) := hw
  rw [h1] at h2
  cases h2

/-- 'v, ok := m[k]'. -/
theorem Holds.look (h : Holds P kt w m l) (K : Keyed P kt) (ht : P.underlying t = some (.map kt et)) (hz : (zeroValue et).run P w = .ok (reqV ⟨#[]⟩ false) w) {k : Int} (hk : keyOf P kt (.int .u64 k) = some (.int .u64 k)) :
    (Instr.lookup t (.map (some m)) (.int .u64 k) true).run P w = .ok (.tuple #[match fnd l k with | some e => reqV e.ans e.done | none => reqV ⟨#[]⟩ false, .bool (fnd l k).isSome]) w := by
  obtain ⟨D, h1, _, h3, h4⟩ := h
  obtain ⟨v, ps, hrun, hv⟩ := h1.look_ok K ht hz (reqElem_mk ⟨#[]⟩ false) hk
  rw [hrun, h3 k]
  cases hf : fnd l k with
  | none =>
    have hh := h3 k
    rw [hf] at hh
    rw [Maps.atKey_of_not_has (by simpa using hh)] at hv
    rw [reqElem_inv hv]
  | some e =>
    rw [h4 k e hf] at hv
    rw [reqElem_inv hv]
/-- 'm[k]' of a request that is there. -/
theorem Holds.look1 (h : Holds P kt w m l) (K : Keyed P kt) (ht : P.underlying t = some (.map kt et)) (hz : (zeroValue et).run P w = .ok (reqV ⟨#[]⟩ false) w) {k : Int} (hk : keyOf P kt (.int .u64 k) = some (.int .u64 k)) {e : Ent} (hf : fnd l k = some e) :
    (Instr.lookup t (.map (some m)) (.int .u64 k) false).run P w = .ok (reqV e.ans e.done) w := by
  obtain ⟨D, h1, _, h3, h4⟩ := h
  obtain ⟨v, ps, hrun, hv⟩ := h1.lookup K ht hz (reqElem_mk ⟨#[]⟩ false) hk
  rw [h4 k e hf] at hv
  rw [hrun, reqElem_inv hv]
theorem Holds.len (h : Holds P kt w m l) (ht : P.underlying t = some (.map kt et)) (ty : TypeId) : (Builtin.len_ #[t] ty #[.map (some m)]).run P w = .ok (.int .i64 l.length) w := by
  obtain ⟨D, h1, h2, _⟩ := h
  rw [h1.len ht, h2]

theorem key_lit (k : Int) : WideAt.IsKeyLit (.int .u64 k) := trivial
theorem key_ne {k k' : Int} (h : k' ≠ k) : (Lit.int .u64 k') ≠ .int .u64 k := fun e => h (by injection e)

/-- 'm[k] = v' of a request that is not there. -/
theorem Holds.put_new (h : Holds P kt w m l) (K : Keyed P kt) (ht : P.underlying t = some (.map kt et)) (hn : l.length < maxLen) {k : Int} (hk : keyOf P kt (.int .u64 k) = some (.int .u64 k)) (hf : fnd l k = none) :
    ∃ w', (Instr.mapUpdate t (.map (some m)) (.int .u64 k) (reqV ⟨#[]⟩ false)).run P w = .ok () w' ∧ Holds P kt w' m (l ++ [fresh k]) ∧ w.mapTurned w' m := by
  obtain ⟨D, h1, h2, h3, h4⟩ := h
  obtain ⟨w', hrun, ho, hturn⟩ := h1.store K ht hn hk (reqElem_mk ⟨#[]⟩ false)
  have hh := h3 k
  rw [hf] at hh
  have hsize : Maps.size (D.put (.int .u64 k) (reqD ⟨#[]⟩ false)) = (l ++ [fresh k]).length := by
    rw [Maps.size_put (h1.tidy K), hh, h2]
    simp
  refine ⟨w', hrun, ⟨_, owns_tight ho hsize, hsize, fun k' => ?_, fun k' e he z => ?_⟩, hturn⟩
  · rw [fnd_snoc]
    by_cases e : k' = k
    · subst e
      rw [Maps.has_put_same h1.isMap (key_lit _), hf]
      simp
    · rw [Maps.has_put_other (key_ne e), h3, if_neg (fun e' => e e'.symm)]
      simp
  · rw [fnd_snoc] at he
    by_cases e' : k' = k
    · subst e'
      rw [hf] at he
      simp at he
      subst he
      rw [Maps.atKey_put_same h1.isMap (key_lit _)]
      rfl
    · rw [if_neg (fun e => e' e.symm)] at he
      rw [Maps.atKey_put_other (key_ne e')]
      exact h4 k' e (by simpa using he) z
/-- 'm[k] = v' of one that is there. -/
theorem Holds.put_old (h : Holds P kt w m l) (K : Keyed P kt) (ht : P.underlying t = some (.map kt et)) (hn : l.length < maxLen) {k : Int} (hk : keyOf P kt (.int .u64 k) = some (.int .u64 k)) (s : ByteArray) {e : Ent} (hf : fnd l k = some e) :
    ∃ w', (Instr.mapUpdate t (.map (some m)) (.int .u64 k) (reqV s true)).run P w = .ok () w' ∧ Holds P kt w' m (upd l k s) ∧ w.mapTurned w' m := by
  obtain ⟨D, h1, h2, h3, h4⟩ := h
  obtain ⟨w', hrun, ho, hturn⟩ := h1.store K ht hn hk (reqElem_mk s true)
  have hh := h3 k
  rw [hf] at hh
  have hsize : Maps.size (D.put (.int .u64 k) (reqD s true)) = (upd l k s).length := by
    rw [Maps.size_put (h1.tidy K), hh, h2, upd_length]
    simp
  refine ⟨w', hrun, ⟨_, owns_tight ho hsize, hsize, fun k' => ?_, fun k' e' he z => ?_⟩, hturn⟩
  · rw [fnd_upd]
    by_cases e' : k' = k
    · subst e'
      rw [Maps.has_put_same h1.isMap (key_lit _), if_pos rfl, hf]
      simp
    · rw [Maps.has_put_other (key_ne e'), h3, if_neg e']
  · rw [fnd_upd] at he
    by_cases e'' : k' = k
    · subst e''
      rw [if_pos rfl, hf] at he
      simp at he
      subst he
      rw [Maps.atKey_put_same h1.isMap (key_lit _)]
    · rw [if_neg e''] at he
      rw [Maps.atKey_put_other (key_ne e'')]
      exact h4 k' e' he z
/-- 'delete(m, k)' of the first one. -/
theorem Holds.del {e : Ent} {t' : List Ent} (h : Holds P kt w m (e :: t')) (hp : IdsApart (e :: t')) (K : Keyed P kt) (ht : P.underlying t = some (.map kt et)) (hk : keyOf P kt (.int .u64 e.id) = some (.int .u64 e.id)) (ty : TypeId) :
    ∃ w', (Builtin.delete_ #[t, kt] ty #[.map (some m), .int .u64 e.id]).run P w = .ok (.tuple #[]) w' ∧ Holds P kt w' m t' ∧ w.mapTurned w' m := by
  obtain ⟨D, h1, h2, h3, h4⟩ := h
  obtain ⟨w', hrun, ho, hturn⟩ := h1.drop K ht hk ty
  have hfe : fnd (e :: t') e.id = some e := by unfold fnd; rw [List.find?_cons_of_pos (by simp)]
  have hh := h3 e.id
  rw [hfe] at hh
  have hsize : Maps.size (D.del (.int .u64 e.id)) = t'.length := by
    have := Maps.size_del (k := .int .u64 e.id) (h1.tidy K)
    rw [hh, h2] at this
    simp at this
    omega
  refine ⟨w', hrun, ⟨_, owns_tight ho hsize, hsize, fun k' => ?_, fun k' e' he z => ?_⟩, hturn⟩
  · rw [fnd_tail hp]
    by_cases e' : k' = e.id
    · rw [if_pos e', e', Maps.has_del_same]
      rfl
    · rw [if_neg e', Maps.has_del_other (key_ne e'), h3]
  · rw [fnd_tail hp] at he
    by_cases e'' : k' = e.id
    · rw [if_pos e''] at he
      cases he
    · rw [if_neg e''] at he
      rw [Maps.atKey_del_other (key_ne e'')]
      exact h4 k' e' he z
end

/-! ### But for the blocks of S nothing that was is turned -/
section
variable {S S' : Nat → Prop} {w w' w'' : World}
end
end Go.Proofs.Yticnaljfnjiofaa
/-
  Plain words on packets that are kept: rows of packets, where the last one of a number is, and a map in memory that says where. Nothing here names the program.
-/
namespace Go.Proofs.Yticnaljfnjiofaa
open Go.RowKit Go.Maps


/-! ### A map in memory that says where -/
def posElem (v : Value) : Option (DataW Unit × List MemPlace) :=
  match v with
  | .int .i64 n => some (.lit (.int .i64 n), [])
  | _ => none
theorem posElem_mk (n : Int) : posElem (.int .i64 n) = some (.lit (.int .i64 n), []) := rfl
theorem posElem_inv {v : Value} {n : Int} {ps : List MemPlace} (h : posElem v = some (.lit (.int .i64 n), ps)) : v = .int .i64 n := by
  unfold posElem at h
  split at h
  · simp only [Option.some.injEq, Prod.mk.injEq, DataW.lit.injEq, Lit.int.injEq, true_and] at h
    rw [h.1]
  · cases h

/-- The map of block m (keys of type kt) tells F, and holds n entries. -/
def Spots (P : Program) (kt : TypeId) (w : World) (m : Nat) (F : Int → Option Nat) (n : Nat) : Prop :=
  ∃ D, w.ownsMap P kt posElem m n D ∧ Maps.size D = n ∧ (∀ k, Maps.has D (.int .u16 k) = (F k).isSome) ∧ ∀ k i, F k = some i → ∀ z, D.atKey (.int .u16 k) z = .lit (.int .i64 (i : Nat))

section
variable {P : Program} {kt et t : TypeId} {w w' : World} {m n : Nat} {F G : Int → Option Nat}
theorem Spots.lt (h : Spots P kt w m F n) : m < w.heap.size := by
  obtain ⟨D, h, _⟩ := h
  exact h.lt
theorem Spots.same (h : Spots P kt w m F n) (hb : w'.heap[m]? = w.heap[m]?) : Spots P kt w' m F n := by
  obtain ⟨D, ⟨es, clock, h1, h2⟩, h3⟩ := h
  exact ⟨D, ⟨es, clock, hb.trans h1, h2⟩, h3⟩
theorem Spots.as (h : Spots P kt w m F n) (e : ∀ k, F k = G k) : Spots P kt w m G n := by
  have : F = G := funext e
  exact this ▸ h
theorem Spots.new (P : Program) (kt : TypeId) (w : World) : Spots P kt (w.alloc (.map #[] 0)) w.heap.size (fun _ => none) 0 :=
  ⟨.map [], World.ownsMap_made w P kt posElem, rfl, fun k => rfl, fun k e h => by cases h⟩
theorem Spots.not_cells (h : Spots P kt w m F n) {g : Nat} {ct : TypeId} {cs : Array Value} (hw : Whole w g ct cs) : m ≠ g := by
  rintro rfl
  obtain ⟨D, ⟨es, clock, h1, _⟩, _⟩ := h
  have h2 : w.heap[m]? = some (.cells cs ct (0, 0)) := hw
  rw [h1] at h2
  cases h2

/-- 'v, ok := m[k]'. -/
theorem Spots.look (h : Spots P kt w m F n) (K : Keyed P kt) (ht : P.underlying t = some (.map kt et)) (hz : (zeroValue et).run P w = .ok (.int .i64 0) w) {k : Int} (hk : keyOf P kt (.int .u16 k) = some (.int .u16 k)) :
    (Instr.lookup t (.map (some m)) (.int .u16 k) true).run P w = .ok (.tuple #[.int .i64 ((F k).getD 0 : Nat), .bool (F k).isSome]) w := by
  obtain ⟨D, h1, _, h3, h4⟩ := h
  obtain ⟨v, ps, hrun, hv⟩ := h1.look_ok K ht hz (posElem_mk 0) hk
  rw [hrun, h3 k]
  cases hf : F k with
  | none =>
    have hh := h3 k
    rw [hf] at hh
    rw [Maps.atKey_of_not_has (by simpa using hh)] at hv
    rw [posElem_inv hv]
    rfl
  | some e =>
    rw [h4 k e hf] at hv
    rw [posElem_inv hv]
    rfl
/-- 'm[k]' of a number that is there. -/
theorem Spots.look1 (h : Spots P kt w m F n) (K : Keyed P kt) (ht : P.underlying t = some (.map kt et)) (hz : (zeroValue et).run P w = .ok (.int .i64 0) w) {k : Int} (hk : keyOf P kt (.int .u16 k) = some (.int .u16 k)) {i : Nat} (hf : F k = some i) :
    (Instr.lookup t (.map (some m)) (.int .u16 k) false).run P w = .ok (.int .i64 (i : Nat)) w := by
  obtain ⟨D, h1, _, h3, h4⟩ := h
  obtain ⟨v, ps, hrun, hv⟩ := h1.lookup K ht hz (posElem_mk 0) hk
  rw [h4 k i hf] at hv
  rw [hrun, posElem_inv hv]

theorem skey_lit (k : Int) : WideAt.IsKeyLit (.int .u16 k) := trivial
theorem skey_ne {k k' : Int} (h : k' ≠ k) : (Lit.int .u16 k') ≠ .int .u16 k := fun e => h (by injection e)

/-- 'm[k] = i'. -/
theorem Spots.put (h : Spots P kt w m F n) (K : Keyed P kt) (ht : P.underlying t = some (.map kt et)) (hn : n < maxLen) {k : Int} (hk : keyOf P kt (.int .u16 k) = some (.int .u16 k)) (i : Nat) :
    ∃ w', (Instr.mapUpdate t (.map (some m)) (.int .u16 k) (.int .i64 (i : Nat))).run P w = .ok () w' ∧ Spots P kt w' m (fun k' => if k' = k then some i else F k') (if (F k).isSome then n else n + 1) ∧ w.mapTurned w' m := by
  obtain ⟨D, h1, h2, h3, h4⟩ := h
  obtain ⟨w', hrun, ho, hturn⟩ := h1.store K ht hn hk (posElem_mk (i : Nat))
  have hh := h3 k
  have hsize : Maps.size (D.put (.int .u16 k) (.lit (.int .i64 (i : Nat)))) = if (F k).isSome then n else n + 1 := by
    rw [Maps.size_put (h1.tidy K), hh, h2]
  refine ⟨w', hrun, ⟨_, owns_tight ho hsize, hsize, fun k' => ?_, fun k' j hj z => ?_⟩, hturn⟩
  · dsimp only
    by_cases e : k' = k
    · subst e
      rw [Maps.has_put_same h1.isMap (skey_lit _)]
      simp
    · rw [Maps.has_put_other (skey_ne e), h3, if_neg e]
  · dsimp only at hj
    by_cases e : k' = k
    · subst e
      rw [if_pos rfl] at hj
      injection hj with hj
      subst hj
      rw [Maps.atKey_put_same h1.isMap (skey_lit _)]
    · rw [if_neg e] at hj
      rw [Maps.atKey_put_other (skey_ne e)]
      exact h4 k' j hj z
/-- 'delete(m, k)'. -/
theorem Spots.del (h : Spots P kt w m F n) (K : Keyed P kt) (ht : P.underlying t = some (.map kt et)) {k : Int} (hk : keyOf P kt (.int .u16 k) = some (.int .u16 k)) (ty : TypeId) :
    ∃ w', (Builtin.delete_ #[t, kt] ty #[.map (some m), .int .u16 k]).run P w = .ok (.tuple #[]) w' ∧ Spots P kt w' m (fun k' => if k' = k then none else F k') (n - if (F k).isSome then 1 else 0) ∧ w.mapTurned w' m := by
  obtain ⟨D, h1, h2, h3, h4⟩ := h
  obtain ⟨w', hrun, ho, hturn⟩ := h1.drop K ht hk ty
  have hh := h3 k
  have hsize : Maps.size (D.del (.int .u16 k)) = n - if (F k).isSome then 1 else 0 := by
    have := Maps.size_del (k := .int .u16 k) (h1.tidy K)
    rw [hh, h2] at this
    omega
  refine ⟨w', hrun, ⟨_, owns_tight ho hsize, hsize, fun k' => ?_, fun k' j hj z => ?_⟩, hturn⟩
  · dsimp only
    by_cases e : k' = k
    · subst e
      rw [Maps.has_del_same]
      simp
    · rw [Maps.has_del_other (skey_ne e), h3, if_neg e]
  · dsimp only at hj
    by_cases e : k' = k
    · subst e
      rw [if_pos rfl] at hj
      cases hj
    · rw [if_neg e] at hj
      rw [Maps.atKey_del_other (skey_ne e)]
      exact h4 k' j hj z
end
end Go.Proofs.Yticnaljfnjiofaa
