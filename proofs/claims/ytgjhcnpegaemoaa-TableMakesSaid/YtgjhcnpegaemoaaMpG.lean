/-
  A map in memory whose keys are of any kind (integers, or structs of integers), that holds just a list of things: looked up, put into, gone through. Nothing here names the program.
-/
import Derived.Test.YtgjhcnpegaemoaaMemW
import Derived.Maps.OwnSet
import Derived.Maps.RangeWalk
import Derived.DeepKeys4
namespace Go.Proofs.Ytgjhcnpegaemoaa
open Go.RowKit Go.Maps
set_option linter.unusedVariables false

/-- How a map's elements read: each as a thing's. -/
structure ReadG {α : Type} (val : α → Value) (dat : α → DataW Unit) (R : Value → Option (DataW Unit × List MemPlace)) : Prop where
  put : ∀ x, R (val x) = some (dat x, [])
  inv : ∀ v y, R v = some y → ∃ x, v = val x
  one : ∀ x y, dat x = dat y → val x = val y
theorem ReadG.back {α : Type} {val : α → Value} {dat : α → DataW Unit} {R : Value → Option (DataW Unit × List MemPlace)} (h : ReadG val dat R) {v : Value} {x : α} {ps : List MemPlace} (hv : R v = some (dat x, ps)) : v = val x := by
  obtain ⟨y, rfl⟩ := h.inv _ _ hv
  rw [h.put] at hv
  injection hv with hv
  injection hv with hv _
  exact h.one _ _ hv
/-- How a map's keys are spelled. -/
structure KeyG {K : Type} (P : Program) (kt : TypeId) (enc : K → Value) : Prop where
  keyed : Keyed P kt
  inj : ∀ a b, enc a = enc b → a = b
def KeyOk {K : Type} (P : Program) (kt : TypeId) (enc : K → Value) (k : K) : Prop := ∃ kl, keyOf P kt (enc k) = some kl

def fndG {α K : Type} [DecidableEq K] (κ : α → K) (l : List α) (k : K) : Option α := l.find? fun x => decide (κ x = k)
section
variable {α K : Type} [DecidableEq K] {κ : α → K} {l : List α} {k k' : K} {x y : α}
theorem fndG_none : fndG κ l k = none ↔ ∀ x ∈ l, κ x ≠ k := by simp [fndG, List.find?_eq_none]
theorem fndG_some (h : fndG κ l k = some x) : x ∈ l ∧ κ x = k := ⟨List.mem_of_find?_eq_some h, by have := List.find?_some h; simpa using this⟩
theorem fndG_snoc (l : List α) (x : α) (k' : K) : fndG κ (l ++ [x]) k' = (fndG κ l k').or (if κ x = k' then some x else none) := by
  unfold fndG
  rw [List.find?_append]
  simp [List.find?_cons]
  split <;> simp_all
/-- No two have one key. -/
def ApartG (κ : α → K) (l : List α) : Prop := l.Pairwise fun a b => κ a ≠ κ b
theorem ApartG.find (h : ApartG κ l) (hx : x ∈ l) : fndG κ l (κ x) = some x := by
  induction l with
  | nil => simp at hx
  | cons a l ih =>
    have h' := List.pairwise_cons.1 h
    unfold fndG
    rw [List.find?_cons]
    rcases List.mem_cons.1 hx with rfl | hx
    · simp
    · have := h'.1 x hx
      rw [decide_eq_false this]
      exact ih h'.2 hx
end

/-- The map of block m (keys of type kt) holds just the list l. -/
def MapG {α K : Type} [DecidableEq K] (P : Program) (kt : TypeId) (enc : K → Value) (κ : α → K) (dat : α → DataW Unit) (R : Value → Option (DataW Unit × List MemPlace)) (w : World) (m : Nat) (l : List α) : Prop :=
  ∃ D, w.ownsMap P kt R m l.length D ∧ Maps.size D = l.length ∧ (∀ k kl, keyOf P kt (enc k) = some kl → Maps.has D kl = (fndG κ l k).isSome) ∧ (∀ k kl x, keyOf P kt (enc k) = some kl → fndG κ l k = some x → ∀ z, D.atKey kl z = dat x) ∧ ∀ x ∈ l, KeyOk P kt enc (κ x)

theorem owns_tightG {P : Program} {kt : TypeId} {R : Value → Option (DataW Unit × List MemPlace)} {w : World} {m n : Nat} {D : DataW Unit} (h : w.ownsMap P kt R m n D) {n' : Nat} (hn : Maps.size D = n') : w.ownsMap P kt R m n' D := by
  obtain ⟨es, clock, hb, F, _, rfl⟩ := h
  refine ⟨es, clock, hb, F, ?_, rfl⟩
  rw [← hn]
  simp [Maps.size, length_sorted]

section
variable {α K : Type} [DecidableEq K] {P : Program} {kt et t : TypeId} {enc : K → Value} {κ : α → K} {val : α → Value} {dat : α → DataW Unit} {R : Value → Option (DataW Unit × List MemPlace)} {w w' : World} {m r : Nat} {l V : List α}
theorem MapG.lt (h : MapG P kt enc κ dat R w m l) : m < w.heap.size := by
  obtain ⟨D, h, _⟩ := h
  exact h.lt
theorem MapG.same (h : MapG P kt enc κ dat R w m l) (hb : w'.heap[m]? = w.heap[m]?) : MapG P kt enc κ dat R w' m l := by
  obtain ⟨D, ⟨es, clock, h1, h2⟩, h3⟩ := h
  exact ⟨D, ⟨es, clock, hb.trans h1, h2⟩, h3⟩
theorem MapG.new (P : Program) (kt : TypeId) (enc : K → Value) (κ : α → K) (dat : α → DataW Unit) (R : Value → Option (DataW Unit × List MemPlace)) (w : World) : MapG P kt enc κ dat R (w.alloc (.map #[] 0)) w.heap.size [] :=
  ⟨.map [], World.ownsMap_made w P kt R, rfl, fun k kl _ => rfl, fun k kl e _ h => by simp [fndG] at h, fun x hx => by simp at hx⟩
theorem MapG.not_cells (h : MapG P kt enc κ dat R w m l) {g : Nat} {ct : TypeId} {cs : Array Value} (hw : Whole w g ct cs) : m ≠ g := by
  rintro rfl
  obtain ⟨D, ⟨es, clock, h1, _⟩, _⟩ := h
  have h2 : w.heap[m]? = some (.cells cs ct (0, 0)) := hw
  rw [h1] at h2
  cases h2
theorem MapG.ok (h : MapG P kt enc κ dat R w m l) {x : α} (hx : x ∈ l) : KeyOk P kt enc (κ x) := by
  obtain ⟨D, _, _, _, _, h⟩ := h
  exact h x hx
/-- 'v, ok := m[k]'. -/
theorem MapG.look (h : MapG P kt enc κ dat R w m l) (rd : ReadG val dat R) (K : KeyG P kt enc) (ht : P.underlying t = some (.map kt et)) {z0 : α} (hz : (zeroValue et).run P w = .ok (val z0) w) {k : _} (hk : KeyOk P kt enc k) :
    (Instr.lookup t (.map (some m)) (enc k) true).run P w = .ok (.tuple #[val ((fndG κ l k).getD z0), .bool (fndG κ l k).isSome]) w := by
  obtain ⟨D, h1, _, h3, h4, _⟩ := h
  obtain ⟨kl, hk⟩ := hk
  obtain ⟨v, ps, hrun, hv⟩ := h1.look_ok K.keyed ht hz (rd.put z0) hk
  rw [hrun, h3 k kl hk]
  cases hf : fndG κ l k with
  | none =>
    have hh := h3 k kl hk
    rw [hf] at hh
    rw [Maps.atKey_of_not_has (by simpa using hh)] at hv
    rw [rd.back hv]
    rfl
  | some e =>
    rw [h4 k kl e hk hf] at hv
    rw [rd.back hv]
    rfl
/-- 'm[k]'. -/
theorem MapG.look1 (h : MapG P kt enc κ dat R w m l) (rd : ReadG val dat R) (K : KeyG P kt enc) (ht : P.underlying t = some (.map kt et)) {z0 : α} (hz : (zeroValue et).run P w = .ok (val z0) w) {k : _} (hk : KeyOk P kt enc k) :
    (Instr.lookup t (.map (some m)) (enc k) false).run P w = .ok (val ((fndG κ l k).getD z0)) w := by
  obtain ⟨D, h1, _, h3, h4, _⟩ := h
  obtain ⟨kl, hk⟩ := hk
  obtain ⟨v, ps, hrun, hv⟩ := h1.lookup K.keyed ht hz (rd.put z0) hk
  rw [hrun]
  cases hf : fndG κ l k with
  | none =>
    have hh := h3 k kl hk
    rw [hf] at hh
    rw [Maps.atKey_of_not_has (by simpa using hh)] at hv
    rw [rd.back hv]
    rfl
  | some e =>
    rw [h4 k kl e hk hf] at hv
    rw [rd.back hv]
    rfl
theorem MapG.len (h : MapG P kt enc κ dat R w m l) (ht : P.underlying t = some (.map kt et)) (ty : TypeId) : (Builtin.len_ #[t] ty #[.map (some m)]).run P w = .ok (.int .i64 l.length) w := by
  obtain ⟨D, h1, h2, _⟩ := h
  rw [h1.len ht, h2]
/-- 'm[k] = v' of a key that is not there. -/
theorem MapG.put_new (h : MapG P kt enc κ dat R w m l) (rd : ReadG val dat R) (K : KeyG P kt enc) (ht : P.underlying t = some (.map kt et)) (hn : l.length < maxLen) (x : α) (hk : KeyOk P kt enc (κ x)) (hf : fndG κ l (κ x) = none) :
    ∃ w', (Instr.mapUpdate t (.map (some m)) (enc (κ x)) (val x)).run P w = .ok () w' ∧ MapG P kt enc κ dat R w' m (l ++ [x]) ∧ w.mapTurned w' m := by
  obtain ⟨D, h1, h2, h3, h4, h5⟩ := h
  have hk0 := hk
  obtain ⟨kl, hk⟩ := hk
  obtain ⟨w', hrun, ho, hturn⟩ := h1.store K.keyed ht hn hk (rd.put x)
  have hh := h3 (κ x) kl hk
  rw [hf] at hh
  have hlit := K.keyed.key hk
  have hne : ∀ {k' : _} {kl' : Lit}, keyOf P kt (enc k') = some kl' → k' ≠ κ x → kl' ≠ kl := fun h' hne e => hne (K.inj _ _ (K.keyed.inj (e ▸ h') hk))
  have hsize : Maps.size (D.put kl (dat x)) = (l ++ [x]).length := by
    rw [Maps.size_put (h1.tidy K.keyed), hh, h2]
    simp
  refine ⟨w', hrun, ⟨_, owns_tightG ho hsize, hsize, fun k' kl' hk' => ?_, fun k' kl' e hk' he z => ?_, fun y hy => ?_⟩, hturn⟩
  · rw [fndG_snoc]
    by_cases e : k' = κ x
    · subst e
      rw [hk] at hk'
      injection hk' with hk'
      subst hk'
      rw [Maps.has_put_same h1.isMap hlit, hf]
      simp
    · rw [Maps.has_put_other (hne hk' e), h3 k' kl' hk', if_neg (fun e' => e e'.symm)]
      simp
  · rw [fndG_snoc] at he
    by_cases e' : k' = κ x
    · subst e'
      rw [hk] at hk'
      injection hk' with hk'
      subst hk'
      rw [hf] at he
      simp at he
      subst he
      rw [Maps.atKey_put_same h1.isMap hlit]
    · rw [if_neg (fun e => e' e.symm)] at he
      rw [Maps.atKey_put_other (hne hk' e')]
      exact h4 k' kl' e hk' (by simpa using he) z
  · rcases List.mem_append.1 hy with hy | hy
    · exact h5 y hy
    · rw [List.mem_singleton.1 hy]; exact hk0
end

/-! ### Gone through, by keys that are integers -/
theorem sameKey_intG (q : IntKind) (a b : Int) : (Lit.int q a).sameKey (.int q b) = decide (a = b) := by
  by_cases h : a = b <;> simp [Lit.sameKey, h]
theorem KeyG.int {P : Program} {kt : TypeId} {q : IntKind} (hq : P.underlying kt = some (.int q)) : KeyG P kt (fun k : Int => Value.int q k) := ⟨int_keyed hq, fun a b h => by injection h⟩
theorem KeyOk.int {P : Program} {kt : TypeId} {q : IntKind} (hq : P.underlying kt = some (.int q)) {k : Int} (hw : (Lit.int q k).wf = true) : KeyOk P kt (fun k : Int => Value.int q k) k := ⟨.int q k, keyOf_int_mk hq hw⟩
theorem KeyOk.int_inv {P : Program} {kt : TypeId} {q : IntKind} (hq : P.underlying kt = some (.int q)) {k : Int} (h : KeyOk P kt (fun k : Int => Value.int q k) k) : keyOf P kt (.int q k) = some (.int q k) := by
  obtain ⟨kl, h⟩ := h
  obtain ⟨x, e1, e2, _⟩ := Maps.keyOf_int_inv hq h
  injection e1 with _ e1
  rw [e1, ← e2, ← e1]
  exact h
section
variable {α : Type} {P : Program} {kt et t : TypeId} {q : IntKind} {κ : α → Int} {val : α → Value} {dat : α → DataW Unit} {R : Value → Option (DataW Unit × List MemPlace)} {w w' : World} {m r : Nat} {l V : List α}
/-- While a map that holds the list l is gone through by the iterator of block r: these (V) have come. -/
def RangeG (P : Program) (kt : TypeId) (q : IntKind) (κ : α → Int) (dat : α → DataW Unit) (R : Value → Option (DataW Unit × List MemPlace)) (w : World) (m r : Nat) (l V : List α) : Prop :=
  ∃ D left cnt, w.ranges P kt R m r l.length D left cnt ∧ Maps.size D = l.length ∧ (∀ k kl, keyOf P kt (.int q k) = some kl → Maps.has D kl = (fndG κ l k).isSome) ∧ (∀ k kl x, keyOf P kt (.int q k) = some kl → fndG κ l k = some x → ∀ z, D.atKey kl z = dat x) ∧ (∀ x ∈ l, KeyOk P kt (fun k : Int => Value.int q k) (κ x)) ∧
    (∀ k, keyOf P kt (.int q k) = some (.int q k) → left (.int q k) = ((fndG κ l k).isSome && (fndG κ V k).isNone)) ∧ (∀ x ∈ V, x ∈ l) ∧ ApartG κ V
theorem RangeG.map (h : RangeG P kt q κ dat R w m r l V) : MapG P kt (fun k : Int => Value.int q k) κ dat R w m l := by
  obtain ⟨D, left, cnt, h1, h2, h3, h4, h5, _⟩ := h
  exact ⟨D, h1.owns, h2, h3, h4, h5⟩
theorem RangeG.ne (h : RangeG P kt q κ dat R w m r l V) : r ≠ m := by
  obtain ⟨D, left, cnt, h1, _⟩ := h
  exact h1.ne
theorem RangeG.lt (h : RangeG P kt q κ dat R w m r l V) : r < w.heap.size := by
  obtain ⟨D, left, cnt, h1, _⟩ := h
  exact h1.lt
theorem RangeG.kept {row : Option Nat} (h : RangeG P kt q κ dat R w m r l V) (hg : w.grownBy w' row) (hm : some m ≠ row) (hr : some r ≠ row) : RangeG P kt q κ dat R w' m r l V := by
  obtain ⟨D, left, cnt, h1, h2⟩ := h
  exact ⟨D, left, cnt, h1.kept hg hm hr, h2⟩
theorem RangeG.alloc (h : RangeG P kt q κ dat R w m r l V) (o : Obj) : RangeG P kt q κ dat R (w.alloc o) m r l V := by
  obtain ⟨D, left, cnt, h1, h2⟩ := h
  exact ⟨D, left, cnt, h1.alloc o, h2⟩
theorem RangeG.left_kept {row : Option Nat} (h : RangeG P kt q κ dat R w m r l V) (hg : w.grownBy w' row) (hm : some m ≠ row) (hr : some r ≠ row) : w'.rangeLeft m r = w.rangeLeft m r := by
  obtain ⟨D, left, cnt, h1, _⟩ := h
  rw [h1.left_eq, (h1.kept hg hm hr).left_eq]
theorem RangeG.left_alloc (h : RangeG P kt q κ dat R w m r l V) (o : Obj) : (w.alloc o).rangeLeft m r = w.rangeLeft m r := by
  obtain ⟨D, left, cnt, h1, _⟩ := h
  rw [h1.left_eq, (h1.alloc o).left_eq]

variable {ops : Array Oper} {rest : List Oper} {o : Oper} {a : Act} {Q : Exit → Act → World → Prop}
/-- 'range m'. -/
theorem wpl_range_g (hg : o.guard = none) (mo : Operand) (t : TypeId) (hop : o.op = Op.range t mo) (kt et : TypeId) (ht : P.underlying t = some (.map kt et)) (q : IntKind) (hq : P.underlying kt = some (.int q)) (κ : α → Int) (dat : α → DataW Unit) (R : Value → Option (DataW Unit × List MemPlace)) (m : Nat) (l : List α)
    (hm : a.eval mo = .map (some m)) (h : MapG P kt (fun k : Int => Value.int q k) κ dat R w m l)
    (hK : ∀ w', RangeG P kt q κ dat R w' m w.heap.size l [] → w.grownBy w' none → w'.heap.size = w.heap.size + 1 → wpList P ops Q rest (a.put o.dst (.pointer (some ⟨w.heap.size, 0, none⟩))) w') :
    wpList P ops Q (o :: rest) a w := by
  obtain ⟨D, h1, h2, h3, h4, h5⟩ := h
  refine wpList_range_own w hg mo t hop kt et (int_keyed hq) ht R m l.length D hm h1 fun w' hr hgr hs => hK w' ⟨D, _, _, hr, h2, h3, h4, h5, fun k hk => ?_, fun x hx => by simp at hx, .nil⟩ hgr hs
  rw [h3 k _ hk]
  simp [fndG]
/-- The step. -/
theorem wpl_next_g (hg : o.guard = none) (it : Operand) (hop : o.op = Op.next it false) (kt : TypeId) (q : IntKind) (hq : P.underlying kt = some (.int q)) (κ : α → Int) (val : α → Value) (dat : α → DataW Unit) (R : Value → Option (DataW Unit × List MemPlace)) (rd : ReadG val dat R) (m r : Nat) (l V : List α)
    (hit : a.eval it = .pointer (some ⟨r, 0, none⟩)) (h : RangeG P kt q κ dat R w m r l V)
    (hDone : (∀ x ∈ l, fndG κ V (κ x) ≠ none) → wpList P ops Q rest (a.put o.dst (.tuple #[.bool false])) w)
    (hMore : ∀ (c : α) (w' : World), c ∈ l → fndG κ V (κ c) = none → RangeG P kt q κ dat R w' m r l (V ++ [c]) → w'.rangeLeft m r < w.rangeLeft m r → w.grownBy w' (some r) → w'.heap.size = w.heap.size →
      (Instr.entry (.pointer (some ⟨r, 0, none⟩))).run P w' = .ok (.tuple #[.int q (κ c), val c]) w' → wpList P ops Q rest (a.put o.dst (.tuple #[.bool true, .int q (κ c), val c])) w') :
    wpList P ops Q (o :: rest) a w := by
  obtain ⟨D, left, cnt, h1, h2, h3, h4, h5, h6, h7, h8⟩ := h
  refine wpList_next_ranges w (α := Int) (β := α) hg it hop kt (int_keyed hq) R (fun x => .int q x) val (fun key kl hk => by obtain ⟨x, e, _⟩ := Maps.keyOf_int_inv hq hk; exact ⟨x, e⟩) rd.inv m r l.length D left cnt hit h1 (fun _ hl => hDone fun x hx hn => ?_) (fun x c kl y w' cnt' hkey hlk hv hat hrg hlt hgr hsz hen => ?_)
  · have h9 := h6 (κ x) ((h5 x hx).int_inv hq)
    rw [hl, hn] at h9
    cases hf : fndG κ l (κ x) with
    | none => exact fndG_none.1 hf x hx rfl
    | some z => rw [hf] at h9; cases h9
  · obtain ⟨x', e1, e2, _⟩ := Maps.keyOf_int_inv hq hkey
    injection e1 with _ e1
    subst e1
    subst e2
    have h9 := h6 x hkey
    rw [hlk] at h9
    have h10 : (fndG κ l x).isSome = true ∧ (fndG κ V x).isNone = true := by
      cases hf : (fndG κ l x).isSome <;> cases hg2 : (fndG κ V x).isNone <;> rw [hf, hg2] at h9 <;> first | (exact ⟨rfl, rfl⟩) | (cases h9)
    obtain ⟨z, hz⟩ := Option.isSome_iff_exists.1 h10.1
    have hzz := fndG_some hz
    rw [rd.put] at hv
    injection hv with hv
    subst hv
    have hcz : dat z = dat c := by rw [← h4 x _ z hkey hz (.agg []), hat]
    have hvz := rd.one _ _ hcz
    rw [← hvz] at hen ⊢
    have hVn : fndG κ V x = none := by simpa using h10.2
    obtain ⟨hzl, rfl⟩ := hzz
    refine hMore z w' hzl hVn ⟨D, _, cnt', hrg, h2, h3, h4, h5, fun k hk => ?_, fun y hy => ?_, ?_⟩ (by rw [h1.left_eq, hrg.left_eq]; exact hlt) hgr hsz hen
    · show (left (.int q k) && !(Lit.int q k).sameKey (.int q (κ z))) = _
      rw [h6 k hk, fndG_snoc, sameKey_intG]
      by_cases e : κ z = k
      · subst e
        simp
      · rw [if_neg e, decide_eq_false (fun e' => e e'.symm)]
        simp
    · rcases List.mem_append.1 hy with hy | hy
      · exact h7 y hy
      · rw [List.mem_singleton.1 hy]; exact hzl
    · unfold ApartG
      rw [List.pairwise_append]
      refine ⟨h8, List.pairwise_singleton _ _, fun y hy y' hy' => ?_⟩
      rw [List.mem_singleton.1 hy']
      exact fndG_none.1 hVn y hy
end

/-! ### A map that is nil, gone through -/
section
variable {P : Program} {w : World} {ops : Array Oper} {rest : List Oper} {o : Oper} {a : Act} {Q : Exit → Act → World → Prop}
theorem range_nil (w : World) {t kt et : TypeId} (ht : P.underlying t = some (.map kt et)) : (Instr.range t (.map none)).run P w = .ok (.pointer (some ⟨w.heap.size, 0, none⟩)) (w.alloc (.mapIter none 0 #[] 0)) := by
  simp [Instr.range, run_underlying ht]
theorem next_nil {r : Nat} (h : w.heap[r]? = some (.mapIter none 0 #[] 0)) (ty : TypeId) : (Instr.next (.pointer (some ⟨r, 0, none⟩)) false ty).run P w = .ok (.tuple #[.bool false]) w := by
  have e : (getObj r).run P w = .ok (.mapIter none 0 #[] 0) w := by simp [getObj, Sem.run, h]
  simp [Instr.next, e]
end

/-! ### Keys that are structs of two integers -/
section
variable {P : Program} {kt t1 t2 : TypeId} {q1 q2 : IntKind}
theorem keyLits_int {d : Nat} {t : TypeId} {q : IntKind} {n : Int} (hu : P.underlying t = some (.int q)) (hw : (Lit.int q n).wf = true) : P.keyLits (d + 1) t [.int q n] = some [.int q n] := by
  unfold Program.keyLits
  simp [hu, hw]
/-- What a pair's fields are spelled as. -/
def pairV (q1 q2 : IntKind) (k : Int × Int) : Value := .agg #[.int q1 k.1, .int q2 k.2]
theorem KeyOk.pair {f1 f2 : Field} (hk : P.underlying kt = some (.struct #[f1, f2])) (h1 : P.underlying f1.type = some (.int q1)) (h2 : P.underlying f2.type = some (.int q2)) (o1 : f1.offset = 0) (o2 : f2.offset = 1) (n1 : (f1.name != "_") = true) (n2 : (f2.name != "_") = true)
    (c : P.cellsOf kt = 2) (c1 : P.cellsOf f1.type = 1) (c2 : P.cellsOf f2.type = 1) (hkt : P.keyType kt = true) (hrow : 0 < P.types.size) (k : Int × Int) (w1 : (Lit.int q1 k.1).wf = true) (w2 : (Lit.int q2 k.2).wf = true) : KeyOk P kt (pairV q1 q2) k := by
  obtain ⟨n, hn⟩ : ∃ n, P.types.size = n + 1 := ⟨P.types.size - 1, by omega⟩
  refine ⟨.string (keyBytes [.int q1 k.1, .int q2 k.2]), ?_⟩
  have e1 : P.keyLits (P.types.size + 1) kt [.int q1 k.1, .int q2 k.2] = some [.int q1 k.1, .int q2 k.2] := by
    rw [hn]
    unfold Program.keyLits
    simp [hk, c, o1, o2, c1, c2, n1, n2, keyLits_int h1 w1, keyLits_int h2 w2]
  unfold keyOf pairV
  simp [hk, hkt, Value.formed, c, Value.cells, e1]
end
end Go.Proofs.Ytgjhcnpegaemoaa
