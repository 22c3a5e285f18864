/-
  append onto a slice that lies anywhere in a block of the call's own, or that is cut to nothing; requests as cells. Nothing here names the program.
-/
import Derived.Test.YtpbenlbkfabdoaaDedL
import Derived.ArgAppend
namespace Go.Proofs.Ytpbenlbkfabdoaa
open Go.RowKit

theorem setCells_block (b : Nat) : ∀ (vs : List Value) (o : Nat) (w : World) (k : Nat), k ≠ b → (w.setCells b o vs).heap[k]? = w.heap[k]?
  | [], _, _, _, _ => rfl
  | v :: r, o, w, k, h => by
    show ((w.setCell ⟨b, o, none⟩ v).setCells b (o + 1) r).heap[k]? = _
    rw [setCells_block b r _ _ k h, Below.heap_setCell _ _ _ _ h]
theorem setCells_size (b : Nat) : ∀ (vs : List Value) (o : Nat) (w : World), (w.setCells b o vs).heap.size = w.heap.size
  | [], _, _ => rfl
  | v :: r, o, w => by
    show ((w.setCell ⟨b, o, none⟩ v).setCells b (o + 1) r).heap.size = _
    rw [setCells_size b r]
    simp
theorem setCells_rest (b : Nat) : ∀ (vs : List Value) (o : Nat) (w : World), (w.setCells b o vs).os = w.os ∧ (w.setCells b o vs).tape = w.tape ∧ (w.setCells b o vs).output = w.output
  | [], _, _ => ⟨rfl, rfl, rfl⟩
  | v :: r, o, w => setCells_rest b r (o + 1) (w.setCell ⟨b, o, none⟩ v)

/-- append(s, x...) where s lies from off on in the block g of the call's own. -/
theorem wpl_append_tail {P : Program} (w : World) {ops : Array Oper} {rest : List Oper} {o : Oper} {a : Act} {Q : Exit → Act → World → Prop} (hgd : o.guard = none) (s x : Operand) (t : TypeId)
    (ho : o.op = .call { callee := .builtin .append, args := #[s, x], argTypes := #[t, t] })
    (e : TypeId) (zero : Value) (z bytes : Nat) (ht : P.underlying t = some (.slice e)) (hi : (P.info? e).map (fun i => (i.zero, i.size, i.bytes)) = some (some zero, z, bytes)) (hzs : zero.cells.size = z) (hsz : 0 < z)
    (g off n c : Nat) (cur : Array Value) (hs : a.eval s = .slice (some ⟨g, off, none⟩) n c) (hg : w.heap[g]? = some (.cells cur e (0, 0))) (hoff : 0 < c → off + c * z ≤ cur.size) (hnc : n ≤ c) (hcm : c ≤ maxLen)
    (olds : List Value) (hlo : olds.length = n * z) (holds : ∀ j u, olds[j]? = some u → w.cell? ⟨g, off + j, none⟩ = some u)
    (ad : Addr) (m c' : Nat) (news : List Value) (hx : a.eval x = .slice (some ad) m c') (hn : news.length = m * z) (hc : ∀ j u, news[j]? = some u → w.cell? (ad.add j) = some u) (h1 : ∀ u ∈ news, u.oneCell' = true) (hm : 0 < m)
    (b1 : n + m ≤ maxLen) (b2 : (n + m) * bytes ≤ 140737488355328)
    (h : ∀ A' c'' w', n + m ≤ c'' → c'' ≤ maxLen → Row w' w'.heap.size z A' (n + m) (olds ++ news) → (∀ q, A' = some q → q.block = g ∨ w.heap.size ≤ q.block) → (∀ q, A' = some q → q.block < w'.heap.size) → w.grownBy w' (some g) → wpList P ops Q rest (a.put o.dst (.slice A' (n + m) c'')) w') :
    wpList P ops Q (o :: rest) a w := by
  obtain ⟨i, hi0, hi1, hi2, hi3⟩ := info_parts hi
  have hgl : g < w.heap.size := (Array.getElem?_eq_some_iff.1 hg).1
  have hcell : ∀ q, w.cell? ⟨g, q, none⟩ = cur[q]? := fun q => cell_of_row w g q cur e (0, 0) hg
  have hfree : ∀ q, w.frozen? ⟨g, q, none⟩ = false := fun q => by simp [World.frozen?, hg]
  have hin : n + m ≤ c → ∀ j, j < news.length → off + n * z + j < cur.size := by
    intro hr j hj
    rw [hn] at hj
    have h2 := hoff (by omega)
    have h3 : n * z + m * z ≤ c * z := by rw [← Nat.add_mul]; exact Nat.mul_le_mul_right _ hr
    omega
  refine wpList_append_arg (P := P) w hgd s x t ho e i zero z bytes ht hi0 hi1 hi2 hi3 hzs hsz g off n c olds hs hlo holds ad m c' news hx hn hc h1 ?_ b1 b2 ?_ ?_
  · intro hr j hj
    refine ⟨?_, hfree _⟩
    rw [hcell]
    simp [hin hr j hj]
  · intro hr
    have hlen : (olds ++ news).length = (n + m) * z := by rw [List.length_append, hlo, hn, Nat.add_mul]
    obtain ⟨r1, r2, r3⟩ := setCells_rest g news (off + n * z) w
    refine h _ c _ hr hcm ⟨hlen, fun _ => ⟨g, off, rfl, by rw [setCells_size]; exact hgl, fun j u hu => ?_⟩⟩ (fun q hq => .inl (by injection hq with hq; rw [← hq])) (fun q hq => by injection hq with hq; rw [← hq, setCells_size]; exact hgl)
      ⟨r1, r2, r3, by rw [setCells_size]; exact Nat.le_refl _, fun k _ hk => setCells_block g news _ w k (fun e => hk (by rw [e]))⟩
    rcases Nat.lt_or_ge j olds.length with hj | hj
    · rw [List.getElem?_append_left hj] at hu
      rw [World.cell?_setCells_out g news _ w ⟨g, off + j, none⟩ (fun _ _ => .inl (by rw [hlo] at hj; simp; omega))]
      exact holds j u hu
    · rw [List.getElem?_append_right hj] at hu
      have hj2 := (List.getElem?_eq_some_iff.1 hu).1
      have := World.cell?_setCells_in g news (off + n * z) w (fun q hq => by rw [hcell]; simp [hin hr q hq]) (j - olds.length) hj2
      rw [List.getElem?_eq_getElem hj2] at hu
      injection hu with hu
      rw [hu] at this
      rw [show off + j = off + n * z + (j - olds.length) by omega]
      exact this
  · intro hr v' w' hown hgrow
    obtain ⟨A', c'', rfl⟩ := own_form hown
    refine h A' c'' w' (own_cap hown).1 (own_cap hown).2 (Row.of_own hown) (fun q hq => .inr (own_lo hown q hq)) (fun q hq => by subst hq; exact (hown.lt q.block rfl).2) ⟨hgrow.os, hgrow.tape, hgrow.output, hgrow.size, fun k hk _ => hgrow.block k hk (by simp)⟩

/-! ### Requests as cells -/
def Ent.cells (e : Ent) : List Value := [.int .u64 e.id, .string e.ans, .bool e.done]
def entC (l : List Ent) : List Value := l.flatMap Ent.cells
theorem entC_length (l : List Ent) : (entC l).length = l.length * 3 := by
  induction l with
  | nil => rfl
  | cons e t ih =>
    have : (entC (e :: t)).length = 3 + (entC t).length := by simp [entC, Ent.cells]; omega
    rw [this, ih, List.length_cons]
    omega
theorem entC_append (l t : List Ent) : entC (l ++ t) = entC l ++ entC t := by simp [entC]
theorem entC_one (l : List Ent) : ∀ u ∈ entC l, u.oneCell' = true := by
  intro u hu
  obtain ⟨e, _, he⟩ := List.mem_flatMap.1 hu
  simp [Ent.cells] at he
  rcases he with rfl | rfl | rfl <;> rfl
theorem entC_get (l : List Ent) (j : Nat) : (entC l)[j]? = l[j / 3]?.bind fun e => e.cells[j % 3]? := by
  induction l generalizing j with
  | nil => simp [entC]
  | cons e t ih =>
    have hcons : entC (e :: t) = e.cells ++ entC t := by simp [entC]
    have hl : e.cells.length = 3 := rfl
    rw [hcons]
    rcases Nat.lt_or_ge j 3 with h | h
    · rw [List.getElem?_append_left (by omega), Nat.div_eq_of_lt h, Nat.mod_eq_of_lt h]
      rfl
    · rw [List.getElem?_append_right (by omega), hl, ih, show j / 3 = (j - 3) / 3 + 1 by omega, show j % 3 = (j - 3) % 3 by omega]
      rfl
theorem entC_at (l : List Ent) (i : Nat) (e : Ent) (h : l[i]? = some e) : (entC l)[i * 3]? = some (.int .u64 e.id) ∧ (entC l)[i * 3 + 1]? = some (.string e.ans) ∧ (entC l)[i * 3 + 2]? = some (.bool e.done) := by
  refine ⟨?_, ?_, ?_⟩
  · rw [entC_get, show i * 3 / 3 = i by omega, show i * 3 % 3 = 0 by omega, h]; rfl
  · rw [entC_get, show (i * 3 + 1) / 3 = i by omega, show (i * 3 + 1) % 3 = 1 by omega, h]; rfl
  · rw [entC_get, show (i * 3 + 2) / 3 = i by omega, show (i * 3 + 2) % 3 = 2 by omega, h]; rfl

/-- Where a request is, and that it is the one that is found. -/
theorem fnd_append (l t : List Ent) (k : Int) : fnd (l ++ t) k = (fnd l k).or (fnd t k) := by unfold fnd; exact List.find?_append
theorem take_snoc (l : List Ent) (i : Nat) (e : Ent) (h : l[i]? = some e) : l.take (i + 1) = l.take i ++ [e] := by
  rw [List.take_add_one, h]
  rfl
theorem fnd_here (l : List Ent) (i : Nat) (e : Ent) (h : l[i]? = some e) (k : Int) (hn : fnd (l.take i) k = none) (hk : e.id = k) : fnd l k = some e := by
  have h2 : l = l.take (i + 1) ++ l.drop (i + 1) := (List.take_append_drop _ _).symm
  rw [h2, fnd_append, take_snoc l i e h, fnd_append, hn, fnd_cons, if_pos hk]
  rfl
theorem fnd_next (l : List Ent) (i : Nat) (e : Ent) (h : l[i]? = some e) (k : Int) (hn : fnd (l.take i) k = none) (hk : e.id ≠ k) : fnd (l.take (i + 1)) k = none := by
  rw [take_snoc l i e h, fnd_append, hn, fnd_cons, if_neg hk]
  rfl
theorem set_upd {l : List Ent} (hap : IdsApart l) {i : Nat} {e : Ent} (h : l[i]? = some e) (s : ByteArray) : l.set i ⟨e.id, s, true⟩ = upd l e.id s := by
  induction l generalizing i with
  | nil => simp at h
  | cons x t ih =>
    cases i with
    | zero =>
      simp at h
      subst h
      have hn : fnd t x.id = none := fnd_none.2 fun y hy => fun e' => (List.pairwise_cons.1 hap).1 y hy e'.symm
      rw [upd_cons, if_pos rfl, upd_none hn]
      rfl
    | succ i =>
      have h' : t[i]? = some e := by simpa using h
      have hne : ¬ x.id = e.id := (List.pairwise_cons.1 hap).1 e (List.mem_of_getElem? h')
      rw [upd_cons, if_neg hne, List.set_cons_succ, ih hap.tail h']
theorem waits_next (l : List Ent) (i : Nat) (e : Ent) (h : l[i]? = some e) : waits (l.take (i + 1)) = waits (l.take i) + if e.done then 0 else 1 := by
  rw [take_snoc l i e h]
  unfold waits
  rw [List.filter_append, List.length_append]
  cases he : e.done <;> simp [he]
end Go.Proofs.Ytpbenlbkfabdoaa
