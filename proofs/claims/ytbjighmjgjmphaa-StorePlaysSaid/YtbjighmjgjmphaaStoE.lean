/-
  What the laws of layer 10 want of rows of packets.
-/
import Derived.Test.YtbjighmjgjmphaaStoD
import Derived.Deep.CutBlock
namespace Go.Proofs.Ytbjighmjgjmphaa
open Go.RowKit

/-- The last n ones. -/
def lastN {α : Type} (n : Nat) (l : List α) : List α := l.drop (l.length - n)
theorem lastN_nil {α : Type} (n : Nat) : lastN n ([] : List α) = [] := by simp [lastN]
theorem lastN_length {α : Type} (n : Nat) (l : List α) : (lastN n l).length = min n l.length := by simp [lastN]; omega
theorem lastN_add (n : Nat) (hn : 1 ≤ n) (l : List Pk) (p : Pk) : addL n (lastN n l) p = lastN n (l ++ [p]) := by
  unfold addL
  rw [lastN_length]
  by_cases h : l.length < n
  · rw [if_pos (by omega)]
    unfold lastN
    rw [show l.length - n = 0 by omega, List.drop_zero, show (l ++ [p]).length - n = 0 by simp; omega, List.drop_zero]
  · rw [if_neg (by omega)]
    unfold lastN
    rw [List.tail_drop, List.drop_append_of_le_length (by simp; omega)]
    congr 2
    simp
    omega
theorem lastN_all {α : Type} (n : Nat) (l : List α) (h : l.length ≤ n) : lastN n l = l := by
  unfold lastN
  rw [show l.length - n = 0 by omega, List.drop_zero]
theorem getL_other (l t : List Pk) (k : Int) (h : ∀ p ∈ t, p.seq ≠ k) : getL (l ++ t) k = getL l k := by
  induction t generalizing l with
  | nil => simp
  | cons x t ih =>
    rw [show l ++ x :: t = (l ++ [x]) ++ t by simp, ih (l ++ [x]) (fun p hp => h p (by simp [hp])), getL_snoc, if_neg (h x (by simp))]
theorem getL_none (l : List Pk) (k : Int) (h : ∀ p ∈ l, p.seq ≠ k) : getL l k = none := by
  have := getL_other [] l k h
  simpa [getL, lastAt] using this
theorem getL_mem {l : List Pk} {k : Int} {d : List UInt8} (h : getL l k = some d) : ∃ p ∈ l, p.seq = k ∧ p.d = d := by
  unfold getL at h
  cases hl : lastAt l k with
  | none => rw [hl] at h; cases h
  | some i =>
    obtain ⟨p, hp, hk⟩ := lastAt_some hl
    rw [hl, Option.bind_some, hp] at h
    simp at h
    exact ⟨p, List.mem_of_getElem? hp, hk, h⟩
theorem lastN_mem {α : Type} {n : Nat} {l : List α} {x : α} (h : x ∈ lastN n l) : x ∈ l := List.mem_of_mem_drop h
theorem take_one {α : Type} (l : List α) (k : Nat) (x : α) (h : l[k]? = some x) : l.take (k + 1) = l.take k ++ [x] := by
  rw [List.take_add_one, h]
  rfl

theorem keep2 {w w' : World} {a b : Addr} {u v : Value} (h1 : w.cell? a = some u) (h2 : w.cell? b = some v) (hb : Below (a.block + 1) w w') (hab : b.block = a.block) : w'.cell? a = some u ∧ w'.cell? b = some v :=
  ⟨(hb.cell (by omega)).trans h1, (hb.cell (by omega)).trans h2⟩

/-- Packets that are few are small. -/
theorem few_small {ps : List Pp} (h : fewB (ps.map Pp.p) = true) : ps.length ≤ 120 ∧ ∀ x ∈ ps, x.p.d.length ≤ 60 := by
  obtain ⟨h1, h2⟩ := few_facts h
  exact ⟨by simpa using h2, fun x hx => h1 x.p (List.mem_map.2 ⟨x, hx, rfl⟩)⟩

/-- What the walks keep: the store, and what has been. -/
def SKept (w0 : World) (g m r n : Nat) (l : List Pk) (wx : World) : Prop := SAt (Off g m r) wx g m r n (lastN n l) ∧ Below w0.heap.size w0 wx

/-- A packet of a row that came in, at a later world: its cells, its bytes, and that Add keeps it. -/
theorem pps_at {w wx : World} {A : Option Addr} {ps : List Pp} (h : Pps w w.heap.size A ps) (hb : Below w.heap.size w wx) (k : Nat) (hk : k < ps.length) :
    ∃ gs o x, A = some ⟨gs, o, none⟩ ∧ gs < w.heap.size ∧ ps[k]? = some x ∧ wx.cell? ⟨gs, o + k * 2, none⟩ = some (.int .u16 x.p.seq) ∧ wx.cell? ⟨gs, o + k * 2 + 1, none⟩ = some (.slice x.A x.p.d.length x.c) ∧
      Row wx w.heap.size 1 x.A x.p.d.length (u8s x.p.d) ∧ (Lit.int .u16 x.p.seq).wf = true := by
  have h' := h.below hb (Nat.le_refl _)
  obtain ⟨gs, o, e1, e2, e3, e4⟩ := h'.at k hk
  obtain ⟨q1, _, q3⟩ := h'.2 ps[k] (List.getElem_mem _)
  exact ⟨gs, o, ps[k], e1, e2, by simp [hk], e3, e4, q1, q3⟩
theorem map_at {ps : List Pp} {k : Nat} {x : Pp} (h : ps[k]? = some x) : (ps.map Pp.p)[k]? = some ⟨x.p.seq, x.p.d⟩ := by simp [h]
end Go.Proofs.Ytbjighmjgjmphaa
