/-
  Which packets of a track somebody is sent, as plain functions: a packet, what is wanted, a state; what the laws of layer 12 say of them. Nothing here names the program.
-/
import Derived.Test.YtoajbaimjkhegaaWords
namespace Go.Proofs.Ytoajbaimjkhegaa
open Go.RowKit

/-- A packet. -/
structure Cx where
  src : Int
  lay : Int
  beg : Bool
  who : Bool
  has : Bool
  tid : Int
  syn : Bool
/-- What is wanted. -/
structure Cw where
  src : Int
  lay : Int
  tid : Int
/-- A state. -/
structure Cs where
  on : Bool
  src : Int
  lay : Int
  tid : Int
def Cx.cells (x : Cx) : Array Value := #[.int .i64 x.src, .int .i64 x.lay, .bool x.beg, .bool x.who, .bool x.has, .int .i64 x.tid, .bool x.syn]
def Cw.cells (w : Cw) : Array Value := #[.int .i64 w.src, .int .i64 w.lay, .int .i64 w.tid]
def Cs.cells (s : Cs) : Array Value := #[.bool s.on, .int .i64 s.src, .int .i64 s.lay, .int .i64 s.tid]
/-- Is a packet of the stream? -/
def Cs.own (s : Cs) (x : Cx) : Bool := s.on && (x.src == s.src && x.lay == s.lay)
/-- Is it of the wanted source and layer? -/
def Cx.wanted (x : Cx) (w : Cw) : Bool := x.src == w.src && x.lay == w.lay
/-- Is it above that temporal layer? -/
def Cx.over (x : Cx) (t : Int) : Bool := x.has && decide (t < x.tid)
/-- Is it wanted (up to the wanted temporal layer)? -/
def Cx.fit (x : Cx) (w : Cw) : Bool := x.wanted w && !x.over w.tid
/-- The temporal layer behind a packet of the stream. -/
def Cs.tidS (s : Cs) (x : Cx) (w : Cw) : Int :=
  if x.beg = true then if x.who = true then w.tid else if w.tid < s.tid then w.tid else if x.has = true ∧ x.syn = true ∧ s.tid < x.tid ∧ x.tid ≤ w.tid then x.tid else s.tid else s.tid
def Cs.next (s : Cs) (x : Cx) (w : Cw) : Cs :=
  if s.own x = true then ⟨true, s.src, s.lay, s.tidS x w⟩ else if x.fit w = true ∧ x.beg = true ∧ x.who = true then ⟨true, w.src, w.lay, w.tid⟩ else s
def Cs.kind (s : Cs) (x : Cx) (w : Cw) : Int :=
  if s.own x = true then if x.has = true ∧ s.tidS x w < x.tid then 2 else 1 else if x.fit w = true ∧ x.beg = true ∧ x.who = true then 3 else 0
def Cs.asks (s : Cs) (w : Cw) : Bool := !s.on || (s.src != w.src || s.lay != w.lay)

section
variable {s : Cs} {x : Cx} {w : Cw}
theorem Cs.own_iff : s.own x = true ↔ s.on = true ∧ x.src = s.src ∧ x.lay = s.lay := by unfold Cs.own; simp
theorem Cx.fit_wanted (h : x.fit w = true) : x.wanted w = true := by unfold Cx.fit at h; simp at h; exact h.1
theorem Cx.fit_not (h : x.wanted w = false) : x.fit w = false := by unfold Cx.fit; rw [h]; rfl
theorem Cx.wanted_iff : x.wanted w = true ↔ x.src = w.src ∧ x.lay = w.lay := by unfold Cx.wanted; simp
theorem Cs.asks_iff : s.asks w = false ↔ s.on = true ∧ s.src = w.src ∧ s.lay = w.lay := by unfold Cs.asks; simp
theorem Cs.next_own (h : s.own x = true) : s.next x w = ⟨true, s.src, s.lay, s.tidS x w⟩ := by unfold Cs.next; rw [if_pos h]
theorem Cs.kind_own (h : s.own x = true) : s.kind x w = if x.has = true ∧ s.tidS x w < x.tid then 2 else 1 := by unfold Cs.kind; rw [if_pos h]
theorem Cs.next_switch (h : s.own x = false) (h1 : x.fit w = true) (h2 : x.beg = true) (h3 : x.who = true) : s.next x w = ⟨true, w.src, w.lay, w.tid⟩ := by
  unfold Cs.next; rw [if_neg (by simp [h]), if_pos ⟨h1, h2, h3⟩]
theorem Cs.kind_switch (h : s.own x = false) (h1 : x.fit w = true) (h2 : x.beg = true) (h3 : x.who = true) : s.kind x w = 3 := by
  unfold Cs.kind; rw [if_neg (by simp [h]), if_pos ⟨h1, h2, h3⟩]
theorem Cs.next_leave (h : s.own x = false) (h1 : ¬ (x.fit w = true ∧ x.beg = true ∧ x.who = true)) : s.next x w = s := by
  unfold Cs.next; rw [if_neg (by simp [h]), if_neg h1]
theorem Cs.kind_leave (h : s.own x = false) (h1 : ¬ (x.fit w = true ∧ x.beg = true ∧ x.who = true)) : s.kind x w = 0 := by
  unfold Cs.kind; rw [if_neg (by simp [h]), if_neg h1]
/-- What may be: a packet of the stream is sent, or left out; another stream begins; or nothing. -/
theorem Cs.three (s : Cs) (x : Cx) (w : Cw) :
    (s.own x = true ∧ s.next x w = ⟨true, s.src, s.lay, s.tidS x w⟩ ∧ ((x.has = true ∧ s.tidS x w < x.tid ∧ s.kind x w = 2) ∨ (¬ (x.has = true ∧ s.tidS x w < x.tid) ∧ s.kind x w = 1))) ∨
    (s.own x = false ∧ x.wanted w = true ∧ x.beg = true ∧ x.who = true ∧ s.next x w = ⟨true, w.src, w.lay, w.tid⟩ ∧ s.kind x w = 3) ∨
    (s.own x = false ∧ s.next x w = s ∧ s.kind x w = 0) := by
  by_cases h : s.own x = true
  · left
    refine ⟨h, Cs.next_own h, ?_⟩
    rw [Cs.kind_own h]
    by_cases h1 : x.has = true ∧ s.tidS x w < x.tid
    · rw [if_pos h1]; exact .inl ⟨h1.1, h1.2, rfl⟩
    · rw [if_neg h1]; exact .inr ⟨h1, rfl⟩
  · have h : s.own x = false := by simpa using h
    right
    by_cases h1 : x.fit w = true ∧ x.beg = true ∧ x.who = true
    · exact .inl ⟨h, Cx.fit_wanted h1.1, h1.2.1, h1.2.2, Cs.next_switch h h1.1 h1.2.1 h1.2.2, Cs.kind_switch h h1.1 h1.2.1 h1.2.2⟩
    · exact .inr ⟨h, Cs.next_leave h h1, Cs.kind_leave h h1⟩
theorem Cs.tidS_still (h : x.beg = false) : s.tidS x w = s.tid := by unfold Cs.tidS; rw [if_neg (by simp [h])]
theorem Cs.tidS_le (h : x.beg = true) : s.tidS x w ≤ w.tid := by
  unfold Cs.tidS
  rw [if_pos h]
  split
  · omega
  · split
    · omega
    · split <;> omega
end
end Go.Proofs.Ytoajbaimjkhegaa
