/-
  Contracts of the document's answers of layer 10 (louverref10): Add, Get.
-/
import Derived.Test.YtbjighmjgjmphaaStoC
namespace Go.Proofs.Ytbjighmjgjmphaa
open Go.RowKit

/-- Packets as the document has them. -/
def pkC (l : List Pk) : List Value := l.flatMap fun p => [.int .u16 p.seq, .string (str p.d)]
theorem pkC_length (l : List Pk) : (pkC l).length = l.length * 2 := by induction l <;> simp_all [pkC]; omega
theorem pkC_append (l t : List Pk) : pkC (l ++ t) = pkC l ++ pkC t := by simp [pkC]
theorem pkC_cons (x : Pk) (t : List Pk) : pkC (x :: t) = .int .u16 x.seq :: .string (str x.d) :: pkC t := by simp [pkC]
theorem pkC_get (l : List Pk) (k : Nat) (p : Pk) (h : l[k]? = some p) : (pkC l)[k * 2]? = some (.int .u16 p.seq) ∧ (pkC l)[k * 2 + 1]? = some (.string (str p.d)) := by
  induction l generalizing k with
  | nil => simp at h
  | cons x t ih =>
    rw [pkC_cons]
    cases k with
    | zero =>
      simp at h
      subst h
      simp
    | succ k =>
      have e : (k + 1) * 2 = k * 2 + 1 + 1 := by omega
      rw [e]
      simpa using ih k (by simpa using h)
theorem pkC_one (l : List Pk) : ∀ u ∈ pkC l, u.oneCell' = true := by
  intro u hu
  obtain ⟨e, _, he⟩ := List.mem_flatMap.1 hu
  simp at he
  rcases he with rfl | rfl <;> rfl

theorem lastAt_here (l : List Pk) (j : Nat) (p : Pk) (k : Int) (h : l[j]? = some p) (hk : p.seq = k) (hn : lastAt (l.drop (j + 1)) k = none) : lastAt l k = some j := by
  induction l generalizing j with
  | nil => simp at h
  | cons x t ih =>
    rw [lastAt_cons]
    cases j with
    | zero =>
      simp at h hn
      subst h
      rw [hn]
      simp [hk]
    | succ j =>
      rw [ih j (by simpa using h) (by simpa using hn)]
theorem lastAt_past (l : List Pk) (j : Nat) (p : Pk) (k : Int) (h : l[j]? = some p) (hk : p.seq ≠ k) (hn : lastAt (l.drop (j + 1)) k = none) : lastAt (l.drop j) k = none := by
  have hj := (List.getElem?_eq_some_iff.1 h).1
  have e : l.drop j = p :: l.drop (j + 1) := by
    rw [List.drop_eq_getElem_cons hj]
    congr 1
    rw [List.getElem?_eq_getElem hj] at h
    injection h
  rw [e, lastAt_cons, hn]
  simp [hk]

/-- What the document's row is in memory: the packets l. -/
def RefP (w : World) (A : Option Addr) (c : Nat) (l : List Pk) : Prop := l.length ≤ c ∧ c ≤ maxLen ∧ Row w w.heap.size 2 A l.length (pkC l)
theorem RefP.next {w w' : World} {A : Option Addr} {c : Nat} {l : List Pk} (h : RefP w A c l) (hb : Below w.heap.size w w') : RefP w' A c l :=
  ⟨h.1, h.2.1, (h.2.2.below hb (Nat.le_refl _)).more hb.size⟩

/-- What Get tells of a row. -/
def textV (o : Option (List UInt8)) : Value := match o with | some d => .tuple #[.string (str d), .bool true] | none => .tuple #[.string ⟨#[]⟩, .bool false]
theorem refget_any (A : Option Addr) (c : Nat) (l : List Pk) (k : Int) (w : World) (h : RefP w A c l) (hll : l.length ≤ 4096) :
    Calls Try.prog 14 #[.slice A l.length c, .int .u16 k] w fun e w' => e = .returned (textV (getL l k)) ∧ w = w' := by
  have H := Lib.hid h
  clear h
  go_enter Try.func14, Try.ntmps14
  go_wp2_with fail
  go_loop [6] (fun i => ∃ j : Nat, j ≤ l.length ∧ i = .int .i64 ((j : Int) - 1) ∧ Hid (lastAt (l.drop j) k = none)) (fun i => (intOf i + 1).toNat)
  case atStart => exact ⟨l.length, Nat.le_refl _, by go_num, by rw [List.drop_length]; rfl⟩
  case round =>
    obtain ⟨j, hj, rfl, hn⟩ := hrel
    cases j with
    | zero =>
      have hz : ((0 : Nat) : Int) - 1 = -1 := rfl
      rw [hz]
      have HF := Lib.hid (show getL l k = none from by
        have := hn.out
        rw [List.drop_zero] at this
        unfold getL
        rw [this]
        rfl)
      clear hn hz
      go_wp2
      go_ret2
      rw [HF.out]
      exact ⟨rfl, rfl⟩
    | succ j =>
      have hz : ((j + 1 : Nat) : Int) - 1 = (j : Int) := by omega
      rw [hz]
      obtain ⟨p, hp⟩ : ∃ p, l[j]? = some p := ⟨l[j]'(by omega), by simp⟩
      obtain ⟨g, o, hA, hg, hc⟩ := H.out.2.2.2 (by omega)
      subst hA
      obtain ⟨x0, x1⟩ := pkC_get l j p hp
      have hc0 := hc _ _ x0
      have hc1 := hc _ _ x1
      rw [← Nat.add_assoc] at hc1
      have hi1 : (0 : Int) ≤ (j : Int) := by omega
      have hi2 : (j : Int) < (l.length : Int) := by omega
      have hi3 : ¬ (j : Int) < 0 := by omega
      by_cases hk : p.seq = k
      · have HF := Lib.hid (show getL l k = some p.d from by
          unfold getL
          rw [lastAt_here l j p k hp hk hn.out, Option.bind_some, hp]
          rfl)
        have hb : (p.seq == k) = true := by simpa using hk
        clear hn hz hc x0 x1 hp hk
        go_wp2
        go_ret2
        rw [HF.out]
        exact ⟨rfl, rfl⟩
      · have HN : Hid (lastAt (l.drop j) k = none) := lastAt_past l j p k hp hk hn.out
        have hb : (p.seq == k) = false := by simpa using hk
        clear hn hz hc x0 x1 hp hk
        go_wp2
        go_round
        case rel => exact ⟨j, by omega, by go_num, HN⟩
        case measure => simp [intOf]

theorem info_E : (Try.prog.info? 53).map (fun i => (i.zero, i.size, i.bytes)) = some (some (.agg #[.int .u16 0, .string ⟨#[]⟩]), 2, 24) := by kernel_rfl

/-- What Add tells: the row of so many at most. -/
def RefAdds (l : List Pk) (w : World) (e : Ending) (w' : World) : Prop := ∃ A c, e = .returned (.slice A l.length c) ∧ RefP w' A c l ∧ Below w.heap.size w w' ∧ ∀ a, A = some a → w.heap.size ≤ a.block
theorem refadd_any (A : Option Addr) (c room : Nat) (l : List Pk) (k : Int) (d : List UInt8) (w : World) (h : RefP w A c l) (hl : l.length ≤ room) (hr : 1 ≤ room) (hr2 : room ≤ 4096) :
    Calls Try.prog 12 #[.slice A l.length c, .int .i64 room, .int .u16 k, .string (str d)] w (RefAdds (addL room l ⟨k, d⟩) w) := by
  have hRow := h.2.2
  go_enter Try.func12, Try.ntmps12
  go_wp2_with (at_builtin; refine wpl_append _ rfl (.tmp 10) (.tmp 11) 27 rfl w.heap.size 53 (.agg #[.int .u16 0, .string ⟨#[]⟩]) 2 24 Try.underlying27 info_E rfl (by decide) _ 0 [] rfl (World.ownsRow_nil _ _ _ _) _ _ l.length c _ rfl hRow (pkC_one l) ?c1 ?c2 ?c3 ?_)
  case c1 => unfold maxLen; omega
  case c2 => omega
  case c3 => omega
  intro v3 w3 hown3 hg3 _
  have b3 : Below w.heap.size w w3 := (Below.refl _ w).grown hg3 (Nat.le_refl _) (fun q hq => by simp [Value.ownBlock] at hq)
  have z3 := b3.size
  have hrow1 : Row (w3.alloc (.cells #[.int .u16 k, .string (str d)] 53)) (w3.heap.size + 1) 2 (some ⟨w3.heap.size, 0, none⟩) 1 [.int .u16 k, .string (str d)] := Row.lit w3 _ #[.int .u16 k, .string (str d)] 2 1 rfl
  clear hg3 hRow
  go_wp2_with (at_builtin; refine wpl_append _ rfl (.tmp 13) (.tmp 17) 27 rfl w.heap.size 53 (.agg #[.int .u16 0, .string ⟨#[]⟩]) 2 24 Try.underlying27 info_E rfl (by decide) _ l.length (pkC l) rfl (hown3.alloc _) _ _ 1 1 _ rfl hrow1 (by simp [Value.oneCell']) ?d1 ?d2 ?d3 ?_)
  case d1 => unfold maxLen; omega
  case d2 => omega
  case d3 => simp; omega
  intro v4 w4 hown4 hg4 _
  have b4 : Below w.heap.size w w4 := (b3.alloc z3 _).grown hg4 (by simp; omega) (fun q hq => (hown3.lt q hq).1)
  rw [show pkC l ++ [.int .u16 k, .string (str d)] = pkC (l ++ [⟨k, d⟩]) by rw [pkC_append]; rfl] at hown4
  obtain ⟨A4, c4, rfl⟩ := own_form hown4
  have hcap := own_cap hown4
  have hrow4 := Row.of_own hown4
  have hlo := own_lo hown4
  have hHop := Lib.hid (And.intro hlo (And.intro hcap (And.intro hrow4 b4)))
  clear hown3 hrow1 hg4 b3 z3 hown4 hcap hrow4 b4 h hlo
  by_cases hlr : l.length < room
  · have ht : ¬ (room : Int) < ((l.length : Nat) : Int) + 1 := by omega
    go_wp2
    go_ret
    obtain ⟨q1, q2, q3, q4⟩ := hHop.out
    have e : addL room l ⟨k, d⟩ = l ++ [⟨k, d⟩] := by unfold addL; rw [if_pos hlr]
    rw [e]
    refine ⟨A4, c4, by simp, ⟨by simpa using q2.1, q2.2, by simpa using q3⟩, q4, q1⟩
  · have ht : (room : Int) < ((l.length : Nat) : Int) + 1 := by omega
    have hc41 : ¬ c4 = 1 := by have := hHop.out.2.1; omega
    go_wp2
    go_ret
    obtain ⟨q1, q2, q3, q4⟩ := hHop.out
    cases l with
    | nil => simp at hlr; omega
    | cons x t =>
      have e : addL room (x :: t) ⟨k, d⟩ = t ++ [⟨k, d⟩] := by unfold addL; rw [if_neg hlr]; rfl
      have e2 : (t ++ [(⟨k, d⟩ : Pk)]).length = (x :: t).length := by simp
      have e3 : (pkC ((x :: t) ++ [⟨k, d⟩])).drop 2 = pkC (t ++ [⟨k, d⟩]) := by rw [List.cons_append, pkC_cons]; rfl
      rw [e]
      refine ⟨A4.map fun x => ⟨x.block, x.off + 2, none⟩, c4 - 1, by rw [e2]; cases A4 <;> rfl, ⟨by rw [e2]; omega, by omega, ⟨by rw [pkC_length], fun _ => ?_⟩⟩, q4, fun a ha => ?_⟩
      · obtain ⟨g, o, rfl, hg, hc⟩ := q3.2 (by omega)
        refine ⟨g, o + 2, rfl, hg, fun j u hu => ?_⟩
        rw [← e3, List.getElem?_drop] at hu
        rw [Nat.add_assoc]
        exact hc _ u hu
      · cases A4 with
        | none => cases ha
        | some y =>
          simp at ha
          subst ha
          exact q1 y rfl
end Go.Proofs.Ytbjighmjgjmphaa
