/-
  Contracts of the search for an item (slices.IndexFunc, slices.ContainsFunc), by the three tests that package ext hands it.
-/
import Derived.Test.YtdfbbmaaonkjiaaExtA
namespace Go.Proofs.Ytdfbbmaaonkjiaa
open Go.RowKit

/-- Where the first item is of which q is true, or -1. -/
def IxAt (q : It → Bool) (ps : List Ip) (r : Int) : Prop :=
  (r = -1 ∧ ∀ p ∈ ps, q p.it = false) ∨ ∃ (k : Nat) (p : Ip), r = k ∧ ps[k]? = some p ∧ q p.it = true ∧ ∀ (j : Nat) (p' : Ip), j < k → ps[j]? = some p' → q p'.it = false
theorem IxAt.none {q : It → Bool} {ps : List Ip} (h : ∀ (j : Nat) (p : Ip), j < ps.length → ps[j]? = some p → q p.it = false) : IxAt q ps (-1) :=
  .inl ⟨rfl, fun p hp => by
    obtain ⟨j, hj⟩ := List.getElem?_of_mem hp
    exact h j p (List.getElem?_eq_some_iff.1 hj).1 hj⟩
theorem ix_next {q : It → Bool} {ps : List Ip} {k : Nat} {p : Ip} (h : ∀ (j : Nat) (p : Ip), j < k → ps[j]? = some p → q p.it = false) (hp : ps[k]? = some p) (hq : q p.it = false) : ∀ (j : Nat) (p : Ip), j < k + 1 → ps[j]? = some p → q p.it = false := by
  intro j p' hj hp'
  rcases Nat.lt_or_ge j k with h1 | h1
  · exact h j p' h1 hp'
  · obtain rfl : j = k := by omega
    rw [hp] at hp'
    injection hp' with hp'
    rw [← hp']
    exact hq
theorem IxAt.any {q : It → Bool} {ps : List Ip} {r : Int} (h : IxAt q ps r) : decide (0 ≤ r) = (ps.map Ip.it).any q := by
  rcases h with ⟨rfl, h⟩ | ⟨k, p, rfl, hp, hq, _⟩
  · symm
    simpa using h
  · have hm := List.mem_of_getElem? hp
    symm
    simp
    exact ⟨p, hm, hq⟩
def Ixed (q : It → Bool) (ps : List Ip) (w : World) (e : Ending) (w' : World) : Prop := ∃ r : Int, e = .returned (.int .i64 r) ∧ IxAt q ps r ∧ Below w.heap.size w w'

set_option maxRecDepth 100000 in
theorem index_wrong (A : Option Addr) (c : Nat) (ps : List Ip) (w : World) (h : Its w A ps) (hl : ps.length ≤ maxLen) :
    Calls Try.prog 28 #[.slice A ps.length c, .func (.func 19) #[] #[]] w (Ixed It.wrong ps w) := by
  unfold maxLen at hl
  have H := Lib.hid h
  clear h
  go_enter Try.func28, Try.ntmps28
  go_wp2
  go_loopw [8] (fun i wr => ∃ k : Nat, k ≤ ps.length ∧ i = .int .i64 k ∧ Hid (∀ (j : Nat) (p : Ip), j < k → ps[j]? = some p → It.wrong p.it = false) ∧ Below w.heap.size w wr) (fun i _ => ps.length - (intOf i).toNat)
  case atStart => exact ⟨0, Nat.zero_le _, rfl, fun j p hj => absurd hj (by omega), Below.refl _ _⟩
  case round =>
    obtain ⟨k, hk, rfl, hn, hb⟩ := hrel
    by_cases hlt : k < ps.length
    · obtain ⟨g, o, hA, hg, hc0, hc1⟩ := (H.out.next hb).at k hlt
      subst hA
      have hlen := (H.out.2 ps[k] (List.getElem_mem _)).2
      have hp : ps[k]? = some ps[k] := by simp [hlt]
      generalize ps[k] = p at hc0 hc1 hlen hp
      have hi1 : (0 : Int) ≤ (k : Int) := by omega
      have hi2 : (k : Int) < (ps.length : Int) := by omega
      have C := fun wx => isWrong_any p.it p.A p.c wx hlen
      have hyes := Lib.hid (fun hq => show IxAt It.wrong ps k from .inr ⟨k, p, rfl, hp, hq, hn.out⟩)
      have hnext := Lib.hid (fun hq => ix_next (q := It.wrong) hn.out hp hq)
      have HB := Lib.hid hb
      clear hn hp hb hlen
      generalize hq : It.wrong p.it = t at C
      have HQ := Lib.hid hq
      clear hq
      cases t with
      | true =>
        go_wp2_with (go_at_call 19; refine (C _).mono ?_; rintro e w2 ⟨rfl, b2⟩)
        go_ret
        exact ⟨_, rfl, hyes.out HQ.out, bnext HB.out b2⟩
      | false =>
        go_wp2_with (go_at_call 19; refine (C _).mono ?_; rintro e w2 ⟨rfl, b2⟩)
        go_roundw
        case rel => exact ⟨k + 1, by omega, by go_num, hnext.out HQ.out, bnext HB.out b2⟩
        case measure => simp [intOf]; omega
    · obtain rfl : k = ps.length := by omega
      have HF := Lib.hid (show Ixed It.wrong ps w (.returned (.int .i64 (-1))) wr from ⟨-1, rfl, IxAt.none hn.out, hb⟩)
      clear hn hb
      go_wp2
      go_ret
      exact HF.out

theorem contains_wrong (A : Option Addr) (c : Nat) (ps : List Ip) (w : World) (h : Its w A ps) (hl : ps.length ≤ maxLen) :
    Calls Try.prog 18 #[.slice A ps.length c, .func (.func 19) #[] #[]] w fun e w' => e = .returned (.bool ((ps.map Ip.it).any It.wrong)) ∧ Below w.heap.size w w' := by
  go_enter Try.func18, Try.ntmps18
  go_wp2_with fail
  refine (index_wrong A c ps w h hl).mono ?_
  rintro e w2 ⟨r, rfl, hr, b2⟩
  have H := Lib.hid hr.any
  clear hr
  go_wp2
  go_ret
  exact ⟨ret_bool H.out, b2⟩

set_option maxRecDepth 100000 in
theorem index_long (A : Option Addr) (c : Nat) (ps : List Ip) (w : World) (h : Its w A ps) (hl : ps.length ≤ maxLen) :
    Calls Try.prog 28 #[.slice A ps.length c, .func (.func 20) #[] #[]] w (Ixed It.big ps w) := by
  unfold maxLen at hl
  have H := Lib.hid h
  clear h
  go_enter Try.func28, Try.ntmps28
  go_wp2
  go_loopw [8] (fun i wr => ∃ k : Nat, k ≤ ps.length ∧ i = .int .i64 k ∧ Hid (∀ (j : Nat) (p : Ip), j < k → ps[j]? = some p → It.big p.it = false) ∧ Below w.heap.size w wr) (fun i _ => ps.length - (intOf i).toNat)
  case atStart => exact ⟨0, Nat.zero_le _, rfl, fun j p hj => absurd hj (by omega), Below.refl _ _⟩
  case round =>
    obtain ⟨k, hk, rfl, hn, hb⟩ := hrel
    by_cases hlt : k < ps.length
    · obtain ⟨g, o, hA, hg, hc0, hc1⟩ := (H.out.next hb).at k hlt
      subst hA
      have hlen := (H.out.2 ps[k] (List.getElem_mem _)).2
      have hp : ps[k]? = some ps[k] := by simp [hlt]
      generalize ps[k] = p at hc0 hc1 hlen hp
      have hi1 : (0 : Int) ≤ (k : Int) := by omega
      have hi2 : (k : Int) < (ps.length : Int) := by omega
      have C := fun wx => isLong_any p.it p.A p.c wx hlen
      have hyes := Lib.hid (fun hq => show IxAt It.big ps k from .inr ⟨k, p, rfl, hp, hq, hn.out⟩)
      have hnext := Lib.hid (fun hq => ix_next (q := It.big) hn.out hp hq)
      have HB := Lib.hid hb
      clear hn hp hb hlen
      generalize hq : It.big p.it = t at C
      have HQ := Lib.hid hq
      clear hq
      cases t with
      | true =>
        go_wp2_with (go_at_call 20; refine (C _).mono ?_; rintro e w2 ⟨rfl, b2⟩)
        go_ret
        exact ⟨_, rfl, hyes.out HQ.out, bnext HB.out b2⟩
      | false =>
        go_wp2_with (go_at_call 20; refine (C _).mono ?_; rintro e w2 ⟨rfl, b2⟩)
        go_roundw
        case rel => exact ⟨k + 1, by omega, by go_num, hnext.out HQ.out, bnext HB.out b2⟩
        case measure => simp [intOf]; omega
    · obtain rfl : k = ps.length := by omega
      have HF := Lib.hid (show Ixed It.big ps w (.returned (.int .i64 (-1))) wr from ⟨-1, rfl, IxAt.none hn.out, hb⟩)
      clear hn hb
      go_wp2
      go_ret
      exact HF.out

theorem contains_long (A : Option Addr) (c : Nat) (ps : List Ip) (w : World) (h : Its w A ps) (hl : ps.length ≤ maxLen) :
    Calls Try.prog 18 #[.slice A ps.length c, .func (.func 20) #[] #[]] w fun e w' => e = .returned (.bool ((ps.map Ip.it).any It.big)) ∧ Below w.heap.size w w' := by
  go_enter Try.func18, Try.ntmps18
  go_wp2_with fail
  refine (index_long A c ps w h hl).mono ?_
  rintro e w2 ⟨r, rfl, hr, b2⟩
  have H := Lib.hid hr.any
  clear hr
  go_wp2
  go_ret
  exact ⟨ret_bool H.out, b2⟩

set_option maxRecDepth 100000 in
theorem index_id (A : Option Addr) (c : Nat) (ps : List Ip) (k0 : UInt8) (bx : Nat) (w : World) (h : Its w A ps) (hl : ps.length ≤ maxLen) (hbx : w.cell? ⟨bx, 0, none⟩ = some (.int .u8 (k0.toNat : Int))) (hblt : bx < w.heap.size) :
    Calls Try.prog 28 #[.slice A ps.length c, .func (.func 29) #[] #[.pointer (some ⟨bx, 0, none⟩)]] w (Ixed (isIdB k0) ps w) := by
  unfold maxLen at hl
  have H := Lib.hid h
  clear h
  go_enter Try.func28, Try.ntmps28
  go_wp2
  go_loopw [8] (fun i wr => ∃ k : Nat, k ≤ ps.length ∧ i = .int .i64 k ∧ Hid (∀ (j : Nat) (p : Ip), j < k → ps[j]? = some p → (isIdB k0) p.it = false) ∧ Below w.heap.size w wr) (fun i _ => ps.length - (intOf i).toNat)
  case atStart => exact ⟨0, Nat.zero_le _, rfl, fun j p hj => absurd hj (by omega), Below.refl _ _⟩
  case round =>
    obtain ⟨k, hk, rfl, hn, hb⟩ := hrel
    by_cases hlt : k < ps.length
    · obtain ⟨g, o, hA, hg, hc0, hc1⟩ := (H.out.next hb).at k hlt
      subst hA
      have hlen := (H.out.2 ps[k] (List.getElem_mem _)).2
      have hp : ps[k]? = some ps[k] := by simp [hlt]
      generalize ps[k] = p at hc0 hc1 hlen hp
      have hi1 : (0 : Int) ≤ (k : Int) := by omega
      have hi2 : (k : Int) < (ps.length : Int) := by omega
      have C := isId_any p.it p.A p.c k0 bx wr ((hb.cell (p := ⟨bx, 0, none⟩) hblt).trans hbx) (Nat.lt_of_lt_of_le hblt hb.size)
      have hyes := Lib.hid (fun hq => show IxAt (isIdB k0) ps k from .inr ⟨k, p, rfl, hp, hq, hn.out⟩)
      have hnext := Lib.hid (fun hq => ix_next (q := (isIdB k0)) hn.out hp hq)
      have HB := Lib.hid hb
      clear hn hp hb hlen
      generalize hq : (isIdB k0) p.it = t at C
      have HQ := Lib.hid hq
      clear hq
      cases t with
      | true =>
        go_wp2_with (go_at_call 29; refine C.mono ?_; rintro e w2 ⟨rfl, b2⟩)
        go_ret
        exact ⟨_, rfl, hyes.out HQ.out, bnext HB.out b2⟩
      | false =>
        go_wp2_with (go_at_call 29; refine C.mono ?_; rintro e w2 ⟨rfl, b2⟩)
        go_roundw
        case rel => exact ⟨k + 1, by omega, by go_num, hnext.out HQ.out, bnext HB.out b2⟩
        case measure => simp [intOf]; omega
    · obtain rfl : k = ps.length := by omega
      have HF := Lib.hid (show Ixed (isIdB k0) ps w (.returned (.int .i64 (-1))) wr from ⟨-1, rfl, IxAt.none hn.out, hb⟩)
      clear hn hb
      go_wp2
      go_ret
      exact HF.out
end Go.Proofs.Ytdfbbmaaonkjiaa
