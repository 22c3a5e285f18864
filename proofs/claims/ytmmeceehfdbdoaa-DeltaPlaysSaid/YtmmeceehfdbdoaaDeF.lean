/-
  The law's few and req (layer 18): requests in memory.
-/
import Derived.Test.YtmmeceehfdbdoaaDeS
namespace Go.Proofs.Ytmmeceehfdbdoaa
open Go.RowKit
open Dl
set_option linter.unusedSimpArgs false
set_option linter.unusedVariables false
set_option maxRecDepth 100000

namespace Dl
/-- A request in memory: where its SSRCs lie. -/
structure Qm where
  q : Rq
  A : Option Addr
  c : Nat
def qmV (x : Qm) : List Value := [.int .i64 x.q.kind, .int .i64 x.q.who, .int .i64 x.q.room, .int .i64 x.q.rights, .int .i64 x.q.track, .slice x.A x.q.ss.length x.c, .int .i64 x.q.layer, .int .i64 x.q.tid]
def qmC (l : List Qm) : List Value := (l.map qmV).flatten
theorem qmC_get {l : List Qm} {i : Nat} {x : Qm} (h : l[i]? = some x) (j : Nat) (hj : j < 8) : (qmC l)[i * 8 + j]? = (qmV x)[j]? := flat_get (z := 8) (fun _ => rfl) h j hj
def fewS (l : List Qm) : Bool := (l.all fun x => decide (x.q.ss.length ≤ 6)) && decide (l.length ≤ 150)
theorem few_no {l : List Qm} {i : Nat} {x : Qm} (h : l[i]? = some x) (hx : 6 < x.q.ss.length) : fewS l = false := by
  unfold fewS
  rw [Bool.and_eq_false_iff]
  refine .inl ?_
  rw [List.all_eq_false]
  exact ⟨x, List.mem_of_getElem? h, by simp; omega⟩
theorem few_all {l : List Qm} (h : ∀ (j : Nat) (x : Qm), j < l.length → l[j]? = some x → ¬ 6 < x.q.ss.length) : fewS l = decide (l.length ≤ 150) := by
  unfold fewS
  rw [List.all_eq_true.mpr (fun x hx => by
    obtain ⟨j, hj, e⟩ := List.mem_iff_getElem.mp hx
    have := h j x hj (by rw [List.getElem?_eq_getElem hj, e])
    exact decide_eq_true (by omega)), Bool.true_and]
end Dl
theorem few18 (A : Option Addr) (c : Nat) (l : List Qm) (w : World) (hr : Row w w.heap.size 8 A l.length (qmC l)) (hl : l.length ≤ maxLen) :
    Calls Try.prog 10 #[.slice A l.length c] w fun e w' => e = .returned (.bool (fewS l)) ∧ Below w.heap.size w w' := by
  obtain ⟨n, hn⟩ : ∃ n, l.length = n := ⟨_, rfl⟩
  have HN := Lib.hid hn
  have HR := Lib.hid hr
  rw [hn] at hl HR ⊢
  unfold maxLen at hl
  clear hr hn
  go_enter Try.func10, Try.ntmps10
  go_wp2_with fail
  go_loopw [3] (fun v wr => ∃ k : Nat, k ≤ n ∧ v = .int .i64 (k : Int) ∧ Below w.heap.size w wr ∧ Hid (∀ (j : Nat) (x : Qm), j < k → l[j]? = some x → ¬ 6 < x.q.ss.length)) (fun v _ => n - (intOf v).toNat)
  case atStart => exact ⟨0, Nat.zero_le _, rfl, Below.refl _ _, Lib.hid (fun j x h => by omega)⟩
  case round =>
    obtain ⟨k, hk, rfl, hb, HNO⟩ := hrel
    have HB := Lib.hid hb
    clear hb
    by_cases hlt : k < n
    · obtain ⟨x, hx⟩ : ∃ x, l[k]? = some x := ⟨_, List.getElem?_eq_getElem (by rw [HN.out]; exact hlt)⟩
      obtain ⟨g, o, rfl, hg, hc⟩ := HR.out.2 (by omega)
      have c5 := (HB.out.cell (p := ⟨g, o + (k * 8 + 5), none⟩) hg).trans (hc _ _ ((qmC_get hx 5 (by decide)).trans rfl))
      rw [← Nat.add_assoc] at c5
      have HX := Lib.hid hx
      have i0 : (0 : Int) ≤ (k : Int) := by omega
      have i1 : (k : Int) < (n : Int) := by omega
      have lg : g < wr.heap.size := by have := HB.out.size; omega
      obtain ⟨S, hS⟩ : ∃ S, x.q.ss.length = S := ⟨_, rfl⟩
      rw [hS] at c5
      have HS := Lib.hid hS
      clear hx hc hS
      by_cases h6 : 6 < S
      · have t6 : (6 : Int) < (S : Int) := by omega
        have HF := Lib.hid (few_no HX.out (by rw [HS.out]; exact h6))
        clear h6
        go_wp2_with fail
        go_ret
        exact ⟨by rw [HF.out]; rfl, HB.out⟩
      · have t6 : ¬ (6 : Int) < (S : Int) := by omega
        have HNO2 := Lib.hid (show ∀ (j : Nat) (y : Qm), j < k + 1 → l[j]? = some y → ¬ 6 < y.q.ss.length from fun j y hj hy => by
          rcases Nat.lt_or_ge j k with a | a
          · exact HNO.out j y a hy
          · obtain rfl : j = k := by omega
            have := HX.out
            rw [hy] at this
            injection this with this
            rw [this, HS.out]
            exact h6)
        clear h6 HNO
        go_wp2_with fail
        go_roundw
        case rel => exact ⟨k + 1, by omega, by go_num, HB.out, HNO2⟩
        case measure => simp [intOf]; omega
    · obtain rfl : n = k := by omega
      have HF := Lib.hid (show fewS l = decide ((n : Int) ≤ 150) from by
        rw [few_all (fun j x hj => HNO.out j x (by rw [HN.out] at hj; exact hj)), HN.out]
        exact decide_eq_decide.mpr (by omega))
      have t1 : ¬ (n : Int) < (n : Int) := by omega
      obtain ⟨bb, hbb⟩ : ∃ z, decide ((n : Int) ≤ 150) = z := ⟨_, rfl⟩
      rw [hbb] at HF
      have HBB := Lib.hid hbb
      clear hbb
      go_wp2_with fail
      go_ret
      exact ⟨by rw [HF.out, ← HBB.out]; rfl, HB.out⟩
theorem req18 (x : Qm) (w : World) : Calls Try.prog 14 #[.agg (qmV x).toArray] w fun e w' => e = .returned (.agg (qmV x).toArray) ∧ Below w.heap.size w w' := by
  obtain ⟨⟨q0, q1, q2, q3, q4, ss, q6, q7⟩, A, c⟩ := x
  unfold qmV
  dsimp only
  obtain ⟨S, hS⟩ : ∃ S, ss.length = S := ⟨_, rfl⟩
  rw [hS]
  clear hS
  have W4 := (Whole.new2 w (.cells #[.int .i64 q0, .int .i64 q1, .int .i64 q2, .int .i64 q3, .int .i64 q4, .slice A S c, .int .i64 q6, .int .i64 q7] 45) 48 #[.int .i64 q0, .int .i64 q1, .int .i64 q2, .int .i64 q3, .int .i64 q4, .slice A S c, .int .i64 q6, .int .i64 q7])
  have s0 := W4.cell 0
  have s1 := W4.cell 1
  have s2 := W4.cell 2
  have s3 := W4.cell 3
  have s4 := W4.cell 4
  have s5 := W4.cell 5
  have s6 := W4.cell 6
  have s7 := W4.cell 7
  have HB := Lib.hid (((Below.refl w.heap.size w).alloc (Nat.le_refl _) (.cells #[.int .i64 q0, .int .i64 q1, .int .i64 q2, .int .i64 q3, .int .i64 q4, .slice A S c, .int .i64 q6, .int .i64 q7] 45)).alloc (by simp) (.cells #[.int .i64 q0, .int .i64 q1, .int .i64 q2, .int .i64 q3, .int .i64 q4, .slice A S c, .int .i64 q6, .int .i64 q7] 48))
  clear W4
  go_enter Try.func14, Try.ntmps14
  go_wp2_with fail
  exact bodyPost_ret (v := .agg #[.int .i64 q0, .int .i64 q1, .int .i64 q2, .int .i64 q3, .int .i64 q4, .slice A S c, .int .i64 q6, .int .i64 q7]) (by simp [results, Try.results14, go_sem, s0, s1, s2, s3, s4, s5, s6, s7]) rfl ⟨rfl, HB.out⟩
end Go.Proofs.Ytmmeceehfdbdoaa
