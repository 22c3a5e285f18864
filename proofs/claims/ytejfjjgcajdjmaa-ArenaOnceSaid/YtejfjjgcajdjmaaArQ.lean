/-
  Plain facts for the laws of layer 15: slots' turns and uses as rows; the lowest free slot, from above.
-/
import Derived.Test.YtejfjjgcajdjmaaArL
namespace Go.Proofs.Ytejfjjgcajdjmaa
open Go.RowKit

def tuC (l : List Sl) : Array Value := (l.map fun y => Value.int .u32 (y.turn : Int)).toArray
def usC (l : List Sl) : Array Value := (l.map fun y => Value.bool y.used).toArray
theorem tu_size (l : List Sl) : (tuC l).size = l.length := by simp [tuC]
theorem us_size (l : List Sl) : (usC l).size = l.length := by simp [usC]
theorem tu_get {l : List Sl} {k : Nat} {y : Sl} (h : l[k]? = some y) : (tuC l)[k]? = some (.int .u32 (y.turn : Int)) := by simp [tuC, h]
theorem us_get {l : List Sl} {k : Nat} {y : Sl} (h : l[k]? = some y) : (usC l)[k]? = some (.bool y.used) := by simp [usC, h]
theorem tu_set (l : List Sl) (k : Nat) (y : Sl) : tuC (l.set k y) = (tuC l).setIfInBounds k (.int .u32 (y.turn : Int)) := by
  unfold tuC
  rw [List.map_set]
  simp
theorem us_set (l : List Sl) (k : Nat) (y : Sl) : usC (l.set k y) = (usC l).setIfInBounds k (.bool y.used) := by
  unfold usC
  rw [List.map_set]
  simp
theorem take_yes {l : List Sl} (h : lowA l < l.length) (x : Value) : takeA l x = l.set (lowA l) ⟨x, turnA l, true⟩ := by unfold takeA; rw [if_pos h]
theorem take_no {l : List Sl} (h : ¬ lowA l < l.length) (x : Value) : takeA l x = l := by unfold takeA; rw [if_neg h]
theorem told_yes {l : List Sl} (h : lowA l < l.length) : errA l = 0 ∧ slotA l = lowA l ∧ turnT l = turnA l := by unfold errA slotA turnT; rw [if_pos h, if_pos h, if_pos h]; exact ⟨rfl, rfl, rfl⟩
theorem told_no {l : List Sl} (h : ¬ lowA l < l.length) : errA l = 20 ∧ slotA l = 0 ∧ turnT l = 0 := by unfold errA slotA turnT; rw [if_neg h, if_neg h, if_neg h]; exact ⟨rfl, rfl, rfl⟩
theorem turn_at {l : List Sl} {y : Sl} (h : l[lowA l]? = some y) : turnA l = y.turn + 1 := by unfold turnA; rw [h]
/-- A slot by its own turn. -/
theorem get_own {l : List Sl} {k : Nat} {y : Sl} (h : l[k]? = some y) : getA l (k : Int) (y.turn : Int) = if y.used = true then some y.x else none := by
  unfold getA
  rw [if_neg (by omega), Int.toNat_natCast, h]
  dsimp only
  by_cases hu : y.used = true
  · rw [if_pos ⟨hu, rfl⟩, if_pos hu]
  · rw [if_neg (fun hc => hu hc.1), if_neg hu]
theorem free_own {z : Value} {l : List Sl} {k : Nat} {y : Sl} (h : l[k]? = some y) : freeA z l (k : Int) (y.turn : Int) = if y.used = true then l.set k ⟨z, y.turn, false⟩ else l := by
  unfold freeA
  rw [get_own h]
  by_cases hu : y.used = true
  · rw [if_pos hu, if_pos (by rfl), if_pos hu, Int.toNat_natCast, Int.toNat_natCast]
  · rw [if_neg hu, if_neg (by simp), if_neg hu]
theorem set_same {l : List Sl} {k : Nat} {y : Sl} (h : l[k]? = some y) : l.set k y = l := by
  apply List.ext_getElem?
  intro j
  by_cases e : k = j
  · subst e
    rw [List.getElem?_set_self' , h]; rfl
  · rw [List.getElem?_set_ne e]
theorem array_same {a : Array Value} {k : Nat} {v : Value} (h : a[k]? = some v) : a.setIfInBounds k v = a := by
  apply Array.ext_getElem?
  intro j
  by_cases e : k = j
  · subst e
    obtain ⟨hk, hv⟩ := Array.getElem?_eq_some_iff.1 h
    rw [Array.getElem?_setIfInBounds_self_of_lt hk, h]
  · rw [Array.getElem?_setIfInBounds_ne e]
theorem free_tu {z : Value} {l : List Sl} {k : Nat} {y : Sl} (h : l[k]? = some y) : tuC (freeA z l (k : Int) (y.turn : Int)) = tuC l := by
  rw [free_own h]
  by_cases hu : y.used = true
  · rw [if_pos hu, tu_set]; exact array_same (show (tuC l)[k]? = some (.int .u32 (y.turn : Int)) from tu_get h)
  · rw [if_neg hu]
theorem free_us {z : Value} {l : List Sl} {k : Nat} {y : Sl} (h : l[k]? = some y) : usC (freeA z l (k : Int) (y.turn : Int)) = (usC l).setIfInBounds k (.bool false) := by
  rw [free_own h]
  by_cases hu : y.used = true
  · rw [if_pos hu, us_set]
  · rw [if_neg hu]
    have hu' : y.used = false := by simpa using hu
    exact (array_same (by rw [us_get h, hu'])).symm
/-- The lowest free slot from j on; -1: none. -/
def lowI (l : List Sl) (j : Nat) : Int := if j + lowA (l.drop j) < l.length then ((j + lowA (l.drop j) : Nat) : Int) else -1
theorem lowI_zero (l : List Sl) : lowI l 0 = if lowA l < l.length then (lowA l : Int) else -1 := by unfold lowI; simp
theorem lowI_end (l : List Sl) : lowI l l.length = -1 := by unfold lowI; rw [if_neg (by omega)]
theorem lowI_free {l : List Sl} {j : Nat} {y : Sl} (h : l[j]? = some y) (hu : y.used = false) : lowI l j = j := by
  have hj : j < l.length := (List.getElem?_eq_some_iff.1 h).1
  have e : lowA (l.drop j) = 0 := lowA_eq (k := 0) (y := y) (by rw [List.getElem?_drop, Nat.add_zero, h]) hu (fun j z hj => by omega)
  unfold lowI
  rw [e, if_pos (by omega)]
  rfl
theorem lowI_used {l : List Sl} {j : Nat} {y : Sl} (h : l[j]? = some y) (hu : y.used = true) : lowI l j = lowI l (j + 1) := by
  have hj : j < l.length := (List.getElem?_eq_some_iff.1 h).1
  have e0 : l.drop j = y :: l.drop (j + 1) := by
    rw [List.drop_eq_getElem_cons hj]
    have := (List.getElem?_eq_some_iff.1 h).2
    rw [this]
  have e : lowA (l.drop j) = lowA (l.drop (j + 1)) + 1 := by
    unfold lowA
    rw [e0, List.findIdx_cons, hu]
    rfl
  unfold lowI
  rw [e, show j + (lowA (l.drop (j + 1)) + 1) = j + 1 + lowA (l.drop (j + 1)) by omega]
end Go.Proofs.Ytejfjjgcajdjmaa
