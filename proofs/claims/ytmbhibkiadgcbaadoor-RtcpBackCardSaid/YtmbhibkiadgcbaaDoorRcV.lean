/-
  A byte of a row of the call's own is written (for the laws of layer 9).
-/
import Derived.Test.YtmbhibkiadgcbaaDoorRtS
namespace Go.Proofs.YtmbhibkiadgcbaaDoor
open Go.RowKit
set_option maxRecDepth 100000

theorem own_setAt {w : World} {base : Nat} {t : TypeId} {A : Option Addr} {c n : Nat} {xs : List Value} (h : w.ownsRow base t 1 (.slice A n c) n xs) (i : Nat) (hi : i < n) :
    ∃ g, A = some ⟨g, 0, none⟩ ∧ base ≤ g ∧ g < w.heap.size ∧ w.cell? ⟨g, i, none⟩ = xs[i]? ∧ w.frozen? ⟨g, i, none⟩ = false ∧ ∀ u, (w.setCell ⟨g, i, none⟩ u).ownsRow base t 1 (.slice A n c) n (xs.set i u) := by
  obtain ⟨h1, h2⟩ := h
  rcases h2 with ⟨hv, h0⟩ | ⟨g, cap, cur, hv, hb, hg, hle, hm, hs, ht⟩
  · omega
  · injection hv with hA _ hc
    subst hA
    have hw : Whole w g t cur := hg
    refine ⟨g, rfl, hb, hw.lt, ?_, hw.free i, fun u => ⟨by simpa using h1, .inr ⟨g, cap, cur.setIfInBounds i u, by rw [hc], hb, hw.set i u, hle, hm, by simpa using hs, ?_⟩⟩⟩
    · rw [hw.cell, ← ht, List.getElem?_take, if_pos (by omega), Array.getElem?_toList]
    · rw [Array.toList_setIfInBounds, List.take_set, ht]
theorem u8s_set (l : List UInt8) (i : Nat) (b : UInt8) : (u8s l).set i (.int .u8 (b.toNat : Int)) = u8s (l.set i b) := by
  unfold u8s
  rw [List.map_set]
theorem u8s_at (l : List UInt8) (i : Nat) (b : UInt8) (h : l[i]? = some b) : (u8s l)[i]? = some (.int .u8 (b.toNat : Int)) := by simp [u8s, h]
end Go.Proofs.YtmbhibkiadgcbaaDoor
