/-
  Rows of the call's own that are written over; two such rows apart from each other.
-/
import Derived.Test.YtgjhcnpegaemoaaTbA
namespace Go.Proofs.Ytgjhcnpegaemoaa
open Go.RowKit
theorem own_setX {w : World} {base : Nat} {e : TypeId} {z n c g j : Nat} {xs : List Value} {u : Value} (h : w.ownsRow base e z (.slice (some ⟨g, 0, none⟩) n c) n xs) (hn : 0 < n) : (w.setCell ⟨g, j, none⟩ u).ownsRow base e z (.slice (some ⟨g, 0, none⟩) n c) n (xs.set j u) := by
  refine ⟨by rw [List.length_set]; exact h.1, ?_⟩
  rcases h.2 with ⟨hv, h0⟩ | ⟨g', cap, cur, hv, hb, hh, h1, h2, h3, h4⟩
  · omega
  · injection hv with hv _ hc
    injection hv with hv
    injection hv with hv _ _
    subst hv
    subst hc
    have hw : Whole w g e cur := hh
    exact .inr ⟨g, c, cur.setIfInBounds j u, rfl, hb, hw.set j u, h1, h2, by rw [Array.size_setIfInBounds]; exact h3, by rw [Array.toList_setIfInBounds, List.take_set, h4]⟩
/-- Two values whose rows lie in other blocks. -/
def Ap (v v' : Value) : Prop := ∀ q, v.ownBlock = some q → v'.ownBlock ≠ some q
theorem Ap.nil (v : Value) : Ap (.slice none 0 0) v := fun q h => by simp [Value.ownBlock] at h
theorem Ap.symm {v v' : Value} (h : Ap v v') : Ap v' v := fun q h1 h2 => h q h2 h1
/-- The first one has grown. -/
theorem Ap.grow {w : World} {v v' u : Value} {base : Nat} {e : TypeId} {z n : Nat} {xs : List Value} (h : Ap v u) (hu : w.ownsRow base e z u n xs) {H : Nat} (hH : w.heap.size ≤ H) (hat : v'.ownBlock = v.ownBlock ∨ v'.ownBlock = some H) : Ap v' u := by
  intro q hq hu2
  rcases hat with h1 | h1
  · exact h q (by rw [← h1, hq]) hu2
  · rw [h1] at hq
    injection hq with hq
    subst hq
    have := (hu.lt _ hu2).2
    omega
theorem rev_at {α : Type} {l : List α} {k : Nat} (hk : k < l.length) : l.reverse[k]? = l[l.length - 1 - k]? := List.getElem?_reverse hk
end Go.Proofs.Ytgjhcnpegaemoaa
