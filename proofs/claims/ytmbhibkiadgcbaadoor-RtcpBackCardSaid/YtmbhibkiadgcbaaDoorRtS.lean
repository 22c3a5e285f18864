/-
  Few messages fit; all that the laws of layer 9 share.
-/
import Derived.Test.YtmbhibkiadgcbaaDoorRtU
import Derived.Test.YtmbhibkiadgcbaaDoorRcU
namespace Go.Proofs.YtmbhibkiadgcbaaDoor
open Go.RowKit

theorem few_mod {l : List (Ms × Sl)} (h : fewM (l.map Prod.fst) = true) (hf : ∀ x ∈ l, x.1.Fits) : (∀ x ∈ l, x.1.Fits ∧ x.1.Few) ∧ l.length ≤ 12 := by
  obtain ⟨h1, h2⟩ := fewM_yes h
  exact ⟨fun x hx => ⟨hf x hx, fewA_few (h1 x.1 (List.mem_map.2 ⟨x, hx, rfl⟩))⟩, by simpa using h2⟩
end Go.Proofs.YtmbhibkiadgcbaaDoor
