/-
  What Parse tells, as a plain triple.
-/
import Derived.Test.YtliiodjcpkabmaaVpI
namespace Go.Proofs.Ytliiodjcpkabmaa
open Go.RowKit

/-- What Parse tells: the descriptor, how many bytes it has, the error. -/
def pT (b : List UInt8) : Dsc × Int × Int :=
  match parseS b with
  | none => (dsc0, 0, 10)
  | some (d, r) => (d, (b.length : Int) - r.length, 0)
theorem told_eq {b : List UInt8} {w w' : World} {e : Ending} (h : ParseTold b w e w') : e = .returned (.tuple #[.agg (pT b).1.cells, .int .i64 (pT b).2.1, .int .i64 (pT b).2.2]) ∧ Below w.heap.size w w' := by
  obtain ⟨h1, h2⟩ := h
  refine ⟨?_, h2⟩
  unfold pT
  rcases h1 with ⟨hp, rfl⟩ | ⟨d, r, hp, rfl⟩ <;> rw [hp]
theorem pT_none {b : List UInt8} (h : parseS b = none) : pT b = (dsc0, 0, 10) := by unfold pT; rw [h]
theorem pT_some {b r : List UInt8} {d : Dsc} (h : parseS b = some (d, r)) : pT b = (d, (b.length : Int) - r.length, 0) := by unfold pT; rw [h]
end Go.Proofs.Ytliiodjcpkabmaa
