/-
  Noughts that the call makes.
-/
import Derived.Test.YticnaljfnjiofaaGex
import Derived.Laws.OwnMore
namespace Go.Proofs.Yticnaljfnjiofaa
open Go.RowKit

theorem make_noughts (n : Nat) (h2 : n ≤ 4096) (w : World) : ∃ cs : Array Value, cs.toList = u8s (List.replicate n 0) ∧ cs.size = n ∧
    (Instr.makeSlice 33 (.int .i64 n) (.int .i64 n)).run Try.prog w = .ok (.slice (some ⟨w.heap.size, 0, none⟩) n n) (w.alloc (.cells cs 5)) := by
  obtain ⟨i, hi0, hi1, hi2, hi3⟩ := info_parts info_u8
  have h := run_make (P := Try.prog) w 33 5 i (.int .u8 0) Try.underlying33 hi0 hi1 .i64 .i64 n n (by omega) (Int.le_refl _) (by rw [hi3]; omega) (by omega)
  rw [Int.toNat_natCast, hi2, Nat.mul_one] at h
  refine ⟨_, ?_, by rw [size_madeCells], h⟩
  show (madeCells #[.int .u8 0] n).toList = _
  rw [toList_madeCells_one]
  simp [u8s]
theorem noughts_row (w : World) (n : Nat) (cs : Array Value) (h1 : cs.toList = u8s (List.replicate n 0)) (h2 : cs.size = n) : Row (w.alloc (.cells cs 5)) (w.alloc (.cells cs 5)).heap.size 1 (some ⟨w.heap.size, 0, none⟩) (List.replicate n (0 : UInt8)).length (u8s (List.replicate n 0)) := by
  rw [List.length_replicate]
  exact Row.fresh w _ cs 1 n _ (by omega) h1
end Go.Proofs.Yticnaljfnjiofaa
