/-
  What Write tells, as a plain pair; a slice from some place on.
-/
import Derived.Test.YtliiodjcpkabmaaVpR
import Derived.Test.YtliiodjcpkabmaaVpK
namespace Go.Proofs.Ytliiodjcpkabmaa
open Go.RowKit

/-- What is written, and the error. -/
def wT (b : List UInt8) (pic tl0 : Nat) : List UInt8 × Int :=
  match parseS b with
  | none => ([], 10)
  | some (d, _) => (writeS d pic tl0 b, 0)
theorem wT_len (b : List UInt8) (pic tl0 : Nat) (ht : tl0 < 256) : (wT b pic tl0).1.length ≤ b.length := by
  unfold wT
  cases hp : parseS b with
  | none => simp
  | some x =>
    obtain ⟨d, r⟩ := x
    have := (write_facts hp pic tl0 ht).2.1
    show (writeS d pic tl0 b).length ≤ b.length
    omega
theorem wtold {b : List UInt8} {pic tl0 : Nat} {w w' : World} {e : Ending} (ht : tl0 < 256) (h : WriteTold b pic tl0 w e w') :
    (∃ A c, e = .returned (.tuple #[.slice A (wT b pic tl0).1.length c, .int .i64 (wT b pic tl0).2]) ∧ (wT b pic tl0).1.length ≤ c ∧ Row w' w'.heap.size 1 A (wT b pic tl0).1.length (u8s (wT b pic tl0).1)) ∧ Below w.heap.size w w' := by
  unfold wT
  rcases h with ⟨hp, rfl, hb⟩ | ⟨d, r, A, c, hp, rfl, hown, hb⟩
  · rw [hp]
    exact ⟨⟨none, 0, rfl, Nat.le_refl _, Row.nil⟩, hb⟩
  · have hl := (write_facts hp pic tl0 ht).2.1
    rw [hp]
    refine ⟨⟨A, c, ?_, ?_, ?_⟩, hb⟩
    · dsimp only; rw [hl]
    · dsimp only; rw [hl]; exact (own_cap hown).1
    · dsimp only; rw [hl]; exact Row.of_own hown

/-- s[k:], and the text of it. -/
theorem run_from (A : Option Addr) (n c k : Nat) (hk : k ≤ n) (w : World) :
    (Instr.slice 22 (.slice A n c) (some (.int .i64 (k : Int))) none none).run Try.prog w = .ok (.slice (if c = k then A else A.map fun x => x.add k) (n - k) (c - k)) w := by
  have hs : (sizeOf (Try.prog.elem 22)).run Try.prog w = .ok 1 w := by kernel_rfl
  rw [run_slice_l (P := Try.prog) w 22 A n c (by kernel_rfl) .i64 k (by omega) (by omega), hs]
  simp [Result.andThen, sliced]
end Go.Proofs.Ytliiodjcpkabmaa
