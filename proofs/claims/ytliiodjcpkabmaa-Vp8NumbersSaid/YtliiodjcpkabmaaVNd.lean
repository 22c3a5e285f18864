/-
  Vp8Numbers: what the law says, plainly.
-/
import Derived.Test.YtliiodjcpkabmaaVpT
import Derived.Test.YtliiodjcpkabmaaVpO
import Derived.Test.YtliiodjcpkabmaaVpW
import Derived.Test.YtliiodjcpkabmaaVpY
import Derived.BigQuiet
import Derived.Deep.CutBlock
import Derived.Deep.DeepCutAuto
namespace Go.Proofs.Ytliiodjcpkabmaa.VNumbers
open Go.ChangeShapes Go.WideShapes Go.ChangeAt Go.RowKit
set_option linter.unusedSimpArgs false

theorem wide_pic {b r : List UInt8} {d : Dsc} (hp : parseS b = some (d, r)) : d.wide = true → d.hasPic = true := by
  rcases parse_cases hp with ⟨f, hf, _, rfl⟩ | ⟨f, t, l, l1, l2, d1, d2, hf, _, h1, h2, h3⟩
  · simp [firstD, dsc0]
  · rcases picForm h1 with ⟨_, _, rfl⟩ | ⟨_, p, _, _, rfl⟩ | ⟨_, p, q, _, _, rfl⟩ <;> rcases tl0Form h2 with ⟨_, _, rfl⟩ | ⟨_, x, _, rfl⟩ <;> rcases lastForm h3 with ⟨_, _, rfl⟩ | ⟨_, z, _, rfl⟩ <;> simp [setT_more, firstD, dsc0]
/-- All that the law says, plainly. -/
theorem facts (b r : List UInt8) (d : Dsc) (hp : parseS b = some (d, r)) (pic tl0 : Nat) (ht : tl0 < 256) :
    ∃ (N : Nat) (cs : List UInt8), N ≤ b.length ∧ cs.length = b.length ∧ pT b = (d, (N : Int), 0) ∧ wT b pic tl0 = (cs, 0) ∧ pT cs = (d.upd pic tl0, (N : Int), 0) ∧ cs.drop N = r ∧ b.drop N = r ∧ wT cs d.pic d.tl0 = (b, 0) := by
  obtain ⟨h1, h2, h3⟩ := write_facts hp pic tl0 ht
  obtain ⟨pre, e1, e2⟩ := parse_size hp
  obtain ⟨pre', e3, e4⟩ := parse_size h1
  have hl : pre'.length = pre.length := by
    have q1 := congrArg List.length e3
    have q2 := congrArg List.length e1
    rw [h2, List.length_append] at q1
    rw [List.length_append] at q2
    omega
  refine ⟨pre.length, writeS d pic tl0 b, by rw [e1]; simp, h2, ?_, ?_, ?_, ?_, ?_, ?_⟩
  · rw [pT_some hp, show ((b.length : Int) - r.length) = (pre.length : Int) from by rw [e1]; simp]
  · unfold wT; rw [hp]
  · rw [pT_some h1, h2, show ((b.length : Int) - r.length) = (pre.length : Int) from by rw [e1]; simp]
  · rw [e3, ← hl]; simp
  · rw [e1]; simp
  · unfold wT; rw [h1]; show (writeS (d.upd pic tl0) d.pic d.tl0 _, (0 : Int)) = _; rw [h3]

end Go.Proofs.Ytliiodjcpkabmaa.VNumbers
