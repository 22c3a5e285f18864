/-
  The contract of vp8.Begins.
-/
import Derived.Test.YticnaljfnjiofaaGoc
import Derived.Test.YticnaljfnjiofaaGvl
import Derived.Deep.QuietTactic
import Derived.BigQuiet
import Derived.Deep.CutBlock
import Derived.Deep.DeepCutAuto
namespace Go.Proofs.Yticnaljfnjiofaa
open Go.RowKit

theorem begins_any (d : Dsc) (w : World) : Calls Try.prog 36 #[.agg d.cells] w fun e w' => e = .returned (.bool d.begins) ∧ w' = w.alloc (.cells d.cells 46) := by
  obtain ⟨more, lone, start, part, hasPic, wide, pic, hasTl0, tl0, hasTid, tid, sync, hasKey, key⟩ := d
  unfold Dsc.cells Dsc.begins
  dsimp only
  cases start with
  | false =>
    go_enter Try.func36, Try.ntmps36
    go_wp2
    go_ret
    exact ⟨rfl, rfl⟩
  | true =>
    by_cases h : part = 0
    · subst h
      go_enter Try.func36, Try.ntmps36
      go_wp2
      go_ret
      exact ⟨rfl, rfl⟩
    · have h' : ((part : Int) == 0) = false := by simpa using h
      have e : decide (part = 0) = false := by simpa using h
      rw [e]
      clear h e
      go_enter Try.func36, Try.ntmps36
      go_wp2
      go_ret
      exact ⟨by simp, rfl⟩

end Go.Proofs.Yticnaljfnjiofaa
