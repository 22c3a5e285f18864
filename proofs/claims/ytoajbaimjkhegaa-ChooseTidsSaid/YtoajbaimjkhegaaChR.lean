/-
  Contracts of the document's answers of layer 12, and of what the laws turn the program's values into.
-/
import Derived.Test.YtoajbaimjkhegaaProg
import Derived.Test.YtoajbaimjkhegaaChL
import Derived.Deep.DeepCutAuto
import Derived.Deep.CutBlock
import Derived.IntWalk
import Derived.ChangeAlike
namespace Go.Proofs.Ytoajbaimjkhegaa
open Go.RowKit
set_option linter.unusedSimpArgs false

set_option maxRecDepth 100000 in
theorem of_any (s : Cs) (w : World) : Calls Try.prog 12 #[.agg s.cells] w fun e w' => e = .returned (.agg s.cells) ∧ Below w.heap.size w w' := by
  obtain ⟨on, ss, sl, st⟩ := s
  dsimp only [Cs.cells]
  have B0 := Lib.hid ((Below.refl w.heap.size w).alloc (Nat.le_refl _) (.cells #[.bool on, .int .i64 ss, .int .i64 sl, .int .i64 st] 23))
  go_enter Try.func12, Try.ntmps12
  go_wp2
  exact bodyPost_ret (v := .agg #[.bool on, .int .i64 ss, .int .i64 sl, .int .i64 st]) (by simp [results, Try.results12, go_sem]) rfl ⟨rfl, B0.out.alloc (by simp) _⟩
set_option maxRecDepth 100000 in
theorem in_any (x : Cx) (w : World) : Calls Try.prog 13 #[.agg x.cells] w fun e w' => e = .returned (.agg x.cells) ∧ Below w.heap.size w w' := by
  obtain ⟨xs, xl, beg, who, has, xt, syn⟩ := x
  dsimp only [Cx.cells]
  have B0 := Lib.hid ((Below.refl w.heap.size w).alloc (Nat.le_refl _) (.cells #[.int .i64 xs, .int .i64 xl, .bool beg, .bool who, .bool has, .int .i64 xt, .bool syn] 25))
  go_enter Try.func13, Try.ntmps13
  go_wp2
  exact bodyPost_ret (v := .agg #[.int .i64 xs, .int .i64 xl, .bool beg, .bool who, .bool has, .int .i64 xt, .bool syn]) (by simp [results, Try.results13, go_sem]) rfl ⟨rfl, B0.out.alloc (by simp) _⟩
set_option maxRecDepth 100000 in
theorem want_any (x : Cw) (w : World) : Calls Try.prog 14 #[.agg x.cells] w fun e w' => e = .returned (.agg x.cells) ∧ Below w.heap.size w w' := by
  obtain ⟨ws, wl, wt⟩ := x
  dsimp only [Cw.cells]
  have B0 := Lib.hid ((Below.refl w.heap.size w).alloc (Nat.le_refl _) (.cells #[.int .i64 ws, .int .i64 wl, .int .i64 wt] 27))
  go_enter Try.func14, Try.ntmps14
  go_wp2
  exact bodyPost_ret (v := .agg #[.int .i64 ws, .int .i64 wl, .int .i64 wt]) (by simp [results, Try.results14, go_sem]) rfl ⟨rfl, B0.out.alloc (by simp) _⟩

set_option maxRecDepth 100000 in
theorem refAsks_any (s : Cs) (x : Cw) (w : World) : Calls Try.prog 16 #[.agg s.cells, .agg x.cells] w fun e w' => e = .returned (.bool (s.asks x)) ∧ Below w.heap.size w w' := by
  obtain ⟨on, ss, sl, st⟩ := s
  obtain ⟨ws, wl, wt⟩ := x
  dsimp only [Cs.cells, Cw.cells]
  have B0 := Lib.hid (((Below.refl w.heap.size w).alloc (Nat.le_refl _) (.cells #[.bool on, .int .i64 ss, .int .i64 sl, .int .i64 st] 31)).alloc (by simp) (.cells #[.int .i64 ws, .int .i64 wl, .int .i64 wt] 37))
  cases on
  · go_enter Try.func16, Try.ntmps16
    go_wp2
    go_ret
    exact ⟨rfl, B0.out⟩
  by_cases h1 : ss = ws
  · subst h1
    by_cases h2 : sl = wl
    · subst h2
      go_enter Try.func16, Try.ntmps16
      go_wp2
      go_ret
      exact ⟨by simp [Cs.asks], B0.out⟩
    · go_enter Try.func16, Try.ntmps16
      go_wp2
      go_ret
      exact ⟨by simp [Cs.asks, h2], B0.out⟩
  · go_enter Try.func16, Try.ntmps16
    go_wp2
    go_ret
    exact ⟨by simp [Cs.asks, h1], B0.out⟩

end Go.Proofs.Ytoajbaimjkhegaa
