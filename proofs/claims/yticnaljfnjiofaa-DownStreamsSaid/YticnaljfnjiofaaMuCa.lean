/-
  Contracts of the program's calls of layer 13: what a state comes to by Switch, Send and Drop, and what is told.
-/
import Derived.Test.YticnaljfnjiofaaGpl
import Derived.Test.YticnaljfnjiofaaGse
import Derived.Test.YticnaljfnjiofaaHang
import Derived.Deep.CutBlock
import Derived.IntWalk
import Derived.ChangeAlike
import Derived.RegionTactic
import Derived.Deep.RegionHeld3
import Derived.Deep.QuietTactic
import Derived.BigQuiet
namespace Go.Proofs.Yticnaljfnjiofaa
open Go.RowKit
set_option linter.unusedSimpArgs false
set_option linter.unusedVariables false
set_option maxRecDepth 100000

set_option maxHeartbeats 3200000 in
theorem mtaken_any (n x : Mn) (w : World) : Calls Try.prog 81 #[.agg n.cells, .agg x.cells] w fun e w' => e = .returned (.agg (x.less n).cells) ∧ Below w.heap.size w w' := by
  obtain ⟨nq, nt, np, nl⟩ := n
  obtain ⟨xq, xt, xp, xl⟩ := x
  dsimp only [Mn.cells, Mn.less, Mn.rnd]
  go_enter Try.func81, Try.ntmps81
  go_wp2
  rw [wrap_u16, wrap_u16]
  exact bodyPost_ret (v := .agg #[.int .u16 ((xq - nq) % 65536), .int .u32 ((xt - nt) % 4294967296), .int .u16 ((xp - np) % 65536), .int .u8 ((xl - nl) % 256)]) (by simp [results, Try.results81, go_sem]) rfl ⟨rfl, (((Below.refl w.heap.size w).alloc (Nat.le_refl _) _).alloc (by simp) _).alloc (by simp; omega) _⟩

set_option maxHeartbeats 3200000 in
theorem mnumber_any (s : Mst) (x : Mn) (hs : -4611686018427387904 ≤ s.high ∧ s.high ≤ 4611686018427387904) (w : World) : Calls Try.prog 77 #[.agg s.cells, .agg x.cells] w fun e w' => e = .returned (.int .i64 (s.num x)) ∧ Below w.heap.size w w' := by
  have C := Lib.hid (fun w => near16_any s.high x.seq hs.1 hs.2 w)
  have hd : s.high + d16 s.high x.seq = s.num x := by unfold Mst.num nearM far16 d16; rfl
  rw [hd] at C
  generalize s.num x = nn at *
  clear hd hs
  obtain ⟨on, hi, sc, ⟨oq, ot, op, ol⟩, ⟨uq, ut, up, ul⟩⟩ := s
  obtain ⟨xq, xt, xp, xl⟩ := x
  dsimp only [Mst.cells, Mn.cells] at *
  go_enter Try.func77, Try.ntmps77
  go_wp2_with fail
  refine (C.out _).mono ?_
  rintro e w1 ⟨rfl, b1⟩
  clear C
  go_wp2
  go_ret
  have B := ((Below.refl w.heap.size w).alloc (Nat.le_refl _) (.cells #[.bool (on), .int .i64 (hi), .int .i64 (sc), .int .u16 (oq), .int .u32 (ot), .int .u16 (op), .int .u8 (ol), .int .u16 (uq), .int .u32 (ut), .int .u16 (up), .int .u8 (ul)] 76)).alloc (by simp) (.cells #[.int .u16 (xq), .int .u32 (xt), .int .u16 (xp), .int .u8 (xl)] 74)
  exact ⟨rfl, B.trans (b1.mono B.size)⟩

set_option maxHeartbeats 3200000 in
theorem mfirst_any (s : Mst) (x : Mn) (st : Int) (w : World) : Calls Try.prog 80 #[.agg s.cells, .agg x.cells, .int .u32 st] w fun e w' => e = .returned (.agg (s.begins x st).cells) ∧ Below w.heap.size w w' := by
  obtain ⟨o, ho⟩ : ∃ o, s.begins x st = o := ⟨_, rfl⟩
  have P0 : Hid (s.on = false → o = x) := Lib.hid (fun h => by rw [← ho]; unfold Mst.begins; rw [if_neg (by simp [h])])
  have P1 : Hid (s.on = true → o = Mn.rnd ⟨s.out.seq + 1, s.out.time + st, s.out.pic + 1, s.out.tl0 + 1⟩) := Lib.hid (fun h => by rw [← ho]; unfold Mst.begins; rw [if_pos h])
  rw [ho]
  clear ho
  obtain ⟨on, hi, sc, ⟨oq, ot, op, ol⟩, ⟨uq, ut, up, ul⟩⟩ := s
  obtain ⟨xq, xt, xp, xl⟩ := x
  dsimp only [Mst.cells, Mn.cells, Mn.rnd] at *
  go_enter Try.func80, Try.ntmps80
  cases on with
  | false =>
    obtain rfl := P0.out rfl
    dsimp only
    clear P0 P1
    go_wp2
    exact bodyPost_ret (v := .agg #[.int .u16 (xq), .int .u32 (xt), .int .u16 (xp), .int .u8 (xl)]) (by simp [results, Try.results80, go_sem]) rfl ⟨rfl, (((Below.refl w.heap.size w).alloc (Nat.le_refl _) _).alloc (by simp) _).alloc (by simp; omega) _⟩
  | true =>
    obtain rfl := P1.out rfl
    dsimp only
    clear P0 P1
    go_wp2
    rw [wrap_u16, wrap_u16]
    exact bodyPost_ret (v := .agg #[.int .u16 ((uq + 1) % 65536), .int .u32 ((ut + st) % 4294967296), .int .u16 ((up + 1) % 65536), .int .u8 ((ul + 1) % 256)]) (by simp [results, Try.results80, go_sem]) rfl ⟨rfl, (((Below.refl w.heap.size w).alloc (Nat.le_refl _) _).alloc (by simp) _).alloc (by simp; omega) _⟩
end Go.Proofs.Yticnaljfnjiofaa
