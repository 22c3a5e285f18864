/-
  The contract of the laws' named (layer 9).
-/
import Derived.Test.YtmbhibkiadgcbaaDoorRtG
namespace Go.Proofs.YtmbhibkiadgcbaaDoor
set_option maxRecDepth 100000
set_option linter.unusedSimpArgs false
open Go.RowKit

/-- A message without what its kind does not name. -/
def Ms.nm (m : Ms) : Ms :=
  if m.kind = 0 then ⟨0, m.ssrc, 0, m.clock, m.time, m.packets, m.bytes, m.reps, [], [], [], 0⟩
  else if m.kind = 1 then ⟨1, m.ssrc, 0, 0, 0, 0, 0, m.reps, [], [], [], 0⟩
  else if m.kind = 2 then ⟨2, 0, 0, 0, 0, 0, 0, [], m.who, [], [], 0⟩
  else if m.kind = 3 then ⟨3, m.ssrc, m.media, 0, 0, 0, 0, [], [], m.pairs, [], 0⟩
  else if m.kind = 4 then ⟨4, m.ssrc, m.media, 0, 0, 0, 0, [], [], [], [], 0⟩
  else if m.kind = 5 then ⟨5, m.ssrc, m.media, 0, 0, 0, 0, [], [], [], m.asks, 0⟩
  else ⟨m.kind, m.ssrc, 0, 0, 0, 0, 0, [], [], [], [], 0⟩
set_option maxRecDepth 1000000 in
set_option maxHeartbeats 3200000 in
theorem named_0 (w : World) (ssrc media clock time packets bytes typ nr nw np na : Nat) (rA : Option Addr) (rc : Nat) (wA : Option Addr) (wc : Nat) (pA : Option Addr) (pc : Nat) (aA : Option Addr) (ac : Nat)  :
    Calls Tryd.prog 19 #[.agg #[.int .i64 0, .int .u32 (ssrc : Int), .int .u32 (media : Int), .int .u64 (clock : Int), .int .u32 (time : Int), .int .u32 (packets : Int), .int .u32 (bytes : Int), .slice rA nr rc, .slice wA nw wc, .slice pA np pc, .slice aA na ac, .int .u8 (typ : Int)]] w
      fun e w' => e = .returned (.agg #[.int .i64 0, .int .u32 (ssrc : Int), .int .u32 0, .int .u64 (clock : Int), .int .u32 (time : Int), .int .u32 (packets : Int), .int .u32 (bytes : Int), .slice rA nr rc, .slice none 0 0, .slice none 0 0, .slice none 0 0, .int .u8 0]) ∧ Below w.heap.size w w' := by
  go_enter Tryd.func19, Tryd.ntmps19
  go_wp2_with fail
  obtain ⟨we, hwe⟩ : ∃ we, we = ((w.alloc (.cells #[.int .i64 0, .int .u32 (ssrc : Int), .int .u32 (media : Int), .int .u64 (clock : Int), .int .u32 (time : Int), .int .u32 (packets : Int), .int .u32 (bytes : Int), .slice rA nr rc, .slice wA nw wc, .slice pA np pc, .slice aA na ac, .int .u8 (typ : Int)] 50)).alloc (.cells #[.int .i64 0, .int .u32 (ssrc : Int), .int .u32 0, .int .u64 (clock : Int), .int .u32 (time : Int), .int .u32 (packets : Int), .int .u32 (bytes : Int), .slice rA nr rc, .slice none 0 0, .slice none 0 0, .slice none 0 0, .int .u8 0] 50)).alloc (.cells #[.int .i64 0, .int .u32 (ssrc : Int), .int .u32 0, .int .u64 (clock : Int), .int .u32 (time : Int), .int .u32 (packets : Int), .int .u32 (bytes : Int), .slice rA nr rc, .slice none 0 0, .slice none 0 0, .slice none 0 0, .int .u8 0] 50) := ⟨_, rfl⟩
  have hB : Below w.heap.size w we := by rw [hwe]; exact (((Below.refl _ _).alloc (Nat.le_refl _) _).alloc (by simp) _).alloc (by simp; omega) _
  have hW : Whole we (w.heap.size + 1) 50 #[.int .i64 0, .int .u32 (ssrc : Int), .int .u32 0, .int .u64 (clock : Int), .int .u32 (time : Int), .int .u32 (packets : Int), .int .u32 (bytes : Int), .slice rA nr rc, .slice none 0 0, .slice none 0 0, .slice none 0 0, .int .u8 0] := by rw [hwe]; exact (Whole.new2 w _ _ _).alloc _
  rw [← hwe]
  clear hwe
  have e0 : we.cell? ⟨w.heap.size + 1, 0, none⟩ = some (.int .i64 0) := hW.cell 0
  have e1 : we.cell? ⟨w.heap.size + 1, 1, none⟩ = some (.int .u32 (ssrc : Int)) := hW.cell 1
  have e2 : we.cell? ⟨w.heap.size + 1, 2, none⟩ = some (.int .u32 0) := hW.cell 2
  have e3 : we.cell? ⟨w.heap.size + 1, 3, none⟩ = some (.int .u64 (clock : Int)) := hW.cell 3
  have e4 : we.cell? ⟨w.heap.size + 1, 4, none⟩ = some (.int .u32 (time : Int)) := hW.cell 4
  have e5 : we.cell? ⟨w.heap.size + 1, 5, none⟩ = some (.int .u32 (packets : Int)) := hW.cell 5
  have e6 : we.cell? ⟨w.heap.size + 1, 6, none⟩ = some (.int .u32 (bytes : Int)) := hW.cell 6
  have e7 : we.cell? ⟨w.heap.size + 1, 7, none⟩ = some (.slice rA nr rc) := hW.cell 7
  have e8 : we.cell? ⟨w.heap.size + 1, 8, none⟩ = some (.slice none 0 0) := hW.cell 8
  have e9 : we.cell? ⟨w.heap.size + 1, 9, none⟩ = some (.slice none 0 0) := hW.cell 9
  have e10 : we.cell? ⟨w.heap.size + 1, 10, none⟩ = some (.slice none 0 0) := hW.cell 10
  have e11 : we.cell? ⟨w.heap.size + 1, 11, none⟩ = some (.int .u8 0) := hW.cell 11
  exact bodyPost_ret (v := .agg #[.int .i64 0, .int .u32 (ssrc : Int), .int .u32 0, .int .u64 (clock : Int), .int .u32 (time : Int), .int .u32 (packets : Int), .int .u32 (bytes : Int), .slice rA nr rc, .slice none 0 0, .slice none 0 0, .slice none 0 0, .int .u8 0]) (by simp [results, Tryd.results19, e0, e1, e2, e3, e4, e5, e6, e7, e8, e9, e10, e11, go_sem]) rfl ⟨rfl, hB⟩
set_option maxRecDepth 1000000 in
set_option maxHeartbeats 3200000 in
theorem named_1 (w : World) (ssrc media clock time packets bytes typ nr nw np na : Nat) (rA : Option Addr) (rc : Nat) (wA : Option Addr) (wc : Nat) (pA : Option Addr) (pc : Nat) (aA : Option Addr) (ac : Nat)  :
    Calls Tryd.prog 19 #[.agg #[.int .i64 1, .int .u32 (ssrc : Int), .int .u32 (media : Int), .int .u64 (clock : Int), .int .u32 (time : Int), .int .u32 (packets : Int), .int .u32 (bytes : Int), .slice rA nr rc, .slice wA nw wc, .slice pA np pc, .slice aA na ac, .int .u8 (typ : Int)]] w
      fun e w' => e = .returned (.agg #[.int .i64 1, .int .u32 (ssrc : Int), .int .u32 0, .int .u64 0, .int .u32 0, .int .u32 0, .int .u32 0, .slice rA nr rc, .slice none 0 0, .slice none 0 0, .slice none 0 0, .int .u8 0]) ∧ Below w.heap.size w w' := by
  go_enter Tryd.func19, Tryd.ntmps19
  go_wp2_with fail
  obtain ⟨we, hwe⟩ : ∃ we, we = ((w.alloc (.cells #[.int .i64 1, .int .u32 (ssrc : Int), .int .u32 (media : Int), .int .u64 (clock : Int), .int .u32 (time : Int), .int .u32 (packets : Int), .int .u32 (bytes : Int), .slice rA nr rc, .slice wA nw wc, .slice pA np pc, .slice aA na ac, .int .u8 (typ : Int)] 50)).alloc (.cells #[.int .i64 1, .int .u32 (ssrc : Int), .int .u32 0, .int .u64 0, .int .u32 0, .int .u32 0, .int .u32 0, .slice rA nr rc, .slice none 0 0, .slice none 0 0, .slice none 0 0, .int .u8 0] 50)).alloc (.cells #[.int .i64 1, .int .u32 (ssrc : Int), .int .u32 0, .int .u64 0, .int .u32 0, .int .u32 0, .int .u32 0, .slice rA nr rc, .slice none 0 0, .slice none 0 0, .slice none 0 0, .int .u8 0] 50) := ⟨_, rfl⟩
  have hB : Below w.heap.size w we := by rw [hwe]; exact (((Below.refl _ _).alloc (Nat.le_refl _) _).alloc (by simp) _).alloc (by simp; omega) _
  have hW : Whole we (w.heap.size + 1) 50 #[.int .i64 1, .int .u32 (ssrc : Int), .int .u32 0, .int .u64 0, .int .u32 0, .int .u32 0, .int .u32 0, .slice rA nr rc, .slice none 0 0, .slice none 0 0, .slice none 0 0, .int .u8 0] := by rw [hwe]; exact (Whole.new2 w _ _ _).alloc _
  rw [← hwe]
  clear hwe
  have e0 : we.cell? ⟨w.heap.size + 1, 0, none⟩ = some (.int .i64 1) := hW.cell 0
  have e1 : we.cell? ⟨w.heap.size + 1, 1, none⟩ = some (.int .u32 (ssrc : Int)) := hW.cell 1
  have e2 : we.cell? ⟨w.heap.size + 1, 2, none⟩ = some (.int .u32 0) := hW.cell 2
  have e3 : we.cell? ⟨w.heap.size + 1, 3, none⟩ = some (.int .u64 0) := hW.cell 3
  have e4 : we.cell? ⟨w.heap.size + 1, 4, none⟩ = some (.int .u32 0) := hW.cell 4
  have e5 : we.cell? ⟨w.heap.size + 1, 5, none⟩ = some (.int .u32 0) := hW.cell 5
  have e6 : we.cell? ⟨w.heap.size + 1, 6, none⟩ = some (.int .u32 0) := hW.cell 6
  have e7 : we.cell? ⟨w.heap.size + 1, 7, none⟩ = some (.slice rA nr rc) := hW.cell 7
  have e8 : we.cell? ⟨w.heap.size + 1, 8, none⟩ = some (.slice none 0 0) := hW.cell 8
  have e9 : we.cell? ⟨w.heap.size + 1, 9, none⟩ = some (.slice none 0 0) := hW.cell 9
  have e10 : we.cell? ⟨w.heap.size + 1, 10, none⟩ = some (.slice none 0 0) := hW.cell 10
  have e11 : we.cell? ⟨w.heap.size + 1, 11, none⟩ = some (.int .u8 0) := hW.cell 11
  exact bodyPost_ret (v := .agg #[.int .i64 1, .int .u32 (ssrc : Int), .int .u32 0, .int .u64 0, .int .u32 0, .int .u32 0, .int .u32 0, .slice rA nr rc, .slice none 0 0, .slice none 0 0, .slice none 0 0, .int .u8 0]) (by simp [results, Tryd.results19, e0, e1, e2, e3, e4, e5, e6, e7, e8, e9, e10, e11, go_sem]) rfl ⟨rfl, hB⟩
set_option maxRecDepth 1000000 in
set_option maxHeartbeats 3200000 in
theorem named_2 (w : World) (ssrc media clock time packets bytes typ nr nw np na : Nat) (rA : Option Addr) (rc : Nat) (wA : Option Addr) (wc : Nat) (pA : Option Addr) (pc : Nat) (aA : Option Addr) (ac : Nat)  :
    Calls Tryd.prog 19 #[.agg #[.int .i64 2, .int .u32 (ssrc : Int), .int .u32 (media : Int), .int .u64 (clock : Int), .int .u32 (time : Int), .int .u32 (packets : Int), .int .u32 (bytes : Int), .slice rA nr rc, .slice wA nw wc, .slice pA np pc, .slice aA na ac, .int .u8 (typ : Int)]] w
      fun e w' => e = .returned (.agg #[.int .i64 2, .int .u32 0, .int .u32 0, .int .u64 0, .int .u32 0, .int .u32 0, .int .u32 0, .slice none 0 0, .slice wA nw wc, .slice none 0 0, .slice none 0 0, .int .u8 0]) ∧ Below w.heap.size w w' := by
  go_enter Tryd.func19, Tryd.ntmps19
  go_wp2_with fail
  obtain ⟨we, hwe⟩ : ∃ we, we = ((w.alloc (.cells #[.int .i64 2, .int .u32 (ssrc : Int), .int .u32 (media : Int), .int .u64 (clock : Int), .int .u32 (time : Int), .int .u32 (packets : Int), .int .u32 (bytes : Int), .slice rA nr rc, .slice wA nw wc, .slice pA np pc, .slice aA na ac, .int .u8 (typ : Int)] 50)).alloc (.cells #[.int .i64 2, .int .u32 0, .int .u32 0, .int .u64 0, .int .u32 0, .int .u32 0, .int .u32 0, .slice none 0 0, .slice wA nw wc, .slice none 0 0, .slice none 0 0, .int .u8 0] 50)).alloc (.cells #[.int .i64 2, .int .u32 0, .int .u32 0, .int .u64 0, .int .u32 0, .int .u32 0, .int .u32 0, .slice none 0 0, .slice wA nw wc, .slice none 0 0, .slice none 0 0, .int .u8 0] 50) := ⟨_, rfl⟩
  have hB : Below w.heap.size w we := by rw [hwe]; exact (((Below.refl _ _).alloc (Nat.le_refl _) _).alloc (by simp) _).alloc (by simp; omega) _
  have hW : Whole we (w.heap.size + 1) 50 #[.int .i64 2, .int .u32 0, .int .u32 0, .int .u64 0, .int .u32 0, .int .u32 0, .int .u32 0, .slice none 0 0, .slice wA nw wc, .slice none 0 0, .slice none 0 0, .int .u8 0] := by rw [hwe]; exact (Whole.new2 w _ _ _).alloc _
  rw [← hwe]
  clear hwe
  have e0 : we.cell? ⟨w.heap.size + 1, 0, none⟩ = some (.int .i64 2) := hW.cell 0
  have e1 : we.cell? ⟨w.heap.size + 1, 1, none⟩ = some (.int .u32 0) := hW.cell 1
  have e2 : we.cell? ⟨w.heap.size + 1, 2, none⟩ = some (.int .u32 0) := hW.cell 2
  have e3 : we.cell? ⟨w.heap.size + 1, 3, none⟩ = some (.int .u64 0) := hW.cell 3
  have e4 : we.cell? ⟨w.heap.size + 1, 4, none⟩ = some (.int .u32 0) := hW.cell 4
  have e5 : we.cell? ⟨w.heap.size + 1, 5, none⟩ = some (.int .u32 0) := hW.cell 5
  have e6 : we.cell? ⟨w.heap.size + 1, 6, none⟩ = some (.int .u32 0) := hW.cell 6
  have e7 : we.cell? ⟨w.heap.size + 1, 7, none⟩ = some (.slice none 0 0) := hW.cell 7
  have e8 : we.cell? ⟨w.heap.size + 1, 8, none⟩ = some (.slice wA nw wc) := hW.cell 8
  have e9 : we.cell? ⟨w.heap.size + 1, 9, none⟩ = some (.slice none 0 0) := hW.cell 9
  have e10 : we.cell? ⟨w.heap.size + 1, 10, none⟩ = some (.slice none 0 0) := hW.cell 10
  have e11 : we.cell? ⟨w.heap.size + 1, 11, none⟩ = some (.int .u8 0) := hW.cell 11
  exact bodyPost_ret (v := .agg #[.int .i64 2, .int .u32 0, .int .u32 0, .int .u64 0, .int .u32 0, .int .u32 0, .int .u32 0, .slice none 0 0, .slice wA nw wc, .slice none 0 0, .slice none 0 0, .int .u8 0]) (by simp [results, Tryd.results19, e0, e1, e2, e3, e4, e5, e6, e7, e8, e9, e10, e11, go_sem]) rfl ⟨rfl, hB⟩
set_option maxRecDepth 1000000 in
set_option maxHeartbeats 3200000 in
theorem named_3 (w : World) (ssrc media clock time packets bytes typ nr nw np na : Nat) (rA : Option Addr) (rc : Nat) (wA : Option Addr) (wc : Nat) (pA : Option Addr) (pc : Nat) (aA : Option Addr) (ac : Nat)  :
    Calls Tryd.prog 19 #[.agg #[.int .i64 3, .int .u32 (ssrc : Int), .int .u32 (media : Int), .int .u64 (clock : Int), .int .u32 (time : Int), .int .u32 (packets : Int), .int .u32 (bytes : Int), .slice rA nr rc, .slice wA nw wc, .slice pA np pc, .slice aA na ac, .int .u8 (typ : Int)]] w
      fun e w' => e = .returned (.agg #[.int .i64 3, .int .u32 (ssrc : Int), .int .u32 (media : Int), .int .u64 0, .int .u32 0, .int .u32 0, .int .u32 0, .slice none 0 0, .slice none 0 0, .slice pA np pc, .slice none 0 0, .int .u8 0]) ∧ Below w.heap.size w w' := by
  go_enter Tryd.func19, Tryd.ntmps19
  go_wp2_with fail
  obtain ⟨we, hwe⟩ : ∃ we, we = ((w.alloc (.cells #[.int .i64 3, .int .u32 (ssrc : Int), .int .u32 (media : Int), .int .u64 (clock : Int), .int .u32 (time : Int), .int .u32 (packets : Int), .int .u32 (bytes : Int), .slice rA nr rc, .slice wA nw wc, .slice pA np pc, .slice aA na ac, .int .u8 (typ : Int)] 50)).alloc (.cells #[.int .i64 3, .int .u32 (ssrc : Int), .int .u32 (media : Int), .int .u64 0, .int .u32 0, .int .u32 0, .int .u32 0, .slice none 0 0, .slice none 0 0, .slice pA np pc, .slice none 0 0, .int .u8 0] 50)).alloc (.cells #[.int .i64 3, .int .u32 (ssrc : Int), .int .u32 (media : Int), .int .u64 0, .int .u32 0, .int .u32 0, .int .u32 0, .slice none 0 0, .slice none 0 0, .slice pA np pc, .slice none 0 0, .int .u8 0] 50) := ⟨_, rfl⟩
  have hB : Below w.heap.size w we := by rw [hwe]; exact (((Below.refl _ _).alloc (Nat.le_refl _) _).alloc (by simp) _).alloc (by simp; omega) _
  have hW : Whole we (w.heap.size + 1) 50 #[.int .i64 3, .int .u32 (ssrc : Int), .int .u32 (media : Int), .int .u64 0, .int .u32 0, .int .u32 0, .int .u32 0, .slice none 0 0, .slice none 0 0, .slice pA np pc, .slice none 0 0, .int .u8 0] := by rw [hwe]; exact (Whole.new2 w _ _ _).alloc _
  rw [← hwe]
  clear hwe
  have e0 : we.cell? ⟨w.heap.size + 1, 0, none⟩ = some (.int .i64 3) := hW.cell 0
  have e1 : we.cell? ⟨w.heap.size + 1, 1, none⟩ = some (.int .u32 (ssrc : Int)) := hW.cell 1
  have e2 : we.cell? ⟨w.heap.size + 1, 2, none⟩ = some (.int .u32 (media : Int)) := hW.cell 2
  have e3 : we.cell? ⟨w.heap.size + 1, 3, none⟩ = some (.int .u64 0) := hW.cell 3
  have e4 : we.cell? ⟨w.heap.size + 1, 4, none⟩ = some (.int .u32 0) := hW.cell 4
  have e5 : we.cell? ⟨w.heap.size + 1, 5, none⟩ = some (.int .u32 0) := hW.cell 5
  have e6 : we.cell? ⟨w.heap.size + 1, 6, none⟩ = some (.int .u32 0) := hW.cell 6
  have e7 : we.cell? ⟨w.heap.size + 1, 7, none⟩ = some (.slice none 0 0) := hW.cell 7
  have e8 : we.cell? ⟨w.heap.size + 1, 8, none⟩ = some (.slice none 0 0) := hW.cell 8
  have e9 : we.cell? ⟨w.heap.size + 1, 9, none⟩ = some (.slice pA np pc) := hW.cell 9
  have e10 : we.cell? ⟨w.heap.size + 1, 10, none⟩ = some (.slice none 0 0) := hW.cell 10
  have e11 : we.cell? ⟨w.heap.size + 1, 11, none⟩ = some (.int .u8 0) := hW.cell 11
  exact bodyPost_ret (v := .agg #[.int .i64 3, .int .u32 (ssrc : Int), .int .u32 (media : Int), .int .u64 0, .int .u32 0, .int .u32 0, .int .u32 0, .slice none 0 0, .slice none 0 0, .slice pA np pc, .slice none 0 0, .int .u8 0]) (by simp [results, Tryd.results19, e0, e1, e2, e3, e4, e5, e6, e7, e8, e9, e10, e11, go_sem]) rfl ⟨rfl, hB⟩
set_option maxRecDepth 1000000 in
set_option maxHeartbeats 3200000 in
theorem named_4 (w : World) (ssrc media clock time packets bytes typ nr nw np na : Nat) (rA : Option Addr) (rc : Nat) (wA : Option Addr) (wc : Nat) (pA : Option Addr) (pc : Nat) (aA : Option Addr) (ac : Nat)  :
    Calls Tryd.prog 19 #[.agg #[.int .i64 4, .int .u32 (ssrc : Int), .int .u32 (media : Int), .int .u64 (clock : Int), .int .u32 (time : Int), .int .u32 (packets : Int), .int .u32 (bytes : Int), .slice rA nr rc, .slice wA nw wc, .slice pA np pc, .slice aA na ac, .int .u8 (typ : Int)]] w
      fun e w' => e = .returned (.agg #[.int .i64 4, .int .u32 (ssrc : Int), .int .u32 (media : Int), .int .u64 0, .int .u32 0, .int .u32 0, .int .u32 0, .slice none 0 0, .slice none 0 0, .slice none 0 0, .slice none 0 0, .int .u8 0]) ∧ Below w.heap.size w w' := by
  go_enter Tryd.func19, Tryd.ntmps19
  go_wp2_with fail
  obtain ⟨we, hwe⟩ : ∃ we, we = ((w.alloc (.cells #[.int .i64 4, .int .u32 (ssrc : Int), .int .u32 (media : Int), .int .u64 (clock : Int), .int .u32 (time : Int), .int .u32 (packets : Int), .int .u32 (bytes : Int), .slice rA nr rc, .slice wA nw wc, .slice pA np pc, .slice aA na ac, .int .u8 (typ : Int)] 50)).alloc (.cells #[.int .i64 4, .int .u32 (ssrc : Int), .int .u32 (media : Int), .int .u64 0, .int .u32 0, .int .u32 0, .int .u32 0, .slice none 0 0, .slice none 0 0, .slice none 0 0, .slice none 0 0, .int .u8 0] 50)).alloc (.cells #[.int .i64 4, .int .u32 (ssrc : Int), .int .u32 (media : Int), .int .u64 0, .int .u32 0, .int .u32 0, .int .u32 0, .slice none 0 0, .slice none 0 0, .slice none 0 0, .slice none 0 0, .int .u8 0] 50) := ⟨_, rfl⟩
  have hB : Below w.heap.size w we := by rw [hwe]; exact (((Below.refl _ _).alloc (Nat.le_refl _) _).alloc (by simp) _).alloc (by simp; omega) _
  have hW : Whole we (w.heap.size + 1) 50 #[.int .i64 4, .int .u32 (ssrc : Int), .int .u32 (media : Int), .int .u64 0, .int .u32 0, .int .u32 0, .int .u32 0, .slice none 0 0, .slice none 0 0, .slice none 0 0, .slice none 0 0, .int .u8 0] := by rw [hwe]; exact (Whole.new2 w _ _ _).alloc _
  rw [← hwe]
  clear hwe
  have e0 : we.cell? ⟨w.heap.size + 1, 0, none⟩ = some (.int .i64 4) := hW.cell 0
  have e1 : we.cell? ⟨w.heap.size + 1, 1, none⟩ = some (.int .u32 (ssrc : Int)) := hW.cell 1
  have e2 : we.cell? ⟨w.heap.size + 1, 2, none⟩ = some (.int .u32 (media : Int)) := hW.cell 2
  have e3 : we.cell? ⟨w.heap.size + 1, 3, none⟩ = some (.int .u64 0) := hW.cell 3
  have e4 : we.cell? ⟨w.heap.size + 1, 4, none⟩ = some (.int .u32 0) := hW.cell 4
  have e5 : we.cell? ⟨w.heap.size + 1, 5, none⟩ = some (.int .u32 0) := hW.cell 5
  have e6 : we.cell? ⟨w.heap.size + 1, 6, none⟩ = some (.int .u32 0) := hW.cell 6
  have e7 : we.cell? ⟨w.heap.size + 1, 7, none⟩ = some (.slice none 0 0) := hW.cell 7
  have e8 : we.cell? ⟨w.heap.size + 1, 8, none⟩ = some (.slice none 0 0) := hW.cell 8
  have e9 : we.cell? ⟨w.heap.size + 1, 9, none⟩ = some (.slice none 0 0) := hW.cell 9
  have e10 : we.cell? ⟨w.heap.size + 1, 10, none⟩ = some (.slice none 0 0) := hW.cell 10
  have e11 : we.cell? ⟨w.heap.size + 1, 11, none⟩ = some (.int .u8 0) := hW.cell 11
  exact bodyPost_ret (v := .agg #[.int .i64 4, .int .u32 (ssrc : Int), .int .u32 (media : Int), .int .u64 0, .int .u32 0, .int .u32 0, .int .u32 0, .slice none 0 0, .slice none 0 0, .slice none 0 0, .slice none 0 0, .int .u8 0]) (by simp [results, Tryd.results19, e0, e1, e2, e3, e4, e5, e6, e7, e8, e9, e10, e11, go_sem]) rfl ⟨rfl, hB⟩
set_option maxRecDepth 1000000 in
set_option maxHeartbeats 3200000 in
theorem named_5 (w : World) (ssrc media clock time packets bytes typ nr nw np na : Nat) (rA : Option Addr) (rc : Nat) (wA : Option Addr) (wc : Nat) (pA : Option Addr) (pc : Nat) (aA : Option Addr) (ac : Nat)  :
    Calls Tryd.prog 19 #[.agg #[.int .i64 5, .int .u32 (ssrc : Int), .int .u32 (media : Int), .int .u64 (clock : Int), .int .u32 (time : Int), .int .u32 (packets : Int), .int .u32 (bytes : Int), .slice rA nr rc, .slice wA nw wc, .slice pA np pc, .slice aA na ac, .int .u8 (typ : Int)]] w
      fun e w' => e = .returned (.agg #[.int .i64 5, .int .u32 (ssrc : Int), .int .u32 (media : Int), .int .u64 0, .int .u32 0, .int .u32 0, .int .u32 0, .slice none 0 0, .slice none 0 0, .slice none 0 0, .slice aA na ac, .int .u8 0]) ∧ Below w.heap.size w w' := by
  go_enter Tryd.func19, Tryd.ntmps19
  go_wp2_with fail
  obtain ⟨we, hwe⟩ : ∃ we, we = ((w.alloc (.cells #[.int .i64 5, .int .u32 (ssrc : Int), .int .u32 (media : Int), .int .u64 (clock : Int), .int .u32 (time : Int), .int .u32 (packets : Int), .int .u32 (bytes : Int), .slice rA nr rc, .slice wA nw wc, .slice pA np pc, .slice aA na ac, .int .u8 (typ : Int)] 50)).alloc (.cells #[.int .i64 5, .int .u32 (ssrc : Int), .int .u32 (media : Int), .int .u64 0, .int .u32 0, .int .u32 0, .int .u32 0, .slice none 0 0, .slice none 0 0, .slice none 0 0, .slice aA na ac, .int .u8 0] 50)).alloc (.cells #[.int .i64 5, .int .u32 (ssrc : Int), .int .u32 (media : Int), .int .u64 0, .int .u32 0, .int .u32 0, .int .u32 0, .slice none 0 0, .slice none 0 0, .slice none 0 0, .slice aA na ac, .int .u8 0] 50) := ⟨_, rfl⟩
  have hB : Below w.heap.size w we := by rw [hwe]; exact (((Below.refl _ _).alloc (Nat.le_refl _) _).alloc (by simp) _).alloc (by simp; omega) _
  have hW : Whole we (w.heap.size + 1) 50 #[.int .i64 5, .int .u32 (ssrc : Int), .int .u32 (media : Int), .int .u64 0, .int .u32 0, .int .u32 0, .int .u32 0, .slice none 0 0, .slice none 0 0, .slice none 0 0, .slice aA na ac, .int .u8 0] := by rw [hwe]; exact (Whole.new2 w _ _ _).alloc _
  rw [← hwe]
  clear hwe
  have e0 : we.cell? ⟨w.heap.size + 1, 0, none⟩ = some (.int .i64 5) := hW.cell 0
  have e1 : we.cell? ⟨w.heap.size + 1, 1, none⟩ = some (.int .u32 (ssrc : Int)) := hW.cell 1
  have e2 : we.cell? ⟨w.heap.size + 1, 2, none⟩ = some (.int .u32 (media : Int)) := hW.cell 2
  have e3 : we.cell? ⟨w.heap.size + 1, 3, none⟩ = some (.int .u64 0) := hW.cell 3
  have e4 : we.cell? ⟨w.heap.size + 1, 4, none⟩ = some (.int .u32 0) := hW.cell 4
  have e5 : we.cell? ⟨w.heap.size + 1, 5, none⟩ = some (.int .u32 0) := hW.cell 5
  have e6 : we.cell? ⟨w.heap.size + 1, 6, none⟩ = some (.int .u32 0) := hW.cell 6
  have e7 : we.cell? ⟨w.heap.size + 1, 7, none⟩ = some (.slice none 0 0) := hW.cell 7
  have e8 : we.cell? ⟨w.heap.size + 1, 8, none⟩ = some (.slice none 0 0) := hW.cell 8
  have e9 : we.cell? ⟨w.heap.size + 1, 9, none⟩ = some (.slice none 0 0) := hW.cell 9
  have e10 : we.cell? ⟨w.heap.size + 1, 10, none⟩ = some (.slice aA na ac) := hW.cell 10
  have e11 : we.cell? ⟨w.heap.size + 1, 11, none⟩ = some (.int .u8 0) := hW.cell 11
  exact bodyPost_ret (v := .agg #[.int .i64 5, .int .u32 (ssrc : Int), .int .u32 (media : Int), .int .u64 0, .int .u32 0, .int .u32 0, .int .u32 0, .slice none 0 0, .slice none 0 0, .slice none 0 0, .slice aA na ac, .int .u8 0]) (by simp [results, Tryd.results19, e0, e1, e2, e3, e4, e5, e6, e7, e8, e9, e10, e11, go_sem]) rfl ⟨rfl, hB⟩
set_option maxRecDepth 1000000 in
set_option maxHeartbeats 3200000 in
theorem named_x (w : World) (kind : Int) (ssrc media clock time packets bytes typ nr nw np na : Nat) (rA : Option Addr) (rc : Nat) (wA : Option Addr) (wc : Nat) (pA : Option Addr) (pc : Nat) (aA : Option Addr) (ac : Nat) (h0 : kind ≠ 0) (h1 : kind ≠ 1) (h2 : kind ≠ 2) (h3 : kind ≠ 3) (h4 : kind ≠ 4) (h5 : kind ≠ 5) :
    Calls Tryd.prog 19 #[.agg #[.int .i64 kind, .int .u32 (ssrc : Int), .int .u32 (media : Int), .int .u64 (clock : Int), .int .u32 (time : Int), .int .u32 (packets : Int), .int .u32 (bytes : Int), .slice rA nr rc, .slice wA nw wc, .slice pA np pc, .slice aA na ac, .int .u8 (typ : Int)]] w
      fun e w' => e = .returned (.agg #[.int .i64 kind, .int .u32 (ssrc : Int), .int .u32 0, .int .u64 0, .int .u32 0, .int .u32 0, .int .u32 0, .slice none 0 0, .slice none 0 0, .slice none 0 0, .slice none 0 0, .int .u8 0]) ∧ Below w.heap.size w w' := by
  go_enter Tryd.func19, Tryd.ntmps19
  go_wp2_with fail
  obtain ⟨we, hwe⟩ : ∃ we, we = ((w.alloc (.cells #[.int .i64 kind, .int .u32 (ssrc : Int), .int .u32 (media : Int), .int .u64 (clock : Int), .int .u32 (time : Int), .int .u32 (packets : Int), .int .u32 (bytes : Int), .slice rA nr rc, .slice wA nw wc, .slice pA np pc, .slice aA na ac, .int .u8 (typ : Int)] 50)).alloc (.cells #[.int .i64 kind, .int .u32 (ssrc : Int), .int .u32 0, .int .u64 0, .int .u32 0, .int .u32 0, .int .u32 0, .slice none 0 0, .slice none 0 0, .slice none 0 0, .slice none 0 0, .int .u8 0] 50)).alloc (.cells #[.int .i64 kind, .int .u32 (ssrc : Int), .int .u32 0, .int .u64 0, .int .u32 0, .int .u32 0, .int .u32 0, .slice none 0 0, .slice none 0 0, .slice none 0 0, .slice none 0 0, .int .u8 0] 50) := ⟨_, rfl⟩
  have hB : Below w.heap.size w we := by rw [hwe]; exact (((Below.refl _ _).alloc (Nat.le_refl _) _).alloc (by simp) _).alloc (by simp; omega) _
  have hW : Whole we (w.heap.size + 1) 50 #[.int .i64 kind, .int .u32 (ssrc : Int), .int .u32 0, .int .u64 0, .int .u32 0, .int .u32 0, .int .u32 0, .slice none 0 0, .slice none 0 0, .slice none 0 0, .slice none 0 0, .int .u8 0] := by rw [hwe]; exact (Whole.new2 w _ _ _).alloc _
  rw [← hwe]
  clear hwe
  have e0 : we.cell? ⟨w.heap.size + 1, 0, none⟩ = some (.int .i64 kind) := hW.cell 0
  have e1 : we.cell? ⟨w.heap.size + 1, 1, none⟩ = some (.int .u32 (ssrc : Int)) := hW.cell 1
  have e2 : we.cell? ⟨w.heap.size + 1, 2, none⟩ = some (.int .u32 0) := hW.cell 2
  have e3 : we.cell? ⟨w.heap.size + 1, 3, none⟩ = some (.int .u64 0) := hW.cell 3
  have e4 : we.cell? ⟨w.heap.size + 1, 4, none⟩ = some (.int .u32 0) := hW.cell 4
  have e5 : we.cell? ⟨w.heap.size + 1, 5, none⟩ = some (.int .u32 0) := hW.cell 5
  have e6 : we.cell? ⟨w.heap.size + 1, 6, none⟩ = some (.int .u32 0) := hW.cell 6
  have e7 : we.cell? ⟨w.heap.size + 1, 7, none⟩ = some (.slice none 0 0) := hW.cell 7
  have e8 : we.cell? ⟨w.heap.size + 1, 8, none⟩ = some (.slice none 0 0) := hW.cell 8
  have e9 : we.cell? ⟨w.heap.size + 1, 9, none⟩ = some (.slice none 0 0) := hW.cell 9
  have e10 : we.cell? ⟨w.heap.size + 1, 10, none⟩ = some (.slice none 0 0) := hW.cell 10
  have e11 : we.cell? ⟨w.heap.size + 1, 11, none⟩ = some (.int .u8 0) := hW.cell 11
  exact bodyPost_ret (v := .agg #[.int .i64 kind, .int .u32 (ssrc : Int), .int .u32 0, .int .u64 0, .int .u32 0, .int .u32 0, .int .u32 0, .slice none 0 0, .slice none 0 0, .slice none 0 0, .slice none 0 0, .int .u8 0]) (by simp [results, Tryd.results19, e0, e1, e2, e3, e4, e5, e6, e7, e8, e9, e10, e11, go_sem]) rfl ⟨rfl, hB⟩
theorem named_any (m : Ms) (s : Sl) (w : World) (h : MsAt w w.heap.size m s) :
    Calls Tryd.prog 19 #[.agg (m.cells s).toArray] w
      fun e w' => (∃ s', e = .returned (.agg (m.nm.cells s').toArray) ∧ MsAt w' w.heap.size m.nm s' ∧ ∀ ob, FarM ob m s → FarM ob m.nm s') ∧ Below w.heap.size w w' := by
  obtain ⟨kind, ssrc, media, clock, time, packets, bytes, reps, who, pairs, asks, typ⟩ := m
  obtain ⟨rA, rc, wA, wc, pA, pc, aA, ac⟩ := s
  have n1 : ∀ ob A, FarR ob 0 A := fun ob A hn => absurd hn (by omega)
  have nR : ∀ (w' : World) (B z : Nat), Row w' B z none 0 [] := fun w' B z => Row.nil
  by_cases c0 : kind = 0
  · subst c0
    refine (named_0 w ssrc media clock time packets bytes typ reps.length who.length pairs.length asks.length rA rc wA wc pA pc aA ac).mono ?_
    rintro e w' ⟨rfl, hB⟩
    exact ⟨⟨⟨rA, rc, none, 0, none, 0, none, 0⟩, rfl, ⟨(h.below hB (Nat.le_refl _)).reps, nR _ _ _, nR _ _ _, nR _ _ _⟩, fun ob hf => ⟨hf.1, n1 _ _, n1 _ _, n1 _ _⟩⟩, hB⟩
  by_cases c1 : kind = 1
  · subst c1
    refine (named_1 w ssrc media clock time packets bytes typ reps.length who.length pairs.length asks.length rA rc wA wc pA pc aA ac).mono ?_
    rintro e w' ⟨rfl, hB⟩
    exact ⟨⟨⟨rA, rc, none, 0, none, 0, none, 0⟩, rfl, ⟨(h.below hB (Nat.le_refl _)).reps, nR _ _ _, nR _ _ _, nR _ _ _⟩, fun ob hf => ⟨hf.1, n1 _ _, n1 _ _, n1 _ _⟩⟩, hB⟩
  by_cases c2 : kind = 2
  · subst c2
    refine (named_2 w ssrc media clock time packets bytes typ reps.length who.length pairs.length asks.length rA rc wA wc pA pc aA ac).mono ?_
    rintro e w' ⟨rfl, hB⟩
    exact ⟨⟨⟨none, 0, wA, wc, none, 0, none, 0⟩, rfl, ⟨nR _ _ _, (h.below hB (Nat.le_refl _)).who, nR _ _ _, nR _ _ _⟩, fun ob hf => ⟨n1 _ _, hf.2.1, n1 _ _, n1 _ _⟩⟩, hB⟩
  by_cases c3 : kind = 3
  · subst c3
    refine (named_3 w ssrc media clock time packets bytes typ reps.length who.length pairs.length asks.length rA rc wA wc pA pc aA ac).mono ?_
    rintro e w' ⟨rfl, hB⟩
    exact ⟨⟨⟨none, 0, none, 0, pA, pc, none, 0⟩, rfl, ⟨nR _ _ _, nR _ _ _, (h.below hB (Nat.le_refl _)).pairs, nR _ _ _⟩, fun ob hf => ⟨n1 _ _, n1 _ _, hf.2.2.1, n1 _ _⟩⟩, hB⟩
  by_cases c4 : kind = 4
  · subst c4
    refine (named_4 w ssrc media clock time packets bytes typ reps.length who.length pairs.length asks.length rA rc wA wc pA pc aA ac).mono ?_
    rintro e w' ⟨rfl, hB⟩
    exact ⟨⟨⟨none, 0, none, 0, none, 0, none, 0⟩, rfl, ⟨nR _ _ _, nR _ _ _, nR _ _ _, nR _ _ _⟩, fun ob hf => ⟨n1 _ _, n1 _ _, n1 _ _, n1 _ _⟩⟩, hB⟩
  by_cases c5 : kind = 5
  · subst c5
    refine (named_5 w ssrc media clock time packets bytes typ reps.length who.length pairs.length asks.length rA rc wA wc pA pc aA ac).mono ?_
    rintro e w' ⟨rfl, hB⟩
    exact ⟨⟨⟨none, 0, none, 0, none, 0, aA, ac⟩, rfl, ⟨nR _ _ _, nR _ _ _, nR _ _ _, (h.below hB (Nat.le_refl _)).asks⟩, fun ob hf => ⟨n1 _ _, n1 _ _, n1 _ _, hf.2.2.2⟩⟩, hB⟩
  refine (named_x w kind ssrc media clock time packets bytes typ reps.length who.length pairs.length asks.length rA rc wA wc pA pc aA ac c0 c1 c2 c3 c4 c5).mono ?_
  rintro e w' ⟨rfl, hB⟩
  have en : (⟨kind, ssrc, media, clock, time, packets, bytes, reps, who, pairs, asks, typ⟩ : Ms).nm = ⟨kind, ssrc, 0, 0, 0, 0, 0, [], [], [], [], 0⟩ := by
    unfold Ms.nm
    dsimp only
    rw [if_neg c0, if_neg c1, if_neg c2, if_neg c3, if_neg c4, if_neg c5]
  rw [en]
  exact ⟨⟨⟨none, 0, none, 0, none, 0, none, 0⟩, rfl, ⟨nR _ _ _, nR _ _ _, nR _ _ _, nR _ _ _⟩, fun ob hf => ⟨n1 _ _, n1 _ _, n1 _ _, n1 _ _⟩⟩, hB⟩
end Go.Proofs.YtmbhibkiadgcbaaDoor
