/-
  Contracts of the program's calls of layer 13, the last ones: what a state comes to by Switch, Send and Drop, and what is told.
-/
import Derived.Test.YticnaljfnjiofaaMuCc
import Derived.Test.YticnaljfnjiofaaMuCb
import Derived.RegionTactic
import Derived.Deep.RegionHeld3
import Derived.Deep.CutBlock
import Derived.Deep.QuietTactic
import Derived.BigQuiet
namespace Go.Proofs.Yticnaljfnjiofaa
open Go.RowKit
set_option linter.unusedSimpArgs false
set_option linter.unusedVariables false
set_option maxRecDepth 100000

set_option maxHeartbeats 3200000 in
theorem msend_any (s : Mst) (x : Mn) (hs : s.Fit 1000000000000000) (hx : x.Fit) (w : World) : Calls Try.prog 61 #[.agg s.cells, .agg x.cells] w fun e w' => e = .returned (.tuple #[.agg (s.sendS x).cells, .agg (s.told x).cells, .bool (s.tells x)]) ∧ Below w.heap.size w w' := by
  have h1 := hs.high
  have C1 := Lib.hid (fun w => mnumber_any s x (by omega) w)
  have C2 := Lib.hid (fun w => mtell_any s x w)
  obtain ⟨nn, hn⟩ : ∃ n, s.num x = n := ⟨_, rfl⟩
  have P0 : Hid (s.on = false → s.tells x = false ∧ s.sendS x = s ∧ s.told x = Mn.zero) := Lib.hid (fun h => by
      have ht : s.tells x = false := by unfold Mst.tells; simp [h]
      unfold Mst.sendS Mst.told; rw [ht]; exact ⟨rfl, rfl, rfl⟩)
  have P1 : Hid (nn ≤ s.high → nn ≤ s.since → s.tells x = false ∧ s.sendS x = s ∧ s.told x = Mn.zero) := Lib.hid (fun h h2 => by
      have ht : s.tells x = false := by unfold Mst.tells; simp [hn, h, h2]
      unfold Mst.sendS Mst.told; rw [ht]; exact ⟨rfl, rfl, rfl⟩)
  have P2 : Hid (s.on = true → ¬ (nn ≤ s.high ∧ nn ≤ s.since) → s.tells x = true ∧ s.sendS x = s.tellS x ∧ s.told x = s.tellN x) := Lib.hid (fun h h2 => by
      have ht : s.tells x = true := by unfold Mst.tells; rw [hn, h, Bool.true_and]; by_cases a : nn ≤ s.high <;> by_cases b : nn ≤ s.since <;> simp_all
      unfold Mst.sendS Mst.told; rw [ht]; exact ⟨rfl, rfl, rfl⟩)
  rw [hn] at C1 C2
  clear hn hs hx h1
  generalize s.tells x = tb at *
  generalize s.sendS x = ss at *
  generalize s.told x = sn at *
  generalize s.tellS x = ts at *
  generalize s.tellN x = tn at *
  obtain ⟨on, hi, sc, ⟨oq, ot, op, ol⟩, ⟨uq, ut, up, ul⟩⟩ := s
  obtain ⟨xq, xt, xp, xl⟩ := x
  obtain ⟨tt, t0, t1, ⟨t2, t3, t4, t5⟩, ⟨t6, t7, t8, t9⟩⟩ := ts
  obtain ⟨m0, m1, m2, m3⟩ := tn
  dsimp only [Mst.cells, Mn.cells] at *
  go_enter Try.func61, Try.ntmps61
  go_wp2_with fail
  refine (C1.out _).mono ?_
  rintro e w1 ⟨rfl, b1⟩
  have Ns : Whole (w.alloc (.cells #[.bool (on), .int .i64 (hi), .int .i64 (sc), .int .u16 (oq), .int .u32 (ot), .int .u16 (op), .int .u8 (ol), .int .u16 (uq), .int .u32 (ut), .int .u16 (up), .int .u8 (ul)] 76)) (w.heap.size) 76 #[.bool (on), .int .i64 (hi), .int .i64 (sc), .int .u16 (oq), .int .u32 (ot), .int .u16 (op), .int .u8 (ol), .int .u16 (uq), .int .u32 (ut), .int .u16 (up), .int .u8 (ul)] := by have := Whole.new w 76 #[.bool (on), .int .i64 (hi), .int .i64 (sc), .int .u16 (oq), .int .u32 (ot), .int .u16 (op), .int .u8 (ol), .int .u16 (uq), .int .u32 (ut), .int .u16 (up), .int .u8 (ul)]; first | with_reducible exact this | simpa using this
  have Nx : Whole ((w.alloc (.cells #[.bool (on), .int .i64 (hi), .int .i64 (sc), .int .u16 (oq), .int .u32 (ot), .int .u16 (op), .int .u8 (ol), .int .u16 (uq), .int .u32 (ut), .int .u16 (up), .int .u8 (ul)] 76)).alloc (.cells #[.int .u16 (xq), .int .u32 (xt), .int .u16 (xp), .int .u8 (xl)] 74)) (w.heap.size + 1) 74 #[.int .u16 (xq), .int .u32 (xt), .int .u16 (xp), .int .u8 (xl)] := by have := Whole.new (w.alloc (.cells #[.bool (on), .int .i64 (hi), .int .i64 (sc), .int .u16 (oq), .int .u32 (ot), .int .u16 (op), .int .u8 (ol), .int .u16 (uq), .int .u32 (ut), .int .u16 (up), .int .u8 (ul)] 76)) 74 #[.int .u16 (xq), .int .u32 (xt), .int .u16 (xp), .int .u8 (xl)]; first | with_reducible exact this | simpa using this
  have Nr : Whole (((w.alloc (.cells #[.bool (on), .int .i64 (hi), .int .i64 (sc), .int .u16 (oq), .int .u32 (ot), .int .u16 (op), .int .u8 (ol), .int .u16 (uq), .int .u32 (ut), .int .u16 (up), .int .u8 (ul)] 76)).alloc (.cells #[.int .u16 (xq), .int .u32 (xt), .int .u16 (xp), .int .u8 (xl)] 74)).alloc (.cells #[.bool (false), .int .i64 (0), .int .i64 (0), .int .u16 (0), .int .u32 (0), .int .u16 (0), .int .u8 (0), .int .u16 (0), .int .u32 (0), .int .u16 (0), .int .u8 (0)] 76)) (w.heap.size + 1 + 1) 76 #[.bool (false), .int .i64 (0), .int .i64 (0), .int .u16 (0), .int .u32 (0), .int .u16 (0), .int .u8 (0), .int .u16 (0), .int .u32 (0), .int .u16 (0), .int .u8 (0)] := by have := Whole.new ((w.alloc (.cells #[.bool (on), .int .i64 (hi), .int .i64 (sc), .int .u16 (oq), .int .u32 (ot), .int .u16 (op), .int .u8 (ol), .int .u16 (uq), .int .u32 (ut), .int .u16 (up), .int .u8 (ul)] 76)).alloc (.cells #[.int .u16 (xq), .int .u32 (xt), .int .u16 (xp), .int .u8 (xl)] 74)) 76 #[.bool (false), .int .i64 (0), .int .i64 (0), .int .u16 (0), .int .u32 (0), .int .u16 (0), .int .u8 (0), .int .u16 (0), .int .u32 (0), .int .u16 (0), .int .u8 (0)]; first | with_reducible exact this | simpa using this
  have Nq : Whole ((((w.alloc (.cells #[.bool (on), .int .i64 (hi), .int .i64 (sc), .int .u16 (oq), .int .u32 (ot), .int .u16 (op), .int .u8 (ol), .int .u16 (uq), .int .u32 (ut), .int .u16 (up), .int .u8 (ul)] 76)).alloc (.cells #[.int .u16 (xq), .int .u32 (xt), .int .u16 (xp), .int .u8 (xl)] 74)).alloc (.cells #[.bool (false), .int .i64 (0), .int .i64 (0), .int .u16 (0), .int .u32 (0), .int .u16 (0), .int .u8 (0), .int .u16 (0), .int .u32 (0), .int .u16 (0), .int .u8 (0)] 76)).alloc (.cells #[.int .u16 (0), .int .u32 (0), .int .u16 (0), .int .u8 (0)] 74)) (w.heap.size + 1 + 1 + 1) 74 #[.int .u16 (0), .int .u32 (0), .int .u16 (0), .int .u8 (0)] := by have := Whole.new (((w.alloc (.cells #[.bool (on), .int .i64 (hi), .int .i64 (sc), .int .u16 (oq), .int .u32 (ot), .int .u16 (op), .int .u8 (ol), .int .u16 (uq), .int .u32 (ut), .int .u16 (up), .int .u8 (ul)] 76)).alloc (.cells #[.int .u16 (xq), .int .u32 (xt), .int .u16 (xp), .int .u8 (xl)] 74)).alloc (.cells #[.bool (false), .int .i64 (0), .int .i64 (0), .int .u16 (0), .int .u32 (0), .int .u16 (0), .int .u8 (0), .int .u16 (0), .int .u32 (0), .int .u16 (0), .int .u8 (0)] 76)) 74 #[.int .u16 (0), .int .u32 (0), .int .u16 (0), .int .u8 (0)]; first | with_reducible exact this | simpa using this
  have Ss1 := ((((Ns.alloc (.cells #[.int .u16 (xq), .int .u32 (xt), .int .u16 (xp), .int .u8 (xl)] 74)).alloc (.cells #[.bool (false), .int .i64 (0), .int .i64 (0), .int .u16 (0), .int .u32 (0), .int .u16 (0), .int .u8 (0), .int .u16 (0), .int .u32 (0), .int .u16 (0), .int .u8 (0)] 76)).alloc (.cells #[.int .u16 (0), .int .u32 (0), .int .u16 (0), .int .u8 (0)] 74))).below b1 (by have := ((((Ns.alloc (.cells #[.int .u16 (xq), .int .u32 (xt), .int .u16 (xp), .int .u8 (xl)] 74)).alloc (.cells #[.bool (false), .int .i64 (0), .int .i64 (0), .int .u16 (0), .int .u32 (0), .int .u16 (0), .int .u8 (0), .int .u16 (0), .int .u32 (0), .int .u16 (0), .int .u8 (0)] 76)).alloc (.cells #[.int .u16 (0), .int .u32 (0), .int .u16 (0), .int .u8 (0)] 74))).lt; first | with_reducible exact this | simpa using this)
  have Sx1 := (((Nx.alloc (.cells #[.bool (false), .int .i64 (0), .int .i64 (0), .int .u16 (0), .int .u32 (0), .int .u16 (0), .int .u8 (0), .int .u16 (0), .int .u32 (0), .int .u16 (0), .int .u8 (0)] 76)).alloc (.cells #[.int .u16 (0), .int .u32 (0), .int .u16 (0), .int .u8 (0)] 74))).below b1 (by have := (((Nx.alloc (.cells #[.bool (false), .int .i64 (0), .int .i64 (0), .int .u16 (0), .int .u32 (0), .int .u16 (0), .int .u8 (0), .int .u16 (0), .int .u32 (0), .int .u16 (0), .int .u8 (0)] 76)).alloc (.cells #[.int .u16 (0), .int .u32 (0), .int .u16 (0), .int .u8 (0)] 74))).lt; first | with_reducible exact this | simpa using this)
  have Sr1 := ((Nr.alloc (.cells #[.int .u16 (0), .int .u32 (0), .int .u16 (0), .int .u8 (0)] 74))).below b1 (by have := ((Nr.alloc (.cells #[.int .u16 (0), .int .u32 (0), .int .u16 (0), .int .u8 (0)] 74))).lt; first | with_reducible exact this | simpa using this)
  have Sq1 := (Nq).below b1 (by have := (Nq).lt; first | with_reducible exact this | simpa using this)
  have HB1 := Lib.hid (((((((Below.refl w.heap.size w).alloc ((Below.refl w.heap.size w)).size (.cells #[.bool (on), .int .i64 (hi), .int .i64 (sc), .int .u16 (oq), .int .u32 (ot), .int .u16 (op), .int .u8 (ol), .int .u16 (uq), .int .u32 (ut), .int .u16 (up), .int .u8 (ul)] 76)).alloc (((Below.refl w.heap.size w).alloc ((Below.refl w.heap.size w)).size (.cells #[.bool (on), .int .i64 (hi), .int .i64 (sc), .int .u16 (oq), .int .u32 (ot), .int .u16 (op), .int .u8 (ol), .int .u16 (uq), .int .u32 (ut), .int .u16 (up), .int .u8 (ul)] 76))).size (.cells #[.int .u16 (xq), .int .u32 (xt), .int .u16 (xp), .int .u8 (xl)] 74)).alloc ((((Below.refl w.heap.size w).alloc ((Below.refl w.heap.size w)).size (.cells #[.bool (on), .int .i64 (hi), .int .i64 (sc), .int .u16 (oq), .int .u32 (ot), .int .u16 (op), .int .u8 (ol), .int .u16 (uq), .int .u32 (ut), .int .u16 (up), .int .u8 (ul)] 76)).alloc (((Below.refl w.heap.size w).alloc ((Below.refl w.heap.size w)).size (.cells #[.bool (on), .int .i64 (hi), .int .i64 (sc), .int .u16 (oq), .int .u32 (ot), .int .u16 (op), .int .u8 (ol), .int .u16 (uq), .int .u32 (ut), .int .u16 (up), .int .u8 (ul)] 76))).size (.cells #[.int .u16 (xq), .int .u32 (xt), .int .u16 (xp), .int .u8 (xl)] 74))).size (.cells #[.bool (false), .int .i64 (0), .int .i64 (0), .int .u16 (0), .int .u32 (0), .int .u16 (0), .int .u8 (0), .int .u16 (0), .int .u32 (0), .int .u16 (0), .int .u8 (0)] 76)).alloc (((((Below.refl w.heap.size w).alloc ((Below.refl w.heap.size w)).size (.cells #[.bool (on), .int .i64 (hi), .int .i64 (sc), .int .u16 (oq), .int .u32 (ot), .int .u16 (op), .int .u8 (ol), .int .u16 (uq), .int .u32 (ut), .int .u16 (up), .int .u8 (ul)] 76)).alloc (((Below.refl w.heap.size w).alloc ((Below.refl w.heap.size w)).size (.cells #[.bool (on), .int .i64 (hi), .int .i64 (sc), .int .u16 (oq), .int .u32 (ot), .int .u16 (op), .int .u8 (ol), .int .u16 (uq), .int .u32 (ut), .int .u16 (up), .int .u8 (ul)] 76))).size (.cells #[.int .u16 (xq), .int .u32 (xt), .int .u16 (xp), .int .u8 (xl)] 74)).alloc ((((Below.refl w.heap.size w).alloc ((Below.refl w.heap.size w)).size (.cells #[.bool (on), .int .i64 (hi), .int .i64 (sc), .int .u16 (oq), .int .u32 (ot), .int .u16 (op), .int .u8 (ol), .int .u16 (uq), .int .u32 (ut), .int .u16 (up), .int .u8 (ul)] 76)).alloc (((Below.refl w.heap.size w).alloc ((Below.refl w.heap.size w)).size (.cells #[.bool (on), .int .i64 (hi), .int .i64 (sc), .int .u16 (oq), .int .u32 (ot), .int .u16 (op), .int .u8 (ol), .int .u16 (uq), .int .u32 (ut), .int .u16 (up), .int .u8 (ul)] 76))).size (.cells #[.int .u16 (xq), .int .u32 (xt), .int .u16 (xp), .int .u8 (xl)] 74))).size (.cells #[.bool (false), .int .i64 (0), .int .i64 (0), .int .u16 (0), .int .u32 (0), .int .u16 (0), .int .u8 (0), .int .u16 (0), .int .u32 (0), .int .u16 (0), .int .u8 (0)] 76))).size (.cells #[.int .u16 (0), .int .u32 (0), .int .u16 (0), .int .u8 (0)] 74))).trans (b1.mono ((((((Below.refl w.heap.size w).alloc ((Below.refl w.heap.size w)).size (.cells #[.bool (on), .int .i64 (hi), .int .i64 (sc), .int .u16 (oq), .int .u32 (ot), .int .u16 (op), .int .u8 (ol), .int .u16 (uq), .int .u32 (ut), .int .u16 (up), .int .u8 (ul)] 76)).alloc (((Below.refl w.heap.size w).alloc ((Below.refl w.heap.size w)).size (.cells #[.bool (on), .int .i64 (hi), .int .i64 (sc), .int .u16 (oq), .int .u32 (ot), .int .u16 (op), .int .u8 (ol), .int .u16 (uq), .int .u32 (ut), .int .u16 (up), .int .u8 (ul)] 76))).size (.cells #[.int .u16 (xq), .int .u32 (xt), .int .u16 (xp), .int .u8 (xl)] 74)).alloc ((((Below.refl w.heap.size w).alloc ((Below.refl w.heap.size w)).size (.cells #[.bool (on), .int .i64 (hi), .int .i64 (sc), .int .u16 (oq), .int .u32 (ot), .int .u16 (op), .int .u8 (ol), .int .u16 (uq), .int .u32 (ut), .int .u16 (up), .int .u8 (ul)] 76)).alloc (((Below.refl w.heap.size w).alloc ((Below.refl w.heap.size w)).size (.cells #[.bool (on), .int .i64 (hi), .int .i64 (sc), .int .u16 (oq), .int .u32 (ot), .int .u16 (op), .int .u8 (ol), .int .u16 (uq), .int .u32 (ut), .int .u16 (up), .int .u8 (ul)] 76))).size (.cells #[.int .u16 (xq), .int .u32 (xt), .int .u16 (xp), .int .u8 (xl)] 74))).size (.cells #[.bool (false), .int .i64 (0), .int .i64 (0), .int .u16 (0), .int .u32 (0), .int .u16 (0), .int .u8 (0), .int .u16 (0), .int .u32 (0), .int .u16 (0), .int .u8 (0)] 76)).alloc (((((Below.refl w.heap.size w).alloc ((Below.refl w.heap.size w)).size (.cells #[.bool (on), .int .i64 (hi), .int .i64 (sc), .int .u16 (oq), .int .u32 (ot), .int .u16 (op), .int .u8 (ol), .int .u16 (uq), .int .u32 (ut), .int .u16 (up), .int .u8 (ul)] 76)).alloc (((Below.refl w.heap.size w).alloc ((Below.refl w.heap.size w)).size (.cells #[.bool (on), .int .i64 (hi), .int .i64 (sc), .int .u16 (oq), .int .u32 (ot), .int .u16 (op), .int .u8 (ol), .int .u16 (uq), .int .u32 (ut), .int .u16 (up), .int .u8 (ul)] 76))).size (.cells #[.int .u16 (xq), .int .u32 (xt), .int .u16 (xp), .int .u8 (xl)] 74)).alloc ((((Below.refl w.heap.size w).alloc ((Below.refl w.heap.size w)).size (.cells #[.bool (on), .int .i64 (hi), .int .i64 (sc), .int .u16 (oq), .int .u32 (ot), .int .u16 (op), .int .u8 (ol), .int .u16 (uq), .int .u32 (ut), .int .u16 (up), .int .u8 (ul)] 76)).alloc (((Below.refl w.heap.size w).alloc ((Below.refl w.heap.size w)).size (.cells #[.bool (on), .int .i64 (hi), .int .i64 (sc), .int .u16 (oq), .int .u32 (ot), .int .u16 (op), .int .u8 (ol), .int .u16 (uq), .int .u32 (ut), .int .u16 (up), .int .u8 (ul)] 76))).size (.cells #[.int .u16 (xq), .int .u32 (xt), .int .u16 (xp), .int .u8 (xl)] 74))).size (.cells #[.bool (false), .int .i64 (0), .int .i64 (0), .int .u16 (0), .int .u32 (0), .int .u16 (0), .int .u8 (0), .int .u16 (0), .int .u32 (0), .int .u16 (0), .int .u8 (0)] 76))).size (.cells #[.int .u16 (0), .int .u32 (0), .int .u16 (0), .int .u8 (0)] 74))).size))
  have ls1 := Ss1.lt
  have lx1 := Sx1.lt
  have lr1 := Sr1.lt
  have lq1 := Sq1.lt
  clear b1 Ns Nx Nr Nq C1
  have s1_0 := Ss1.cell 0
  have fs1_0 := Ss1.free 0
  have s1_1 := Ss1.cell 1
  have fs1_1 := Ss1.free 1
  have s1_2 := Ss1.cell 2
  have fs1_2 := Ss1.free 2
  have s1_3 := Ss1.cell 3
  have fs1_3 := Ss1.free 3
  have s1_4 := Ss1.cell 4
  have fs1_4 := Ss1.free 4
  have s1_5 := Ss1.cell 5
  have fs1_5 := Ss1.free 5
  have s1_6 := Ss1.cell 6
  have fs1_6 := Ss1.free 6
  have s1_7 := Ss1.cell 7
  have fs1_7 := Ss1.free 7
  have s1_8 := Ss1.cell 8
  have fs1_8 := Ss1.free 8
  have s1_9 := Ss1.cell 9
  have fs1_9 := Ss1.free 9
  have s1_10 := Ss1.cell 10
  have fs1_10 := Ss1.free 10
  have x1_0 := Sx1.cell 0
  have fx1_0 := Sx1.free 0
  have x1_1 := Sx1.cell 1
  have fx1_1 := Sx1.free 1
  have x1_2 := Sx1.cell 2
  have fx1_2 := Sx1.free 2
  have x1_3 := Sx1.cell 3
  have fx1_3 := Sx1.free 3
  have r1_0 := Sr1.cell 0
  have fr1_0 := Sr1.free 0
  have r1_1 := Sr1.cell 1
  have fr1_1 := Sr1.free 1
  have r1_2 := Sr1.cell 2
  have fr1_2 := Sr1.free 2
  have r1_3 := Sr1.cell 3
  have fr1_3 := Sr1.free 3
  have r1_4 := Sr1.cell 4
  have fr1_4 := Sr1.free 4
  have r1_5 := Sr1.cell 5
  have fr1_5 := Sr1.free 5
  have r1_6 := Sr1.cell 6
  have fr1_6 := Sr1.free 6
  have r1_7 := Sr1.cell 7
  have fr1_7 := Sr1.free 7
  have r1_8 := Sr1.cell 8
  have fr1_8 := Sr1.free 8
  have r1_9 := Sr1.cell 9
  have fr1_9 := Sr1.free 9
  have r1_10 := Sr1.cell 10
  have fr1_10 := Sr1.free 10
  have q1_0 := Sq1.cell 0
  have fq1_0 := Sq1.free 0
  have q1_1 := Sq1.cell 1
  have fq1_1 := Sq1.free 1
  have q1_2 := Sq1.cell 2
  have fq1_2 := Sq1.free 2
  have q1_3 := Sq1.cell 3
  have fq1_3 := Sq1.free 3
  replace Ss1 := Lib.hid Ss1
  replace Sx1 := Lib.hid Sx1
  replace Sr1 := Lib.hid Sr1
  replace Sq1 := Lib.hid Sq1
  cases on with
  | false =>
    obtain ⟨rfl, rfl, rfl⟩ := P0.out rfl
    clear P0 P1 P2 C2
    dsimp only [Mst.cells, Mn.cells, Mn.zero]
    go_wp2_with fail
    exact bodyPost_ret (v := .tuple #[.agg #[.bool false, .int .i64 (hi), .int .i64 (sc), .int .u16 (oq), .int .u32 (ot), .int .u16 (op), .int .u8 (ol), .int .u16 (uq), .int .u32 (ut), .int .u16 (up), .int .u8 (ul)], .agg #[.int .u16 (0), .int .u32 (0), .int .u16 (0), .int .u8 (0)], .bool false]) (by simp [results, Try.results61, go_sem, r1_0, r1_1, r1_2, r1_3, r1_4, r1_5, r1_6, r1_7, r1_8, r1_9, r1_10, q1_0, q1_1, q1_2, q1_3]) rfl ⟨rfl, four_set (eleven_set (HB1.out) (show w.heap.size ≤ w.heap.size + 1 + 1 from by omega) _ _ _ _ _ _ _ _ _ _ _) (show w.heap.size ≤ w.heap.size + 1 + 1 + 1 from by omega) _ _ _ _⟩
  | true =>
    by_cases c1 : nn ≤ hi
    · by_cases c2 : nn ≤ sc
      · obtain ⟨rfl, rfl, rfl⟩ := P1.out c1 c2
        clear P0 P1 P2 C2
        dsimp only [Mst.cells, Mn.cells, Mn.zero]
        go_wp2_with fail
        exact bodyPost_ret (v := .tuple #[.agg #[.bool true, .int .i64 (hi), .int .i64 (sc), .int .u16 (oq), .int .u32 (ot), .int .u16 (op), .int .u8 (ol), .int .u16 (uq), .int .u32 (ut), .int .u16 (up), .int .u8 (ul)], .agg #[.int .u16 (0), .int .u32 (0), .int .u16 (0), .int .u8 (0)], .bool false]) (by simp [results, Try.results61, go_sem, r1_0, r1_1, r1_2, r1_3, r1_4, r1_5, r1_6, r1_7, r1_8, r1_9, r1_10, q1_0, q1_1, q1_2, q1_3]) rfl ⟨rfl, four_set (eleven_set (HB1.out) (show w.heap.size ≤ w.heap.size + 1 + 1 from by omega) _ _ _ _ _ _ _ _ _ _ _) (show w.heap.size ≤ w.heap.size + 1 + 1 + 1 from by omega) _ _ _ _⟩
      · obtain ⟨rfl, rfl, rfl⟩ := P2.out rfl (by omega)
        clear P0 P1 P2
        dsimp only
        go_wp2_with fail
        refine (C2.out _).mono ?_
        rintro e w2 ⟨rfl, b2⟩
        have Ss2 := (Ss1.out).below b2 (by have := (Ss1.out).lt; first | with_reducible exact this | simpa using this)
        have Sx2 := (Sx1.out).below b2 (by have := (Sx1.out).lt; first | with_reducible exact this | simpa using this)
        have Sr2 := (Sr1.out).below b2 (by have := (Sr1.out).lt; first | with_reducible exact this | simpa using this)
        have Sq2 := (Sq1.out).below b2 (by have := (Sq1.out).lt; first | with_reducible exact this | simpa using this)
        have HB2 := Lib.hid ((HB1.out).trans (b2.mono (HB1.out).size))
        have ls2 := Ss2.lt
        have lx2 := Sx2.lt
        have lr2 := Sr2.lt
        have lq2 := Sq2.lt
        clear b2 s1_0 fs1_0 s1_1 fs1_1 s1_2 fs1_2 s1_3 fs1_3 s1_4 fs1_4 s1_5 fs1_5 s1_6 fs1_6 s1_7 fs1_7 s1_8 fs1_8 s1_9 fs1_9 s1_10 fs1_10 x1_0 fx1_0 x1_1 fx1_1 x1_2 fx1_2 x1_3 fx1_3 r1_0 fr1_0 r1_1 fr1_1 r1_2 fr1_2 r1_3 fr1_3 r1_4 fr1_4 r1_5 fr1_5 r1_6 fr1_6 r1_7 fr1_7 r1_8 fr1_8 r1_9 fr1_9 r1_10 fr1_10 q1_0 fq1_0 q1_1 fq1_1 q1_2 fq1_2 q1_3 fq1_3 Ss1 Sx1 Sr1 Sq1 HB1 C2 ls1 lx1 lr1 lq1
        have s2_0 := Ss2.cell 0
        have fs2_0 := Ss2.free 0
        have s2_1 := Ss2.cell 1
        have fs2_1 := Ss2.free 1
        have s2_2 := Ss2.cell 2
        have fs2_2 := Ss2.free 2
        have s2_3 := Ss2.cell 3
        have fs2_3 := Ss2.free 3
        have s2_4 := Ss2.cell 4
        have fs2_4 := Ss2.free 4
        have s2_5 := Ss2.cell 5
        have fs2_5 := Ss2.free 5
        have s2_6 := Ss2.cell 6
        have fs2_6 := Ss2.free 6
        have s2_7 := Ss2.cell 7
        have fs2_7 := Ss2.free 7
        have s2_8 := Ss2.cell 8
        have fs2_8 := Ss2.free 8
        have s2_9 := Ss2.cell 9
        have fs2_9 := Ss2.free 9
        have s2_10 := Ss2.cell 10
        have fs2_10 := Ss2.free 10
        have x2_0 := Sx2.cell 0
        have fx2_0 := Sx2.free 0
        have x2_1 := Sx2.cell 1
        have fx2_1 := Sx2.free 1
        have x2_2 := Sx2.cell 2
        have fx2_2 := Sx2.free 2
        have x2_3 := Sx2.cell 3
        have fx2_3 := Sx2.free 3
        have r2_0 := Sr2.cell 0
        have fr2_0 := Sr2.free 0
        have r2_1 := Sr2.cell 1
        have fr2_1 := Sr2.free 1
        have r2_2 := Sr2.cell 2
        have fr2_2 := Sr2.free 2
        have r2_3 := Sr2.cell 3
        have fr2_3 := Sr2.free 3
        have r2_4 := Sr2.cell 4
        have fr2_4 := Sr2.free 4
        have r2_5 := Sr2.cell 5
        have fr2_5 := Sr2.free 5
        have r2_6 := Sr2.cell 6
        have fr2_6 := Sr2.free 6
        have r2_7 := Sr2.cell 7
        have fr2_7 := Sr2.free 7
        have r2_8 := Sr2.cell 8
        have fr2_8 := Sr2.free 8
        have r2_9 := Sr2.cell 9
        have fr2_9 := Sr2.free 9
        have r2_10 := Sr2.cell 10
        have fr2_10 := Sr2.free 10
        have q2_0 := Sq2.cell 0
        have fq2_0 := Sq2.free 0
        have q2_1 := Sq2.cell 1
        have fq2_1 := Sq2.free 1
        have q2_2 := Sq2.cell 2
        have fq2_2 := Sq2.free 2
        have q2_3 := Sq2.cell 3
        have fq2_3 := Sq2.free 3
        replace Ss2 := Lib.hid Ss2
        replace Sx2 := Lib.hid Sx2
        replace Sr2 := Lib.hid Sr2
        replace Sq2 := Lib.hid Sq2
        go_upto_region 5 with fail
        obtain ⟨wf2, hwf⟩ : ∃ z, z = ((w2.alloc (.cells #[.bool (tt), .int .i64 (t0), .int .i64 (t1), .int .u16 (t2), .int .u32 (t3), .int .u16 (t4), .int .u8 (t5), .int .u16 (t6), .int .u32 (t7), .int .u16 (t8), .int .u8 (t9)] 76)).alloc (.cells #[.int .u16 (m0), .int .u32 (m1), .int .u16 (m2), .int .u8 (m3)] 74)) := ⟨_, rfl⟩
        have Nn : Whole (w2.alloc (.cells #[.bool (tt), .int .i64 (t0), .int .i64 (t1), .int .u16 (t2), .int .u32 (t3), .int .u16 (t4), .int .u8 (t5), .int .u16 (t6), .int .u32 (t7), .int .u16 (t8), .int .u8 (t9)] 76)) (w2.heap.size) 76 #[.bool (tt), .int .i64 (t0), .int .i64 (t1), .int .u16 (t2), .int .u32 (t3), .int .u16 (t4), .int .u8 (t5), .int .u16 (t6), .int .u32 (t7), .int .u16 (t8), .int .u8 (t9)] := by have := Whole.new w2 76 #[.bool (tt), .int .i64 (t0), .int .i64 (t1), .int .u16 (t2), .int .u32 (t3), .int .u16 (t4), .int .u8 (t5), .int .u16 (t6), .int .u32 (t7), .int .u16 (t8), .int .u8 (t9)]; first | with_reducible exact this | simpa using this
        have Nm : Whole ((w2.alloc (.cells #[.bool (tt), .int .i64 (t0), .int .i64 (t1), .int .u16 (t2), .int .u32 (t3), .int .u16 (t4), .int .u8 (t5), .int .u16 (t6), .int .u32 (t7), .int .u16 (t8), .int .u8 (t9)] 76)).alloc (.cells #[.int .u16 (m0), .int .u32 (m1), .int .u16 (m2), .int .u8 (m3)] 74)) (w2.heap.size + 1) 74 #[.int .u16 (m0), .int .u32 (m1), .int .u16 (m2), .int .u8 (m3)] := by have := Whole.new (w2.alloc (.cells #[.bool (tt), .int .i64 (t0), .int .i64 (t1), .int .u16 (t2), .int .u32 (t3), .int .u16 (t4), .int .u8 (t5), .int .u16 (t6), .int .u32 (t7), .int .u16 (t8), .int .u8 (t9)] 76)) 74 #[.int .u16 (m0), .int .u32 (m1), .int .u16 (m2), .int .u8 (m3)]; first | with_reducible exact this | simpa using this
        have Ssf2 := ((Ss2.out.alloc (.cells #[.bool (tt), .int .i64 (t0), .int .i64 (t1), .int .u16 (t2), .int .u32 (t3), .int .u16 (t4), .int .u8 (t5), .int .u16 (t6), .int .u32 (t7), .int .u16 (t8), .int .u8 (t9)] 76)).alloc (.cells #[.int .u16 (m0), .int .u32 (m1), .int .u16 (m2), .int .u8 (m3)] 74))
        have Sxf2 := ((Sx2.out.alloc (.cells #[.bool (tt), .int .i64 (t0), .int .i64 (t1), .int .u16 (t2), .int .u32 (t3), .int .u16 (t4), .int .u8 (t5), .int .u16 (t6), .int .u32 (t7), .int .u16 (t8), .int .u8 (t9)] 76)).alloc (.cells #[.int .u16 (m0), .int .u32 (m1), .int .u16 (m2), .int .u8 (m3)] 74))
        have Srf2 := ((Sr2.out.alloc (.cells #[.bool (tt), .int .i64 (t0), .int .i64 (t1), .int .u16 (t2), .int .u32 (t3), .int .u16 (t4), .int .u8 (t5), .int .u16 (t6), .int .u32 (t7), .int .u16 (t8), .int .u8 (t9)] 76)).alloc (.cells #[.int .u16 (m0), .int .u32 (m1), .int .u16 (m2), .int .u8 (m3)] 74))
        have Sqf2 := ((Sq2.out.alloc (.cells #[.bool (tt), .int .i64 (t0), .int .i64 (t1), .int .u16 (t2), .int .u32 (t3), .int .u16 (t4), .int .u8 (t5), .int .u16 (t6), .int .u32 (t7), .int .u16 (t8), .int .u8 (t9)] 76)).alloc (.cells #[.int .u16 (m0), .int .u32 (m1), .int .u16 (m2), .int .u8 (m3)] 74))
        have Snf2 := (Nn.alloc (.cells #[.int .u16 (m0), .int .u32 (m1), .int .u16 (m2), .int .u8 (m3)] 74))
        have Smf2 := Nm
        have HBf2 := ((HB2.out.alloc (HB2.out).size (.cells #[.bool (tt), .int .i64 (t0), .int .i64 (t1), .int .u16 (t2), .int .u32 (t3), .int .u16 (t4), .int .u8 (t5), .int .u16 (t6), .int .u32 (t7), .int .u16 (t8), .int .u8 (t9)] 76)).alloc ((HB2.out.alloc (HB2.out).size (.cells #[.bool (tt), .int .i64 (t0), .int .i64 (t1), .int .u16 (t2), .int .u32 (t3), .int .u16 (t4), .int .u8 (t5), .int .u16 (t6), .int .u32 (t7), .int .u16 (t8), .int .u8 (t9)] 76))).size (.cells #[.int .u16 (m0), .int .u32 (m1), .int .u16 (m2), .int .u8 (m3)] 74))
        rw [← hwf] at Ssf2 Sxf2 Srf2 Sqf2 Snf2 Smf2 HBf2 ⊢
        clear hwf
        clear s2_0 fs2_0 s2_1 fs2_1 s2_2 fs2_2 s2_3 fs2_3 s2_4 fs2_4 s2_5 fs2_5 s2_6 fs2_6 s2_7 fs2_7 s2_8 fs2_8 s2_9 fs2_9 s2_10 fs2_10 x2_0 fx2_0 x2_1 fx2_1 x2_2 fx2_2 x2_3 fx2_3 r2_0 fr2_0 r2_1 fr2_1 r2_2 fr2_2 r2_3 fr2_3 r2_4 fr2_4 r2_5 fr2_5 r2_6 fr2_6 r2_7 fr2_7 r2_8 fr2_8 r2_9 fr2_9 r2_10 fr2_10 q2_0 fq2_0 q2_1 fq2_1 q2_2 fq2_2 q2_3 fq2_3 Ss2 Sx2 Sr2 Sq2 Nn Nm HB2
        have lsf2 := Ssf2.lt
        have lxf2 := Sxf2.lt
        have lrf2 := Srf2.lt
        have lqf2 := Sqf2.lt
        have lnf2 := Snf2.lt
        have lmf2 := Smf2.lt
        replace HBf2 := Lib.hid HBf2
        have r2_0 := Srf2.cell 0
        have fr2_0 := Srf2.free 0
        have r2_1 := Srf2.cell 1
        have fr2_1 := Srf2.free 1
        have r2_2 := Srf2.cell 2
        have fr2_2 := Srf2.free 2
        have r2_3 := Srf2.cell 3
        have fr2_3 := Srf2.free 3
        have r2_4 := Srf2.cell 4
        have fr2_4 := Srf2.free 4
        have r2_5 := Srf2.cell 5
        have fr2_5 := Srf2.free 5
        have r2_6 := Srf2.cell 6
        have fr2_6 := Srf2.free 6
        have r2_7 := Srf2.cell 7
        have fr2_7 := Srf2.free 7
        have r2_8 := Srf2.cell 8
        have fr2_8 := Srf2.free 8
        have r2_9 := Srf2.cell 9
        have fr2_9 := Srf2.free 9
        have r2_10 := Srf2.cell 10
        have fr2_10 := Srf2.free 10
        have q2_0 := Sqf2.cell 0
        have fq2_0 := Sqf2.free 0
        have q2_1 := Sqf2.cell 1
        have fq2_1 := Sqf2.free 1
        have q2_2 := Sqf2.cell 2
        have fq2_2 := Sqf2.free 2
        have q2_3 := Sqf2.cell 3
        have fq2_3 := Sqf2.free 3
        have n2_0 := Snf2.cell 0
        have n2_1 := Snf2.cell 1
        have n2_2 := Snf2.cell 2
        have n2_3 := Snf2.cell 3
        have n2_4 := Snf2.cell 4
        have n2_5 := Snf2.cell 5
        have n2_6 := Snf2.cell 6
        have n2_7 := Snf2.cell 7
        have n2_8 := Snf2.cell 8
        have n2_9 := Snf2.cell 9
        have n2_10 := Snf2.cell 10
        have m2_0 := Smf2.cell 0
        have m2_1 := Smf2.cell 1
        have m2_2 := Smf2.cell 2
        have m2_3 := Smf2.cell 3
        replace Ssf2 := Lib.hid Ssf2
        replace Sxf2 := Lib.hid Sxf2
        replace Srf2 := Lib.hid Srf2
        replace Sqf2 := Lib.hid Sqf2
        replace Snf2 := Lib.hid Snf2
        replace Smf2 := Lib.hid Smf2
        go_region
        go_wp2_with fail
        exact bodyPost_ret (v := .tuple #[.agg #[.bool (tt), .int .i64 (t0), .int .i64 (t1), .int .u16 (t2), .int .u32 (t3), .int .u16 (t4), .int .u8 (t5), .int .u16 (t6), .int .u32 (t7), .int .u16 (t8), .int .u8 (t9)], .agg #[.int .u16 (m0), .int .u32 (m1), .int .u16 (m2), .int .u8 (m3)], .bool true]) (by simp [results, Try.results61, go_sem, r2_0, r2_1, r2_2, r2_3, r2_4, r2_5, r2_6, r2_7, r2_8, r2_9, r2_10, q2_0, q2_1, q2_2, q2_3]) rfl ⟨rfl, (four_set (eleven_set (HBf2.out) (show w.heap.size ≤ w.heap.size + 1 + 1 from by omega) _ _ _ _ _ _ _ _ _ _ _) (show w.heap.size ≤ w.heap.size + 1 + 1 + 1 from by omega) _ _ _ _).drew⟩
    · obtain ⟨rfl, rfl, rfl⟩ := P2.out rfl (by omega)
      clear P0 P1 P2
      dsimp only
      go_wp2_with fail
      refine (C2.out _).mono ?_
      rintro e w2 ⟨rfl, b2⟩
      have Ss2 := (Ss1.out).below b2 (by have := (Ss1.out).lt; first | with_reducible exact this | simpa using this)
      have Sx2 := (Sx1.out).below b2 (by have := (Sx1.out).lt; first | with_reducible exact this | simpa using this)
      have Sr2 := (Sr1.out).below b2 (by have := (Sr1.out).lt; first | with_reducible exact this | simpa using this)
      have Sq2 := (Sq1.out).below b2 (by have := (Sq1.out).lt; first | with_reducible exact this | simpa using this)
      have HB2 := Lib.hid ((HB1.out).trans (b2.mono (HB1.out).size))
      have ls2 := Ss2.lt
      have lx2 := Sx2.lt
      have lr2 := Sr2.lt
      have lq2 := Sq2.lt
      clear b2 s1_0 fs1_0 s1_1 fs1_1 s1_2 fs1_2 s1_3 fs1_3 s1_4 fs1_4 s1_5 fs1_5 s1_6 fs1_6 s1_7 fs1_7 s1_8 fs1_8 s1_9 fs1_9 s1_10 fs1_10 x1_0 fx1_0 x1_1 fx1_1 x1_2 fx1_2 x1_3 fx1_3 r1_0 fr1_0 r1_1 fr1_1 r1_2 fr1_2 r1_3 fr1_3 r1_4 fr1_4 r1_5 fr1_5 r1_6 fr1_6 r1_7 fr1_7 r1_8 fr1_8 r1_9 fr1_9 r1_10 fr1_10 q1_0 fq1_0 q1_1 fq1_1 q1_2 fq1_2 q1_3 fq1_3 Ss1 Sx1 Sr1 Sq1 HB1 C2 ls1 lx1 lr1 lq1
      have s2_0 := Ss2.cell 0
      have fs2_0 := Ss2.free 0
      have s2_1 := Ss2.cell 1
      have fs2_1 := Ss2.free 1
      have s2_2 := Ss2.cell 2
      have fs2_2 := Ss2.free 2
      have s2_3 := Ss2.cell 3
      have fs2_3 := Ss2.free 3
      have s2_4 := Ss2.cell 4
      have fs2_4 := Ss2.free 4
      have s2_5 := Ss2.cell 5
      have fs2_5 := Ss2.free 5
      have s2_6 := Ss2.cell 6
      have fs2_6 := Ss2.free 6
      have s2_7 := Ss2.cell 7
      have fs2_7 := Ss2.free 7
      have s2_8 := Ss2.cell 8
      have fs2_8 := Ss2.free 8
      have s2_9 := Ss2.cell 9
      have fs2_9 := Ss2.free 9
      have s2_10 := Ss2.cell 10
      have fs2_10 := Ss2.free 10
      have x2_0 := Sx2.cell 0
      have fx2_0 := Sx2.free 0
      have x2_1 := Sx2.cell 1
      have fx2_1 := Sx2.free 1
      have x2_2 := Sx2.cell 2
      have fx2_2 := Sx2.free 2
      have x2_3 := Sx2.cell 3
      have fx2_3 := Sx2.free 3
      have r2_0 := Sr2.cell 0
      have fr2_0 := Sr2.free 0
      have r2_1 := Sr2.cell 1
      have fr2_1 := Sr2.free 1
      have r2_2 := Sr2.cell 2
      have fr2_2 := Sr2.free 2
      have r2_3 := Sr2.cell 3
      have fr2_3 := Sr2.free 3
      have r2_4 := Sr2.cell 4
      have fr2_4 := Sr2.free 4
      have r2_5 := Sr2.cell 5
      have fr2_5 := Sr2.free 5
      have r2_6 := Sr2.cell 6
      have fr2_6 := Sr2.free 6
      have r2_7 := Sr2.cell 7
      have fr2_7 := Sr2.free 7
      have r2_8 := Sr2.cell 8
      have fr2_8 := Sr2.free 8
      have r2_9 := Sr2.cell 9
      have fr2_9 := Sr2.free 9
      have r2_10 := Sr2.cell 10
      have fr2_10 := Sr2.free 10
      have q2_0 := Sq2.cell 0
      have fq2_0 := Sq2.free 0
      have q2_1 := Sq2.cell 1
      have fq2_1 := Sq2.free 1
      have q2_2 := Sq2.cell 2
      have fq2_2 := Sq2.free 2
      have q2_3 := Sq2.cell 3
      have fq2_3 := Sq2.free 3
      replace Ss2 := Lib.hid Ss2
      replace Sx2 := Lib.hid Sx2
      replace Sr2 := Lib.hid Sr2
      replace Sq2 := Lib.hid Sq2
      go_upto_region 5 with fail
      obtain ⟨wf2, hwf⟩ : ∃ z, z = ((w2.alloc (.cells #[.bool (tt), .int .i64 (t0), .int .i64 (t1), .int .u16 (t2), .int .u32 (t3), .int .u16 (t4), .int .u8 (t5), .int .u16 (t6), .int .u32 (t7), .int .u16 (t8), .int .u8 (t9)] 76)).alloc (.cells #[.int .u16 (m0), .int .u32 (m1), .int .u16 (m2), .int .u8 (m3)] 74)) := ⟨_, rfl⟩
      have Nn : Whole (w2.alloc (.cells #[.bool (tt), .int .i64 (t0), .int .i64 (t1), .int .u16 (t2), .int .u32 (t3), .int .u16 (t4), .int .u8 (t5), .int .u16 (t6), .int .u32 (t7), .int .u16 (t8), .int .u8 (t9)] 76)) (w2.heap.size) 76 #[.bool (tt), .int .i64 (t0), .int .i64 (t1), .int .u16 (t2), .int .u32 (t3), .int .u16 (t4), .int .u8 (t5), .int .u16 (t6), .int .u32 (t7), .int .u16 (t8), .int .u8 (t9)] := by have := Whole.new w2 76 #[.bool (tt), .int .i64 (t0), .int .i64 (t1), .int .u16 (t2), .int .u32 (t3), .int .u16 (t4), .int .u8 (t5), .int .u16 (t6), .int .u32 (t7), .int .u16 (t8), .int .u8 (t9)]; first | with_reducible exact this | simpa using this
      have Nm : Whole ((w2.alloc (.cells #[.bool (tt), .int .i64 (t0), .int .i64 (t1), .int .u16 (t2), .int .u32 (t3), .int .u16 (t4), .int .u8 (t5), .int .u16 (t6), .int .u32 (t7), .int .u16 (t8), .int .u8 (t9)] 76)).alloc (.cells #[.int .u16 (m0), .int .u32 (m1), .int .u16 (m2), .int .u8 (m3)] 74)) (w2.heap.size + 1) 74 #[.int .u16 (m0), .int .u32 (m1), .int .u16 (m2), .int .u8 (m3)] := by have := Whole.new (w2.alloc (.cells #[.bool (tt), .int .i64 (t0), .int .i64 (t1), .int .u16 (t2), .int .u32 (t3), .int .u16 (t4), .int .u8 (t5), .int .u16 (t6), .int .u32 (t7), .int .u16 (t8), .int .u8 (t9)] 76)) 74 #[.int .u16 (m0), .int .u32 (m1), .int .u16 (m2), .int .u8 (m3)]; first | with_reducible exact this | simpa using this
      have Ssf2 := ((Ss2.out.alloc (.cells #[.bool (tt), .int .i64 (t0), .int .i64 (t1), .int .u16 (t2), .int .u32 (t3), .int .u16 (t4), .int .u8 (t5), .int .u16 (t6), .int .u32 (t7), .int .u16 (t8), .int .u8 (t9)] 76)).alloc (.cells #[.int .u16 (m0), .int .u32 (m1), .int .u16 (m2), .int .u8 (m3)] 74))
      have Sxf2 := ((Sx2.out.alloc (.cells #[.bool (tt), .int .i64 (t0), .int .i64 (t1), .int .u16 (t2), .int .u32 (t3), .int .u16 (t4), .int .u8 (t5), .int .u16 (t6), .int .u32 (t7), .int .u16 (t8), .int .u8 (t9)] 76)).alloc (.cells #[.int .u16 (m0), .int .u32 (m1), .int .u16 (m2), .int .u8 (m3)] 74))
      have Srf2 := ((Sr2.out.alloc (.cells #[.bool (tt), .int .i64 (t0), .int .i64 (t1), .int .u16 (t2), .int .u32 (t3), .int .u16 (t4), .int .u8 (t5), .int .u16 (t6), .int .u32 (t7), .int .u16 (t8), .int .u8 (t9)] 76)).alloc (.cells #[.int .u16 (m0), .int .u32 (m1), .int .u16 (m2), .int .u8 (m3)] 74))
      have Sqf2 := ((Sq2.out.alloc (.cells #[.bool (tt), .int .i64 (t0), .int .i64 (t1), .int .u16 (t2), .int .u32 (t3), .int .u16 (t4), .int .u8 (t5), .int .u16 (t6), .int .u32 (t7), .int .u16 (t8), .int .u8 (t9)] 76)).alloc (.cells #[.int .u16 (m0), .int .u32 (m1), .int .u16 (m2), .int .u8 (m3)] 74))
      have Snf2 := (Nn.alloc (.cells #[.int .u16 (m0), .int .u32 (m1), .int .u16 (m2), .int .u8 (m3)] 74))
      have Smf2 := Nm
      have HBf2 := ((HB2.out.alloc (HB2.out).size (.cells #[.bool (tt), .int .i64 (t0), .int .i64 (t1), .int .u16 (t2), .int .u32 (t3), .int .u16 (t4), .int .u8 (t5), .int .u16 (t6), .int .u32 (t7), .int .u16 (t8), .int .u8 (t9)] 76)).alloc ((HB2.out.alloc (HB2.out).size (.cells #[.bool (tt), .int .i64 (t0), .int .i64 (t1), .int .u16 (t2), .int .u32 (t3), .int .u16 (t4), .int .u8 (t5), .int .u16 (t6), .int .u32 (t7), .int .u16 (t8), .int .u8 (t9)] 76))).size (.cells #[.int .u16 (m0), .int .u32 (m1), .int .u16 (m2), .int .u8 (m3)] 74))
      rw [← hwf] at Ssf2 Sxf2 Srf2 Sqf2 Snf2 Smf2 HBf2 ⊢
      clear hwf
      clear s2_0 fs2_0 s2_1 fs2_1 s2_2 fs2_2 s2_3 fs2_3 s2_4 fs2_4 s2_5 fs2_5 s2_6 fs2_6 s2_7 fs2_7 s2_8 fs2_8 s2_9 fs2_9 s2_10 fs2_10 x2_0 fx2_0 x2_1 fx2_1 x2_2 fx2_2 x2_3 fx2_3 r2_0 fr2_0 r2_1 fr2_1 r2_2 fr2_2 r2_3 fr2_3 r2_4 fr2_4 r2_5 fr2_5 r2_6 fr2_6 r2_7 fr2_7 r2_8 fr2_8 r2_9 fr2_9 r2_10 fr2_10 q2_0 fq2_0 q2_1 fq2_1 q2_2 fq2_2 q2_3 fq2_3 Ss2 Sx2 Sr2 Sq2 Nn Nm HB2
      have lsf2 := Ssf2.lt
      have lxf2 := Sxf2.lt
      have lrf2 := Srf2.lt
      have lqf2 := Sqf2.lt
      have lnf2 := Snf2.lt
      have lmf2 := Smf2.lt
      replace HBf2 := Lib.hid HBf2
      have r2_0 := Srf2.cell 0
      have fr2_0 := Srf2.free 0
      have r2_1 := Srf2.cell 1
      have fr2_1 := Srf2.free 1
      have r2_2 := Srf2.cell 2
      have fr2_2 := Srf2.free 2
      have r2_3 := Srf2.cell 3
      have fr2_3 := Srf2.free 3
      have r2_4 := Srf2.cell 4
      have fr2_4 := Srf2.free 4
      have r2_5 := Srf2.cell 5
      have fr2_5 := Srf2.free 5
      have r2_6 := Srf2.cell 6
      have fr2_6 := Srf2.free 6
      have r2_7 := Srf2.cell 7
      have fr2_7 := Srf2.free 7
      have r2_8 := Srf2.cell 8
      have fr2_8 := Srf2.free 8
      have r2_9 := Srf2.cell 9
      have fr2_9 := Srf2.free 9
      have r2_10 := Srf2.cell 10
      have fr2_10 := Srf2.free 10
      have q2_0 := Sqf2.cell 0
      have fq2_0 := Sqf2.free 0
      have q2_1 := Sqf2.cell 1
      have fq2_1 := Sqf2.free 1
      have q2_2 := Sqf2.cell 2
      have fq2_2 := Sqf2.free 2
      have q2_3 := Sqf2.cell 3
      have fq2_3 := Sqf2.free 3
      have n2_0 := Snf2.cell 0
      have n2_1 := Snf2.cell 1
      have n2_2 := Snf2.cell 2
      have n2_3 := Snf2.cell 3
      have n2_4 := Snf2.cell 4
      have n2_5 := Snf2.cell 5
      have n2_6 := Snf2.cell 6
      have n2_7 := Snf2.cell 7
      have n2_8 := Snf2.cell 8
      have n2_9 := Snf2.cell 9
      have n2_10 := Snf2.cell 10
      have m2_0 := Smf2.cell 0
      have m2_1 := Smf2.cell 1
      have m2_2 := Smf2.cell 2
      have m2_3 := Smf2.cell 3
      replace Ssf2 := Lib.hid Ssf2
      replace Sxf2 := Lib.hid Sxf2
      replace Srf2 := Lib.hid Srf2
      replace Sqf2 := Lib.hid Sqf2
      replace Snf2 := Lib.hid Snf2
      replace Smf2 := Lib.hid Smf2
      go_region
      go_wp2_with fail
      exact bodyPost_ret (v := .tuple #[.agg #[.bool (tt), .int .i64 (t0), .int .i64 (t1), .int .u16 (t2), .int .u32 (t3), .int .u16 (t4), .int .u8 (t5), .int .u16 (t6), .int .u32 (t7), .int .u16 (t8), .int .u8 (t9)], .agg #[.int .u16 (m0), .int .u32 (m1), .int .u16 (m2), .int .u8 (m3)], .bool true]) (by simp [results, Try.results61, go_sem, r2_0, r2_1, r2_2, r2_3, r2_4, r2_5, r2_6, r2_7, r2_8, r2_9, r2_10, q2_0, q2_1, q2_2, q2_3]) rfl ⟨rfl, (four_set (eleven_set (HBf2.out) (show w.heap.size ≤ w.heap.size + 1 + 1 from by omega) _ _ _ _ _ _ _ _ _ _ _) (show w.heap.size ≤ w.heap.size + 1 + 1 + 1 from by omega) _ _ _ _).drew⟩

set_option maxHeartbeats 3200000 in
theorem mdrop_any (s : Mst) (x : Mn) (b : Bool) (hs : s.Fit 1000000000000000) (hx : x.Fit) (w : World) : Calls Try.prog 52 #[.agg s.cells, .agg x.cells, .bool b] w fun e w' => e = .returned (.agg (s.dropS x b).cells) ∧ Below w.heap.size w w' := by
  have h1 := hs.high
  have C1 := Lib.hid (fun w => mnumber_any s x (by omega) w)
  obtain ⟨nn, hn⟩ : ∃ n, s.num x = n := ⟨_, rfl⟩
  have P0 : Hid (s.on = false → s.dropS x b = s) := Lib.hid (fun h => by unfold Mst.dropS; rw [if_neg (by simp [h])])
  have P1 : Hid (s.on = true → nn ≤ s.high → s.dropS x b = s) := Lib.hid (fun h h' => by unfold Mst.dropS; rw [if_pos h, hn, if_pos h'])
  have P2 : Hid (s.on = true → ¬ nn ≤ s.high → s.dropS x b = ⟨true, nn, nn, ⟨(s.off.seq + 1) % 65536, s.off.time, if b = true then (s.off.pic + 1) % 65536 else s.off.pic, s.off.tl0⟩, s.out⟩) := Lib.hid (fun h h' => by unfold Mst.dropS; rw [if_pos h, hn, if_neg h'])
  rw [hn] at C1
  clear hn hs hx h1
  generalize s.dropS x b = ds at *
  obtain ⟨on, hi, sc, ⟨oq, ot, op, ol⟩, ⟨uq, ut, up, ul⟩⟩ := s
  obtain ⟨xq, xt, xp, xl⟩ := x
  dsimp only [Mst.cells, Mn.cells] at *
  go_enter Try.func52, Try.ntmps52
  go_wp2_with fail
  refine (C1.out _).mono ?_
  rintro e w1 ⟨rfl, b1⟩
  have Ns : Whole (w.alloc (.cells #[.bool (on), .int .i64 (hi), .int .i64 (sc), .int .u16 (oq), .int .u32 (ot), .int .u16 (op), .int .u8 (ol), .int .u16 (uq), .int .u32 (ut), .int .u16 (up), .int .u8 (ul)] 76)) (w.heap.size) 76 #[.bool (on), .int .i64 (hi), .int .i64 (sc), .int .u16 (oq), .int .u32 (ot), .int .u16 (op), .int .u8 (ol), .int .u16 (uq), .int .u32 (ut), .int .u16 (up), .int .u8 (ul)] := by have := Whole.new w 76 #[.bool (on), .int .i64 (hi), .int .i64 (sc), .int .u16 (oq), .int .u32 (ot), .int .u16 (op), .int .u8 (ol), .int .u16 (uq), .int .u32 (ut), .int .u16 (up), .int .u8 (ul)]; first | with_reducible exact this | simpa using this
  have Nx : Whole ((w.alloc (.cells #[.bool (on), .int .i64 (hi), .int .i64 (sc), .int .u16 (oq), .int .u32 (ot), .int .u16 (op), .int .u8 (ol), .int .u16 (uq), .int .u32 (ut), .int .u16 (up), .int .u8 (ul)] 76)).alloc (.cells #[.int .u16 (xq), .int .u32 (xt), .int .u16 (xp), .int .u8 (xl)] 74)) (w.heap.size + 1) 74 #[.int .u16 (xq), .int .u32 (xt), .int .u16 (xp), .int .u8 (xl)] := by have := Whole.new (w.alloc (.cells #[.bool (on), .int .i64 (hi), .int .i64 (sc), .int .u16 (oq), .int .u32 (ot), .int .u16 (op), .int .u8 (ol), .int .u16 (uq), .int .u32 (ut), .int .u16 (up), .int .u8 (ul)] 76)) 74 #[.int .u16 (xq), .int .u32 (xt), .int .u16 (xp), .int .u8 (xl)]; first | with_reducible exact this | simpa using this
  have Nr : Whole (((w.alloc (.cells #[.bool (on), .int .i64 (hi), .int .i64 (sc), .int .u16 (oq), .int .u32 (ot), .int .u16 (op), .int .u8 (ol), .int .u16 (uq), .int .u32 (ut), .int .u16 (up), .int .u8 (ul)] 76)).alloc (.cells #[.int .u16 (xq), .int .u32 (xt), .int .u16 (xp), .int .u8 (xl)] 74)).alloc (.cells #[.bool (false), .int .i64 (0), .int .i64 (0), .int .u16 (0), .int .u32 (0), .int .u16 (0), .int .u8 (0), .int .u16 (0), .int .u32 (0), .int .u16 (0), .int .u8 (0)] 76)) (w.heap.size + 1 + 1) 76 #[.bool (false), .int .i64 (0), .int .i64 (0), .int .u16 (0), .int .u32 (0), .int .u16 (0), .int .u8 (0), .int .u16 (0), .int .u32 (0), .int .u16 (0), .int .u8 (0)] := by have := Whole.new ((w.alloc (.cells #[.bool (on), .int .i64 (hi), .int .i64 (sc), .int .u16 (oq), .int .u32 (ot), .int .u16 (op), .int .u8 (ol), .int .u16 (uq), .int .u32 (ut), .int .u16 (up), .int .u8 (ul)] 76)).alloc (.cells #[.int .u16 (xq), .int .u32 (xt), .int .u16 (xp), .int .u8 (xl)] 74)) 76 #[.bool (false), .int .i64 (0), .int .i64 (0), .int .u16 (0), .int .u32 (0), .int .u16 (0), .int .u8 (0), .int .u16 (0), .int .u32 (0), .int .u16 (0), .int .u8 (0)]; first | with_reducible exact this | simpa using this
  have Ss1 := (((Ns.alloc (.cells #[.int .u16 (xq), .int .u32 (xt), .int .u16 (xp), .int .u8 (xl)] 74)).alloc (.cells #[.bool (false), .int .i64 (0), .int .i64 (0), .int .u16 (0), .int .u32 (0), .int .u16 (0), .int .u8 (0), .int .u16 (0), .int .u32 (0), .int .u16 (0), .int .u8 (0)] 76))).below b1 (by have := (((Ns.alloc (.cells #[.int .u16 (xq), .int .u32 (xt), .int .u16 (xp), .int .u8 (xl)] 74)).alloc (.cells #[.bool (false), .int .i64 (0), .int .i64 (0), .int .u16 (0), .int .u32 (0), .int .u16 (0), .int .u8 (0), .int .u16 (0), .int .u32 (0), .int .u16 (0), .int .u8 (0)] 76))).lt; first | with_reducible exact this | simpa using this)
  have Sx1 := ((Nx.alloc (.cells #[.bool (false), .int .i64 (0), .int .i64 (0), .int .u16 (0), .int .u32 (0), .int .u16 (0), .int .u8 (0), .int .u16 (0), .int .u32 (0), .int .u16 (0), .int .u8 (0)] 76))).below b1 (by have := ((Nx.alloc (.cells #[.bool (false), .int .i64 (0), .int .i64 (0), .int .u16 (0), .int .u32 (0), .int .u16 (0), .int .u8 (0), .int .u16 (0), .int .u32 (0), .int .u16 (0), .int .u8 (0)] 76))).lt; first | with_reducible exact this | simpa using this)
  have Sr1 := (Nr).below b1 (by have := (Nr).lt; first | with_reducible exact this | simpa using this)
  have HB1 := Lib.hid ((((((Below.refl w.heap.size w).alloc ((Below.refl w.heap.size w)).size (.cells #[.bool (on), .int .i64 (hi), .int .i64 (sc), .int .u16 (oq), .int .u32 (ot), .int .u16 (op), .int .u8 (ol), .int .u16 (uq), .int .u32 (ut), .int .u16 (up), .int .u8 (ul)] 76)).alloc (((Below.refl w.heap.size w).alloc ((Below.refl w.heap.size w)).size (.cells #[.bool (on), .int .i64 (hi), .int .i64 (sc), .int .u16 (oq), .int .u32 (ot), .int .u16 (op), .int .u8 (ol), .int .u16 (uq), .int .u32 (ut), .int .u16 (up), .int .u8 (ul)] 76))).size (.cells #[.int .u16 (xq), .int .u32 (xt), .int .u16 (xp), .int .u8 (xl)] 74)).alloc ((((Below.refl w.heap.size w).alloc ((Below.refl w.heap.size w)).size (.cells #[.bool (on), .int .i64 (hi), .int .i64 (sc), .int .u16 (oq), .int .u32 (ot), .int .u16 (op), .int .u8 (ol), .int .u16 (uq), .int .u32 (ut), .int .u16 (up), .int .u8 (ul)] 76)).alloc (((Below.refl w.heap.size w).alloc ((Below.refl w.heap.size w)).size (.cells #[.bool (on), .int .i64 (hi), .int .i64 (sc), .int .u16 (oq), .int .u32 (ot), .int .u16 (op), .int .u8 (ol), .int .u16 (uq), .int .u32 (ut), .int .u16 (up), .int .u8 (ul)] 76))).size (.cells #[.int .u16 (xq), .int .u32 (xt), .int .u16 (xp), .int .u8 (xl)] 74))).size (.cells #[.bool (false), .int .i64 (0), .int .i64 (0), .int .u16 (0), .int .u32 (0), .int .u16 (0), .int .u8 (0), .int .u16 (0), .int .u32 (0), .int .u16 (0), .int .u8 (0)] 76))).trans (b1.mono (((((Below.refl w.heap.size w).alloc ((Below.refl w.heap.size w)).size (.cells #[.bool (on), .int .i64 (hi), .int .i64 (sc), .int .u16 (oq), .int .u32 (ot), .int .u16 (op), .int .u8 (ol), .int .u16 (uq), .int .u32 (ut), .int .u16 (up), .int .u8 (ul)] 76)).alloc (((Below.refl w.heap.size w).alloc ((Below.refl w.heap.size w)).size (.cells #[.bool (on), .int .i64 (hi), .int .i64 (sc), .int .u16 (oq), .int .u32 (ot), .int .u16 (op), .int .u8 (ol), .int .u16 (uq), .int .u32 (ut), .int .u16 (up), .int .u8 (ul)] 76))).size (.cells #[.int .u16 (xq), .int .u32 (xt), .int .u16 (xp), .int .u8 (xl)] 74)).alloc ((((Below.refl w.heap.size w).alloc ((Below.refl w.heap.size w)).size (.cells #[.bool (on), .int .i64 (hi), .int .i64 (sc), .int .u16 (oq), .int .u32 (ot), .int .u16 (op), .int .u8 (ol), .int .u16 (uq), .int .u32 (ut), .int .u16 (up), .int .u8 (ul)] 76)).alloc (((Below.refl w.heap.size w).alloc ((Below.refl w.heap.size w)).size (.cells #[.bool (on), .int .i64 (hi), .int .i64 (sc), .int .u16 (oq), .int .u32 (ot), .int .u16 (op), .int .u8 (ol), .int .u16 (uq), .int .u32 (ut), .int .u16 (up), .int .u8 (ul)] 76))).size (.cells #[.int .u16 (xq), .int .u32 (xt), .int .u16 (xp), .int .u8 (xl)] 74))).size (.cells #[.bool (false), .int .i64 (0), .int .i64 (0), .int .u16 (0), .int .u32 (0), .int .u16 (0), .int .u8 (0), .int .u16 (0), .int .u32 (0), .int .u16 (0), .int .u8 (0)] 76))).size))
  have ls1 := Ss1.lt
  have lx1 := Sx1.lt
  have lr1 := Sr1.lt
  clear b1 Ns Nx Nr C1
  have s1_0 := Ss1.cell 0
  have fs1_0 := Ss1.free 0
  have s1_1 := Ss1.cell 1
  have fs1_1 := Ss1.free 1
  have s1_2 := Ss1.cell 2
  have fs1_2 := Ss1.free 2
  have s1_3 := Ss1.cell 3
  have fs1_3 := Ss1.free 3
  have s1_4 := Ss1.cell 4
  have fs1_4 := Ss1.free 4
  have s1_5 := Ss1.cell 5
  have fs1_5 := Ss1.free 5
  have s1_6 := Ss1.cell 6
  have fs1_6 := Ss1.free 6
  have s1_7 := Ss1.cell 7
  have fs1_7 := Ss1.free 7
  have s1_8 := Ss1.cell 8
  have fs1_8 := Ss1.free 8
  have s1_9 := Ss1.cell 9
  have fs1_9 := Ss1.free 9
  have s1_10 := Ss1.cell 10
  have fs1_10 := Ss1.free 10
  have x1_0 := Sx1.cell 0
  have fx1_0 := Sx1.free 0
  have x1_1 := Sx1.cell 1
  have fx1_1 := Sx1.free 1
  have x1_2 := Sx1.cell 2
  have fx1_2 := Sx1.free 2
  have x1_3 := Sx1.cell 3
  have fx1_3 := Sx1.free 3
  have r1_0 := Sr1.cell 0
  have fr1_0 := Sr1.free 0
  have r1_1 := Sr1.cell 1
  have fr1_1 := Sr1.free 1
  have r1_2 := Sr1.cell 2
  have fr1_2 := Sr1.free 2
  have r1_3 := Sr1.cell 3
  have fr1_3 := Sr1.free 3
  have r1_4 := Sr1.cell 4
  have fr1_4 := Sr1.free 4
  have r1_5 := Sr1.cell 5
  have fr1_5 := Sr1.free 5
  have r1_6 := Sr1.cell 6
  have fr1_6 := Sr1.free 6
  have r1_7 := Sr1.cell 7
  have fr1_7 := Sr1.free 7
  have r1_8 := Sr1.cell 8
  have fr1_8 := Sr1.free 8
  have r1_9 := Sr1.cell 9
  have fr1_9 := Sr1.free 9
  have r1_10 := Sr1.cell 10
  have fr1_10 := Sr1.free 10
  replace Ss1 := Lib.hid Ss1
  replace Sx1 := Lib.hid Sx1
  replace Sr1 := Lib.hid Sr1
  cases on with
  | false =>
    obtain rfl := P0.out rfl
    clear P0 P1 P2
    dsimp only [Mst.cells, Mn.cells]
    go_wp2_with fail
    exact bodyPost_ret (v := .agg #[.bool false, .int .i64 (hi), .int .i64 (sc), .int .u16 (oq), .int .u32 (ot), .int .u16 (op), .int .u8 (ol), .int .u16 (uq), .int .u32 (ut), .int .u16 (up), .int .u8 (ul)]) (by simp [results, Try.results52, go_sem, r1_0, r1_1, r1_2, r1_3, r1_4, r1_5, r1_6, r1_7, r1_8, r1_9, r1_10]) rfl ⟨rfl, eleven_set (HB1.out) (show w.heap.size ≤ w.heap.size + 1 + 1 from by omega) _ _ _ _ _ _ _ _ _ _ _⟩
  | true =>
    by_cases c1 : nn ≤ hi
    · obtain rfl := P1.out rfl c1
      clear P0 P1 P2
      dsimp only [Mst.cells, Mn.cells]
      go_wp2_with fail
      exact bodyPost_ret (v := .agg #[.bool true, .int .i64 (hi), .int .i64 (sc), .int .u16 (oq), .int .u32 (ot), .int .u16 (op), .int .u8 (ol), .int .u16 (uq), .int .u32 (ut), .int .u16 (up), .int .u8 (ul)]) (by simp [results, Try.results52, go_sem, r1_0, r1_1, r1_2, r1_3, r1_4, r1_5, r1_6, r1_7, r1_8, r1_9, r1_10]) rfl ⟨rfl, eleven_set (HB1.out) (show w.heap.size ≤ w.heap.size + 1 + 1 from by omega) _ _ _ _ _ _ _ _ _ _ _⟩
    obtain rfl := P2.out rfl (by omega)
    clear P0 P1 P2
    cases b with
    | false =>
      dsimp only [Mst.cells, Mn.cells]
      go_wp2_with fail
      try simp only [wrap_u16]
      exact bodyPost_ret (v := .agg #[.bool (true), .int .i64 (nn), .int .i64 (nn), .int .u16 ((oq + 1) % 65536), .int .u32 (ot), .int .u16 (op), .int .u8 (ol), .int .u16 (uq), .int .u32 (ut), .int .u16 (up), .int .u8 (ul)]) (by simp [results, Try.results52, go_sem, r1_0, r1_1, r1_2, r1_3, r1_4, r1_5, r1_6, r1_7, r1_8, r1_9, r1_10]) rfl ⟨rfl, eleven_set ((((HB1.out.setCell (p := ⟨w.heap.size, 1, none⟩) (Nat.le_refl _) _).setCell (p := ⟨w.heap.size, 2, none⟩) (Nat.le_refl _) _).setCell (p := ⟨w.heap.size, 3, none⟩) (Nat.le_refl _) _)) (show w.heap.size ≤ w.heap.size + 1 + 1 from by omega) _ _ _ _ _ _ _ _ _ _ _⟩
    | true =>
      dsimp only [Mst.cells, Mn.cells]
      go_wp2_with fail
      try simp only [wrap_u16]
      exact bodyPost_ret (v := .agg #[.bool (true), .int .i64 (nn), .int .i64 (nn), .int .u16 ((oq + 1) % 65536), .int .u32 (ot), .int .u16 ((op + 1) % 65536), .int .u8 (ol), .int .u16 (uq), .int .u32 (ut), .int .u16 (up), .int .u8 (ul)]) (by simp [results, Try.results52, go_sem, r1_0, r1_1, r1_2, r1_3, r1_4, r1_5, r1_6, r1_7, r1_8, r1_9, r1_10]) rfl ⟨rfl, eleven_set (((((HB1.out.setCell (p := ⟨w.heap.size, 1, none⟩) (Nat.le_refl _) _).setCell (p := ⟨w.heap.size, 2, none⟩) (Nat.le_refl _) _).setCell (p := ⟨w.heap.size, 3, none⟩) (Nat.le_refl _) _).setCell (p := ⟨w.heap.size, 5, none⟩) (Nat.le_refl _) _)) (show w.heap.size ≤ w.heap.size + 1 + 1 from by omega) _ _ _ _ _ _ _ _ _ _ _⟩
end Go.Proofs.Yticnaljfnjiofaa
