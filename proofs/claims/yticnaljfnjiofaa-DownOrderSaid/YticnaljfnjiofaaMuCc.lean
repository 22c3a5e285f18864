/-
  Contracts of the program's calls of layer 13, more: what a state comes to by Switch, Send and Drop, and what is told.
-/
import Derived.Test.YticnaljfnjiofaaMuCa
import Derived.RegionTactic
import Derived.Deep.RegionHeld3
import Derived.Deep.CutBlock
import Derived.Deep.QuietTactic
import Derived.BigQuiet
namespace Go.Proofs.Yticnaljfnjiofaa
open Go.RowKit
set_option linter.unusedSimpArgs false
set_option linter.unusedVariables false
set_option maxRecDepth 100000

/-- What a packet that is told makes of a state, and what is told of it. -/
def Mst.tellS (s : Mst) (x : Mn) : Mst := if s.num x ≤ s.high then s else { s with high := s.num x, out := s.ahead x }
def Mst.tellN (s : Mst) (x : Mn) : Mn := if s.num x ≤ s.high then x.less s.off else s.ahead x

set_option maxHeartbeats 3200000 in
theorem mtell_any (s : Mst) (x : Mn) (w : World) : Calls Try.prog 82 #[.agg s.cells, .int .i64 (s.num x), .agg x.cells, .func (.func 81) #[.agg s.off.cells] #[]] w fun e w' => e = .returned (.tuple #[.agg (s.tellS x).cells, .agg (s.tellN x).cells]) ∧ Below w.heap.size w w' := by
  have C1 := Lib.hid (fun w => mtaken_any s.off x w)
  obtain ⟨l, hl⟩ : ∃ l, x.less s.off = l := ⟨_, rfl⟩
  obtain ⟨nn, hn⟩ : ∃ n, s.num x = n := ⟨_, rfl⟩
  have C2 := Lib.hid (fun w => less32_any l.time s.out.time w)
  have P0 : Hid (nn ≤ s.high → s.tellS x = s ∧ s.tellN x = l) := Lib.hid (fun h => by unfold Mst.tellS Mst.tellN; rw [hn, hl, if_pos h, if_pos h]; exact ⟨rfl, rfl⟩)
  have P1 : Hid (¬ nn ≤ s.high → up32 l.time s.out.time = true → s.tellS x = { s with high := nn, out := { l with time := s.out.time } } ∧ s.tellN x = { l with time := s.out.time }) := Lib.hid (fun h h2 => by unfold Mst.tellS Mst.tellN Mst.ahead; rw [hn, hl, if_neg h, if_neg h, if_pos (by simpa [up32, d32, far32] using h2)]; exact ⟨rfl, rfl⟩)
  have P2 : Hid (¬ nn ≤ s.high → up32 l.time s.out.time = false → s.tellS x = { s with high := nn, out := l } ∧ s.tellN x = l) := Lib.hid (fun h h2 => by unfold Mst.tellS Mst.tellN Mst.ahead; rw [hn, hl, if_neg h, if_neg h, if_neg (by simpa [up32, d32, far32] using h2)]; exact ⟨rfl, rfl⟩)
  generalize s.tellS x = ts at *
  generalize s.tellN x = tn at *
  rw [hl] at C1
  rw [hn]
  clear hl hn
  obtain ⟨on, hi, sc, ⟨oq, ot, op, ol⟩, ⟨uq, ut, up, ul⟩⟩ := s
  obtain ⟨xq, xt, xp, xl⟩ := x
  obtain ⟨lq, lt, lp, ll⟩ := l
  dsimp only [Mst.cells, Mn.cells] at *
  go_enter Try.func82, Try.ntmps82
  go_wp2_with fail
  refine (C1.out _).mono ?_
  rintro e w1 ⟨rfl, b1⟩
  have Ns : Whole (w.alloc (.cells #[.bool (on), .int .i64 (hi), .int .i64 (sc), .int .u16 (oq), .int .u32 (ot), .int .u16 (op), .int .u8 (ol), .int .u16 (uq), .int .u32 (ut), .int .u16 (up), .int .u8 (ul)] 76)) (w.heap.size) 76 #[.bool (on), .int .i64 (hi), .int .i64 (sc), .int .u16 (oq), .int .u32 (ot), .int .u16 (op), .int .u8 (ol), .int .u16 (uq), .int .u32 (ut), .int .u16 (up), .int .u8 (ul)] := by have := Whole.new w 76 #[.bool (on), .int .i64 (hi), .int .i64 (sc), .int .u16 (oq), .int .u32 (ot), .int .u16 (op), .int .u8 (ol), .int .u16 (uq), .int .u32 (ut), .int .u16 (up), .int .u8 (ul)]; first | with_reducible exact this | simpa using this
  have Nx : Whole ((w.alloc (.cells #[.bool (on), .int .i64 (hi), .int .i64 (sc), .int .u16 (oq), .int .u32 (ot), .int .u16 (op), .int .u8 (ol), .int .u16 (uq), .int .u32 (ut), .int .u16 (up), .int .u8 (ul)] 76)).alloc (.cells #[.int .u16 (xq), .int .u32 (xt), .int .u16 (xp), .int .u8 (xl)] 74)) (w.heap.size + 1) 74 #[.int .u16 (xq), .int .u32 (xt), .int .u16 (xp), .int .u8 (xl)] := by have := Whole.new (w.alloc (.cells #[.bool (on), .int .i64 (hi), .int .i64 (sc), .int .u16 (oq), .int .u32 (ot), .int .u16 (op), .int .u8 (ol), .int .u16 (uq), .int .u32 (ut), .int .u16 (up), .int .u8 (ul)] 76)) 74 #[.int .u16 (xq), .int .u32 (xt), .int .u16 (xp), .int .u8 (xl)]; first | with_reducible exact this | simpa using this
  have Nr : Whole (((w.alloc (.cells #[.bool (on), .int .i64 (hi), .int .i64 (sc), .int .u16 (oq), .int .u32 (ot), .int .u16 (op), .int .u8 (ol), .int .u16 (uq), .int .u32 (ut), .int .u16 (up), .int .u8 (ul)] 76)).alloc (.cells #[.int .u16 (xq), .int .u32 (xt), .int .u16 (xp), .int .u8 (xl)] 74)).alloc (.cells #[.bool (false), .int .i64 (0), .int .i64 (0), .int .u16 (0), .int .u32 (0), .int .u16 (0), .int .u8 (0), .int .u16 (0), .int .u32 (0), .int .u16 (0), .int .u8 (0)] 76)) (w.heap.size + 1 + 1) 76 #[.bool (false), .int .i64 (0), .int .i64 (0), .int .u16 (0), .int .u32 (0), .int .u16 (0), .int .u8 (0), .int .u16 (0), .int .u32 (0), .int .u16 (0), .int .u8 (0)] := by have := Whole.new ((w.alloc (.cells #[.bool (on), .int .i64 (hi), .int .i64 (sc), .int .u16 (oq), .int .u32 (ot), .int .u16 (op), .int .u8 (ol), .int .u16 (uq), .int .u32 (ut), .int .u16 (up), .int .u8 (ul)] 76)).alloc (.cells #[.int .u16 (xq), .int .u32 (xt), .int .u16 (xp), .int .u8 (xl)] 74)) 76 #[.bool (false), .int .i64 (0), .int .i64 (0), .int .u16 (0), .int .u32 (0), .int .u16 (0), .int .u8 (0), .int .u16 (0), .int .u32 (0), .int .u16 (0), .int .u8 (0)]; first | with_reducible exact this | simpa using this
  have Nq : Whole ((((w.alloc (.cells #[.bool (on), .int .i64 (hi), .int .i64 (sc), .int .u16 (oq), .int .u32 (ot), .int .u16 (op), .int .u8 (ol), .int .u16 (uq), .int .u32 (ut), .int .u16 (up), .int .u8 (ul)] 76)).alloc (.cells #[.int .u16 (xq), .int .u32 (xt), .int .u16 (xp), .int .u8 (xl)] 74)).alloc (.cells #[.bool (false), .int .i64 (0), .int .i64 (0), .int .u16 (0), .int .u32 (0), .int .u16 (0), .int .u8 (0), .int .u16 (0), .int .u32 (0), .int .u16 (0), .int .u8 (0)] 76)).alloc (.cells #[.int .u16 (0), .int .u32 (0), .int .u16 (0), .int .u8 (0)] 74)) (w.heap.size + 1 + 1 + 1) 74 #[.int .u16 (0), .int .u32 (0), .int .u16 (0), .int .u8 (0)] := by have := Whole.new (((w.alloc (.cells #[.bool (on), .int .i64 (hi), .int .i64 (sc), .int .u16 (oq), .int .u32 (ot), .int .u16 (op), .int .u8 (ol), .int .u16 (uq), .int .u32 (ut), .int .u16 (up), .int .u8 (ul)] 76)).alloc (.cells #[.int .u16 (xq), .int .u32 (xt), .int .u16 (xp), .int .u8 (xl)] 74)).alloc (.cells #[.bool (false), .int .i64 (0), .int .i64 (0), .int .u16 (0), .int .u32 (0), .int .u16 (0), .int .u8 (0), .int .u16 (0), .int .u32 (0), .int .u16 (0), .int .u8 (0)] 76)) 74 #[.int .u16 (0), .int .u32 (0), .int .u16 (0), .int .u8 (0)]; first | with_reducible exact this | simpa using this
  have Ss1 := ((((Ns.alloc (.cells #[.int .u16 (xq), .int .u32 (xt), .int .u16 (xp), .int .u8 (xl)] 74)).alloc (.cells #[.bool (false), .int .i64 (0), .int .i64 (0), .int .u16 (0), .int .u32 (0), .int .u16 (0), .int .u8 (0), .int .u16 (0), .int .u32 (0), .int .u16 (0), .int .u8 (0)] 76)).alloc (.cells #[.int .u16 (0), .int .u32 (0), .int .u16 (0), .int .u8 (0)] 74))).below b1 (by have := ((((Ns.alloc (.cells #[.int .u16 (xq), .int .u32 (xt), .int .u16 (xp), .int .u8 (xl)] 74)).alloc (.cells #[.bool (false), .int .i64 (0), .int .i64 (0), .int .u16 (0), .int .u32 (0), .int .u16 (0), .int .u8 (0), .int .u16 (0), .int .u32 (0), .int .u16 (0), .int .u8 (0)] 76)).alloc (.cells #[.int .u16 (0), .int .u32 (0), .int .u16 (0), .int .u8 (0)] 74))).lt; first | with_reducible exact this | simpa using this)
  have Sx1 := (((Nx.alloc (.cells #[.bool (false), .int .i64 (0), .int .i64 (0), .int .u16 (0), .int .u32 (0), .int .u16 (0), .int .u8 (0), .int .u16 (0), .int .u32 (0), .int .u16 (0), .int .u8 (0)] 76)).alloc (.cells #[.int .u16 (0), .int .u32 (0), .int .u16 (0), .int .u8 (0)] 74))).below b1 (by have := (((Nx.alloc (.cells #[.bool (false), .int .i64 (0), .int .i64 (0), .int .u16 (0), .int .u32 (0), .int .u16 (0), .int .u8 (0), .int .u16 (0), .int .u32 (0), .int .u16 (0), .int .u8 (0)] 76)).alloc (.cells #[.int .u16 (0), .int .u32 (0), .int .u16 (0), .int .u8 (0)] 74))).lt; first | with_reducible exact this | simpa using this)
  have Sr1 := ((Nr.alloc (.cells #[.int .u16 (0), .int .u32 (0), .int .u16 (0), .int .u8 (0)] 74))).below b1 (by have := ((Nr.alloc (.cells #[.int .u16 (0), .int .u32 (0), .int .u16 (0), .int .u8 (0)] 74))).lt; first | with_reducible exact this | simpa using this)
  have Sq1 := (Nq).below b1 (by have := (Nq).lt; first | with_reducible exact this | simpa using this)
  have HB1 := Lib.hid (((((((Below.refl w.heap.size w).alloc ((Below.refl w.heap.size w)).size (.cells #[.bool (on), .int .i64 (hi), .int .i64 (sc), .int .u16 (oq), .int .u32 (ot), .int .u16 (op), .int .u8 (ol), .int .u16 (uq), .int .u32 (ut), .int .u16 (up), .int .u8 (ul)] 76)).alloc (((Below.refl w.heap.size w).alloc ((Below.refl w.heap.size w)).size (.cells #[.bool (on), .int .i64 (hi), .int .i64 (sc), .int .u16 (oq), .int .u32 (ot), .int .u16 (op), .int .u8 (ol), .int .u16 (uq), .int .u32 (ut), .int .u16 (up), .int .u8 (ul)] 76))).size (.cells #[.int .u16 (xq), .int .u32 (xt), .int .u16 (xp), .int .u8 (xl)] 74)).alloc ((((Below.refl w.heap.size w).alloc ((Below.refl w.heap.size w)).size (.cells #[.bool (on), .int .i64 (hi), .int .i64 (sc), .int .u16 (oq), .int .u32 (ot), .int .u16 (op), .int .u8 (ol), .int .u16 (uq), .int .u32 (ut), .int .u16 (up), .int .u8 (ul)] 76)).alloc (((Below.refl w.heap.size w).alloc ((Below.refl w.heap.size w)).size (.cells #[.bool (on), .int .i64 (hi), .int .i64 (sc), .int .u16 (oq), .int .u32 (ot), .int .u16 (op), .int .u8 (ol), .int .u16 (uq), .int .u32 (ut), .int .u16 (up), .int .u8 (ul)] 76))).size (.cells #[.int .u16 (xq), .int .u32 (xt), .int .u16 (xp), .int .u8 (xl)] 74))).size (.cells #[.bool (false), .int .i64 (0), .int .i64 (0), .int .u16 (0), .int .u32 (0), .int .u16 (0), .int .u8 (0), .int .u16 (0), .int .u32 (0), .int .u16 (0), .int .u8 (0)] 76)).alloc (((((Below.refl w.heap.size w).alloc ((Below.refl w.heap.size w)).size (.cells #[.bool (on), .int .i64 (hi), .int .i64 (sc), .int .u16 (oq), .int .u32 (ot), .int .u16 (op), .int .u8 (ol), .int .u16 (uq), .int .u32 (ut), .int .u16 (up), .int .u8 (ul)] 76)).alloc (((Below.refl w.heap.size w).alloc ((Below.refl w.heap.size w)).size (.cells #[.bool (on), .int .i64 (hi), .int .i64 (sc), .int .u16 (oq), .int .u32 (ot), .int .u16 (op), .int .u8 (ol), .int .u16 (uq), .int .u32 (ut), .int .u16 (up), .int .u8 (ul)] 76))).size (.cells #[.int .u16 (xq), .int .u32 (xt), .int .u16 (xp), .int .u8 (xl)] 74)).alloc ((((Below.refl w.heap.size w).alloc ((Below.refl w.heap.size w)).size (.cells #[.bool (on), .int .i64 (hi), .int .i64 (sc), .int .u16 (oq), .int .u32 (ot), .int .u16 (op), .int .u8 (ol), .int .u16 (uq), .int .u32 (ut), .int .u16 (up), .int .u8 (ul)] 76)).alloc (((Below.refl w.heap.size w).alloc ((Below.refl w.heap.size w)).size (.cells #[.bool (on), .int .i64 (hi), .int .i64 (sc), .int .u16 (oq), .int .u32 (ot), .int .u16 (op), .int .u8 (ol), .int .u16 (uq), .int .u32 (ut), .int .u16 (up), .int .u8 (ul)] 76))).size (.cells #[.int .u16 (xq), .int .u32 (xt), .int .u16 (xp), .int .u8 (xl)] 74))).size (.cells #[.bool (false), .int .i64 (0), .int .i64 (0), .int .u16 (0), .int .u32 (0), .int .u16 (0), .int .u8 (0), .int .u16 (0), .int .u32 (0), .int .u16 (0), .int .u8 (0)] 76))).size (.cells #[.int .u16 (0), .int .u32 (0), .int .u16 (0), .int .u8 (0)] 74))).trans (b1.mono ((((((Below.refl w.heap.size w).alloc ((Below.refl w.heap.size w)).size (.cells #[.bool (on), .int .i64 (hi), .int .i64 (sc), .int .u16 (oq), .int .u32 (ot), .int .u16 (op), .int .u8 (ol), .int .u16 (uq), .int .u32 (ut), .int .u16 (up), .int .u8 (ul)] 76)).alloc (((Below.refl w.heap.size w).alloc ((Below.refl w.heap.size w)).size (.cells #[.bool (on), .int .i64 (hi), .int .i64 (sc), .int .u16 (oq), .int .u32 (ot), .int .u16 (op), .int .u8 (ol), .int .u16 (uq), .int .u32 (ut), .int .u16 (up), .int .u8 (ul)] 76))).size (.cells #[.int .u16 (xq), .int .u32 (xt), .int .u16 (xp), .int .u8 (xl)] 74)).alloc ((((Below.refl w.heap.size w).alloc ((Below.refl w.heap.size w)).size (.cells #[.bool (on), .int .i64 (hi), .int .i64 (sc), .int .u16 (oq), .int .u32 (ot), .int .u16 (op), .int .u8 (ol), .int .u16 (uq), .int .u32 (ut), .int .u16 (up), .int .u8 (ul)] 76)).alloc (((Below.refl w.heap.size w).alloc ((Below.refl w.heap.size w)).size (.cells #[.bool (on), .int .i64 (hi), .int .i64 (sc), .int .u16 (oq), .int .u32 (ot), .int .u16 (op), .int .u8 (ol), .int .u16 (uq), .int .u32 (ut), .int .u16 (up), .int .u8 (ul)] 76))).size (.cells #[.int .u16 (xq), .int .u32 (xt), .int .u16 (xp), .int .u8 (xl)] 74))).size (.cells #[.bool (false), .int .i64 (0), .int .i64 (0), .int .u16 (0), .int .u32 (0), .int .u16 (0), .int .u8 (0), .int .u16 (0), .int .u32 (0), .int .u16 (0), .int .u8 (0)] 76)).alloc (((((Below.refl w.heap.size w).alloc ((Below.refl w.heap.size w)).size (.cells #[.bool (on), .int .i64 (hi), .int .i64 (sc), .int .u16 (oq), .int .u32 (ot), .int .u16 (op), .int .u8 (ol), .int .u16 (uq), .int .u32 (ut), .int .u16 (up), .int .u8 (ul)] 76)).alloc (((Below.refl w.heap.size w).alloc ((Below.refl w.heap.size w)).size (.cells #[.bool (on), .int .i64 (hi), .int .i64 (sc), .int .u16 (oq), .int .u32 (ot), .int .u16 (op), .int .u8 (ol), .int .u16 (uq), .int .u32 (ut), .int .u16 (up), .int .u8 (ul)] 76))).size (.cells #[.int .u16 (xq), .int .u32 (xt), .int .u16 (xp), .int .u8 (xl)] 74)).alloc ((((Below.refl w.heap.size w).alloc ((Below.refl w.heap.size w)).size (.cells #[.bool (on), .int .i64 (hi), .int .i64 (sc), .int .u16 (oq), .int .u32 (ot), .int .u16 (op), .int .u8 (ol), .int .u16 (uq), .int .u32 (ut), .int .u16 (up), .int .u8 (ul)] 76)).alloc (((Below.refl w.heap.size w).alloc ((Below.refl w.heap.size w)).size (.cells #[.bool (on), .int .i64 (hi), .int .i64 (sc), .int .u16 (oq), .int .u32 (ot), .int .u16 (op), .int .u8 (ol), .int .u16 (uq), .int .u32 (ut), .int .u16 (up), .int .u8 (ul)] 76))).size (.cells #[.int .u16 (xq), .int .u32 (xt), .int .u16 (xp), .int .u8 (xl)] 74))).size (.cells #[.bool (false), .int .i64 (0), .int .i64 (0), .int .u16 (0), .int .u32 (0), .int .u16 (0), .int .u8 (0), .int .u16 (0), .int .u32 (0), .int .u16 (0), .int .u8 (0)] 76))).size (.cells #[.int .u16 (0), .int .u32 (0), .int .u16 (0), .int .u8 (0)] 74))).size))
  have ls1 := Ss1.lt
  have lx1 := Sx1.lt
  have lr1 := Sr1.lt
  have lq1 := Sq1.lt
  clear b1 Ns Nx Nr Nq C1
  have s1_0 := Ss1.cell 0
  have fs1_0 := Ss1.free 0
  have s1_1 := Ss1.cell 1
  have fs1_1 := Ss1.free 1
  have s1_2 := Ss1.cell 2
  have fs1_2 := Ss1.free 2
  have s1_3 := Ss1.cell 3
  have fs1_3 := Ss1.free 3
  have s1_4 := Ss1.cell 4
  have fs1_4 := Ss1.free 4
  have s1_5 := Ss1.cell 5
  have fs1_5 := Ss1.free 5
  have s1_6 := Ss1.cell 6
  have fs1_6 := Ss1.free 6
  have s1_7 := Ss1.cell 7
  have fs1_7 := Ss1.free 7
  have s1_8 := Ss1.cell 8
  have fs1_8 := Ss1.free 8
  have s1_9 := Ss1.cell 9
  have fs1_9 := Ss1.free 9
  have s1_10 := Ss1.cell 10
  have fs1_10 := Ss1.free 10
  have x1_0 := Sx1.cell 0
  have fx1_0 := Sx1.free 0
  have x1_1 := Sx1.cell 1
  have fx1_1 := Sx1.free 1
  have x1_2 := Sx1.cell 2
  have fx1_2 := Sx1.free 2
  have x1_3 := Sx1.cell 3
  have fx1_3 := Sx1.free 3
  have r1_0 := Sr1.cell 0
  have fr1_0 := Sr1.free 0
  have r1_1 := Sr1.cell 1
  have fr1_1 := Sr1.free 1
  have r1_2 := Sr1.cell 2
  have fr1_2 := Sr1.free 2
  have r1_3 := Sr1.cell 3
  have fr1_3 := Sr1.free 3
  have r1_4 := Sr1.cell 4
  have fr1_4 := Sr1.free 4
  have r1_5 := Sr1.cell 5
  have fr1_5 := Sr1.free 5
  have r1_6 := Sr1.cell 6
  have fr1_6 := Sr1.free 6
  have r1_7 := Sr1.cell 7
  have fr1_7 := Sr1.free 7
  have r1_8 := Sr1.cell 8
  have fr1_8 := Sr1.free 8
  have r1_9 := Sr1.cell 9
  have fr1_9 := Sr1.free 9
  have r1_10 := Sr1.cell 10
  have fr1_10 := Sr1.free 10
  have q1_0 := Sq1.cell 0
  have fq1_0 := Sq1.free 0
  have q1_1 := Sq1.cell 1
  have fq1_1 := Sq1.free 1
  have q1_2 := Sq1.cell 2
  have fq1_2 := Sq1.free 2
  have q1_3 := Sq1.cell 3
  have fq1_3 := Sq1.free 3
  replace Ss1 := Lib.hid Ss1
  replace Sx1 := Lib.hid Sx1
  replace Sr1 := Lib.hid Sr1
  replace Sq1 := Lib.hid Sq1
  by_cases c1 : nn ≤ hi
  · obtain ⟨rfl, rfl⟩ := P0.out c1
    clear P0 P1 P2 C2
    dsimp only [Mst.cells, Mn.cells]
    go_upto_region 3 with fail
    obtain ⟨wf1, hwf⟩ : ∃ z, z = (w1.alloc (.cells #[.int .u16 (lq), .int .u32 (lt), .int .u16 (lp), .int .u8 (ll)] 74)) := ⟨_, rfl⟩
    have No : Whole (w1.alloc (.cells #[.int .u16 (lq), .int .u32 (lt), .int .u16 (lp), .int .u8 (ll)] 74)) (w1.heap.size) 74 #[.int .u16 (lq), .int .u32 (lt), .int .u16 (lp), .int .u8 (ll)] := by have := Whole.new w1 74 #[.int .u16 (lq), .int .u32 (lt), .int .u16 (lp), .int .u8 (ll)]; first | with_reducible exact this | simpa using this
    have Ssf1 := (Ss1.out.alloc (.cells #[.int .u16 (lq), .int .u32 (lt), .int .u16 (lp), .int .u8 (ll)] 74))
    have Sxf1 := (Sx1.out.alloc (.cells #[.int .u16 (lq), .int .u32 (lt), .int .u16 (lp), .int .u8 (ll)] 74))
    have Srf1 := (Sr1.out.alloc (.cells #[.int .u16 (lq), .int .u32 (lt), .int .u16 (lp), .int .u8 (ll)] 74))
    have Sqf1 := (Sq1.out.alloc (.cells #[.int .u16 (lq), .int .u32 (lt), .int .u16 (lp), .int .u8 (ll)] 74))
    have Sof1 := No
    have HBf1 := (HB1.out.alloc (HB1.out).size (.cells #[.int .u16 (lq), .int .u32 (lt), .int .u16 (lp), .int .u8 (ll)] 74))
    rw [← hwf] at Ssf1 Sxf1 Srf1 Sqf1 Sof1 HBf1 ⊢
    clear hwf
    clear s1_0 fs1_0 s1_1 fs1_1 s1_2 fs1_2 s1_3 fs1_3 s1_4 fs1_4 s1_5 fs1_5 s1_6 fs1_6 s1_7 fs1_7 s1_8 fs1_8 s1_9 fs1_9 s1_10 fs1_10 x1_0 fx1_0 x1_1 fx1_1 x1_2 fx1_2 x1_3 fx1_3 r1_0 fr1_0 r1_1 fr1_1 r1_2 fr1_2 r1_3 fr1_3 r1_4 fr1_4 r1_5 fr1_5 r1_6 fr1_6 r1_7 fr1_7 r1_8 fr1_8 r1_9 fr1_9 r1_10 fr1_10 q1_0 fq1_0 q1_1 fq1_1 q1_2 fq1_2 q1_3 fq1_3 Ss1 Sx1 Sr1 Sq1 No HB1
    have lsf1 := Ssf1.lt
    have lxf1 := Sxf1.lt
    have lrf1 := Srf1.lt
    have lqf1 := Sqf1.lt
    have lof1 := Sof1.lt
    replace HBf1 := Lib.hid HBf1
    have s1_0 := Ssf1.cell 0
    have s1_1 := Ssf1.cell 1
    have s1_2 := Ssf1.cell 2
    have s1_3 := Ssf1.cell 3
    have s1_4 := Ssf1.cell 4
    have s1_5 := Ssf1.cell 5
    have s1_6 := Ssf1.cell 6
    have s1_7 := Ssf1.cell 7
    have s1_8 := Ssf1.cell 8
    have s1_9 := Ssf1.cell 9
    have s1_10 := Ssf1.cell 10
    have r1_0 := Srf1.cell 0
    have fr1_0 := Srf1.free 0
    have r1_1 := Srf1.cell 1
    have fr1_1 := Srf1.free 1
    have r1_2 := Srf1.cell 2
    have fr1_2 := Srf1.free 2
    have r1_3 := Srf1.cell 3
    have fr1_3 := Srf1.free 3
    have r1_4 := Srf1.cell 4
    have fr1_4 := Srf1.free 4
    have r1_5 := Srf1.cell 5
    have fr1_5 := Srf1.free 5
    have r1_6 := Srf1.cell 6
    have fr1_6 := Srf1.free 6
    have r1_7 := Srf1.cell 7
    have fr1_7 := Srf1.free 7
    have r1_8 := Srf1.cell 8
    have fr1_8 := Srf1.free 8
    have r1_9 := Srf1.cell 9
    have fr1_9 := Srf1.free 9
    have r1_10 := Srf1.cell 10
    have fr1_10 := Srf1.free 10
    have q1_0 := Sqf1.cell 0
    have fq1_0 := Sqf1.free 0
    have q1_1 := Sqf1.cell 1
    have fq1_1 := Sqf1.free 1
    have q1_2 := Sqf1.cell 2
    have fq1_2 := Sqf1.free 2
    have q1_3 := Sqf1.cell 3
    have fq1_3 := Sqf1.free 3
    have o1_0 := Sof1.cell 0
    have o1_1 := Sof1.cell 1
    have o1_2 := Sof1.cell 2
    have o1_3 := Sof1.cell 3
    replace Ssf1 := Lib.hid Ssf1
    replace Sxf1 := Lib.hid Sxf1
    replace Srf1 := Lib.hid Srf1
    replace Sqf1 := Lib.hid Sqf1
    replace Sof1 := Lib.hid Sof1
    go_region
    go_wp2_with fail
    exact bodyPost_ret (v := .tuple #[.agg #[.bool (on), .int .i64 (hi), .int .i64 (sc), .int .u16 (oq), .int .u32 (ot), .int .u16 (op), .int .u8 (ol), .int .u16 (uq), .int .u32 (ut), .int .u16 (up), .int .u8 (ul)], .agg #[.int .u16 (lq), .int .u32 (lt), .int .u16 (lp), .int .u8 (ll)]]) (by simp [results, Try.results82, go_sem, r1_0, r1_1, r1_2, r1_3, r1_4, r1_5, r1_6, r1_7, r1_8, r1_9, r1_10, q1_0, q1_1, q1_2, q1_3]) rfl ⟨rfl, (four_set (eleven_set (HBf1.out) (show w.heap.size ≤ w.heap.size + 1 + 1 by omega) _ _ _ _ _ _ _ _ _ _ _) (show w.heap.size ≤ w.heap.size + 1 + 1 + 1 by omega) _ _ _ _).drew⟩
  go_wp2_with fail
  refine (C2.out _).mono ?_
  rintro e w2 ⟨rfl, b2⟩
  have No : Whole (w1.alloc (.cells #[.int .u16 (lq), .int .u32 (lt), .int .u16 (lp), .int .u8 (ll)] 74)) (w1.heap.size) 74 #[.int .u16 (lq), .int .u32 (lt), .int .u16 (lp), .int .u8 (ll)] := by have := Whole.new w1 74 #[.int .u16 (lq), .int .u32 (lt), .int .u16 (lp), .int .u8 (ll)]; first | with_reducible exact this | simpa using this
  have Ss2 := ((Ss1.out.alloc (.cells #[.int .u16 (lq), .int .u32 (lt), .int .u16 (lp), .int .u8 (ll)] 74))).below b2 (by have := ((Ss1.out.alloc (.cells #[.int .u16 (lq), .int .u32 (lt), .int .u16 (lp), .int .u8 (ll)] 74))).lt; first | with_reducible exact this | simpa using this)
  have Sx2 := ((Sx1.out.alloc (.cells #[.int .u16 (lq), .int .u32 (lt), .int .u16 (lp), .int .u8 (ll)] 74))).below b2 (by have := ((Sx1.out.alloc (.cells #[.int .u16 (lq), .int .u32 (lt), .int .u16 (lp), .int .u8 (ll)] 74))).lt; first | with_reducible exact this | simpa using this)
  have Sr2 := ((Sr1.out.alloc (.cells #[.int .u16 (lq), .int .u32 (lt), .int .u16 (lp), .int .u8 (ll)] 74))).below b2 (by have := ((Sr1.out.alloc (.cells #[.int .u16 (lq), .int .u32 (lt), .int .u16 (lp), .int .u8 (ll)] 74))).lt; first | with_reducible exact this | simpa using this)
  have Sq2 := ((Sq1.out.alloc (.cells #[.int .u16 (lq), .int .u32 (lt), .int .u16 (lp), .int .u8 (ll)] 74))).below b2 (by have := ((Sq1.out.alloc (.cells #[.int .u16 (lq), .int .u32 (lt), .int .u16 (lp), .int .u8 (ll)] 74))).lt; first | with_reducible exact this | simpa using this)
  have So2 := (No).below b2 (by have := (No).lt; first | with_reducible exact this | simpa using this)
  have HB2 := Lib.hid (((HB1.out.alloc (HB1.out).size (.cells #[.int .u16 (lq), .int .u32 (lt), .int .u16 (lp), .int .u8 (ll)] 74))).trans (b2.mono ((HB1.out.alloc (HB1.out).size (.cells #[.int .u16 (lq), .int .u32 (lt), .int .u16 (lp), .int .u8 (ll)] 74))).size))
  have ls2 := Ss2.lt
  have lx2 := Sx2.lt
  have lr2 := Sr2.lt
  have lq2 := Sq2.lt
  have lo2 := So2.lt
  clear b2 s1_0 fs1_0 s1_1 fs1_1 s1_2 fs1_2 s1_3 fs1_3 s1_4 fs1_4 s1_5 fs1_5 s1_6 fs1_6 s1_7 fs1_7 s1_8 fs1_8 s1_9 fs1_9 s1_10 fs1_10 x1_0 fx1_0 x1_1 fx1_1 x1_2 fx1_2 x1_3 fx1_3 r1_0 fr1_0 r1_1 fr1_1 r1_2 fr1_2 r1_3 fr1_3 r1_4 fr1_4 r1_5 fr1_5 r1_6 fr1_6 r1_7 fr1_7 r1_8 fr1_8 r1_9 fr1_9 r1_10 fr1_10 q1_0 fq1_0 q1_1 fq1_1 q1_2 fq1_2 q1_3 fq1_3 Ss1 Sx1 Sr1 Sq1 No HB1 C2
  have s2_0 := Ss2.cell 0
  have fs2_0 := Ss2.free 0
  have s2_1 := Ss2.cell 1
  have fs2_1 := Ss2.free 1
  have s2_2 := Ss2.cell 2
  have fs2_2 := Ss2.free 2
  have s2_3 := Ss2.cell 3
  have fs2_3 := Ss2.free 3
  have s2_4 := Ss2.cell 4
  have fs2_4 := Ss2.free 4
  have s2_5 := Ss2.cell 5
  have fs2_5 := Ss2.free 5
  have s2_6 := Ss2.cell 6
  have fs2_6 := Ss2.free 6
  have s2_7 := Ss2.cell 7
  have fs2_7 := Ss2.free 7
  have s2_8 := Ss2.cell 8
  have fs2_8 := Ss2.free 8
  have s2_9 := Ss2.cell 9
  have fs2_9 := Ss2.free 9
  have s2_10 := Ss2.cell 10
  have fs2_10 := Ss2.free 10
  have x2_0 := Sx2.cell 0
  have fx2_0 := Sx2.free 0
  have x2_1 := Sx2.cell 1
  have fx2_1 := Sx2.free 1
  have x2_2 := Sx2.cell 2
  have fx2_2 := Sx2.free 2
  have x2_3 := Sx2.cell 3
  have fx2_3 := Sx2.free 3
  have r2_0 := Sr2.cell 0
  have fr2_0 := Sr2.free 0
  have r2_1 := Sr2.cell 1
  have fr2_1 := Sr2.free 1
  have r2_2 := Sr2.cell 2
  have fr2_2 := Sr2.free 2
  have r2_3 := Sr2.cell 3
  have fr2_3 := Sr2.free 3
  have r2_4 := Sr2.cell 4
  have fr2_4 := Sr2.free 4
  have r2_5 := Sr2.cell 5
  have fr2_5 := Sr2.free 5
  have r2_6 := Sr2.cell 6
  have fr2_6 := Sr2.free 6
  have r2_7 := Sr2.cell 7
  have fr2_7 := Sr2.free 7
  have r2_8 := Sr2.cell 8
  have fr2_8 := Sr2.free 8
  have r2_9 := Sr2.cell 9
  have fr2_9 := Sr2.free 9
  have r2_10 := Sr2.cell 10
  have fr2_10 := Sr2.free 10
  have q2_0 := Sq2.cell 0
  have fq2_0 := Sq2.free 0
  have q2_1 := Sq2.cell 1
  have fq2_1 := Sq2.free 1
  have q2_2 := Sq2.cell 2
  have fq2_2 := Sq2.free 2
  have q2_3 := Sq2.cell 3
  have fq2_3 := Sq2.free 3
  have o2_0 := So2.cell 0
  have fo2_0 := So2.free 0
  have o2_1 := So2.cell 1
  have fo2_1 := So2.free 1
  have o2_2 := So2.cell 2
  have fo2_2 := So2.free 2
  have o2_3 := So2.cell 3
  have fo2_3 := So2.free 3
  replace Ss2 := Lib.hid Ss2
  replace Sx2 := Lib.hid Sx2
  replace Sr2 := Lib.hid Sr2
  replace Sq2 := Lib.hid Sq2
  replace So2 := Lib.hid So2
  obtain ⟨u, hu⟩ : ∃ u, up32 lt ut = u := ⟨_, rfl⟩
  rw [hu] at P1 P2 ⊢
  clear hu P0
  cases u with
  | false =>
    obtain ⟨rfl, rfl⟩ := P2.out c1 rfl
    clear P1 P2
    dsimp only [Mst.cells, Mn.cells]
    go_wp2_with fail
    go_region
    go_wp2_with fail
    obtain ⟨wf3, hwf⟩ : ∃ z, z = (((((w2.setCell ⟨w.heap.size, 1, none⟩ (.int .i64 (nn))).setCell ⟨w.heap.size, 7, none⟩ (.int .u16 (lq))).setCell ⟨w.heap.size, 8, none⟩ (.int .u32 (lt))).setCell ⟨w.heap.size, 9, none⟩ (.int .u16 (lp))).setCell ⟨w.heap.size, 10, none⟩ (.int .u8 (ll))).drew := ⟨_, rfl⟩
    have Ssf3 := ((show Whole _ _ _ #[.bool (on), .int .i64 (nn), .int .i64 (sc), .int .u16 (oq), .int .u32 (ot), .int .u16 (op), .int .u8 (ol), .int .u16 (lq), .int .u32 (lt), .int .u16 (lp), .int .u8 (ll)] from ((show Whole _ _ _ #[.bool (on), .int .i64 (nn), .int .i64 (sc), .int .u16 (oq), .int .u32 (ot), .int .u16 (op), .int .u8 (ol), .int .u16 (lq), .int .u32 (lt), .int .u16 (lp), .int .u8 (ul)] from ((show Whole _ _ _ #[.bool (on), .int .i64 (nn), .int .i64 (sc), .int .u16 (oq), .int .u32 (ot), .int .u16 (op), .int .u8 (ol), .int .u16 (lq), .int .u32 (lt), .int .u16 (up), .int .u8 (ul)] from ((show Whole _ _ _ #[.bool (on), .int .i64 (nn), .int .i64 (sc), .int .u16 (oq), .int .u32 (ot), .int .u16 (op), .int .u8 (ol), .int .u16 (lq), .int .u32 (ut), .int .u16 (up), .int .u8 (ul)] from ((show Whole _ _ _ #[.bool (on), .int .i64 (nn), .int .i64 (sc), .int .u16 (oq), .int .u32 (ot), .int .u16 (op), .int .u8 (ol), .int .u16 (uq), .int .u32 (ut), .int .u16 (up), .int .u8 (ul)] from (Ss2.out).set 1 (.int .i64 (nn)))).set 7 (.int .u16 (lq)))).set 8 (.int .u32 (lt)))).set 9 (.int .u16 (lp)))).set 10 (.int .u8 (ll)))).drew
    have Sxf3 := (((((((((((Sx2.out).far (p := ⟨w.heap.size, 1, none⟩) (show w.heap.size + 1 ≠ w.heap.size from by omega) (.int .i64 (nn)))).far (p := ⟨w.heap.size, 7, none⟩) (show w.heap.size + 1 ≠ w.heap.size from by omega) (.int .u16 (lq)))).far (p := ⟨w.heap.size, 8, none⟩) (show w.heap.size + 1 ≠ w.heap.size from by omega) (.int .u32 (lt)))).far (p := ⟨w.heap.size, 9, none⟩) (show w.heap.size + 1 ≠ w.heap.size from by omega) (.int .u16 (lp)))).far (p := ⟨w.heap.size, 10, none⟩) (show w.heap.size + 1 ≠ w.heap.size from by omega) (.int .u8 (ll)))).drew
    have Srf3 := (((((((((((Sr2.out).far (p := ⟨w.heap.size, 1, none⟩) (show w.heap.size + 1 + 1 ≠ w.heap.size from by omega) (.int .i64 (nn)))).far (p := ⟨w.heap.size, 7, none⟩) (show w.heap.size + 1 + 1 ≠ w.heap.size from by omega) (.int .u16 (lq)))).far (p := ⟨w.heap.size, 8, none⟩) (show w.heap.size + 1 + 1 ≠ w.heap.size from by omega) (.int .u32 (lt)))).far (p := ⟨w.heap.size, 9, none⟩) (show w.heap.size + 1 + 1 ≠ w.heap.size from by omega) (.int .u16 (lp)))).far (p := ⟨w.heap.size, 10, none⟩) (show w.heap.size + 1 + 1 ≠ w.heap.size from by omega) (.int .u8 (ll)))).drew
    have Sqf3 := (((((((((((Sq2.out).far (p := ⟨w.heap.size, 1, none⟩) (show w.heap.size + 1 + 1 + 1 ≠ w.heap.size from by omega) (.int .i64 (nn)))).far (p := ⟨w.heap.size, 7, none⟩) (show w.heap.size + 1 + 1 + 1 ≠ w.heap.size from by omega) (.int .u16 (lq)))).far (p := ⟨w.heap.size, 8, none⟩) (show w.heap.size + 1 + 1 + 1 ≠ w.heap.size from by omega) (.int .u32 (lt)))).far (p := ⟨w.heap.size, 9, none⟩) (show w.heap.size + 1 + 1 + 1 ≠ w.heap.size from by omega) (.int .u16 (lp)))).far (p := ⟨w.heap.size, 10, none⟩) (show w.heap.size + 1 + 1 + 1 ≠ w.heap.size from by omega) (.int .u8 (ll)))).drew
    have Sof3 := (((((((((((So2.out).far (p := ⟨w.heap.size, 1, none⟩) (show w1.heap.size ≠ w.heap.size from by omega) (.int .i64 (nn)))).far (p := ⟨w.heap.size, 7, none⟩) (show w1.heap.size ≠ w.heap.size from by omega) (.int .u16 (lq)))).far (p := ⟨w.heap.size, 8, none⟩) (show w1.heap.size ≠ w.heap.size from by omega) (.int .u32 (lt)))).far (p := ⟨w.heap.size, 9, none⟩) (show w1.heap.size ≠ w.heap.size from by omega) (.int .u16 (lp)))).far (p := ⟨w.heap.size, 10, none⟩) (show w1.heap.size ≠ w.heap.size from by omega) (.int .u8 (ll)))).drew
    have HBf3 := (((((((((((HB2.out).setCell (p := ⟨w.heap.size, 1, none⟩) (show w.heap.size ≤ w.heap.size from by omega) (.int .i64 (nn)))).setCell (p := ⟨w.heap.size, 7, none⟩) (show w.heap.size ≤ w.heap.size from by omega) (.int .u16 (lq)))).setCell (p := ⟨w.heap.size, 8, none⟩) (show w.heap.size ≤ w.heap.size from by omega) (.int .u32 (lt)))).setCell (p := ⟨w.heap.size, 9, none⟩) (show w.heap.size ≤ w.heap.size from by omega) (.int .u16 (lp)))).setCell (p := ⟨w.heap.size, 10, none⟩) (show w.heap.size ≤ w.heap.size from by omega) (.int .u8 (ll)))).drew
    rw [← hwf] at Ssf3 Sxf3 Srf3 Sqf3 Sof3 HBf3 ⊢
    clear hwf
    clear s2_0 fs2_0 s2_1 fs2_1 s2_2 fs2_2 s2_3 fs2_3 s2_4 fs2_4 s2_5 fs2_5 s2_6 fs2_6 s2_7 fs2_7 s2_8 fs2_8 s2_9 fs2_9 s2_10 fs2_10 x2_0 fx2_0 x2_1 fx2_1 x2_2 fx2_2 x2_3 fx2_3 r2_0 fr2_0 r2_1 fr2_1 r2_2 fr2_2 r2_3 fr2_3 r2_4 fr2_4 r2_5 fr2_5 r2_6 fr2_6 r2_7 fr2_7 r2_8 fr2_8 r2_9 fr2_9 r2_10 fr2_10 q2_0 fq2_0 q2_1 fq2_1 q2_2 fq2_2 q2_3 fq2_3 o2_0 fo2_0 o2_1 fo2_1 o2_2 fo2_2 o2_3 fo2_3 Ss2 Sx2 Sr2 Sq2 So2 HB2
    have lsf3 := Ssf3.lt
    have lxf3 := Sxf3.lt
    have lrf3 := Srf3.lt
    have lqf3 := Sqf3.lt
    have lof3 := Sof3.lt
    replace HBf3 := Lib.hid HBf3
    have s3_0 := Ssf3.cell 0
    have s3_1 := Ssf3.cell 1
    have s3_2 := Ssf3.cell 2
    have s3_3 := Ssf3.cell 3
    have s3_4 := Ssf3.cell 4
    have s3_5 := Ssf3.cell 5
    have s3_6 := Ssf3.cell 6
    have s3_7 := Ssf3.cell 7
    have s3_8 := Ssf3.cell 8
    have s3_9 := Ssf3.cell 9
    have s3_10 := Ssf3.cell 10
    have r3_0 := Srf3.cell 0
    have fr3_0 := Srf3.free 0
    have r3_1 := Srf3.cell 1
    have fr3_1 := Srf3.free 1
    have r3_2 := Srf3.cell 2
    have fr3_2 := Srf3.free 2
    have r3_3 := Srf3.cell 3
    have fr3_3 := Srf3.free 3
    have r3_4 := Srf3.cell 4
    have fr3_4 := Srf3.free 4
    have r3_5 := Srf3.cell 5
    have fr3_5 := Srf3.free 5
    have r3_6 := Srf3.cell 6
    have fr3_6 := Srf3.free 6
    have r3_7 := Srf3.cell 7
    have fr3_7 := Srf3.free 7
    have r3_8 := Srf3.cell 8
    have fr3_8 := Srf3.free 8
    have r3_9 := Srf3.cell 9
    have fr3_9 := Srf3.free 9
    have r3_10 := Srf3.cell 10
    have fr3_10 := Srf3.free 10
    have q3_0 := Sqf3.cell 0
    have fq3_0 := Sqf3.free 0
    have q3_1 := Sqf3.cell 1
    have fq3_1 := Sqf3.free 1
    have q3_2 := Sqf3.cell 2
    have fq3_2 := Sqf3.free 2
    have q3_3 := Sqf3.cell 3
    have fq3_3 := Sqf3.free 3
    have o3_0 := Sof3.cell 0
    have o3_1 := Sof3.cell 1
    have o3_2 := Sof3.cell 2
    have o3_3 := Sof3.cell 3
    replace Ssf3 := Lib.hid Ssf3
    replace Sxf3 := Lib.hid Sxf3
    replace Srf3 := Lib.hid Srf3
    replace Sqf3 := Lib.hid Sqf3
    replace Sof3 := Lib.hid Sof3
    go_region
    go_wp2_with fail
    exact bodyPost_ret (v := .tuple #[.agg #[.bool (on), .int .i64 (nn), .int .i64 (sc), .int .u16 (oq), .int .u32 (ot), .int .u16 (op), .int .u8 (ol), .int .u16 (lq), .int .u32 (lt), .int .u16 (lp), .int .u8 (ll)], .agg #[.int .u16 (lq), .int .u32 (lt), .int .u16 (lp), .int .u8 (ll)]]) (by simp [results, Try.results82, go_sem, r3_0, r3_1, r3_2, r3_3, r3_4, r3_5, r3_6, r3_7, r3_8, r3_9, r3_10, q3_0, q3_1, q3_2, q3_3, s3_0, s3_1, s3_2, s3_3, s3_4, s3_5, s3_6, s3_7, s3_8, s3_9, s3_10]) rfl ⟨rfl, (four_set (eleven_set (HBf3.out) (show w.heap.size ≤ w.heap.size + 1 + 1 by omega) _ _ _ _ _ _ _ _ _ _ _) (show w.heap.size ≤ w.heap.size + 1 + 1 + 1 by omega) _ _ _ _).drew⟩
  | true =>
    obtain ⟨rfl, rfl⟩ := P1.out c1 rfl
    clear P1 P2
    dsimp only [Mst.cells, Mn.cells]
    go_wp2_with fail
    go_region
    go_wp2_with fail
    obtain ⟨wf3, hwf⟩ : ∃ z, z = ((((((w2.setCell ⟨w1.heap.size, 1, none⟩ (.int .u32 (ut))).setCell ⟨w.heap.size, 1, none⟩ (.int .i64 (nn))).setCell ⟨w.heap.size, 7, none⟩ (.int .u16 (lq))).setCell ⟨w.heap.size, 8, none⟩ (.int .u32 (ut))).setCell ⟨w.heap.size, 9, none⟩ (.int .u16 (lp))).setCell ⟨w.heap.size, 10, none⟩ (.int .u8 (ll))).drew := ⟨_, rfl⟩
    have Ssf3 := ((show Whole _ _ _ #[.bool (on), .int .i64 (nn), .int .i64 (sc), .int .u16 (oq), .int .u32 (ot), .int .u16 (op), .int .u8 (ol), .int .u16 (lq), .int .u32 (ut), .int .u16 (lp), .int .u8 (ll)] from ((show Whole _ _ _ #[.bool (on), .int .i64 (nn), .int .i64 (sc), .int .u16 (oq), .int .u32 (ot), .int .u16 (op), .int .u8 (ol), .int .u16 (lq), .int .u32 (ut), .int .u16 (lp), .int .u8 (ul)] from ((show Whole _ _ _ #[.bool (on), .int .i64 (nn), .int .i64 (sc), .int .u16 (oq), .int .u32 (ot), .int .u16 (op), .int .u8 (ol), .int .u16 (lq), .int .u32 (ut), .int .u16 (up), .int .u8 (ul)] from ((show Whole _ _ _ #[.bool (on), .int .i64 (nn), .int .i64 (sc), .int .u16 (oq), .int .u32 (ot), .int .u16 (op), .int .u8 (ol), .int .u16 (lq), .int .u32 (ut), .int .u16 (up), .int .u8 (ul)] from ((show Whole _ _ _ #[.bool (on), .int .i64 (nn), .int .i64 (sc), .int .u16 (oq), .int .u32 (ot), .int .u16 (op), .int .u8 (ol), .int .u16 (uq), .int .u32 (ut), .int .u16 (up), .int .u8 (ul)] from (((Ss2.out).far (p := ⟨w1.heap.size, 1, none⟩) (show w.heap.size ≠ w1.heap.size from by omega) (.int .u32 (ut)))).set 1 (.int .i64 (nn)))).set 7 (.int .u16 (lq)))).set 8 (.int .u32 (ut)))).set 9 (.int .u16 (lp)))).set 10 (.int .u8 (ll)))).drew
    have Sxf3 := (((((((((((((Sx2.out).far (p := ⟨w1.heap.size, 1, none⟩) (show w.heap.size + 1 ≠ w1.heap.size from by omega) (.int .u32 (ut)))).far (p := ⟨w.heap.size, 1, none⟩) (show w.heap.size + 1 ≠ w.heap.size from by omega) (.int .i64 (nn)))).far (p := ⟨w.heap.size, 7, none⟩) (show w.heap.size + 1 ≠ w.heap.size from by omega) (.int .u16 (lq)))).far (p := ⟨w.heap.size, 8, none⟩) (show w.heap.size + 1 ≠ w.heap.size from by omega) (.int .u32 (ut)))).far (p := ⟨w.heap.size, 9, none⟩) (show w.heap.size + 1 ≠ w.heap.size from by omega) (.int .u16 (lp)))).far (p := ⟨w.heap.size, 10, none⟩) (show w.heap.size + 1 ≠ w.heap.size from by omega) (.int .u8 (ll)))).drew
    have Srf3 := (((((((((((((Sr2.out).far (p := ⟨w1.heap.size, 1, none⟩) (show w.heap.size + 1 + 1 ≠ w1.heap.size from by omega) (.int .u32 (ut)))).far (p := ⟨w.heap.size, 1, none⟩) (show w.heap.size + 1 + 1 ≠ w.heap.size from by omega) (.int .i64 (nn)))).far (p := ⟨w.heap.size, 7, none⟩) (show w.heap.size + 1 + 1 ≠ w.heap.size from by omega) (.int .u16 (lq)))).far (p := ⟨w.heap.size, 8, none⟩) (show w.heap.size + 1 + 1 ≠ w.heap.size from by omega) (.int .u32 (ut)))).far (p := ⟨w.heap.size, 9, none⟩) (show w.heap.size + 1 + 1 ≠ w.heap.size from by omega) (.int .u16 (lp)))).far (p := ⟨w.heap.size, 10, none⟩) (show w.heap.size + 1 + 1 ≠ w.heap.size from by omega) (.int .u8 (ll)))).drew
    have Sqf3 := (((((((((((((Sq2.out).far (p := ⟨w1.heap.size, 1, none⟩) (show w.heap.size + 1 + 1 + 1 ≠ w1.heap.size from by omega) (.int .u32 (ut)))).far (p := ⟨w.heap.size, 1, none⟩) (show w.heap.size + 1 + 1 + 1 ≠ w.heap.size from by omega) (.int .i64 (nn)))).far (p := ⟨w.heap.size, 7, none⟩) (show w.heap.size + 1 + 1 + 1 ≠ w.heap.size from by omega) (.int .u16 (lq)))).far (p := ⟨w.heap.size, 8, none⟩) (show w.heap.size + 1 + 1 + 1 ≠ w.heap.size from by omega) (.int .u32 (ut)))).far (p := ⟨w.heap.size, 9, none⟩) (show w.heap.size + 1 + 1 + 1 ≠ w.heap.size from by omega) (.int .u16 (lp)))).far (p := ⟨w.heap.size, 10, none⟩) (show w.heap.size + 1 + 1 + 1 ≠ w.heap.size from by omega) (.int .u8 (ll)))).drew
    have Sof3 := ((((((((((((show Whole _ _ _ #[.int .u16 (lq), .int .u32 (ut), .int .u16 (lp), .int .u8 (ll)] from (So2.out).set 1 (.int .u32 (ut)))).far (p := ⟨w.heap.size, 1, none⟩) (show w1.heap.size ≠ w.heap.size from by omega) (.int .i64 (nn)))).far (p := ⟨w.heap.size, 7, none⟩) (show w1.heap.size ≠ w.heap.size from by omega) (.int .u16 (lq)))).far (p := ⟨w.heap.size, 8, none⟩) (show w1.heap.size ≠ w.heap.size from by omega) (.int .u32 (ut)))).far (p := ⟨w.heap.size, 9, none⟩) (show w1.heap.size ≠ w.heap.size from by omega) (.int .u16 (lp)))).far (p := ⟨w.heap.size, 10, none⟩) (show w1.heap.size ≠ w.heap.size from by omega) (.int .u8 (ll)))).drew
    have HBf3 := (((((((((((((HB2.out).setCell (p := ⟨w1.heap.size, 1, none⟩) (show w.heap.size ≤ w1.heap.size from by omega) (.int .u32 (ut)))).setCell (p := ⟨w.heap.size, 1, none⟩) (show w.heap.size ≤ w.heap.size from by omega) (.int .i64 (nn)))).setCell (p := ⟨w.heap.size, 7, none⟩) (show w.heap.size ≤ w.heap.size from by omega) (.int .u16 (lq)))).setCell (p := ⟨w.heap.size, 8, none⟩) (show w.heap.size ≤ w.heap.size from by omega) (.int .u32 (ut)))).setCell (p := ⟨w.heap.size, 9, none⟩) (show w.heap.size ≤ w.heap.size from by omega) (.int .u16 (lp)))).setCell (p := ⟨w.heap.size, 10, none⟩) (show w.heap.size ≤ w.heap.size from by omega) (.int .u8 (ll)))).drew
    rw [← hwf] at Ssf3 Sxf3 Srf3 Sqf3 Sof3 HBf3 ⊢
    clear hwf
    clear s2_0 fs2_0 s2_1 fs2_1 s2_2 fs2_2 s2_3 fs2_3 s2_4 fs2_4 s2_5 fs2_5 s2_6 fs2_6 s2_7 fs2_7 s2_8 fs2_8 s2_9 fs2_9 s2_10 fs2_10 x2_0 fx2_0 x2_1 fx2_1 x2_2 fx2_2 x2_3 fx2_3 r2_0 fr2_0 r2_1 fr2_1 r2_2 fr2_2 r2_3 fr2_3 r2_4 fr2_4 r2_5 fr2_5 r2_6 fr2_6 r2_7 fr2_7 r2_8 fr2_8 r2_9 fr2_9 r2_10 fr2_10 q2_0 fq2_0 q2_1 fq2_1 q2_2 fq2_2 q2_3 fq2_3 o2_0 fo2_0 o2_1 fo2_1 o2_2 fo2_2 o2_3 fo2_3 Ss2 Sx2 Sr2 Sq2 So2 HB2
    have lsf3 := Ssf3.lt
    have lxf3 := Sxf3.lt
    have lrf3 := Srf3.lt
    have lqf3 := Sqf3.lt
    have lof3 := Sof3.lt
    replace HBf3 := Lib.hid HBf3
    have s3_0 := Ssf3.cell 0
    have s3_1 := Ssf3.cell 1
    have s3_2 := Ssf3.cell 2
    have s3_3 := Ssf3.cell 3
    have s3_4 := Ssf3.cell 4
    have s3_5 := Ssf3.cell 5
    have s3_6 := Ssf3.cell 6
    have s3_7 := Ssf3.cell 7
    have s3_8 := Ssf3.cell 8
    have s3_9 := Ssf3.cell 9
    have s3_10 := Ssf3.cell 10
    have r3_0 := Srf3.cell 0
    have fr3_0 := Srf3.free 0
    have r3_1 := Srf3.cell 1
    have fr3_1 := Srf3.free 1
    have r3_2 := Srf3.cell 2
    have fr3_2 := Srf3.free 2
    have r3_3 := Srf3.cell 3
    have fr3_3 := Srf3.free 3
    have r3_4 := Srf3.cell 4
    have fr3_4 := Srf3.free 4
    have r3_5 := Srf3.cell 5
    have fr3_5 := Srf3.free 5
    have r3_6 := Srf3.cell 6
    have fr3_6 := Srf3.free 6
    have r3_7 := Srf3.cell 7
    have fr3_7 := Srf3.free 7
    have r3_8 := Srf3.cell 8
    have fr3_8 := Srf3.free 8
    have r3_9 := Srf3.cell 9
    have fr3_9 := Srf3.free 9
    have r3_10 := Srf3.cell 10
    have fr3_10 := Srf3.free 10
    have q3_0 := Sqf3.cell 0
    have fq3_0 := Sqf3.free 0
    have q3_1 := Sqf3.cell 1
    have fq3_1 := Sqf3.free 1
    have q3_2 := Sqf3.cell 2
    have fq3_2 := Sqf3.free 2
    have q3_3 := Sqf3.cell 3
    have fq3_3 := Sqf3.free 3
    have o3_0 := Sof3.cell 0
    have o3_1 := Sof3.cell 1
    have o3_2 := Sof3.cell 2
    have o3_3 := Sof3.cell 3
    replace Ssf3 := Lib.hid Ssf3
    replace Sxf3 := Lib.hid Sxf3
    replace Srf3 := Lib.hid Srf3
    replace Sqf3 := Lib.hid Sqf3
    replace Sof3 := Lib.hid Sof3
    go_region
    go_wp2_with fail
    exact bodyPost_ret (v := .tuple #[.agg #[.bool (on), .int .i64 (nn), .int .i64 (sc), .int .u16 (oq), .int .u32 (ot), .int .u16 (op), .int .u8 (ol), .int .u16 (lq), .int .u32 (ut), .int .u16 (lp), .int .u8 (ll)], .agg #[.int .u16 (lq), .int .u32 (ut), .int .u16 (lp), .int .u8 (ll)]]) (by simp [results, Try.results82, go_sem, r3_0, r3_1, r3_2, r3_3, r3_4, r3_5, r3_6, r3_7, r3_8, r3_9, r3_10, q3_0, q3_1, q3_2, q3_3, s3_0, s3_1, s3_2, s3_3, s3_4, s3_5, s3_6, s3_7, s3_8, s3_9, s3_10]) rfl ⟨rfl, (four_set (eleven_set (HBf3.out) (show w.heap.size ≤ w.heap.size + 1 + 1 by omega) _ _ _ _ _ _ _ _ _ _ _) (show w.heap.size ≤ w.heap.size + 1 + 1 + 1 by omega) _ _ _ _).drew⟩
end Go.Proofs.Yticnaljfnjiofaa
