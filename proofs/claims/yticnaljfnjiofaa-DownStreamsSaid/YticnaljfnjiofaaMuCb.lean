/-
  Contracts of the program's calls of layer 13: what a state comes to by Switch, Send and Drop, and what is told.
-/
import Derived.Test.YticnaljfnjiofaaMuCa
import Derived.RegionTactic
import Derived.Deep.RegionHeld3
import Derived.Deep.CutBlock
import Derived.Deep.QuietTactic
import Derived.BigQuiet
namespace Go.Proofs.Yticnaljfnjiofaa
open Go.RowKit
set_option linter.unusedSimpArgs false
set_option linter.unusedVariables false
set_option maxRecDepth 100000

set_option maxHeartbeats 3200000 in
theorem mswitch_any (s : Mst) (x : Mn) (st : Int) (hs : s.Parts) (hx : x.Fit) (ht : 0 ≤ st ∧ st < 4294967296) (w : World) : Calls Try.prog 59 #[.agg s.cells, .agg x.cells, .int .u32 st] w fun e w' => e = .returned (.tuple #[.agg (s.switchS x st).cells, .agg (s.begins x st).cells]) ∧ Below w.heap.size w w' := by
  have C1 := Lib.hid (fun w => mfirst_any s x st w)
  have C2 := Lib.hid (fun w => mtaken_any (s.begins x st) x w)
  obtain ⟨o, ho⟩ : ∃ o, s.begins x st = o := ⟨_, rfl⟩
  obtain ⟨l, hl⟩ : ∃ l, x.less o = l := ⟨_, rfl⟩
  have hsw : s.switchS x st = ⟨true, x.seq, x.seq, l, o⟩ := by unfold Mst.switchS; rw [ho, hl]
  rw [hsw, ho]
  rw [ho] at C1
  rw [ho, hl] at C2
  have q1 := hx.seq.1
  have q2 := hx.seq.2
  clear ho hl hsw hs hx ht
  obtain ⟨on, hi, sc, ⟨oq, ot, op, ol⟩, ⟨uq, ut, up, ul⟩⟩ := s
  obtain ⟨xq, xt, xp, xl⟩ := x
  obtain ⟨vq, vt, vp, vl⟩ := o
  obtain ⟨lq, lt, lp, ll⟩ := l
  dsimp only [Mst.cells, Mn.cells] at *
  go_enter Try.func59, Try.ntmps59
  go_wp2_with fail
  refine (C1.out _).mono ?_
  rintro e w1 ⟨rfl, b1⟩
  have Ns : Whole (w.alloc (.cells #[.bool (on), .int .i64 (hi), .int .i64 (sc), .int .u16 (oq), .int .u32 (ot), .int .u16 (op), .int .u8 (ol), .int .u16 (uq), .int .u32 (ut), .int .u16 (up), .int .u8 (ul)] 76)) (w.heap.size) 76 #[.bool (on), .int .i64 (hi), .int .i64 (sc), .int .u16 (oq), .int .u32 (ot), .int .u16 (op), .int .u8 (ol), .int .u16 (uq), .int .u32 (ut), .int .u16 (up), .int .u8 (ul)] := by have := Whole.new w 76 #[.bool (on), .int .i64 (hi), .int .i64 (sc), .int .u16 (oq), .int .u32 (ot), .int .u16 (op), .int .u8 (ol), .int .u16 (uq), .int .u32 (ut), .int .u16 (up), .int .u8 (ul)]; first | with_reducible exact this | simpa using this
  have Nx : Whole ((w.alloc (.cells #[.bool (on), .int .i64 (hi), .int .i64 (sc), .int .u16 (oq), .int .u32 (ot), .int .u16 (op), .int .u8 (ol), .int .u16 (uq), .int .u32 (ut), .int .u16 (up), .int .u8 (ul)] 76)).alloc (.cells #[.int .u16 (xq), .int .u32 (xt), .int .u16 (xp), .int .u8 (xl)] 74)) (w.heap.size + 1) 74 #[.int .u16 (xq), .int .u32 (xt), .int .u16 (xp), .int .u8 (xl)] := by have := Whole.new (w.alloc (.cells #[.bool (on), .int .i64 (hi), .int .i64 (sc), .int .u16 (oq), .int .u32 (ot), .int .u16 (op), .int .u8 (ol), .int .u16 (uq), .int .u32 (ut), .int .u16 (up), .int .u8 (ul)] 76)) 74 #[.int .u16 (xq), .int .u32 (xt), .int .u16 (xp), .int .u8 (xl)]; first | with_reducible exact this | simpa using this
  have Nr : Whole (((w.alloc (.cells #[.bool (on), .int .i64 (hi), .int .i64 (sc), .int .u16 (oq), .int .u32 (ot), .int .u16 (op), .int .u8 (ol), .int .u16 (uq), .int .u32 (ut), .int .u16 (up), .int .u8 (ul)] 76)).alloc (.cells #[.int .u16 (xq), .int .u32 (xt), .int .u16 (xp), .int .u8 (xl)] 74)).alloc (.cells #[.bool (false), .int .i64 (0), .int .i64 (0), .int .u16 (0), .int .u32 (0), .int .u16 (0), .int .u8 (0), .int .u16 (0), .int .u32 (0), .int .u16 (0), .int .u8 (0)] 76)) (w.heap.size + 1 + 1) 76 #[.bool (false), .int .i64 (0), .int .i64 (0), .int .u16 (0), .int .u32 (0), .int .u16 (0), .int .u8 (0), .int .u16 (0), .int .u32 (0), .int .u16 (0), .int .u8 (0)] := by have := Whole.new ((w.alloc (.cells #[.bool (on), .int .i64 (hi), .int .i64 (sc), .int .u16 (oq), .int .u32 (ot), .int .u16 (op), .int .u8 (ol), .int .u16 (uq), .int .u32 (ut), .int .u16 (up), .int .u8 (ul)] 76)).alloc (.cells #[.int .u16 (xq), .int .u32 (xt), .int .u16 (xp), .int .u8 (xl)] 74)) 76 #[.bool (false), .int .i64 (0), .int .i64 (0), .int .u16 (0), .int .u32 (0), .int .u16 (0), .int .u8 (0), .int .u16 (0), .int .u32 (0), .int .u16 (0), .int .u8 (0)]; first | with_reducible exact this | simpa using this
  have Nq : Whole ((((w.alloc (.cells #[.bool (on), .int .i64 (hi), .int .i64 (sc), .int .u16 (oq), .int .u32 (ot), .int .u16 (op), .int .u8 (ol), .int .u16 (uq), .int .u32 (ut), .int .u16 (up), .int .u8 (ul)] 76)).alloc (.cells #[.int .u16 (xq), .int .u32 (xt), .int .u16 (xp), .int .u8 (xl)] 74)).alloc (.cells #[.bool (false), .int .i64 (0), .int .i64 (0), .int .u16 (0), .int .u32 (0), .int .u16 (0), .int .u8 (0), .int .u16 (0), .int .u32 (0), .int .u16 (0), .int .u8 (0)] 76)).alloc (.cells #[.int .u16 (0), .int .u32 (0), .int .u16 (0), .int .u8 (0)] 74)) (w.heap.size + 1 + 1 + 1) 74 #[.int .u16 (0), .int .u32 (0), .int .u16 (0), .int .u8 (0)] := by have := Whole.new (((w.alloc (.cells #[.bool (on), .int .i64 (hi), .int .i64 (sc), .int .u16 (oq), .int .u32 (ot), .int .u16 (op), .int .u8 (ol), .int .u16 (uq), .int .u32 (ut), .int .u16 (up), .int .u8 (ul)] 76)).alloc (.cells #[.int .u16 (xq), .int .u32 (xt), .int .u16 (xp), .int .u8 (xl)] 74)).alloc (.cells #[.bool (false), .int .i64 (0), .int .i64 (0), .int .u16 (0), .int .u32 (0), .int .u16 (0), .int .u8 (0), .int .u16 (0), .int .u32 (0), .int .u16 (0), .int .u8 (0)] 76)) 74 #[.int .u16 (0), .int .u32 (0), .int .u16 (0), .int .u8 (0)]; first | with_reducible exact this | simpa using this
  have Ss1 := ((((Ns.alloc (.cells #[.int .u16 (xq), .int .u32 (xt), .int .u16 (xp), .int .u8 (xl)] 74)).alloc (.cells #[.bool (false), .int .i64 (0), .int .i64 (0), .int .u16 (0), .int .u32 (0), .int .u16 (0), .int .u8 (0), .int .u16 (0), .int .u32 (0), .int .u16 (0), .int .u8 (0)] 76)).alloc (.cells #[.int .u16 (0), .int .u32 (0), .int .u16 (0), .int .u8 (0)] 74))).below b1 (by have := ((((Ns.alloc (.cells #[.int .u16 (xq), .int .u32 (xt), .int .u16 (xp), .int .u8 (xl)] 74)).alloc (.cells #[.bool (false), .int .i64 (0), .int .i64 (0), .int .u16 (0), .int .u32 (0), .int .u16 (0), .int .u8 (0), .int .u16 (0), .int .u32 (0), .int .u16 (0), .int .u8 (0)] 76)).alloc (.cells #[.int .u16 (0), .int .u32 (0), .int .u16 (0), .int .u8 (0)] 74))).lt; first | with_reducible exact this | simpa using this)
  have Sx1 := (((Nx.alloc (.cells #[.bool (false), .int .i64 (0), .int .i64 (0), .int .u16 (0), .int .u32 (0), .int .u16 (0), .int .u8 (0), .int .u16 (0), .int .u32 (0), .int .u16 (0), .int .u8 (0)] 76)).alloc (.cells #[.int .u16 (0), .int .u32 (0), .int .u16 (0), .int .u8 (0)] 74))).below b1 (by have := (((Nx.alloc (.cells #[.bool (false), .int .i64 (0), .int .i64 (0), .int .u16 (0), .int .u32 (0), .int .u16 (0), .int .u8 (0), .int .u16 (0), .int .u32 (0), .int .u16 (0), .int .u8 (0)] 76)).alloc (.cells #[.int .u16 (0), .int .u32 (0), .int .u16 (0), .int .u8 (0)] 74))).lt; first | with_reducible exact this | simpa using this)
  have Sr1 := ((Nr.alloc (.cells #[.int .u16 (0), .int .u32 (0), .int .u16 (0), .int .u8 (0)] 74))).below b1 (by have := ((Nr.alloc (.cells #[.int .u16 (0), .int .u32 (0), .int .u16 (0), .int .u8 (0)] 74))).lt; first | with_reducible exact this | simpa using this)
  have Sq1 := (Nq).below b1 (by have := (Nq).lt; first | with_reducible exact this | simpa using this)
  have HB1 := Lib.hid (((((((Below.refl w.heap.size w).alloc ((Below.refl w.heap.size w)).size (.cells #[.bool (on), .int .i64 (hi), .int .i64 (sc), .int .u16 (oq), .int .u32 (ot), .int .u16 (op), .int .u8 (ol), .int .u16 (uq), .int .u32 (ut), .int .u16 (up), .int .u8 (ul)] 76)).alloc (((Below.refl w.heap.size w).alloc ((Below.refl w.heap.size w)).size (.cells #[.bool (on), .int .i64 (hi), .int .i64 (sc), .int .u16 (oq), .int .u32 (ot), .int .u16 (op), .int .u8 (ol), .int .u16 (uq), .int .u32 (ut), .int .u16 (up), .int .u8 (ul)] 76))).size (.cells #[.int .u16 (xq), .int .u32 (xt), .int .u16 (xp), .int .u8 (xl)] 74)).alloc ((((Below.refl w.heap.size w).alloc ((Below.refl w.heap.size w)).size (.cells #[.bool (on), .int .i64 (hi), .int .i64 (sc), .int .u16 (oq), .int .u32 (ot), .int .u16 (op), .int .u8 (ol), .int .u16 (uq), .int .u32 (ut), .int .u16 (up), .int .u8 (ul)] 76)).alloc (((Below.refl w.heap.size w).alloc ((Below.refl w.heap.size w)).size (.cells #[.bool (on), .int .i64 (hi), .int .i64 (sc), .int .u16 (oq), .int .u32 (ot), .int .u16 (op), .int .u8 (ol), .int .u16 (uq), .int .u32 (ut), .int .u16 (up), .int .u8 (ul)] 76))).size (.cells #[.int .u16 (xq), .int .u32 (xt), .int .u16 (xp), .int .u8 (xl)] 74))).size (.cells #[.bool (false), .int .i64 (0), .int .i64 (0), .int .u16 (0), .int .u32 (0), .int .u16 (0), .int .u8 (0), .int .u16 (0), .int .u32 (0), .int .u16 (0), .int .u8 (0)] 76)).alloc (((((Below.refl w.heap.size w).alloc ((Below.refl w.heap.size w)).size (.cells #[.bool (on), .int .i64 (hi), .int .i64 (sc), .int .u16 (oq), .int .u32 (ot), .int .u16 (op), .int .u8 (ol), .int .u16 (uq), .int .u32 (ut), .int .u16 (up), .int .u8 (ul)] 76)).alloc (((Below.refl w.heap.size w).alloc ((Below.refl w.heap.size w)).size (.cells #[.bool (on), .int .i64 (hi), .int .i64 (sc), .int .u16 (oq), .int .u32 (ot), .int .u16 (op), .int .u8 (ol), .int .u16 (uq), .int .u32 (ut), .int .u16 (up), .int .u8 (ul)] 76))).size (.cells #[.int .u16 (xq), .int .u32 (xt), .int .u16 (xp), .int .u8 (xl)] 74)).alloc ((((Below.refl w.heap.size w).alloc ((Below.refl w.heap.size w)).size (.cells #[.bool (on), .int .i64 (hi), .int .i64 (sc), .int .u16 (oq), .int .u32 (ot), .int .u16 (op), .int .u8 (ol), .int .u16 (uq), .int .u32 (ut), .int .u16 (up), .int .u8 (ul)] 76)).alloc (((Below.refl w.heap.size w).alloc ((Below.refl w.heap.size w)).size (.cells #[.bool (on), .int .i64 (hi), .int .i64 (sc), .int .u16 (oq), .int .u32 (ot), .int .u16 (op), .int .u8 (ol), .int .u16 (uq), .int .u32 (ut), .int .u16 (up), .int .u8 (ul)] 76))).size (.cells #[.int .u16 (xq), .int .u32 (xt), .int .u16 (xp), .int .u8 (xl)] 74))).size (.cells #[.bool (false), .int .i64 (0), .int .i64 (0), .int .u16 (0), .int .u32 (0), .int .u16 (0), .int .u8 (0), .int .u16 (0), .int .u32 (0), .int .u16 (0), .int .u8 (0)] 76))).size (.cells #[.int .u16 (0), .int .u32 (0), .int .u16 (0), .int .u8 (0)] 74))).trans (b1.mono ((((((Below.refl w.heap.size w).alloc ((Below.refl w.heap.size w)).size (.cells #[.bool (on), .int .i64 (hi), .int .i64 (sc), .int .u16 (oq), .int .u32 (ot), .int .u16 (op), .int .u8 (ol), .int .u16 (uq), .int .u32 (ut), .int .u16 (up), .int .u8 (ul)] 76)).alloc (((Below.refl w.heap.size w).alloc ((Below.refl w.heap.size w)).size (.cells #[.bool (on), .int .i64 (hi), .int .i64 (sc), .int .u16 (oq), .int .u32 (ot), .int .u16 (op), .int .u8 (ol), .int .u16 (uq), .int .u32 (ut), .int .u16 (up), .int .u8 (ul)] 76))).size (.cells #[.int .u16 (xq), .int .u32 (xt), .int .u16 (xp), .int .u8 (xl)] 74)).alloc ((((Below.refl w.heap.size w).alloc ((Below.refl w.heap.size w)).size (.cells #[.bool (on), .int .i64 (hi), .int .i64 (sc), .int .u16 (oq), .int .u32 (ot), .int .u16 (op), .int .u8 (ol), .int .u16 (uq), .int .u32 (ut), .int .u16 (up), .int .u8 (ul)] 76)).alloc (((Below.refl w.heap.size w).alloc ((Below.refl w.heap.size w)).size (.cells #[.bool (on), .int .i64 (hi), .int .i64 (sc), .int .u16 (oq), .int .u32 (ot), .int .u16 (op), .int .u8 (ol), .int .u16 (uq), .int .u32 (ut), .int .u16 (up), .int .u8 (ul)] 76))).size (.cells #[.int .u16 (xq), .int .u32 (xt), .int .u16 (xp), .int .u8 (xl)] 74))).size (.cells #[.bool (false), .int .i64 (0), .int .i64 (0), .int .u16 (0), .int .u32 (0), .int .u16 (0), .int .u8 (0), .int .u16 (0), .int .u32 (0), .int .u16 (0), .int .u8 (0)] 76)).alloc (((((Below.refl w.heap.size w).alloc ((Below.refl w.heap.size w)).size (.cells #[.bool (on), .int .i64 (hi), .int .i64 (sc), .int .u16 (oq), .int .u32 (ot), .int .u16 (op), .int .u8 (ol), .int .u16 (uq), .int .u32 (ut), .int .u16 (up), .int .u8 (ul)] 76)).alloc (((Below.refl w.heap.size w).alloc ((Below.refl w.heap.size w)).size (.cells #[.bool (on), .int .i64 (hi), .int .i64 (sc), .int .u16 (oq), .int .u32 (ot), .int .u16 (op), .int .u8 (ol), .int .u16 (uq), .int .u32 (ut), .int .u16 (up), .int .u8 (ul)] 76))).size (.cells #[.int .u16 (xq), .int .u32 (xt), .int .u16 (xp), .int .u8 (xl)] 74)).alloc ((((Below.refl w.heap.size w).alloc ((Below.refl w.heap.size w)).size (.cells #[.bool (on), .int .i64 (hi), .int .i64 (sc), .int .u16 (oq), .int .u32 (ot), .int .u16 (op), .int .u8 (ol), .int .u16 (uq), .int .u32 (ut), .int .u16 (up), .int .u8 (ul)] 76)).alloc (((Below.refl w.heap.size w).alloc ((Below.refl w.heap.size w)).size (.cells #[.bool (on), .int .i64 (hi), .int .i64 (sc), .int .u16 (oq), .int .u32 (ot), .int .u16 (op), .int .u8 (ol), .int .u16 (uq), .int .u32 (ut), .int .u16 (up), .int .u8 (ul)] 76))).size (.cells #[.int .u16 (xq), .int .u32 (xt), .int .u16 (xp), .int .u8 (xl)] 74))).size (.cells #[.bool (false), .int .i64 (0), .int .i64 (0), .int .u16 (0), .int .u32 (0), .int .u16 (0), .int .u8 (0), .int .u16 (0), .int .u32 (0), .int .u16 (0), .int .u8 (0)] 76))).size (.cells #[.int .u16 (0), .int .u32 (0), .int .u16 (0), .int .u8 (0)] 74))).size))
  have ls1 := Ss1.lt
  have lx1 := Sx1.lt
  have lr1 := Sr1.lt
  have lq1 := Sq1.lt
  clear b1 Ns Nx Nr Nq C1
  have s1_0 := Ss1.cell 0
  have fs1_0 := Ss1.free 0
  have s1_1 := Ss1.cell 1
  have fs1_1 := Ss1.free 1
  have s1_2 := Ss1.cell 2
  have fs1_2 := Ss1.free 2
  have s1_3 := Ss1.cell 3
  have fs1_3 := Ss1.free 3
  have s1_4 := Ss1.cell 4
  have fs1_4 := Ss1.free 4
  have s1_5 := Ss1.cell 5
  have fs1_5 := Ss1.free 5
  have s1_6 := Ss1.cell 6
  have fs1_6 := Ss1.free 6
  have s1_7 := Ss1.cell 7
  have fs1_7 := Ss1.free 7
  have s1_8 := Ss1.cell 8
  have fs1_8 := Ss1.free 8
  have s1_9 := Ss1.cell 9
  have fs1_9 := Ss1.free 9
  have s1_10 := Ss1.cell 10
  have fs1_10 := Ss1.free 10
  have x1_0 := Sx1.cell 0
  have fx1_0 := Sx1.free 0
  have x1_1 := Sx1.cell 1
  have fx1_1 := Sx1.free 1
  have x1_2 := Sx1.cell 2
  have fx1_2 := Sx1.free 2
  have x1_3 := Sx1.cell 3
  have fx1_3 := Sx1.free 3
  have r1_0 := Sr1.cell 0
  have fr1_0 := Sr1.free 0
  have r1_1 := Sr1.cell 1
  have fr1_1 := Sr1.free 1
  have r1_2 := Sr1.cell 2
  have fr1_2 := Sr1.free 2
  have r1_3 := Sr1.cell 3
  have fr1_3 := Sr1.free 3
  have r1_4 := Sr1.cell 4
  have fr1_4 := Sr1.free 4
  have r1_5 := Sr1.cell 5
  have fr1_5 := Sr1.free 5
  have r1_6 := Sr1.cell 6
  have fr1_6 := Sr1.free 6
  have r1_7 := Sr1.cell 7
  have fr1_7 := Sr1.free 7
  have r1_8 := Sr1.cell 8
  have fr1_8 := Sr1.free 8
  have r1_9 := Sr1.cell 9
  have fr1_9 := Sr1.free 9
  have r1_10 := Sr1.cell 10
  have fr1_10 := Sr1.free 10
  have q1_0 := Sq1.cell 0
  have fq1_0 := Sq1.free 0
  have q1_1 := Sq1.cell 1
  have fq1_1 := Sq1.free 1
  have q1_2 := Sq1.cell 2
  have fq1_2 := Sq1.free 2
  have q1_3 := Sq1.cell 3
  have fq1_3 := Sq1.free 3
  replace Ss1 := Lib.hid Ss1
  replace Sx1 := Lib.hid Sx1
  replace Sr1 := Lib.hid Sr1
  replace Sq1 := Lib.hid Sq1
  go_upto_region 3 with fail
  try rw [IntWalk.wrap64_in xq (by omega)]
  clear q1 q2
  obtain ⟨wf1, hwf⟩ : ∃ z, z = (w1.alloc (.cells #[.int .u16 (vq), .int .u32 (vt), .int .u16 (vp), .int .u8 (vl)] 74)) := ⟨_, rfl⟩
  have No : Whole (w1.alloc (.cells #[.int .u16 (vq), .int .u32 (vt), .int .u16 (vp), .int .u8 (vl)] 74)) (w1.heap.size) 74 #[.int .u16 (vq), .int .u32 (vt), .int .u16 (vp), .int .u8 (vl)] := by have := Whole.new w1 74 #[.int .u16 (vq), .int .u32 (vt), .int .u16 (vp), .int .u8 (vl)]; first | with_reducible exact this | simpa using this
  have Ssf1 := (Ss1.out.alloc (.cells #[.int .u16 (vq), .int .u32 (vt), .int .u16 (vp), .int .u8 (vl)] 74))
  have Sxf1 := (Sx1.out.alloc (.cells #[.int .u16 (vq), .int .u32 (vt), .int .u16 (vp), .int .u8 (vl)] 74))
  have Srf1 := (Sr1.out.alloc (.cells #[.int .u16 (vq), .int .u32 (vt), .int .u16 (vp), .int .u8 (vl)] 74))
  have Sqf1 := (Sq1.out.alloc (.cells #[.int .u16 (vq), .int .u32 (vt), .int .u16 (vp), .int .u8 (vl)] 74))
  have Sof1 := No
  have HBf1 := (HB1.out.alloc (HB1.out).size (.cells #[.int .u16 (vq), .int .u32 (vt), .int .u16 (vp), .int .u8 (vl)] 74))
  rw [← hwf] at Ssf1 Sxf1 Srf1 Sqf1 Sof1 HBf1 ⊢
  clear hwf
  clear s1_0 fs1_0 s1_1 fs1_1 s1_2 fs1_2 s1_3 fs1_3 s1_4 fs1_4 s1_5 fs1_5 s1_6 fs1_6 s1_7 fs1_7 s1_8 fs1_8 s1_9 fs1_9 s1_10 fs1_10 x1_0 fx1_0 x1_1 fx1_1 x1_2 fx1_2 x1_3 fx1_3 r1_0 fr1_0 r1_1 fr1_1 r1_2 fr1_2 r1_3 fr1_3 r1_4 fr1_4 r1_5 fr1_5 r1_6 fr1_6 r1_7 fr1_7 r1_8 fr1_8 r1_9 fr1_9 r1_10 fr1_10 q1_0 fq1_0 q1_1 fq1_1 q1_2 fq1_2 q1_3 fq1_3 Ss1 Sx1 Sr1 Sq1 No HB1
  have lsf1 := Ssf1.lt
  have lxf1 := Sxf1.lt
  have lrf1 := Srf1.lt
  have lqf1 := Sqf1.lt
  have lof1 := Sof1.lt
  replace HBf1 := Lib.hid HBf1
  replace Ssf1 := Lib.hid Ssf1
  replace Sxf1 := Lib.hid Sxf1
  replace Srf1 := Lib.hid Srf1
  replace Sqf1 := Lib.hid Sqf1
  replace Sof1 := Lib.hid Sof1
  obtain ⟨wo, rfl⟩ : ∃ z : World, z = wf1 := ⟨_, rfl⟩
  have K6 := Lib.hid (fun w' (b' : Below wo.heap.size wo w') => show (fun w' => w'.cell? ⟨w.heap.size + 1, 0, none⟩ = some (.int .u16 (xq)) ∧ w'.cell? ⟨w.heap.size + 1, 1, none⟩ = some (.int .u32 (xt)) ∧ w'.cell? ⟨w.heap.size + 1, 2, none⟩ = some (.int .u16 (xp)) ∧ w'.cell? ⟨w.heap.size + 1, 3, none⟩ = some (.int .u8 (xl)) ∧ w'.cell? ⟨w1.heap.size, 0, none⟩ = some (.int .u16 (vq)) ∧ w'.cell? ⟨w1.heap.size, 1, none⟩ = some (.int .u32 (vt)) ∧ w'.cell? ⟨w1.heap.size, 2, none⟩ = some (.int .u16 (vp)) ∧ w'.cell? ⟨w1.heap.size, 3, none⟩ = some (.int .u8 (vl))) w' from ⟨(Sxf1.out.below b' Sxf1.out.lt).cell 0, (Sxf1.out.below b' Sxf1.out.lt).cell 1, (Sxf1.out.below b' Sxf1.out.lt).cell 2, (Sxf1.out.below b' Sxf1.out.lt).cell 3, (Sof1.out.below b' Sof1.out.lt).cell 0, (Sof1.out.below b' Sof1.out.lt).cell 1, (Sof1.out.below b' Sof1.out.lt).cell 2, (Sof1.out.below b' Sof1.out.lt).cell 3⟩)
  refine wp_region_X (S := fun w' => w'.cell? ⟨w.heap.size + 1, 0, none⟩ = some (.int .u16 (xq)) ∧ w'.cell? ⟨w.heap.size + 1, 1, none⟩ = some (.int .u32 (xt)) ∧ w'.cell? ⟨w.heap.size + 1, 2, none⟩ = some (.int .u16 (xp)) ∧ w'.cell? ⟨w.heap.size + 1, 3, none⟩ = some (.int .u8 (xl)) ∧ w'.cell? ⟨w1.heap.size, 0, none⟩ = some (.int .u16 (vq)) ∧ w'.cell? ⟨w1.heap.size, 1, none⟩ = some (.int .u32 (vt)) ∧ w'.cell? ⟨w1.heap.size, 2, none⟩ = some (.int .u16 (vp)) ∧ w'.cell? ⟨w1.heap.size, 3, none⟩ = some (.int .u8 (vl))) [9] (by kernel_rfl) (K6.out _ (Below.refl _ _).drew) (fun hHeld0 => ?_)
  refine wpAnyX_take (i := 0) [6, 8, 9] (v := ?_) rfl (by kernel_rfl) (by kernel_rfl) (by kernel_rfl) (by kernel_rfl) (fun _ _ _ h => h) (Or.inl ⟨by kernel_rfl, ?_⟩) (by assumption) ?_
  rotate_left 1
  · (intro w hSw; obtain ⟨m0, m1, m2, m3, m4, m5, m6, m7⟩ := hSw; go_simp; try (with_reducible rfl))
  (try simp only [Act.put, List.getElem_toArray, List.getElem_cons_succ, List.getElem_cons_zero, List.setIfInBounds_toArray, List.set_cons_zero, List.set_cons_succ])
  refine wpAnyX_take (i := 1) [6, 8, 9] (v := ?_) rfl (by kernel_rfl) (by kernel_rfl) (by kernel_rfl) (by kernel_rfl) (fun _ _ _ h => h) (Or.inl ⟨by kernel_rfl, ?_⟩) (by assumption) ?_
  rotate_left 1
  · (intro w hSw; obtain ⟨m0, m1, m2, m3, m4, m5, m6, m7⟩ := hSw; go_simp; try (with_reducible rfl))
  (try simp only [Act.put, List.getElem_toArray, List.getElem_cons_succ, List.getElem_cons_zero, List.setIfInBounds_toArray, List.set_cons_zero, List.set_cons_succ])
  refine wpAnyX_take (i := 2) [4, 6, 8, 9] (v := ?_) rfl (by kernel_rfl) (by kernel_rfl) (by kernel_rfl) (by kernel_rfl) (fun _ _ _ h => h) (Or.inl ⟨by kernel_rfl, ?_⟩) (by assumption) ?_
  rotate_left 1
  · (intro w hSw; obtain ⟨m0, m1, m2, m3, m4, m5, m6, m7⟩ := hSw; go_simp; try (with_reducible rfl))
  (try simp only [Act.put, List.getElem_toArray, List.getElem_cons_succ, List.getElem_cons_zero, List.setIfInBounds_toArray, List.set_cons_zero, List.set_cons_succ])
  refine wpAnyX_take (i := 3) [4, 6, 8, 9] (v := ?_) rfl (by kernel_rfl) (by kernel_rfl) (by kernel_rfl) (by kernel_rfl) (fun _ _ _ h => h) (Or.inl ⟨by kernel_rfl, ?_⟩) (by assumption) ?_
  rotate_left 1
  · (intro w hSw; obtain ⟨m0, m1, m2, m3, m4, m5, m6, m7⟩ := hSw; go_simp; try (with_reducible rfl))
  (try simp only [Act.put, List.getElem_toArray, List.getElem_cons_succ, List.getElem_cons_zero, List.setIfInBounds_toArray, List.set_cons_zero, List.set_cons_succ])
  refine wpAnyX_take (i := 5) [6, 8, 9] (v := ?_) rfl (by kernel_rfl) (by kernel_rfl) (by kernel_rfl) (by kernel_rfl) (fun _ _ _ h => h) (Or.inl ⟨by kernel_rfl, ?_⟩) (by assumption) ?_
  rotate_left 1
  · (intro w hSw; obtain ⟨m0, m1, m2, m3, m4, m5, m6, m7⟩ := hSw; go_simp; try (with_reducible rfl))
  (try simp only [Act.put, List.getElem_toArray, List.getElem_cons_succ, List.getElem_cons_zero, List.setIfInBounds_toArray, List.set_cons_zero, List.set_cons_succ])
  refine wpAnyX_take (i := 7) [9] (v := ?_) rfl (by kernel_rfl) (by kernel_rfl) (by kernel_rfl) (by kernel_rfl) (fun _ _ _ h => h) (Or.inl ⟨by kernel_rfl, ?_⟩) (by assumption) ?_
  rotate_left 1
  · (intro w hSw; obtain ⟨m0, m1, m2, m3, m4, m5, m6, m7⟩ := hSw; go_simp; try (with_reducible rfl))
  (try simp only [Act.put, List.getElem_toArray, List.getElem_cons_succ, List.getElem_cons_zero, List.setIfInBounds_toArray, List.set_cons_zero, List.set_cons_succ])
  refine wpAnyX_one 4 (by kernel_rfl) rfl (fun K hK => ?_)
  go_simp
  go_wp2_with (refine (C2.out _).mono ?_; rintro e v1 ⟨rfl, b1⟩)
  have B1 := (Below.refl wo.heap.size wo).drew.trans b1
  refine hK.out _ _ (.inr (K6.out _ B1)) ?_
  have hHeld1 := K6.out _ B1
  clear hK K
  (try simp only [Act.put, List.getElem_toArray, List.getElem_cons_succ, List.getElem_cons_zero, List.setIfInBounds_toArray, List.set_cons_zero, List.set_cons_succ])
  refine wpAnyX_take (i := 6) [8, 9] (v := ?_) rfl (by kernel_rfl) (by kernel_rfl) (by kernel_rfl) (by kernel_rfl) (fun _ _ _ h => h) (Or.inl ⟨by kernel_rfl, ?_⟩) (by assumption) ?_
  rotate_left 1
  · (intro w hSw; obtain ⟨m0, m1, m2, m3, m4, m5, m6, m7⟩ := hSw; go_simp; try (with_reducible rfl))
  (try simp only [Act.put, List.getElem_toArray, List.getElem_cons_succ, List.getElem_cons_zero, List.setIfInBounds_toArray, List.set_cons_zero, List.set_cons_succ])
  refine wpAnyX_one 8 (by kernel_rfl) rfl (fun K hK => ?_)
  have R5 := Srf1.out.below B1 Srf1.out.lt
  have N5 := Sqf1.out.below B1 Sqf1.out.lt
  have F5 := HBf1.out.trans (B1.mono HBf1.out.size)
  have zr0 := R5.cell 0
  have zr1 := R5.cell 1
  have zr2 := R5.cell 2
  have zr3 := R5.cell 3
  have zr4 := R5.cell 4
  have zr5 := R5.cell 5
  have zr6 := R5.cell 6
  have zr7 := R5.cell 7
  have zr8 := R5.cell 8
  have zr9 := R5.cell 9
  have zr10 := R5.cell 10
  have zf0 := R5.free 0
  have zf1 := R5.free 1
  have zf2 := R5.free 2
  have zf3 := R5.free 3
  have zf4 := R5.free 4
  have zf5 := R5.free 5
  have zf6 := R5.free 6
  have zf7 := R5.free 7
  have zf8 := R5.free 8
  have zf9 := R5.free 9
  have zf10 := R5.free 10
  have nr0 := N5.cell 0
  have nr1 := N5.cell 1
  have nr2 := N5.cell 2
  have nr3 := N5.cell 3
  have nf0 := N5.free 0
  have nf1 := N5.free 1
  have nf2 := N5.free 2
  have nf3 := N5.free 3
  have X5 := (Sxf1.out.below B1 Sxf1.out.lt).eleven_far (r := w.heap.size + 1 + 1) (by omega) (.bool (true)) (.int .i64 (xq)) (.int .i64 (xq)) (.int .u16 (lq)) (.int .u32 (lt)) (.int .u16 (lp)) (.int .u8 (ll)) (.int .u16 (vq)) (.int .u32 (vt)) (.int .u16 (vp)) (.int .u8 (vl))
  have T5 := (Sof1.out.below B1 Sof1.out.lt).eleven_far (r := w.heap.size + 1 + 1) (by omega) (.bool (true)) (.int .i64 (xq)) (.int .i64 (xq)) (.int .u16 (lq)) (.int .u32 (lt)) (.int .u16 (lp)) (.int .u8 (ll)) (.int .u16 (vq)) (.int .u32 (vt)) (.int .u16 (vp)) (.int .u8 (vl))
  go_simp
  refine hK.out _ _ (.inr ⟨X5.cell 0, X5.cell 1, X5.cell 2, X5.cell 3, T5.cell 0, T5.cell 1, T5.cell 2, T5.cell 3⟩) ?_
  have hHeld2 : (fun (w' : World) => w'.cell? ⟨w.heap.size + 1, 0, none⟩ = some (.int .u16 (xq)) ∧ w'.cell? ⟨w.heap.size + 1, 1, none⟩ = some (.int .u32 (xt)) ∧ w'.cell? ⟨w.heap.size + 1, 2, none⟩ = some (.int .u16 (xp)) ∧ w'.cell? ⟨w.heap.size + 1, 3, none⟩ = some (.int .u8 (xl)) ∧ w'.cell? ⟨w1.heap.size, 0, none⟩ = some (.int .u16 (vq)) ∧ w'.cell? ⟨w1.heap.size, 1, none⟩ = some (.int .u32 (vt)) ∧ w'.cell? ⟨w1.heap.size, 2, none⟩ = some (.int .u16 (vp)) ∧ w'.cell? ⟨w1.heap.size, 3, none⟩ = some (.int .u8 (vl))) _ := ⟨X5.cell 0, X5.cell 1, X5.cell 2, X5.cell 3, T5.cell 0, T5.cell 1, T5.cell 2, T5.cell 3⟩
  clear hK K
  (try simp only [Act.put, List.getElem_toArray, List.getElem_cons_succ, List.getElem_cons_zero, List.setIfInBounds_toArray, List.set_cons_zero, List.set_cons_succ])
  refine wpAnyX_one 9 (by kernel_rfl) rfl (fun K hK => ?_)
  go_simp
  refine hK.out _ _ (.inl (by decide)) ?_
  clear hK K
  (try simp only [Act.put, List.getElem_toArray, List.getElem_cons_succ, List.getElem_cons_zero, List.setIfInBounds_toArray, List.set_cons_zero, List.set_cons_succ])
  refine wpAnyX_done (by kernel_rfl) ?_ _
  go_wp2_with fail
  exact bodyPost_ret (v := .tuple #[.agg #[.bool (true), .int .i64 (xq), .int .i64 (xq), .int .u16 (lq), .int .u32 (lt), .int .u16 (lp), .int .u8 (ll), .int .u16 (vq), .int .u32 (vt), .int .u16 (vp), .int .u8 (vl)], .agg #[.int .u16 (vq), .int .u32 (vt), .int .u16 (vp), .int .u8 (vl)]]) (by simp [results, Try.results59, go_sem, zr0, zr1, zr2, zr3, zr4, zr5, zr6, zr7, zr8, zr9, zr10, nr0, nr1, nr2, nr3]) rfl ⟨rfl, four_set (eleven_set F5 (by omega) _ _ _ _ _ _ _ _ _ _ _) (by omega) _ _ _ _⟩
end Go.Proofs.Yticnaljfnjiofaa
