/-
  Contracts of the document's answers of layer 13: less, Drop; numbers and states as the document has them.
-/
import Derived.Test.YtpemikncbolkbaaMuR
namespace Go.Proofs.Ytpemikncbolkbaa
open Go.RowKit
set_option linter.unusedSimpArgs false

set_option maxRecDepth 100000 in
theorem less_any (a b : Mn) (ha : a.Fit) (hb : b.Fit) (w : World) : Calls Try.prog 24 #[.agg a.plain, .agg b.plain] w fun e w' => e = .returned (.agg (a.less b).plain) ∧ Below w.heap.size w w' := by
  have C := fun w => round_any ⟨a.seq - b.seq, a.time - b.time, a.pic - b.pic, a.tl0 - b.tl0⟩ w
  have a0 := ha.seq
  have a1 := ha.time
  have a2 := ha.pic
  have a3 := ha.tl0
  have b0 := hb.seq
  have b1 := hb.time
  have b2 := hb.pic
  have b3 := hb.tl0
  obtain ⟨r, hr⟩ : ∃ r, a.less b = r := ⟨_, rfl⟩
  rw [show Mn.rnd ⟨a.seq - b.seq, a.time - b.time, a.pic - b.pic, a.tl0 - b.tl0⟩ = r from hr] at C
  rw [hr]
  clear hr ha hb
  obtain ⟨aq, at', ap, al⟩ := a
  obtain ⟨bs, bt, bp, bl⟩ := b
  obtain ⟨rs, rt, rp, rl⟩ := r
  dsimp only [Mn.plain] at *
  have C := Lib.hid C
  have HA := Lib.hid (((Whole.new w 34 #[.int .i64 aq, .int .i64 at', .int .i64 ap, .int .i64 al]).alloc (.cells #[.int .i64 bs, .int .i64 bt, .int .i64 bp, .int .i64 bl] 34)).alloc (.cells #[.int .i64 0, .int .i64 0, .int .i64 0, .int .i64 0] 34))
  have HB0 := Lib.hid (((((Below.refl w.heap.size w).alloc (Nat.le_refl _) (.cells #[.int .i64 aq, .int .i64 at', .int .i64 ap, .int .i64 al] 34)).alloc (by simp) (.cells #[.int .i64 bs, .int .i64 bt, .int .i64 bp, .int .i64 bl] 34))).alloc (by simp; omega) (.cells #[.int .i64 0, .int .i64 0, .int .i64 0, .int .i64 0] 34))
  have HR : Hid (Whole (((w.alloc (.cells #[.int .i64 aq, .int .i64 at', .int .i64 ap, .int .i64 al] 34)).alloc (.cells #[.int .i64 bs, .int .i64 bt, .int .i64 bp, .int .i64 bl] 34)).alloc (.cells #[.int .i64 0, .int .i64 0, .int .i64 0, .int .i64 0] 34)) (w.heap.size + 1 + 1) 34 #[.int .i64 0, .int .i64 0, .int .i64 0, .int .i64 0]) := Lib.hid (by have := Whole.new2 (w.alloc (.cells #[.int .i64 aq, .int .i64 at', .int .i64 ap, .int .i64 al] 34)) (.cells #[.int .i64 bs, .int .i64 bt, .int .i64 bp, .int .i64 bl] 34) 34 #[.int .i64 0, .int .i64 0, .int .i64 0, .int .i64 0]; simpa using this)
  go_enter Try.func24, Try.ntmps24
  go_wp2_with fail
  refine (C.out _).mono ?_
  rintro e w1 ⟨rfl, k⟩
  have R1 := HR.out.below k HR.out.lt
  have HB1 := Lib.hid (HB0.out.trans (k.mono HB0.out.size))
  have z0 := R1.cell 0
  have z1 := R1.cell 1
  have z2 := R1.cell 2
  have z3 := R1.cell 3
  have y0 := R1.free 0
  have y1 := R1.free 1
  have y2 := R1.free 2
  have y3 := R1.free 3
  have HR1 := Lib.hid R1
  clear R1 k HA HB0 HR C
  go_wp2_with fail
  exact bodyPost_ret (v := .agg #[.int .i64 rs, .int .i64 rt, .int .i64 rp, .int .i64 rl]) (by simp [results, Try.results24, go_sem, z0, z1, z2, z3]) rfl ⟨rfl, four_set HB1.out (by omega) _ _ _ _⟩
set_option maxRecDepth 100000 in
theorem nums_any (a : Mn) (ha : a.Fit) (w : World) : Calls Try.prog 14 #[.agg a.cells] w fun e w' => e = .returned (.agg a.plain) ∧ Below w.heap.size w w' := by
  have a0 := ha.seq
  have a1 := ha.time
  have a2 := ha.pic
  have a3 := ha.tl0
  clear ha
  obtain ⟨aq, at', ap, al⟩ := a
  dsimp only [Mn.plain, Mn.cells] at *
  have e0 : wrap64 aq = aq := IntWalk.wrap64_in _ (by omega)
  have e1 : wrap64 at' = at' := IntWalk.wrap64_in _ (by omega)
  have e2 : wrap64 ap = ap := IntWalk.wrap64_in _ (by omega)
  have e3 : wrap64 al = al := IntWalk.wrap64_in _ (by omega)
  have HB := Lib.hid ((Below.refl w.heap.size w).alloc (Nat.le_refl _) (.cells #[.int .u16 aq, .int .u32 at', .int .u16 ap, .int .u8 al] 25))
  go_enter Try.func14, Try.ntmps14
  go_wp2_with fail
  exact bodyPost_ret (v := .agg #[.int .i64 aq, .int .i64 at', .int .i64 ap, .int .i64 al]) (by simp [results, Try.results14, go_sem]) rfl ⟨rfl, HB.out.alloc (by simp) _⟩
end Go.Proofs.Ytpemikncbolkbaa
