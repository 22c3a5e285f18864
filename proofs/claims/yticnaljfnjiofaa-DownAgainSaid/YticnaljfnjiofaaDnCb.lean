/-
  Package down (layer 14): what leaveOut, descOf and send tell.
-/
import Derived.Test.YticnaljfnjiofaaDnCa
import Derived.Test.YticnaljfnjiofaaGrc
import Derived.Test.YticnaljfnjiofaaGvk
import Derived.IntWalk
namespace Go.Proofs.Yticnaljfnjiofaa
open Go.RowKit
set_option linter.unusedSimpArgs false
set_option linter.unusedVariables false
set_option maxRecDepth 100000

/-- All numbers of a block of a downtrack are written. -/
theorem nums_set {w : World} {g : Nat} {ss : Nat} {pk : Cs} {m : Mst} {gs c0 c1 c2 c3 c4 : Nat} (h : Whole w g 78 (dcs ss pk m gs c0 c1 c2 c3 c4)) (n : Mst) :
    Whole (((((((((((w.setCell ⟨g, 5, none⟩ (.bool n.on)).setCell ⟨g, 6, none⟩ (.int .i64 n.high)).setCell ⟨g, 7, none⟩ (.int .i64 n.since)).setCell ⟨g, 8, none⟩ (.int .u16 n.off.seq)).setCell ⟨g, 9, none⟩ (.int .u32 n.off.time)).setCell ⟨g, 10, none⟩ (.int .u16 n.off.pic)).setCell ⟨g, 11, none⟩ (.int .u8 n.off.tl0)).setCell ⟨g, 12, none⟩ (.int .u16 n.out.seq)).setCell ⟨g, 13, none⟩ (.int .u32 n.out.time)).setCell ⟨g, 14, none⟩ (.int .u16 n.out.pic)).setCell ⟨g, 15, none⟩ (.int .u8 n.out.tl0)) g 78 (dcs ss pk n gs c0 c1 c2 c3 c4) := by
  dsimp only [dcs] at h ⊢
  have h : Whole _ g 78 #[.int .u32 (ss : Int), .bool pk.on, .int .i64 pk.src, .int .i64 pk.lay, .int .i64 pk.tid, .bool n.on, .int .i64 m.high, .int .i64 m.since, .int .u16 m.off.seq, .int .u32 m.off.time, .int .u16 m.off.pic, .int .u8 m.off.tl0, .int .u16 m.out.seq, .int .u32 m.out.time, .int .u16 m.out.pic, .int .u8 m.out.tl0, .pointer (some ⟨gs, 0, none⟩), .int .i64 (c0 : Int), .int .i64 (c1 : Int), .int .i64 (c2 : Int), .int .i64 (c3 : Int), .int .i64 (c4 : Int)] := h.set 5 (.bool n.on)
  have h : Whole _ g 78 #[.int .u32 (ss : Int), .bool pk.on, .int .i64 pk.src, .int .i64 pk.lay, .int .i64 pk.tid, .bool n.on, .int .i64 n.high, .int .i64 m.since, .int .u16 m.off.seq, .int .u32 m.off.time, .int .u16 m.off.pic, .int .u8 m.off.tl0, .int .u16 m.out.seq, .int .u32 m.out.time, .int .u16 m.out.pic, .int .u8 m.out.tl0, .pointer (some ⟨gs, 0, none⟩), .int .i64 (c0 : Int), .int .i64 (c1 : Int), .int .i64 (c2 : Int), .int .i64 (c3 : Int), .int .i64 (c4 : Int)] := h.set 6 (.int .i64 n.high)
  have h : Whole _ g 78 #[.int .u32 (ss : Int), .bool pk.on, .int .i64 pk.src, .int .i64 pk.lay, .int .i64 pk.tid, .bool n.on, .int .i64 n.high, .int .i64 n.since, .int .u16 m.off.seq, .int .u32 m.off.time, .int .u16 m.off.pic, .int .u8 m.off.tl0, .int .u16 m.out.seq, .int .u32 m.out.time, .int .u16 m.out.pic, .int .u8 m.out.tl0, .pointer (some ⟨gs, 0, none⟩), .int .i64 (c0 : Int), .int .i64 (c1 : Int), .int .i64 (c2 : Int), .int .i64 (c3 : Int), .int .i64 (c4 : Int)] := h.set 7 (.int .i64 n.since)
  have h : Whole _ g 78 #[.int .u32 (ss : Int), .bool pk.on, .int .i64 pk.src, .int .i64 pk.lay, .int .i64 pk.tid, .bool n.on, .int .i64 n.high, .int .i64 n.since, .int .u16 n.off.seq, .int .u32 m.off.time, .int .u16 m.off.pic, .int .u8 m.off.tl0, .int .u16 m.out.seq, .int .u32 m.out.time, .int .u16 m.out.pic, .int .u8 m.out.tl0, .pointer (some ⟨gs, 0, none⟩), .int .i64 (c0 : Int), .int .i64 (c1 : Int), .int .i64 (c2 : Int), .int .i64 (c3 : Int), .int .i64 (c4 : Int)] := h.set 8 (.int .u16 n.off.seq)
  have h : Whole _ g 78 #[.int .u32 (ss : Int), .bool pk.on, .int .i64 pk.src, .int .i64 pk.lay, .int .i64 pk.tid, .bool n.on, .int .i64 n.high, .int .i64 n.since, .int .u16 n.off.seq, .int .u32 n.off.time, .int .u16 m.off.pic, .int .u8 m.off.tl0, .int .u16 m.out.seq, .int .u32 m.out.time, .int .u16 m.out.pic, .int .u8 m.out.tl0, .pointer (some ⟨gs, 0, none⟩), .int .i64 (c0 : Int), .int .i64 (c1 : Int), .int .i64 (c2 : Int), .int .i64 (c3 : Int), .int .i64 (c4 : Int)] := h.set 9 (.int .u32 n.off.time)
  have h : Whole _ g 78 #[.int .u32 (ss : Int), .bool pk.on, .int .i64 pk.src, .int .i64 pk.lay, .int .i64 pk.tid, .bool n.on, .int .i64 n.high, .int .i64 n.since, .int .u16 n.off.seq, .int .u32 n.off.time, .int .u16 n.off.pic, .int .u8 m.off.tl0, .int .u16 m.out.seq, .int .u32 m.out.time, .int .u16 m.out.pic, .int .u8 m.out.tl0, .pointer (some ⟨gs, 0, none⟩), .int .i64 (c0 : Int), .int .i64 (c1 : Int), .int .i64 (c2 : Int), .int .i64 (c3 : Int), .int .i64 (c4 : Int)] := h.set 10 (.int .u16 n.off.pic)
  have h : Whole _ g 78 #[.int .u32 (ss : Int), .bool pk.on, .int .i64 pk.src, .int .i64 pk.lay, .int .i64 pk.tid, .bool n.on, .int .i64 n.high, .int .i64 n.since, .int .u16 n.off.seq, .int .u32 n.off.time, .int .u16 n.off.pic, .int .u8 n.off.tl0, .int .u16 m.out.seq, .int .u32 m.out.time, .int .u16 m.out.pic, .int .u8 m.out.tl0, .pointer (some ⟨gs, 0, none⟩), .int .i64 (c0 : Int), .int .i64 (c1 : Int), .int .i64 (c2 : Int), .int .i64 (c3 : Int), .int .i64 (c4 : Int)] := h.set 11 (.int .u8 n.off.tl0)
  have h : Whole _ g 78 #[.int .u32 (ss : Int), .bool pk.on, .int .i64 pk.src, .int .i64 pk.lay, .int .i64 pk.tid, .bool n.on, .int .i64 n.high, .int .i64 n.since, .int .u16 n.off.seq, .int .u32 n.off.time, .int .u16 n.off.pic, .int .u8 n.off.tl0, .int .u16 n.out.seq, .int .u32 m.out.time, .int .u16 m.out.pic, .int .u8 m.out.tl0, .pointer (some ⟨gs, 0, none⟩), .int .i64 (c0 : Int), .int .i64 (c1 : Int), .int .i64 (c2 : Int), .int .i64 (c3 : Int), .int .i64 (c4 : Int)] := h.set 12 (.int .u16 n.out.seq)
  have h : Whole _ g 78 #[.int .u32 (ss : Int), .bool pk.on, .int .i64 pk.src, .int .i64 pk.lay, .int .i64 pk.tid, .bool n.on, .int .i64 n.high, .int .i64 n.since, .int .u16 n.off.seq, .int .u32 n.off.time, .int .u16 n.off.pic, .int .u8 n.off.tl0, .int .u16 n.out.seq, .int .u32 n.out.time, .int .u16 m.out.pic, .int .u8 m.out.tl0, .pointer (some ⟨gs, 0, none⟩), .int .i64 (c0 : Int), .int .i64 (c1 : Int), .int .i64 (c2 : Int), .int .i64 (c3 : Int), .int .i64 (c4 : Int)] := h.set 13 (.int .u32 n.out.time)
  have h : Whole _ g 78 #[.int .u32 (ss : Int), .bool pk.on, .int .i64 pk.src, .int .i64 pk.lay, .int .i64 pk.tid, .bool n.on, .int .i64 n.high, .int .i64 n.since, .int .u16 n.off.seq, .int .u32 n.off.time, .int .u16 n.off.pic, .int .u8 n.off.tl0, .int .u16 n.out.seq, .int .u32 n.out.time, .int .u16 n.out.pic, .int .u8 m.out.tl0, .pointer (some ⟨gs, 0, none⟩), .int .i64 (c0 : Int), .int .i64 (c1 : Int), .int .i64 (c2 : Int), .int .i64 (c3 : Int), .int .i64 (c4 : Int)] := h.set 14 (.int .u16 n.out.pic)
  have h : Whole _ g 78 #[.int .u32 (ss : Int), .bool pk.on, .int .i64 pk.src, .int .i64 pk.lay, .int .i64 pk.tid, .bool n.on, .int .i64 n.high, .int .i64 n.since, .int .u16 n.off.seq, .int .u32 n.off.time, .int .u16 n.off.pic, .int .u8 n.off.tl0, .int .u16 n.out.seq, .int .u32 n.out.time, .int .u16 n.out.pic, .int .u8 n.out.tl0, .pointer (some ⟨gs, 0, none⟩), .int .i64 (c0 : Int), .int .i64 (c1 : Int), .int .i64 (c2 : Int), .int .i64 (c3 : Int), .int .i64 (c4 : Int)] := h.set 15 (.int .u8 n.out.tl0)
  exact h
theorem nums_but {w0 w : World} {g : Nat} {S : Nat → Prop} (h : But S w0 w) (hg : S g ∨ w0.heap.size ≤ g) (n : Mst) :
    But S w0 (((((((((((w.setCell ⟨g, 5, none⟩ (.bool n.on)).setCell ⟨g, 6, none⟩ (.int .i64 n.high)).setCell ⟨g, 7, none⟩ (.int .i64 n.since)).setCell ⟨g, 8, none⟩ (.int .u16 n.off.seq)).setCell ⟨g, 9, none⟩ (.int .u32 n.off.time)).setCell ⟨g, 10, none⟩ (.int .u16 n.off.pic)).setCell ⟨g, 11, none⟩ (.int .u8 n.off.tl0)).setCell ⟨g, 12, none⟩ (.int .u16 n.out.seq)).setCell ⟨g, 13, none⟩ (.int .u32 n.out.time)).setCell ⟨g, 14, none⟩ (.int .u16 n.out.pic)).setCell ⟨g, 15, none⟩ (.int .u8 n.out.tl0)) :=
  ((((((((((h.set (p := ⟨g, 5, none⟩) hg _).set (p := ⟨g, 6, none⟩) hg _).set (p := ⟨g, 7, none⟩) hg _).set (p := ⟨g, 8, none⟩) hg _).set (p := ⟨g, 9, none⟩) hg _).set (p := ⟨g, 10, none⟩) hg _).set (p := ⟨g, 11, none⟩) hg _).set (p := ⟨g, 12, none⟩) hg _).set (p := ⟨g, 13, none⟩) hg _).set (p := ⟨g, 14, none⟩) hg _).set (p := ⟨g, 15, none⟩) hg _
/-- What a packet that is left out makes of the numbers. -/
def leftM (pk : Cs) (m : Mst) (sq : Int) (a b : Int) : Mst := if (pk.on && (a == pk.src && b == pk.lay)) = true then m.dropS ⟨sq, 0, 0, 0⟩ false else m
theorem dleave_any (ss : Nat) (pk : Cs) (m : Mst) (gs c0 c1 c2 c3 c4 g : Nat) (sq : Int) (a b : Int) (w : World) (hW : Whole w g 78 (dcs ss pk m gs c0 c1 c2 c3 c4)) (hm : m.Fit 1000000000000000) (hc : c4 ≤ 1000000000) (hsq : 0 ≤ sq ∧ sq < 65536) :
    Calls Try.prog 39 #[.pointer (some ⟨g, 0, none⟩), .int .u16 sq, .int .i64 a, .int .i64 b] w fun e w' => e = .returned (.tuple #[]) ∧ Whole w' g 78 (dcs ss pk (leftM pk m sq a b) gs c0 c1 c2 c3 (c4 + 1)) ∧ But (fun k => k = g) w w' := by
  have C := fun w => mdrop_any m ⟨sq, 0, 0, 0⟩ false hm ⟨hsq, (by dsimp only; omega), (by dsimp only; omega), (by dsimp only; omega)⟩ w
  obtain ⟨mm, hmm⟩ : ∃ x, leftM pk m sq a b = x := ⟨_, rfl⟩
  have HM := Lib.hid hmm
  obtain ⟨md, hmd⟩ : ∃ x, m.dropS ⟨sq, 0, 0, 0⟩ false = x := ⟨_, rfl⟩
  rw [hmm]
  rw [hmd] at C
  dsimp only [Mst.cells, Mn.cells] at C
  replace C := Lib.hid C
  have HD := Lib.hid hmd
  have HW1 := Lib.hid (show Whole _ g 78 (dcs ss pk m gs c0 c1 c2 c3 (c4 + 1)) from hW.set 21 (.int .i64 ((c4 + 1 : Nat) : Int)))
  have HB1 := Lib.hid ((But.refl (fun k => k = g) w).set (p := ⟨g, 21, none⟩) (.inl rfl) (.int .i64 ((c4 + 1 : Nat) : Int)))
  rw [show ((c4 + 1 : Nat) : Int) = (c4 : Int) + 1 by omega] at HW1 HB1
  clear hmm hmd hm hsq
  have hg := hW.lt
  obtain ⟨pon, ps, pl, pt⟩ := pk
  dsimp only [dcs] at hW
  have d1 := hW.cell 1
  have d2 := hW.cell 2
  have d3 := hW.cell 3
  have d4 := hW.cell 4
  have d5 := hW.cell 5
  have d6 := hW.cell 6
  have d7 := hW.cell 7
  have d8 := hW.cell 8
  have d9 := hW.cell 9
  have d10 := hW.cell 10
  have d11 := hW.cell 11
  have d12 := hW.cell 12
  have d13 := hW.cell 13
  have d14 := hW.cell 14
  have d15 := hW.cell 15
  have d21 := hW.cell 21
  have fd21 := hW.free 21
  clear hW
  have hw1 : IntKind.i64.wrap ((c4 : Int) + 1) = c4 + 1 := IntWalk.i64_in _ (by omega)
  go_enter Try.func39, Try.ntmps39
  cases pon with
  | false =>
    obtain rfl : m = mm := by rw [← HM.out]; rfl
    clear HM HD C
    go_wp2
    exact bodyPost_end (results_none rfl _ _ _) rfl ⟨rfl, HW1.out, HB1.out⟩
  | true =>
    by_cases h1 : a = ps
    · by_cases h2 : b = pl
      · subst h1
        subst h2
        obtain rfl : md = mm := by rw [← HM.out, ← HD.out]; unfold leftM; simp
        clear HM HD
        go_wp2_with fail
        refine (C.out _).mono ?_
        rintro e w1 ⟨rfl, b1⟩
        have X1 := HW1.out.below b1 HW1.out.lt
        have HB2 := Lib.hid (HB1.out.trans (but_of_below b1))
        have HX := Lib.hid X1
        dsimp only [dcs] at X1
        have fx5 := X1.free 5
        have fx6 := X1.free 6
        have fx7 := X1.free 7
        have fx8 := X1.free 8
        have fx9 := X1.free 9
        have fx10 := X1.free 10
        have fx11 := X1.free 11
        have fx12 := X1.free 12
        have fx13 := X1.free 13
        have fx14 := X1.free 14
        have fx15 := X1.free 15
        have hg1 := X1.lt
        have y5 := X1.cell 5
        have y6 := X1.cell 6
        have y7 := X1.cell 7
        have y8 := X1.cell 8
        have y9 := X1.cell 9
        have y10 := X1.cell 10
        have y11 := X1.cell 11
        have y12 := X1.cell 12
        have y13 := X1.cell 13
        have y14 := X1.cell 14
        have y15 := X1.cell 15
        clear X1 HW1 HB1 C b1 d1 d2 d3 d4 d5 d6 d7 d8 d9 d10 d11 d12 d13 d14 d15 d21 fd21
        go_wp2_with fail
        exact bodyPost_end (results_none rfl _ _ _) rfl ⟨rfl, nums_set HX.out md, nums_but HB2.out (.inl rfl) md⟩
      · have e1 : (ps == a) = true := by simp [h1]
        have e2 : (pl == b) = false := by simp; omega
        obtain rfl : m = mm := by rw [← HM.out]; unfold leftM; simp [h2]
        clear HM HD C h2
        subst h1
        go_wp2
        exact bodyPost_end (results_none rfl _ _ _) rfl ⟨rfl, HW1.out, HB1.out⟩
    · have e1 : (ps == a) = false := by simp; omega
      obtain rfl : m = mm := by rw [← HM.out]; unfold leftM; simp [h1]
      clear HM HD C h1
      go_wp2
      exact bodyPost_end (results_none rfl _ _ _) rfl ⟨rfl, HW1.out, HB1.out⟩

/-! ### descOf -/
/-- What descOf tells: the descriptor of a packet that may be sent on. -/
def DescTold (p : Pq) (w : World) (e : Ending) (w' : World) : Prop :=
  ((∃ ds r, parseS p.pay = some (ds, r) ∧ p.p.err = 0 ∧ e = .returned (.tuple #[.agg ds.cells, .bool true])) ∨
    ((∀ ds r, parseS p.pay = some (ds, r) → p.p.err ≠ 0) ∧ ∃ ds : Dsc, e = .returned (.tuple #[.agg ds.cells, .bool false]))) ∧ Below w.heap.size w w'
set_option maxHeartbeats 1600000 in
theorem dscof_any (p : Pq) (S : Nat → Prop) (w : World) (hp : p.At w S) : Calls Try.prog 38 #[.agg p.cells.toArray] w (DescTold p w) := by
  have CV := fun w' (b : Below w.heap.size w w') => vparse_any p.A3 p.c3 p.pay w' ((hp.row3.below b (Nat.le_refl _)).more b.size) hp.len3
  have CP := fun w' (b : Below w.heap.size w w') => rput_any p.p p.h.A1 p.h.A2 p.A3 p.h.c1 p.h.c2 p.c3 p.h.ps w' hp.fit (hp.its.next b) rfl hp.len2 (by have := hp.len3; show p.pay.length ≤ _; omega) ((hp.row1.below b (Nat.le_refl _)).more b.size) ((hp.row3.below b (Nat.le_refl _)).more b.size)
  simp only [Mp.cells, Pq.p, List.length_map] at CP
  replace CV := Lib.hid CV
  replace CP := Lib.hid CP
  clear hp
  dsimp only [Pq.cells]
  go_enter Try.func38, Try.ntmps38
  go_wp2_with fail
  refine (CV.out _ ((((Below.refl w.heap.size w).alloc ((Below.refl w.heap.size w)).size (.cells #[.bool p.h.mark, .int .u8 (p.h.typ : Int), .int .u16 (p.h.seq : Int), .int .u32 (p.h.time : Int), .int .u32 (p.h.ssrc : Int), .slice p.h.A1 p.h.csrc.length p.h.c1, .slice p.h.A2 p.h.ps.length p.h.c2, .slice p.A3 p.pay.length p.c3, .int .i64 p.pad] 35)).alloc (((Below.refl w.heap.size w).alloc ((Below.refl w.heap.size w)).size (.cells #[.bool p.h.mark, .int .u8 (p.h.typ : Int), .int .u16 (p.h.seq : Int), .int .u32 (p.h.time : Int), .int .u32 (p.h.ssrc : Int), .slice p.h.A1 p.h.csrc.length p.h.c1, .slice p.h.A2 p.h.ps.length p.h.c2, .slice p.A3 p.pay.length p.c3, .int .i64 p.pad] 35))).size (.cells #[.bool false, .bool false, .bool false, .int .u8 0, .bool false, .bool false, .int .u16 0, .bool false, .int .u8 0, .bool false, .int .u8 0, .bool false, .bool false, .int .u8 0] 46)))).mono ?_
  rintro e w1 ⟨hq1, b1⟩
  have HQ1 := Lib.hid hq1
  clear hq1
  have NP : Whole (w.alloc (.cells #[.bool p.h.mark, .int .u8 (p.h.typ : Int), .int .u16 (p.h.seq : Int), .int .u32 (p.h.time : Int), .int .u32 (p.h.ssrc : Int), .slice p.h.A1 p.h.csrc.length p.h.c1, .slice p.h.A2 p.h.ps.length p.h.c2, .slice p.A3 p.pay.length p.c3, .int .i64 p.pad] 35)) (w.heap.size) 35 #[.bool p.h.mark, .int .u8 (p.h.typ : Int), .int .u16 (p.h.seq : Int), .int .u32 (p.h.time : Int), .int .u32 (p.h.ssrc : Int), .slice p.h.A1 p.h.csrc.length p.h.c1, .slice p.h.A2 p.h.ps.length p.h.c2, .slice p.A3 p.pay.length p.c3, .int .i64 p.pad] := by have := Whole.new w 35 #[.bool p.h.mark, .int .u8 (p.h.typ : Int), .int .u16 (p.h.seq : Int), .int .u32 (p.h.time : Int), .int .u32 (p.h.ssrc : Int), .slice p.h.A1 p.h.csrc.length p.h.c1, .slice p.h.A2 p.h.ps.length p.h.c2, .slice p.A3 p.pay.length p.c3, .int .i64 p.pad]; first | with_reducible exact this | simpa using this
  have NR : Whole ((w.alloc (.cells #[.bool p.h.mark, .int .u8 (p.h.typ : Int), .int .u16 (p.h.seq : Int), .int .u32 (p.h.time : Int), .int .u32 (p.h.ssrc : Int), .slice p.h.A1 p.h.csrc.length p.h.c1, .slice p.h.A2 p.h.ps.length p.h.c2, .slice p.A3 p.pay.length p.c3, .int .i64 p.pad] 35)).alloc (.cells #[.bool false, .bool false, .bool false, .int .u8 0, .bool false, .bool false, .int .u16 0, .bool false, .int .u8 0, .bool false, .int .u8 0, .bool false, .bool false, .int .u8 0] 46)) (w.heap.size + 1) 46 #[.bool false, .bool false, .bool false, .int .u8 0, .bool false, .bool false, .int .u16 0, .bool false, .int .u8 0, .bool false, .int .u8 0, .bool false, .bool false, .int .u8 0] := by have := Whole.new (w.alloc (.cells #[.bool p.h.mark, .int .u8 (p.h.typ : Int), .int .u16 (p.h.seq : Int), .int .u32 (p.h.time : Int), .int .u32 (p.h.ssrc : Int), .slice p.h.A1 p.h.csrc.length p.h.c1, .slice p.h.A2 p.h.ps.length p.h.c2, .slice p.A3 p.pay.length p.c3, .int .i64 p.pad] 35)) 46 #[.bool false, .bool false, .bool false, .int .u8 0, .bool false, .bool false, .int .u16 0, .bool false, .int .u8 0, .bool false, .int .u8 0, .bool false, .bool false, .int .u8 0]; first | with_reducible exact this | simpa using this
  have SP1 := ((NP.alloc (.cells #[.bool false, .bool false, .bool false, .int .u8 0, .bool false, .bool false, .int .u16 0, .bool false, .int .u8 0, .bool false, .int .u8 0, .bool false, .bool false, .int .u8 0] 46))).below b1 (by have := ((NP.alloc (.cells #[.bool false, .bool false, .bool false, .int .u8 0, .bool false, .bool false, .int .u16 0, .bool false, .int .u8 0, .bool false, .int .u8 0, .bool false, .bool false, .int .u8 0] 46))).lt; first | with_reducible exact this | simpa using this)
  have SR1 := (NR).below b1 (by have := (NR).lt; first | with_reducible exact this | simpa using this)
  have HB1 := Lib.hid (((((Below.refl w.heap.size w).alloc ((Below.refl w.heap.size w)).size (.cells #[.bool p.h.mark, .int .u8 (p.h.typ : Int), .int .u16 (p.h.seq : Int), .int .u32 (p.h.time : Int), .int .u32 (p.h.ssrc : Int), .slice p.h.A1 p.h.csrc.length p.h.c1, .slice p.h.A2 p.h.ps.length p.h.c2, .slice p.A3 p.pay.length p.c3, .int .i64 p.pad] 35)).alloc (((Below.refl w.heap.size w).alloc ((Below.refl w.heap.size w)).size (.cells #[.bool p.h.mark, .int .u8 (p.h.typ : Int), .int .u16 (p.h.seq : Int), .int .u32 (p.h.time : Int), .int .u32 (p.h.ssrc : Int), .slice p.h.A1 p.h.csrc.length p.h.c1, .slice p.h.A2 p.h.ps.length p.h.c2, .slice p.A3 p.pay.length p.c3, .int .i64 p.pad] 35))).size (.cells #[.bool false, .bool false, .bool false, .int .u8 0, .bool false, .bool false, .int .u16 0, .bool false, .int .u8 0, .bool false, .int .u8 0, .bool false, .bool false, .int .u8 0] 46))).trans (b1.mono ((((Below.refl w.heap.size w).alloc ((Below.refl w.heap.size w)).size (.cells #[.bool p.h.mark, .int .u8 (p.h.typ : Int), .int .u16 (p.h.seq : Int), .int .u32 (p.h.time : Int), .int .u32 (p.h.ssrc : Int), .slice p.h.A1 p.h.csrc.length p.h.c1, .slice p.h.A2 p.h.ps.length p.h.c2, .slice p.A3 p.pay.length p.c3, .int .i64 p.pad] 35)).alloc (((Below.refl w.heap.size w).alloc ((Below.refl w.heap.size w)).size (.cells #[.bool p.h.mark, .int .u8 (p.h.typ : Int), .int .u16 (p.h.seq : Int), .int .u32 (p.h.time : Int), .int .u32 (p.h.ssrc : Int), .slice p.h.A1 p.h.csrc.length p.h.c1, .slice p.h.A2 p.h.ps.length p.h.c2, .slice p.A3 p.pay.length p.c3, .int .i64 p.pad] 35))).size (.cells #[.bool false, .bool false, .bool false, .int .u8 0, .bool false, .bool false, .int .u16 0, .bool false, .int .u8 0, .bool false, .int .u8 0, .bool false, .bool false, .int .u8 0] 46))).size))
  have lP1 := SP1.lt
  have lR1 := SR1.lt
  clear b1 NP NR CV
  have P1_0 := SP1.cell 0
  have P1_1 := SP1.cell 1
  have P1_2 := SP1.cell 2
  have P1_3 := SP1.cell 3
  have P1_4 := SP1.cell 4
  have P1_5 := SP1.cell 5
  have P1_6 := SP1.cell 6
  have P1_7 := SP1.cell 7
  have P1_8 := SP1.cell 8
  have R1_0 := SR1.cell 0
  have fR1_0 := SR1.free 0
  have R1_1 := SR1.cell 1
  have fR1_1 := SR1.free 1
  have R1_2 := SR1.cell 2
  have fR1_2 := SR1.free 2
  have R1_3 := SR1.cell 3
  have fR1_3 := SR1.free 3
  have R1_4 := SR1.cell 4
  have fR1_4 := SR1.free 4
  have R1_5 := SR1.cell 5
  have fR1_5 := SR1.free 5
  have R1_6 := SR1.cell 6
  have fR1_6 := SR1.free 6
  have R1_7 := SR1.cell 7
  have fR1_7 := SR1.free 7
  have R1_8 := SR1.cell 8
  have fR1_8 := SR1.free 8
  have R1_9 := SR1.cell 9
  have fR1_9 := SR1.free 9
  have R1_10 := SR1.cell 10
  have fR1_10 := SR1.free 10
  have R1_11 := SR1.cell 11
  have fR1_11 := SR1.free 11
  have R1_12 := SR1.cell 12
  have fR1_12 := SR1.free 12
  have R1_13 := SR1.cell 13
  have fR1_13 := SR1.free 13
  replace SP1 := Lib.hid SP1
  replace SR1 := Lib.hid SR1
  rcases HQ1.out with ⟨hn, rfl⟩ | ⟨ds, r, hs, rfl⟩
  · have HN := Lib.hid hn
    clear hn CP
    clear SP1
    dsimp only [dsc0, Dsc.cells]
    go_wp2_with fail
    obtain ⟨wf1, hwf⟩ : ∃ z, z = (((((((((((((((w1.setCell ⟨w.heap.size + 1, 0, none⟩ (.bool false)).setCell ⟨w.heap.size + 1, 1, none⟩ (.bool false)).setCell ⟨w.heap.size + 1, 2, none⟩ (.bool false)).setCell ⟨w.heap.size + 1, 3, none⟩ (.int .u8 0)).setCell ⟨w.heap.size + 1, 4, none⟩ (.bool false)).setCell ⟨w.heap.size + 1, 5, none⟩ (.bool false)).setCell ⟨w.heap.size + 1, 6, none⟩ (.int .u16 0)).setCell ⟨w.heap.size + 1, 7, none⟩ (.bool false)).setCell ⟨w.heap.size + 1, 8, none⟩ (.int .u8 0)).setCell ⟨w.heap.size + 1, 9, none⟩ (.bool false)).setCell ⟨w.heap.size + 1, 10, none⟩ (.int .u8 0)).setCell ⟨w.heap.size + 1, 11, none⟩ (.bool false)).setCell ⟨w.heap.size + 1, 12, none⟩ (.bool false)).setCell ⟨w.heap.size + 1, 13, none⟩ (.int .u8 0)).alloc (.cells #[.bool false, .bool false, .bool false, .int .u8 0, .bool false, .bool false, .int .u16 0, .bool false, .int .u8 0, .bool false, .int .u8 0, .bool false, .bool false, .int .u8 0] 46)) := ⟨_, rfl⟩
    have SRf1 := ((whole_all (SR1.out) (.bool false) (.bool false) (.bool false) (.int .u8 0) (.bool false) (.bool false) (.int .u16 0) (.bool false) (.int .u8 0) (.bool false) (.int .u8 0) (.bool false) (.bool false) (.int .u8 0)).alloc (.cells #[.bool false, .bool false, .bool false, .int .u8 0, .bool false, .bool false, .int .u16 0, .bool false, .int .u8 0, .bool false, .int .u8 0, .bool false, .bool false, .int .u8 0] 46))
    have HBf1 := ((below_all (HB1.out) (show w.heap.size ≤ w.heap.size + 1 from by omega) (.bool false) (.bool false) (.bool false) (.int .u8 0) (.bool false) (.bool false) (.int .u16 0) (.bool false) (.int .u8 0) (.bool false) (.int .u8 0) (.bool false) (.bool false) (.int .u8 0)).alloc ((below_all (HB1.out) (show w.heap.size ≤ w.heap.size + 1 from by omega) (.bool false) (.bool false) (.bool false) (.int .u8 0) (.bool false) (.bool false) (.int .u16 0) (.bool false) (.int .u8 0) (.bool false) (.int .u8 0) (.bool false) (.bool false) (.int .u8 0))).size (.cells #[.bool false, .bool false, .bool false, .int .u8 0, .bool false, .bool false, .int .u16 0, .bool false, .int .u8 0, .bool false, .int .u8 0, .bool false, .bool false, .int .u8 0] 46))
    rw [← hwf] at SRf1 HBf1 ⊢
    clear hwf
    clear P1_0 P1_1 P1_2 P1_3 P1_4 P1_5 P1_6 P1_7 P1_8 R1_0 fR1_0 R1_1 fR1_1 R1_2 fR1_2 R1_3 fR1_3 R1_4 fR1_4 R1_5 fR1_5 R1_6 fR1_6 R1_7 fR1_7 R1_8 fR1_8 R1_9 fR1_9 R1_10 fR1_10 R1_11 fR1_11 R1_12 fR1_12 R1_13 fR1_13 SR1 HB1
    have lRf1 := SRf1.lt
    replace HBf1 := Lib.hid HBf1
    have r0 := SRf1.cell 0
    have r1 := SRf1.cell 1
    have r2 := SRf1.cell 2
    have r3 := SRf1.cell 3
    have r4 := SRf1.cell 4
    have r5 := SRf1.cell 5
    have r6 := SRf1.cell 6
    have r7 := SRf1.cell 7
    have r8 := SRf1.cell 8
    have r9 := SRf1.cell 9
    have r10 := SRf1.cell 10
    have r11 := SRf1.cell 11
    have r12 := SRf1.cell 12
    have r13 := SRf1.cell 13
    exact bodyPost_ret (v := .tuple #[.agg #[.bool false, .bool false, .bool false, .int .u8 0, .bool false, .bool false, .int .u16 0, .bool false, .int .u8 0, .bool false, .int .u8 0, .bool false, .bool false, .int .u8 0], .bool false]) (by simp [results, Try.results38, go_sem, r0, r1, r2, r3, r4, r5, r6, r7, r8, r9, r10, r11, r12, r13]) rfl ⟨.inr ⟨fun d r h => (by rw [HN.out] at h; cases h), dsc0, rfl⟩, HBf1.out⟩
  · have HS := Lib.hid hs
    clear hs
    dsimp only [Dsc.cells]
    go_wp2_with fail
    refine (CP.out _ ((HB1.out.alloc (HB1.out).size (.cells #[.bool ds.more, .bool ds.lone, .bool ds.start, .int .u8 (ds.part : Int), .bool ds.hasPic, .bool ds.wide, .int .u16 (ds.pic : Int), .bool ds.hasTl0, .int .u8 (ds.tl0 : Int), .bool ds.hasTid, .int .u8 (ds.tid : Int), .bool ds.sync, .bool ds.hasKey, .int .u8 (ds.key : Int)] 46)))).mono ?_
    rintro e w2 ⟨A, c, rfl, hr2, b2, _, _, _⟩
    clear hr2
    have NT : Whole (w1.alloc (.cells #[.bool ds.more, .bool ds.lone, .bool ds.start, .int .u8 (ds.part : Int), .bool ds.hasPic, .bool ds.wide, .int .u16 (ds.pic : Int), .bool ds.hasTl0, .int .u8 (ds.tl0 : Int), .bool ds.hasTid, .int .u8 (ds.tid : Int), .bool ds.sync, .bool ds.hasKey, .int .u8 (ds.key : Int)] 46)) (w1.heap.size) 46 #[.bool ds.more, .bool ds.lone, .bool ds.start, .int .u8 (ds.part : Int), .bool ds.hasPic, .bool ds.wide, .int .u16 (ds.pic : Int), .bool ds.hasTl0, .int .u8 (ds.tl0 : Int), .bool ds.hasTid, .int .u8 (ds.tid : Int), .bool ds.sync, .bool ds.hasKey, .int .u8 (ds.key : Int)] := by have := Whole.new w1 46 #[.bool ds.more, .bool ds.lone, .bool ds.start, .int .u8 (ds.part : Int), .bool ds.hasPic, .bool ds.wide, .int .u16 (ds.pic : Int), .bool ds.hasTl0, .int .u8 (ds.tl0 : Int), .bool ds.hasTid, .int .u8 (ds.tid : Int), .bool ds.sync, .bool ds.hasKey, .int .u8 (ds.key : Int)]; first | with_reducible exact this | simpa using this
    have SP2 := ((SP1.out.alloc (.cells #[.bool ds.more, .bool ds.lone, .bool ds.start, .int .u8 (ds.part : Int), .bool ds.hasPic, .bool ds.wide, .int .u16 (ds.pic : Int), .bool ds.hasTl0, .int .u8 (ds.tl0 : Int), .bool ds.hasTid, .int .u8 (ds.tid : Int), .bool ds.sync, .bool ds.hasKey, .int .u8 (ds.key : Int)] 46))).below b2 (by have := ((SP1.out.alloc (.cells #[.bool ds.more, .bool ds.lone, .bool ds.start, .int .u8 (ds.part : Int), .bool ds.hasPic, .bool ds.wide, .int .u16 (ds.pic : Int), .bool ds.hasTl0, .int .u8 (ds.tl0 : Int), .bool ds.hasTid, .int .u8 (ds.tid : Int), .bool ds.sync, .bool ds.hasKey, .int .u8 (ds.key : Int)] 46))).lt; first | with_reducible exact this | simpa using this)
    have SR2 := ((SR1.out.alloc (.cells #[.bool ds.more, .bool ds.lone, .bool ds.start, .int .u8 (ds.part : Int), .bool ds.hasPic, .bool ds.wide, .int .u16 (ds.pic : Int), .bool ds.hasTl0, .int .u8 (ds.tl0 : Int), .bool ds.hasTid, .int .u8 (ds.tid : Int), .bool ds.sync, .bool ds.hasKey, .int .u8 (ds.key : Int)] 46))).below b2 (by have := ((SR1.out.alloc (.cells #[.bool ds.more, .bool ds.lone, .bool ds.start, .int .u8 (ds.part : Int), .bool ds.hasPic, .bool ds.wide, .int .u16 (ds.pic : Int), .bool ds.hasTl0, .int .u8 (ds.tl0 : Int), .bool ds.hasTid, .int .u8 (ds.tid : Int), .bool ds.sync, .bool ds.hasKey, .int .u8 (ds.key : Int)] 46))).lt; first | with_reducible exact this | simpa using this)
    have ST2 := (NT).below b2 (by have := (NT).lt; first | with_reducible exact this | simpa using this)
    have HB2 := Lib.hid (((HB1.out.alloc (HB1.out).size (.cells #[.bool ds.more, .bool ds.lone, .bool ds.start, .int .u8 (ds.part : Int), .bool ds.hasPic, .bool ds.wide, .int .u16 (ds.pic : Int), .bool ds.hasTl0, .int .u8 (ds.tl0 : Int), .bool ds.hasTid, .int .u8 (ds.tid : Int), .bool ds.sync, .bool ds.hasKey, .int .u8 (ds.key : Int)] 46))).trans (b2.mono ((HB1.out.alloc (HB1.out).size (.cells #[.bool ds.more, .bool ds.lone, .bool ds.start, .int .u8 (ds.part : Int), .bool ds.hasPic, .bool ds.wide, .int .u16 (ds.pic : Int), .bool ds.hasTl0, .int .u8 (ds.tl0 : Int), .bool ds.hasTid, .int .u8 (ds.tid : Int), .bool ds.sync, .bool ds.hasKey, .int .u8 (ds.key : Int)] 46))).size))
    have lP2 := SP2.lt
    have lR2 := SR2.lt
    have lT2 := ST2.lt
    clear b2 P1_0 P1_1 P1_2 P1_3 P1_4 P1_5 P1_6 P1_7 P1_8 R1_0 fR1_0 R1_1 fR1_1 R1_2 fR1_2 R1_3 fR1_3 R1_4 fR1_4 R1_5 fR1_5 R1_6 fR1_6 R1_7 fR1_7 R1_8 fR1_8 R1_9 fR1_9 R1_10 fR1_10 R1_11 fR1_11 R1_12 fR1_12 R1_13 fR1_13 SP1 SR1 NT HB1 CP
    have P2_0 := SP2.cell 0
    have P2_1 := SP2.cell 1
    have P2_2 := SP2.cell 2
    have P2_3 := SP2.cell 3
    have P2_4 := SP2.cell 4
    have P2_5 := SP2.cell 5
    have P2_6 := SP2.cell 6
    have P2_7 := SP2.cell 7
    have P2_8 := SP2.cell 8
    have R2_0 := SR2.cell 0
    have fR2_0 := SR2.free 0
    have R2_1 := SR2.cell 1
    have fR2_1 := SR2.free 1
    have R2_2 := SR2.cell 2
    have fR2_2 := SR2.free 2
    have R2_3 := SR2.cell 3
    have fR2_3 := SR2.free 3
    have R2_4 := SR2.cell 4
    have fR2_4 := SR2.free 4
    have R2_5 := SR2.cell 5
    have fR2_5 := SR2.free 5
    have R2_6 := SR2.cell 6
    have fR2_6 := SR2.free 6
    have R2_7 := SR2.cell 7
    have fR2_7 := SR2.free 7
    have R2_8 := SR2.cell 8
    have fR2_8 := SR2.free 8
    have R2_9 := SR2.cell 9
    have fR2_9 := SR2.free 9
    have R2_10 := SR2.cell 10
    have fR2_10 := SR2.free 10
    have R2_11 := SR2.cell 11
    have fR2_11 := SR2.free 11
    have R2_12 := SR2.cell 12
    have fR2_12 := SR2.free 12
    have R2_13 := SR2.cell 13
    have fR2_13 := SR2.free 13
    have T2_0 := ST2.cell 0
    have T2_1 := ST2.cell 1
    have T2_2 := ST2.cell 2
    have T2_3 := ST2.cell 3
    have T2_4 := ST2.cell 4
    have T2_5 := ST2.cell 5
    have T2_6 := ST2.cell 6
    have T2_7 := ST2.cell 7
    have T2_8 := ST2.cell 8
    have T2_9 := ST2.cell 9
    have T2_10 := ST2.cell 10
    have T2_11 := ST2.cell 11
    have T2_12 := ST2.cell 12
    have T2_13 := ST2.cell 13
    replace SP2 := Lib.hid SP2
    replace SR2 := Lib.hid SR2
    replace ST2 := Lib.hid ST2
    obtain ⟨er, her⟩ : ∃ x, Mp.err ⟨p.h.mark, p.h.typ, p.h.seq, p.h.time, p.h.ssrc, p.h.csrc, p.h.ps.map Ip.it, p.pay, p.pad⟩ = x := ⟨_, rfl⟩
    rw [her]
    have HE := Lib.hid (show p.p.err = er from her)
    clear her
    by_cases h0 : er = 0
    clear SP2
    clear ST2
    · subst h0
      go_wp2_with fail
      obtain ⟨wf2, hwf⟩ : ∃ z, z = ((((((((((((((w2.setCell ⟨w.heap.size + 1, 0, none⟩ (.bool ds.more)).setCell ⟨w.heap.size + 1, 1, none⟩ (.bool ds.lone)).setCell ⟨w.heap.size + 1, 2, none⟩ (.bool ds.start)).setCell ⟨w.heap.size + 1, 3, none⟩ (.int .u8 (ds.part : Int))).setCell ⟨w.heap.size + 1, 4, none⟩ (.bool ds.hasPic)).setCell ⟨w.heap.size + 1, 5, none⟩ (.bool ds.wide)).setCell ⟨w.heap.size + 1, 6, none⟩ (.int .u16 (ds.pic : Int))).setCell ⟨w.heap.size + 1, 7, none⟩ (.bool ds.hasTl0)).setCell ⟨w.heap.size + 1, 8, none⟩ (.int .u8 (ds.tl0 : Int))).setCell ⟨w.heap.size + 1, 9, none⟩ (.bool ds.hasTid)).setCell ⟨w.heap.size + 1, 10, none⟩ (.int .u8 (ds.tid : Int))).setCell ⟨w.heap.size + 1, 11, none⟩ (.bool ds.sync)).setCell ⟨w.heap.size + 1, 12, none⟩ (.bool ds.hasKey)).setCell ⟨w.heap.size + 1, 13, none⟩ (.int .u8 (ds.key : Int))) := ⟨_, rfl⟩
      have SRf2 := (whole_all (SR2.out) (.bool ds.more) (.bool ds.lone) (.bool ds.start) (.int .u8 (ds.part : Int)) (.bool ds.hasPic) (.bool ds.wide) (.int .u16 (ds.pic : Int)) (.bool ds.hasTl0) (.int .u8 (ds.tl0 : Int)) (.bool ds.hasTid) (.int .u8 (ds.tid : Int)) (.bool ds.sync) (.bool ds.hasKey) (.int .u8 (ds.key : Int)))
      have HBf2 := (below_all (HB2.out) (show w.heap.size ≤ w.heap.size + 1 from by omega) (.bool ds.more) (.bool ds.lone) (.bool ds.start) (.int .u8 (ds.part : Int)) (.bool ds.hasPic) (.bool ds.wide) (.int .u16 (ds.pic : Int)) (.bool ds.hasTl0) (.int .u8 (ds.tl0 : Int)) (.bool ds.hasTid) (.int .u8 (ds.tid : Int)) (.bool ds.sync) (.bool ds.hasKey) (.int .u8 (ds.key : Int)))
      rw [← hwf] at SRf2 HBf2 ⊢
      clear hwf
      clear P2_0 P2_1 P2_2 P2_3 P2_4 P2_5 P2_6 P2_7 P2_8 R2_0 fR2_0 R2_1 fR2_1 R2_2 fR2_2 R2_3 fR2_3 R2_4 fR2_4 R2_5 fR2_5 R2_6 fR2_6 R2_7 fR2_7 R2_8 fR2_8 R2_9 fR2_9 R2_10 fR2_10 R2_11 fR2_11 R2_12 fR2_12 R2_13 fR2_13 T2_0 T2_1 T2_2 T2_3 T2_4 T2_5 T2_6 T2_7 T2_8 T2_9 T2_10 T2_11 T2_12 T2_13 SR2 HB2
      have lRf2 := SRf2.lt
      replace HBf2 := Lib.hid HBf2
      have r0 := SRf2.cell 0
      have r1 := SRf2.cell 1
      have r2 := SRf2.cell 2
      have r3 := SRf2.cell 3
      have r4 := SRf2.cell 4
      have r5 := SRf2.cell 5
      have r6 := SRf2.cell 6
      have r7 := SRf2.cell 7
      have r8 := SRf2.cell 8
      have r9 := SRf2.cell 9
      have r10 := SRf2.cell 10
      have r11 := SRf2.cell 11
      have r12 := SRf2.cell 12
      have r13 := SRf2.cell 13
      exact bodyPost_ret (v := .tuple #[.agg #[.bool ds.more, .bool ds.lone, .bool ds.start, .int .u8 (ds.part : Int), .bool ds.hasPic, .bool ds.wide, .int .u16 (ds.pic : Int), .bool ds.hasTl0, .int .u8 (ds.tl0 : Int), .bool ds.hasTid, .int .u8 (ds.tid : Int), .bool ds.sync, .bool ds.hasKey, .int .u8 (ds.key : Int)], .bool true]) (by simp [results, Try.results38, go_sem, r0, r1, r2, r3, r4, r5, r6, r7, r8, r9, r10, r11, r12, r13]) rfl ⟨.inl ⟨ds, r, HS.out, HE.out, rfl⟩, HBf2.out⟩
    · have e0 : (er == 0) = false := by simp [h0]
      go_wp2_with fail
      obtain ⟨wf2, hwf⟩ : ∃ z, z = ((((((((((((((w2.setCell ⟨w.heap.size + 1, 0, none⟩ (.bool ds.more)).setCell ⟨w.heap.size + 1, 1, none⟩ (.bool ds.lone)).setCell ⟨w.heap.size + 1, 2, none⟩ (.bool ds.start)).setCell ⟨w.heap.size + 1, 3, none⟩ (.int .u8 (ds.part : Int))).setCell ⟨w.heap.size + 1, 4, none⟩ (.bool ds.hasPic)).setCell ⟨w.heap.size + 1, 5, none⟩ (.bool ds.wide)).setCell ⟨w.heap.size + 1, 6, none⟩ (.int .u16 (ds.pic : Int))).setCell ⟨w.heap.size + 1, 7, none⟩ (.bool ds.hasTl0)).setCell ⟨w.heap.size + 1, 8, none⟩ (.int .u8 (ds.tl0 : Int))).setCell ⟨w.heap.size + 1, 9, none⟩ (.bool ds.hasTid)).setCell ⟨w.heap.size + 1, 10, none⟩ (.int .u8 (ds.tid : Int))).setCell ⟨w.heap.size + 1, 11, none⟩ (.bool ds.sync)).setCell ⟨w.heap.size + 1, 12, none⟩ (.bool ds.hasKey)).setCell ⟨w.heap.size + 1, 13, none⟩ (.int .u8 (ds.key : Int))) := ⟨_, rfl⟩
      have SRf2 := (whole_all (SR2.out) (.bool ds.more) (.bool ds.lone) (.bool ds.start) (.int .u8 (ds.part : Int)) (.bool ds.hasPic) (.bool ds.wide) (.int .u16 (ds.pic : Int)) (.bool ds.hasTl0) (.int .u8 (ds.tl0 : Int)) (.bool ds.hasTid) (.int .u8 (ds.tid : Int)) (.bool ds.sync) (.bool ds.hasKey) (.int .u8 (ds.key : Int)))
      have HBf2 := (below_all (HB2.out) (show w.heap.size ≤ w.heap.size + 1 from by omega) (.bool ds.more) (.bool ds.lone) (.bool ds.start) (.int .u8 (ds.part : Int)) (.bool ds.hasPic) (.bool ds.wide) (.int .u16 (ds.pic : Int)) (.bool ds.hasTl0) (.int .u8 (ds.tl0 : Int)) (.bool ds.hasTid) (.int .u8 (ds.tid : Int)) (.bool ds.sync) (.bool ds.hasKey) (.int .u8 (ds.key : Int)))
      rw [← hwf] at SRf2 HBf2 ⊢
      clear hwf
      clear P2_0 P2_1 P2_2 P2_3 P2_4 P2_5 P2_6 P2_7 P2_8 R2_0 fR2_0 R2_1 fR2_1 R2_2 fR2_2 R2_3 fR2_3 R2_4 fR2_4 R2_5 fR2_5 R2_6 fR2_6 R2_7 fR2_7 R2_8 fR2_8 R2_9 fR2_9 R2_10 fR2_10 R2_11 fR2_11 R2_12 fR2_12 R2_13 fR2_13 T2_0 T2_1 T2_2 T2_3 T2_4 T2_5 T2_6 T2_7 T2_8 T2_9 T2_10 T2_11 T2_12 T2_13 SR2 HB2
      have lRf2 := SRf2.lt
      replace HBf2 := Lib.hid HBf2
      have r0 := SRf2.cell 0
      have r1 := SRf2.cell 1
      have r2 := SRf2.cell 2
      have r3 := SRf2.cell 3
      have r4 := SRf2.cell 4
      have r5 := SRf2.cell 5
      have r6 := SRf2.cell 6
      have r7 := SRf2.cell 7
      have r8 := SRf2.cell 8
      have r9 := SRf2.cell 9
      have r10 := SRf2.cell 10
      have r11 := SRf2.cell 11
      have r12 := SRf2.cell 12
      have r13 := SRf2.cell 13
      exact bodyPost_ret (v := .tuple #[.agg #[.bool ds.more, .bool ds.lone, .bool ds.start, .int .u8 (ds.part : Int), .bool ds.hasPic, .bool ds.wide, .int .u16 (ds.pic : Int), .bool ds.hasTl0, .int .u8 (ds.tl0 : Int), .bool ds.hasTid, .int .u8 (ds.tid : Int), .bool ds.sync, .bool ds.hasKey, .int .u8 (ds.key : Int)], .bool false]) (by simp [results, Try.results38, go_sem, r0, r1, r2, r3, r4, r5, r6, r7, r8, r9, r10, r11, r12, r13]) rfl ⟨.inr ⟨fun _ _ _ => (by rw [HE.out]; exact h0), ds, rfl⟩, HBf2.out⟩
end Go.Proofs.Yticnaljfnjiofaa
