/-
  Proved: MungeOnce returns true for all numbers, every row of steps, and every row of what is left out (of more than 120 steps, or fewer that tell what is left out, there is nothing to show): of packets that come once each, however mixed, and some of which are left out, no two that are told have one Seq. Conditions: none.
-/
import Derived.Test.YtpemikncbolkbaaMuD
import Derived.Test.YtpemikncbolkbaaMuO
import Derived.Test.YtpemikncbolkbaaMuP
import Derived.Test.YtpemikncbolkbaaMuQ
import Derived.Deep.CutBlock
import Derived.Test.YtpemikncbolkbaaQueL
import Derived.Test.YtpemikncbolkbaaOnM
namespace Go.Proofs.Ytpemikncbolkbaa.UOnce
open Go.ChangeShapes Go.WideShapes Go.ChangeAt Go.RowKit
set_option linter.unusedSimpArgs false
set_option linter.unusedVariables false

set_option maxRecDepth 1000000 in
set_option maxHeartbeats 100000000 in
theorem walk (w : World) (f : Mn) (hf : f.Fit) (A : Option Addr) (c : Nat) (l : List Int) (hl : l.length ≤ maxLen) (hr : Row w w.heap.size 1 A l.length (l.map (Value.int .i8))) (hq : ∀ x ∈ l, -128 ≤ x ∧ x < 128)
    (A2 : Option Addr) (c2 : Nat) (l2 : List Bool) (hl2 : l2.length ≤ maxLen) (hr2 : Row w w.heap.size 1 A2 l2.length (l2.map Value.bool)) :
    Calls Try.prog 6 #[.agg f.cells, .slice A l.length c, .slice A2 l2.length c2] w fun e w' => e = .returned (.bool true) ∧ Below w.heap.size w w' := by
  unfold maxLen at hl hl2
  obtain ⟨n, hn⟩ : ∃ n, l.length = n := ⟨_, rfl⟩
  obtain ⟨m, hm⟩ : ∃ m, l2.length = m := ⟨_, rfl⟩
  rw [hn] at hl hr ⊢
  rw [hm] at hl2 hr2 ⊢
  have CA := Lib.hid (fun w => awake_any w)
  have CW := fun w => mswitch_any Mst.zero f 0 (Mst.zero_fit.parts (by decide)) hf (by decide) w
  rw [(first_switch f 0).1, (first_switch f 0).2] at CW
  have ON := Onc.first f hf
  obtain ⟨ff, hff⟩ : ∃ d, f.less f = d := ⟨_, rfl⟩
  rw [hff] at CW ON
  obtain ⟨fq, ft, fp, fl⟩ := f
  obtain ⟨aq, at', ap, al⟩ := ff
  have HF := Lib.hid hf
  have E0 := Lib.hid (show (fq + 0) % 65536 = fq by have := hf.seq; dsimp only at this; omega)
  dsimp only [Mst.cells, Mn.cells, Mst.zero, Mn.zero] at CW ON ⊢
  replace CW := Lib.hid CW
  replace ON := Lib.hid ON
  have HR := Lib.hid hr
  have HN := Lib.hid hn
  have HQ := Lib.hid hq
  have HR2 := Lib.hid hr2
  have HN2 := Lib.hid hm
  clear hr hn hq hff hf hr2 hm
  go_enter Try.func6, Try.ntmps6
  go_wp2_with fail
  refine (CA.out _).mono ?_
  rintro e w1 ⟨rfl, b1⟩
  have Nf : Whole (w.alloc (.cells #[.int .u16 fq, .int .u32 ft, .int .u16 fp, .int .u8 fl] 25)) (w.heap.size) 25 #[.int .u16 fq, .int .u32 ft, .int .u16 fp, .int .u8 fl] := by have := Whole.new w 25 #[.int .u16 fq, .int .u32 ft, .int .u16 fp, .int .u8 fl]; first | with_reducible exact this | simpa using this
  have Sf1 := (Nf).below b1 (by have := (Nf).lt; first | with_reducible exact this | simpa using this)
  have HB1 := Lib.hid ((((Below.refl w.heap.size w).alloc ((Below.refl w.heap.size w)).size (.cells #[.int .u16 fq, .int .u32 ft, .int .u16 fp, .int .u8 fl] 25))).trans (b1.mono (((Below.refl w.heap.size w).alloc ((Below.refl w.heap.size w)).size (.cells #[.int .u16 fq, .int .u32 ft, .int .u16 fp, .int .u8 fl] 25))).size))
  have lf1 := Sf1.lt
  clear b1 Nf CA
  have f1_0 := Sf1.cell 0
  have f1_1 := Sf1.cell 1
  have f1_2 := Sf1.cell 2
  have f1_3 := Sf1.cell 3
  replace Sf1 := Lib.hid Sf1
  by_cases h1 : 120 < n
  · go_wp2
    go_ret
    exact ⟨rfl, HB1.out⟩
  by_cases h2 : m < n
  · go_wp2
    go_ret
    exact ⟨rfl, HB1.out⟩
  go_wp2_with fail
  refine (CW.out _).mono ?_
  rintro e w2 ⟨rfl, b2⟩
  have Ns : Whole (w1.alloc (.cells #[.bool false, .int .i64 0, .int .i64 0, .int .u16 0, .int .u32 0, .int .u16 0, .int .u8 0, .int .u16 0, .int .u32 0, .int .u16 0, .int .u8 0] 27)) (w1.heap.size) 27 #[.bool false, .int .i64 0, .int .i64 0, .int .u16 0, .int .u32 0, .int .u16 0, .int .u8 0, .int .u16 0, .int .u32 0, .int .u16 0, .int .u8 0] := by have := Whole.new w1 27 #[.bool false, .int .i64 0, .int .i64 0, .int .u16 0, .int .u32 0, .int .u16 0, .int .u8 0, .int .u16 0, .int .u32 0, .int .u16 0, .int .u8 0]; first | with_reducible exact this | simpa using this
  have Sf2 := ((Sf1.out.alloc (.cells #[.bool false, .int .i64 0, .int .i64 0, .int .u16 0, .int .u32 0, .int .u16 0, .int .u8 0, .int .u16 0, .int .u32 0, .int .u16 0, .int .u8 0] 27))).below b2 (by have := ((Sf1.out.alloc (.cells #[.bool false, .int .i64 0, .int .i64 0, .int .u16 0, .int .u32 0, .int .u16 0, .int .u8 0, .int .u16 0, .int .u32 0, .int .u16 0, .int .u8 0] 27))).lt; first | with_reducible exact this | simpa using this)
  have Ss2 := (Ns).below b2 (by have := (Ns).lt; first | with_reducible exact this | simpa using this)
  have HB2 := Lib.hid (((HB1.out.alloc (HB1.out).size (.cells #[.bool false, .int .i64 0, .int .i64 0, .int .u16 0, .int .u32 0, .int .u16 0, .int .u8 0, .int .u16 0, .int .u32 0, .int .u16 0, .int .u8 0] 27))).trans (b2.mono ((HB1.out.alloc (HB1.out).size (.cells #[.bool false, .int .i64 0, .int .i64 0, .int .u16 0, .int .u32 0, .int .u16 0, .int .u8 0, .int .u16 0, .int .u32 0, .int .u16 0, .int .u8 0] 27))).size))
  have lf2 := Sf2.lt
  have ls2 := Ss2.lt
  clear b2 f1_0 f1_1 f1_2 f1_3 Sf1 Ns HB1 CW
  have f2_0 := Sf2.cell 0
  have ff2_0 := Sf2.free 0
  have f2_1 := Sf2.cell 1
  have ff2_1 := Sf2.free 1
  have f2_2 := Sf2.cell 2
  have ff2_2 := Sf2.free 2
  have f2_3 := Sf2.cell 3
  have ff2_3 := Sf2.free 3
  have s2_0 := Ss2.cell 0
  have fs2_0 := Ss2.free 0
  have s2_1 := Ss2.cell 1
  have fs2_1 := Ss2.free 1
  have s2_2 := Ss2.cell 2
  have fs2_2 := Ss2.free 2
  have s2_3 := Ss2.cell 3
  have fs2_3 := Ss2.free 3
  have s2_4 := Ss2.cell 4
  have fs2_4 := Ss2.free 4
  have s2_5 := Ss2.cell 5
  have fs2_5 := Ss2.free 5
  have s2_6 := Ss2.cell 6
  have fs2_6 := Ss2.free 6
  have s2_7 := Ss2.cell 7
  have fs2_7 := Ss2.free 7
  have s2_8 := Ss2.cell 8
  have fs2_8 := Ss2.free 8
  have s2_9 := Ss2.cell 9
  have fs2_9 := Ss2.free 9
  have s2_10 := Ss2.cell 10
  have fs2_10 := Ss2.free 10
  replace Sf2 := Lib.hid Sf2
  replace Ss2 := Lib.hid Ss2
  go_upto_region 10 with fail
  obtain ⟨wf1, hwf⟩ : ∃ z, z = ((((((((((((w2.setCell ⟨w1.heap.size, 0, none⟩ (.bool true)).setCell ⟨w1.heap.size, 1, none⟩ (.int .i64 fq)).setCell ⟨w1.heap.size, 2, none⟩ (.int .i64 fq)).setCell ⟨w1.heap.size, 3, none⟩ (.int .u16 aq)).setCell ⟨w1.heap.size, 4, none⟩ (.int .u32 at')).setCell ⟨w1.heap.size, 5, none⟩ (.int .u16 ap)).setCell ⟨w1.heap.size, 6, none⟩ (.int .u8 al)).setCell ⟨w1.heap.size, 7, none⟩ (.int .u16 fq)).setCell ⟨w1.heap.size, 8, none⟩ (.int .u32 ft)).setCell ⟨w1.heap.size, 9, none⟩ (.int .u16 fp)).setCell ⟨w1.heap.size, 10, none⟩ (.int .u8 fl)).alloc (.cells #[.int .u16 fq, .int .u32 ft, .int .u16 fp, .int .u8 fl] 25)) := ⟨_, rfl⟩
  have Ng : Whole ((((((((((((w2.setCell ⟨w1.heap.size, 0, none⟩ (.bool true)).setCell ⟨w1.heap.size, 1, none⟩ (.int .i64 fq)).setCell ⟨w1.heap.size, 2, none⟩ (.int .i64 fq)).setCell ⟨w1.heap.size, 3, none⟩ (.int .u16 aq)).setCell ⟨w1.heap.size, 4, none⟩ (.int .u32 at')).setCell ⟨w1.heap.size, 5, none⟩ (.int .u16 ap)).setCell ⟨w1.heap.size, 6, none⟩ (.int .u8 al)).setCell ⟨w1.heap.size, 7, none⟩ (.int .u16 fq)).setCell ⟨w1.heap.size, 8, none⟩ (.int .u32 ft)).setCell ⟨w1.heap.size, 9, none⟩ (.int .u16 fp)).setCell ⟨w1.heap.size, 10, none⟩ (.int .u8 fl)).alloc (.cells #[.int .u16 fq, .int .u32 ft, .int .u16 fp, .int .u8 fl] 25)) (w2.heap.size) 25 #[.int .u16 fq, .int .u32 ft, .int .u16 fp, .int .u8 fl] := by have := Whole.new (((((((((((w2.setCell ⟨w1.heap.size, 0, none⟩ (.bool true)).setCell ⟨w1.heap.size, 1, none⟩ (.int .i64 fq)).setCell ⟨w1.heap.size, 2, none⟩ (.int .i64 fq)).setCell ⟨w1.heap.size, 3, none⟩ (.int .u16 aq)).setCell ⟨w1.heap.size, 4, none⟩ (.int .u32 at')).setCell ⟨w1.heap.size, 5, none⟩ (.int .u16 ap)).setCell ⟨w1.heap.size, 6, none⟩ (.int .u8 al)).setCell ⟨w1.heap.size, 7, none⟩ (.int .u16 fq)).setCell ⟨w1.heap.size, 8, none⟩ (.int .u32 ft)).setCell ⟨w1.heap.size, 9, none⟩ (.int .u16 fp)).setCell ⟨w1.heap.size, 10, none⟩ (.int .u8 fl)) 25 #[.int .u16 fq, .int .u32 ft, .int .u16 fp, .int .u8 fl]; first | with_reducible exact this | simpa using this
  have Sff1 := ((Whole.eleven_far (Sf2.out) (show w.heap.size ≠ w1.heap.size from by omega) (.bool true) (.int .i64 fq) (.int .i64 fq) (.int .u16 aq) (.int .u32 at') (.int .u16 ap) (.int .u8 al) (.int .u16 fq) (.int .u32 ft) (.int .u16 fp) (.int .u8 fl)).alloc (.cells #[.int .u16 fq, .int .u32 ft, .int .u16 fp, .int .u8 fl] 25))
  have Ssf1 := ((Whole.eleven (Ss2.out) (.bool true) (.int .i64 fq) (.int .i64 fq) (.int .u16 aq) (.int .u32 at') (.int .u16 ap) (.int .u8 al) (.int .u16 fq) (.int .u32 ft) (.int .u16 fp) (.int .u8 fl)).alloc (.cells #[.int .u16 fq, .int .u32 ft, .int .u16 fp, .int .u8 fl] 25))
  have Sgf1 := Ng
  have HBf1 := ((eleven_set (HB2.out) (show w.heap.size ≤ w1.heap.size from by omega) (.bool true) (.int .i64 fq) (.int .i64 fq) (.int .u16 aq) (.int .u32 at') (.int .u16 ap) (.int .u8 al) (.int .u16 fq) (.int .u32 ft) (.int .u16 fp) (.int .u8 fl)).alloc ((eleven_set (HB2.out) (show w.heap.size ≤ w1.heap.size from by omega) (.bool true) (.int .i64 fq) (.int .i64 fq) (.int .u16 aq) (.int .u32 at') (.int .u16 ap) (.int .u8 al) (.int .u16 fq) (.int .u32 ft) (.int .u16 fp) (.int .u8 fl))).size (.cells #[.int .u16 fq, .int .u32 ft, .int .u16 fp, .int .u8 fl] 25))
  rw [← hwf] at Sff1 Ssf1 Sgf1 HBf1 ⊢
  clear hwf
  clear f2_0 ff2_0 f2_1 ff2_1 f2_2 ff2_2 f2_3 ff2_3 s2_0 fs2_0 s2_1 fs2_1 s2_2 fs2_2 s2_3 fs2_3 s2_4 fs2_4 s2_5 fs2_5 s2_6 fs2_6 s2_7 fs2_7 s2_8 fs2_8 s2_9 fs2_9 s2_10 fs2_10 Sf2 Ss2 Ng HB2
  have lff1 := Sff1.lt
  have lsf1 := Ssf1.lt
  have lgf1 := Sgf1.lt
  replace HBf1 := Lib.hid HBf1
  obtain ⟨gs, hgs⟩ : ∃ g, g = w1.heap.size := ⟨_, rfl⟩
  obtain ⟨gg, hgg⟩ : ∃ g, g = w2.heap.size := ⟨_, rfl⟩
  rw [← hgs, ← hgg]
  rw [← hgs] at Ssf1
  rw [← hgg] at Sgf1
  have d1 : w.heap.size < gs := by omega
  have d2 : gs < gg := by omega
  clear hgs hgg
  have lf := Sff1.lt
  have ls := Ssf1.lt
  have lg := Sgf1.lt
  have v0 := Sff1.cell 0
  have v1 := Sgf1.cell 0
  replace Sff1 := Lib.hid Sff1
  replace Ssf1 := Lib.hid Ssf1
  replace Sgf1 := Lib.hid Sgf1
  have HRW := Lib.hid (show Row (wf1.alloc (.cells #[.int .u16 fq] 22)) (wf1.heap.size + 1) 1 (some ⟨wf1.heap.size, 0, none⟩) 1 [.int .u16 fq] from Row.one _ _ _)
  go_wp2_with (at_builtin; refine wpl_append _ rfl (.tmp 40) (.tmp 43) 56 rfl (gg + 1) 22 (.int .u16 0) 1 2 Try.underlying56 info_u16o rfl (by decide) (.slice none 0 0) 0 ([]) rfl (World.ownsRow_nil _ _ _ _) (wf1.heap.size + 1) (some ⟨wf1.heap.size, 0, none⟩) 1 1 [.int .u16 fq] rfl HRW.out (by simp [Value.oneCell']) ?ca1 ?cb1 ?cc1 ?_)
  case ca1 => unfold maxLen; omega
  case cb1 => omega
  case cc1 => simp; omega
  intro vc wa hownA hgA _
  have Sffa := Lib.hid ((Sff1.out.alloc _).grown hgA (by simp [Value.ownBlock]))
  have Ssfa := Lib.hid ((Ssf1.out.alloc _).grown hgA (by simp [Value.ownBlock]))
  have Sgfa := (Sgf1.out.alloc _).grown hgA (by simp [Value.ownBlock])
  have HBa := Lib.hid ((HBf1.out.alloc HBf1.out.size (.cells #[.int .u16 fq] 22)).grown hgA (by have := HBf1.out.size; simp; omega) (fun q hq => by simp [Value.ownBlock] at hq))
  have hza := hgA.size
  have v2 := Sgfa.cell 0
  have HOA := Lib.hid hownA
  clear hownA hgA HRW HBf1 Sff1 Ssf1 Sgf1 v0 v1 Sgfa
  simp at hza
  have HRW := Lib.hid (show Row (wa.alloc (.cells #[.int .u16 fq] 22)) (wa.heap.size + 1) 1 (some ⟨wa.heap.size, 0, none⟩) 1 [.int .u16 fq] from Row.one _ _ _)
  go_wp2_with (at_builtin; refine wpl_append _ rfl (.tmp 45) (.tmp 48) 56 rfl (gg + 1) 22 (.int .u16 0) 1 2 Try.underlying56 info_u16o rfl (by decide) (.slice none 0 0) 0 ([]) rfl (World.ownsRow_nil _ _ _ _) (wa.heap.size + 1) (some ⟨wa.heap.size, 0, none⟩) 1 1 [.int .u16 fq] rfl HRW.out (by simp [Value.oneCell']) ?ca2 ?cb2 ?cc2 ?_)
  case ca2 => unfold maxLen; omega
  case cb2 => omega
  case cc2 => simp; omega
  intro vt wb hownB hgB hvB
  have Sffb := (Sffa.out.alloc _).grown hgB (by simp [Value.ownBlock])
  have Ssfb := Lib.hid ((Ssfa.out.alloc _).grown hgB (by simp [Value.ownBlock]))
  have HBb := Lib.hid ((HBa.out.alloc HBa.out.size (.cells #[.int .u16 fq] 22)).grown hgB (by have := HBa.out.size; simp; omega) (fun q hq => by simp [Value.ownBlock] at hq))
  have HOA2 := Lib.hid ((HOA.out.alloc (.cells #[.int .u16 fq] 22)).kept hgB (show vc.ownBlock = none ∨ vc.ownBlock ≠ none by generalize vc.ownBlock = o; cases o <;> simp))
  have HAP := Lib.hid (Apart.grown (w := wa.alloc (.cells #[.int .u16 fq] 22)) ((Apart.none vc).symm) (by simpa using hvB) (HOA.out.alloc _)).symm
  have HAP := Lib.hid HAP.out
  have hzb := hgB.size
  simp at hzb
  have v3 := Sffb.cell 0
  have HOB := Lib.hid hownB
  clear hownB hgB hvB HRW HBa Sffa Ssfa HOA v2 Sffb
  have HI1 := Lib.hid (show wb.ownsRow (gg + 1) 22 1 vc ([0] : List Int).length (lowF fq [0]) from by rw [show lowF fq [0] = [.int .u16 fq] from by simp only [lowF, List.map, E0.out]]; exact HOA2.out)
  have HI2 := Lib.hid (show wb.ownsRow (gg + 1) 22 1 vt ([0] : List Int).length (lowF fq [0]) from by rw [show lowF fq [0] = [.int .u16 fq] from by simp only [lowF, List.map, E0.out]]; exact HOB.out)
  clear HOA2 HOB
  have hgz : gg + 1 ≤ wb.heap.size := by omega
  go_wp2_with fail
  go_loopw [10, 11, 12, 13] (fun va vb y i wr => ∃ (k : Nat) (cs ts : List Int) (j : Int) (s : Mst), k ≤ n ∧ y = .int .u16 ((fq + j) % 65536) ∧ i = .int .i64 (k : Int) ∧ wr.ownsRow (gg + 1) 22 1 va cs.length (lowF fq cs) ∧ wr.ownsRow (gg + 1) 22 1 vb ts.length (lowF fq ts) ∧ Hid (Apart va vb) ∧ Hid (Onc s fq k cs ts ∧ (-(128 * (k : Int)) ≤ j ∧ j ≤ 128 * k) ∧ cs.length ≤ k + 1 ∧ ts.length ≤ k + 1 ∧ 0 < cs.length) ∧ Hid (Whole wr gs 27 s.cells) ∧ gg + 1 ≤ wr.heap.size ∧ Below w.heap.size w wr) (fun _ _ _ i _ => n - (intOf i).toNat)
  case atStart => exact ⟨0, [0], [0], 0, ⟨true, fq, fq, ⟨aq, at', ap, al⟩, ⟨fq, ft, fp, fl⟩⟩, Nat.zero_le _, by rw [E0.out], rfl, HI1.out, HI2.out, HAP, Lib.hid ⟨ON.out, by omega, by simp, by simp, by simp⟩, Ssfb, hgz, HBb.out⟩
  case round =>
    clear HI1 HI2 HAP ON Ssfb hgz HBb v3
    obtain ⟨k, cs, ts, j, s, hk, rfl, rfl, ho1, ho2, AP, ON, HW, hgz, hb⟩ := hrel
    obtain ⟨Ac, cc, rfl⟩ := own_form ho1
    obtain ⟨At, ct, rfl⟩ := own_form ho2
    obtain ⟨wq, rfl⟩ : ∃ wq : World, wq = wr := ⟨_, rfl⟩
    obtain ⟨N, hN⟩ : ∃ N, cs.length = N := ⟨_, rfl⟩
    obtain ⟨M, hM⟩ : ∃ M, ts.length = M := ⟨_, rfl⟩
    rw [hN] at ho1 AP ON ⊢
    rw [hM] at ho2 AP ON ⊢
    obtain ⟨on1, on2, on3, on4, on5⟩ := ON.out
    have HN1 := Lib.hid hN
    have HM1 := Lib.hid hM
    have HO1 := Lib.hid ho1
    have HO2 := Lib.hid ho2
    have HB := Lib.hid hb
    have hsz := hb.size
    have hgl := HW.out.lt
    have HON := Lib.hid on1
    clear hN hM ho1 ho2 hb on1 ON
    by_cases hlt : k < n
    · obtain ⟨d, hd⟩ : ∃ x, l[k]? = some x := ⟨l[k]'(by rw [HN.out]; exact hlt), by simp⟩
      obtain ⟨g, o, rfl, hg0, hat⟩ := one_at HR.out (by omega)
      have r0 := hat _ HB.out k d hd
      have hdb := HQ.out d (List.mem_of_getElem? hd)
      clear hat hd
      have hgo : g < wq.heap.size := by omega
      have hi1 : (0 : Int) ≤ (k : Int) := by omega
      have hi2 : (k : Int) < (n : Int) := by omega
      have hJ : -(128 * ((k : Int) + 1)) ≤ j + d ∧ j + d ≤ 128 * ((k : Int) + 1) := by omega
      obtain ⟨yq, hyq⟩ : ∃ y, (fq + (j + d)) % 65536 = y := ⟨_, rfl⟩
      have E1 : IntKind.u16.wrap ((fq + j) % 65536 + IntKind.u16.wrap d) = yq := by rw [wrap_u16, wrap_u16]; omega
      have HY := Lib.hid hyq
      have hyb : 0 ≤ yq ∧ yq < 65536 := by omega
      clear hyq
      obtain ⟨g1, rfl, hg1, hg1', hc1⟩ := own_at0 HO1.out on5
      have HC1 := Lib.hid hc1
      clear hc1
      go_wp2_with fail
      clear E1 r0 hdb
      go_loopw [14, 15] (fun b i wx => ∃ p : Nat, p ≤ N ∧ b = .bool (among fq cs p yq) ∧ i = .int .i64 (p : Int) ∧ wq = wx) (fun _ i _ => N - (intOf i).toNat)
      case atStart => exact ⟨0, Nat.zero_le _, by rw [among_zero], rfl, rfl⟩
      case round =>
        obtain ⟨p, hp, rfl, rfl, rfl⟩ := hrel
        by_cases hpl : p < N
        · obtain ⟨c0, hc0⟩ : ∃ x, cs[p]? = some x := ⟨cs[p]'(by rw [HN1.out]; exact hpl), by simp⟩
          have q0 := (HC1.out p hpl).trans (lowF_get (f := fq) hc0)
          have hnx := among_next (f := fq) (y := yq) hc0
          obtain ⟨zq, hzq⟩ : ∃ z, (fq + c0) % 65536 = z := ⟨_, rfl⟩
          rw [hzq] at q0 hnx
          obtain ⟨bb, hbb⟩ : ∃ b, among fq cs p yq = b := ⟨_, rfl⟩
          rw [hbb] at hnx ⊢
          have HNX := Lib.hid hnx
          have hp1 : (0 : Int) ≤ (p : Int) := by omega
          have hp2 : (p : Int) < (N : Int) := by omega
          clear hc0 hzq hbb hnx
          cases bb
          · by_cases hz : zq = yq
            · have hzb : (zq == yq) = true := by simp [hz]
              have e := HNX.out
              rw [decide_eq_true hz] at e
              replace e := Lib.hid e
              clear HNX hz
              go_wp2
              go_roundw
              case rel => exact ⟨p + 1, by omega, by rw [e.out]; rfl, by go_num, by trivial⟩
              case measure => simp [intOf]; omega
            · have hzb : (zq == yq) = false := by simp [hz]
              have e := HNX.out
              rw [decide_eq_false hz] at e
              replace e := Lib.hid e
              clear HNX hz
              go_wp2
              go_roundw
              case rel => exact ⟨p + 1, by omega, by rw [e.out]; rfl, by go_num, by trivial⟩
              case measure => simp [intOf]; omega
          · have e := HNX.out
            rw [Bool.true_or] at e
            replace e := Lib.hid e
            clear HNX
            go_wp2
            go_roundw
            case rel => exact ⟨p + 1, by omega, by rw [e.out], by go_num, by trivial⟩
            case measure => simp [intOf]; omega
        · obtain rfl : N = p := by omega
          have han : among fq cs N yq = cs.any (fun c => decide ((fq + c) % 65536 = yq)) := by rw [← HN1.out]; exact among_all
          obtain ⟨tw, htw⟩ : ∃ b, among fq cs N yq = b := ⟨_, rfl⟩
          rw [htw] at han ⊢
          clear htw hp hpl
          cases tw with
          | true =>
            clear han
            go_wp2
            go_roundw
            case rel => exact ⟨k + 1, cs, ts, j + d, s, by omega, by rw [HY.out], by go_num, by rw [HN1.out]; exact HO1.out, by rw [HM1.out]; exact HO2.out, AP, Lib.hid ⟨HON.out.more (by omega), by omega, by rw [HN1.out]; omega, by rw [HM1.out]; omega, by rw [HN1.out]; omega⟩, HW, hgz, HB.out⟩
            case measure => simp [intOf]; omega
          | false =>
            have hnew : j + d ∉ cs := HON.out.new (by omega) hJ (by rw [HY.out]; exact han.symm)
            have HNW := Lib.hid hnew
            clear han hnew
            clear HC1
            have HRW := Lib.hid (show Row (wq.alloc (.cells #[.int .u16 yq] 22)) (wq.heap.size + 1) 1 (some ⟨wq.heap.size, 0, none⟩) 1 [.int .u16 yq] from Row.one _ _ _)
            go_wp2_with (at_builtin; refine wpl_append _ rfl (.tmp 82) (.tmp 84) 56 rfl (gg + 1) 22 (.int .u16 0) 1 2 Try.underlying56 info_u16o rfl (by decide) (.slice (some ⟨g1, 0, none⟩) N cc) N (lowF fq cs) rfl (HO1.out.alloc _) (wq.heap.size + 1) (some ⟨wq.heap.size, 0, none⟩) 1 1 [.int .u16 yq] rfl HRW.out (by simp [Value.oneCell']) ?ca3 ?cb3 ?cc3 ?_)
            case ca3 => unfold maxLen; omega
            case cb3 => omega
            case cc3 => simp; omega
            intro v4 w4 hown4 hg4 hv4
            have HB4 := Lib.hid ((HB.out.alloc hsz (.cells #[.int .u16 yq] 22)).grown hg4 (by simp; omega) (fun q hq => by simp [Value.ownBlock] at hq; omega))
            have HW4 := Lib.hid ((HW.out.alloc (.cells #[.int .u16 yq] 22)).grown hg4 (fun e => by simp [Value.ownBlock] at e; omega))
            have HT4 := Lib.hid ((HO2.out.alloc (.cells #[.int .u16 yq] 22)).kept hg4 AP.out.symm.or)
            have AP4 := Lib.hid (Apart.grown (w := wq.alloc (.cells #[.int .u16 yq] 22)) AP.out (by simpa using hv4) (HO2.out.alloc _))
            have HC4 : Hid (w4.ownsRow (gg + 1) 22 1 v4 (N + 1) (lowF fq (cs ++ [j + d]))) := Lib.hid (by rw [lowF_append, HY.out]; exact hown4)
            have hz4 : gg + 1 ≤ w4.heap.size := by have := hg4.size; simp at this; omega
            have hl4 := HW4.out.lt
            obtain ⟨g2, o2, rfl, hg2, hat2⟩ := one_at HR2.out (by omega)
            obtain ⟨b, hb⟩ : ∃ x, l2[k]? = some x := ⟨l2[k]'(by rw [HN2.out]; omega), by simp⟩
            have y0 := hat2 _ HB4.out k b hb
            have hi3 : (k : Int) < (m : Int) := by omega
            have hgo2 : g2 < w4.heap.size := by omega
            have hxf : (⟨yq, 0, 0, 0⟩ : Mn).Fit := ⟨hyb, by dsimp only; omega, by dsimp only; omega, by dsimp only; omega⟩
            have hsf := HON.out.fit HF.out.seq (by omega)
            clear hown4 hg4 hv4 HRW HB HW HO1 HO2 AP hat2 hb hg2
            cases b with
            | true =>
              have CD := fun w => mdrop_any s ⟨yq, 0, 0, 0⟩ false hsf hxf w
              have OD := HON.out.drop (x := ⟨yq, 0, 0, 0⟩) (by omega) hJ HY.out.symm false
              obtain ⟨d', hd'⟩ : ∃ z, s.dropS ⟨yq, 0, 0, 0⟩ false = z := ⟨_, rfl⟩
              rw [hd'] at CD OD
              have OD2 := Lib.hid OD
              clear OD hd' hsf hxf HON HNW
              obtain ⟨son, sh, sc, ⟨soq, sot, sop, sol⟩, ⟨suq, sut, sup, sul⟩⟩ := s
              obtain ⟨don, dh, dc, ⟨doq, dot, dop, dol⟩, ⟨duq, dut, dup, dul⟩⟩ := d'
              dsimp only [Mst.cells, Mn.cells] at *
              replace CD := Lib.hid CD
              have k0 := HW4.out.cell 0
              have k1 := HW4.out.cell 1
              have k2 := HW4.out.cell 2
              have k3 := HW4.out.cell 3
              have k4 := HW4.out.cell 4
              have k5 := HW4.out.cell 5
              have k6 := HW4.out.cell 6
              have k7 := HW4.out.cell 7
              have k8 := HW4.out.cell 8
              have k9 := HW4.out.cell 9
              have k10 := HW4.out.cell 10
              have f0 := HW4.out.free 0
              have f1 := HW4.out.free 1
              have f2 := HW4.out.free 2
              have f3 := HW4.out.free 3
              have f4 := HW4.out.free 4
              have f5 := HW4.out.free 5
              have f6 := HW4.out.free 6
              have f7 := HW4.out.free 7
              have f8 := HW4.out.free 8
              have f9 := HW4.out.free 9
              have f10 := HW4.out.free 10
              go_wp2_with fail
              refine (CD.out _).mono ?_
              rintro e w41 ⟨rfl, b41⟩
              have HT5 := Lib.hid (own_below (HT4.out.alloc (.cells #[.int .u16 yq, .int .u32 0, .int .u16 0, .int .u8 0] 25)) b41 (Nat.le_refl _))
              have HC5 := Lib.hid (own_below (HC4.out.alloc (.cells #[.int .u16 yq, .int .u32 0, .int .u16 0, .int .u8 0] 25)) b41 (Nat.le_refl _))
              have hz5 := b41.size
              simp at hz5
              have Nx : Whole (w4.alloc (.cells #[.int .u16 yq, .int .u32 0, .int .u16 0, .int .u8 0] 25)) (w4.heap.size) 25 #[.int .u16 yq, .int .u32 0, .int .u16 0, .int .u8 0] := by have := Whole.new w4 25 #[.int .u16 yq, .int .u32 0, .int .u16 0, .int .u8 0]; first | with_reducible exact this | simpa using this
              have Ss41 := ((HW4.out.alloc (.cells #[.int .u16 yq, .int .u32 0, .int .u16 0, .int .u8 0] 25))).below b41 (by have := ((HW4.out.alloc (.cells #[.int .u16 yq, .int .u32 0, .int .u16 0, .int .u8 0] 25))).lt; first | with_reducible exact this | simpa using this)
              have Sx41 := (Nx).below b41 (by have := (Nx).lt; first | with_reducible exact this | simpa using this)
              have HB41 := Lib.hid (((HB4.out.alloc (HB4.out).size (.cells #[.int .u16 yq, .int .u32 0, .int .u16 0, .int .u8 0] 25))).trans (b41.mono ((HB4.out.alloc (HB4.out).size (.cells #[.int .u16 yq, .int .u32 0, .int .u16 0, .int .u8 0] 25))).size))
              have ls41 := Ss41.lt
              have lx41 := Sx41.lt
              clear b41 k0 k1 k2 k3 k4 k5 k6 k7 k8 k9 k10 f0 f1 f2 f3 f4 f5 f6 f7 f8 f9 f10 HW4 Nx HB4 CD y0
              have s41_0 := Ss41.cell 0
              have fs41_0 := Ss41.free 0
              have s41_1 := Ss41.cell 1
              have fs41_1 := Ss41.free 1
              have s41_2 := Ss41.cell 2
              have fs41_2 := Ss41.free 2
              have s41_3 := Ss41.cell 3
              have fs41_3 := Ss41.free 3
              have s41_4 := Ss41.cell 4
              have fs41_4 := Ss41.free 4
              have s41_5 := Ss41.cell 5
              have fs41_5 := Ss41.free 5
              have s41_6 := Ss41.cell 6
              have fs41_6 := Ss41.free 6
              have s41_7 := Ss41.cell 7
              have fs41_7 := Ss41.free 7
              have s41_8 := Ss41.cell 8
              have fs41_8 := Ss41.free 8
              have s41_9 := Ss41.cell 9
              have fs41_9 := Ss41.free 9
              have s41_10 := Ss41.cell 10
              have fs41_10 := Ss41.free 10
              replace Ss41 := Lib.hid Ss41
              replace Sx41 := Lib.hid Sx41
              go_wp2
              go_roundw
              case rel => exact ⟨k + 1, cs ++ [j + d], ts, j + d, ⟨don, dh, dc, ⟨doq, dot, dop, dol⟩, ⟨duq, dut, dup, dul⟩⟩, by omega, by rw [HY.out], by go_num, by rw [List.length_append, HN1.out]; exact (own_eleven (r := gs) (HC5.out) (by omega) (.bool don) (.int .i64 dh) (.int .i64 dc) (.int .u16 doq) (.int .u32 dot) (.int .u16 dop) (.int .u8 dol) (.int .u16 duq) (.int .u32 dut) (.int .u16 dup) (.int .u8 dul)), by rw [HM1.out]; exact (own_eleven (r := gs) (HT5.out) (by omega) (.bool don) (.int .i64 dh) (.int .i64 dc) (.int .u16 doq) (.int .u32 dot) (.int .u16 dop) (.int .u8 dol) (.int .u16 duq) (.int .u32 dut) (.int .u16 dup) (.int .u8 dul)), AP4, Lib.hid ⟨OD2.out, by omega, by rw [List.length_append, HN1.out]; simp; omega, by rw [HM1.out]; omega, by rw [List.length_append, HN1.out]; simp⟩, Lib.hid ((Whole.eleven (Ss41.out) (.bool don) (.int .i64 dh) (.int .i64 dc) (.int .u16 doq) (.int .u32 dot) (.int .u16 dop) (.int .u8 dol) (.int .u16 duq) (.int .u32 dut) (.int .u16 dup) (.int .u8 dul))), by simp; omega, (eleven_set (HB41.out) (show w.heap.size ≤ gs from by omega) (.bool don) (.int .i64 dh) (.int .i64 dc) (.int .u16 doq) (.int .u32 dot) (.int .u16 dop) (.int .u8 dol) (.int .u16 duq) (.int .u32 dut) (.int .u16 dup) (.int .u8 dul))⟩
              case measure => simp [intOf]; omega
            | false =>
              have CE := fun w => msend_any s ⟨yq, 0, 0, 0⟩ hsf hxf w
              have OS := HON.out.send (x := ⟨yq, 0, 0, 0⟩) (by omega) hJ HY.out.symm HNW.out
              clear hsf hxf HON HNW
              rcases OS with ⟨ht, hs', OC⟩ | ⟨v, ht, htold, hne, OC⟩
              · rw [ht, hs'] at CE
                obtain ⟨q, hq⟩ : ∃ q, s.told ⟨yq, 0, 0, 0⟩ = q := ⟨_, rfl⟩
                rw [hq] at CE
                have OD2 := Lib.hid OC
                clear ht hs' OC hq
                obtain ⟨son, sh, sc, ⟨soq, sot, sop, sol⟩, ⟨suq, sut, sup, sul⟩⟩ := s
                obtain ⟨qq, qt, qp, ql⟩ := q
                dsimp only [Mst.cells, Mn.cells] at *
                replace CE := Lib.hid CE
                have k0 := HW4.out.cell 0
                have k1 := HW4.out.cell 1
                have k2 := HW4.out.cell 2
                have k3 := HW4.out.cell 3
                have k4 := HW4.out.cell 4
                have k5 := HW4.out.cell 5
                have k6 := HW4.out.cell 6
                have k7 := HW4.out.cell 7
                have k8 := HW4.out.cell 8
                have k9 := HW4.out.cell 9
                have k10 := HW4.out.cell 10
                have f0 := HW4.out.free 0
                have f1 := HW4.out.free 1
                have f2 := HW4.out.free 2
                have f3 := HW4.out.free 3
                have f4 := HW4.out.free 4
                have f5 := HW4.out.free 5
                have f6 := HW4.out.free 6
                have f7 := HW4.out.free 7
                have f8 := HW4.out.free 8
                have f9 := HW4.out.free 9
                have f10 := HW4.out.free 10
                go_wp2_with fail
                refine (CE.out _).mono ?_
                rintro e w41 ⟨rfl, b41⟩
                have HT5 := Lib.hid (own_below (HT4.out.alloc (.cells #[.int .u16 yq, .int .u32 0, .int .u16 0, .int .u8 0] 25)) b41 (Nat.le_refl _))
                have HC5 := Lib.hid (own_below (HC4.out.alloc (.cells #[.int .u16 yq, .int .u32 0, .int .u16 0, .int .u8 0] 25)) b41 (Nat.le_refl _))
                have hz5 := b41.size
                simp at hz5
                have Nx : Whole (w4.alloc (.cells #[.int .u16 yq, .int .u32 0, .int .u16 0, .int .u8 0] 25)) (w4.heap.size) 25 #[.int .u16 yq, .int .u32 0, .int .u16 0, .int .u8 0] := by have := Whole.new w4 25 #[.int .u16 yq, .int .u32 0, .int .u16 0, .int .u8 0]; first | with_reducible exact this | simpa using this
                have Ss41 := ((HW4.out.alloc (.cells #[.int .u16 yq, .int .u32 0, .int .u16 0, .int .u8 0] 25))).below b41 (by have := ((HW4.out.alloc (.cells #[.int .u16 yq, .int .u32 0, .int .u16 0, .int .u8 0] 25))).lt; first | with_reducible exact this | simpa using this)
                have Sx41 := (Nx).below b41 (by have := (Nx).lt; first | with_reducible exact this | simpa using this)
                have HB41 := Lib.hid (((HB4.out.alloc (HB4.out).size (.cells #[.int .u16 yq, .int .u32 0, .int .u16 0, .int .u8 0] 25))).trans (b41.mono ((HB4.out.alloc (HB4.out).size (.cells #[.int .u16 yq, .int .u32 0, .int .u16 0, .int .u8 0] 25))).size))
                have ls41 := Ss41.lt
                have lx41 := Sx41.lt
                clear b41 k0 k1 k2 k3 k4 k5 k6 k7 k8 k9 k10 f0 f1 f2 f3 f4 f5 f6 f7 f8 f9 f10 HW4 Nx HB4 CE y0
                have s41_0 := Ss41.cell 0
                have fs41_0 := Ss41.free 0
                have s41_1 := Ss41.cell 1
                have fs41_1 := Ss41.free 1
                have s41_2 := Ss41.cell 2
                have fs41_2 := Ss41.free 2
                have s41_3 := Ss41.cell 3
                have fs41_3 := Ss41.free 3
                have s41_4 := Ss41.cell 4
                have fs41_4 := Ss41.free 4
                have s41_5 := Ss41.cell 5
                have fs41_5 := Ss41.free 5
                have s41_6 := Ss41.cell 6
                have fs41_6 := Ss41.free 6
                have s41_7 := Ss41.cell 7
                have fs41_7 := Ss41.free 7
                have s41_8 := Ss41.cell 8
                have fs41_8 := Ss41.free 8
                have s41_9 := Ss41.cell 9
                have fs41_9 := Ss41.free 9
                have s41_10 := Ss41.cell 10
                have fs41_10 := Ss41.free 10
                replace Ss41 := Lib.hid Ss41
                replace Sx41 := Lib.hid Sx41
                go_wp2
                go_roundw
                case rel => exact ⟨k + 1, cs ++ [j + d], ts, j + d, ⟨son, sh, sc, ⟨soq, sot, sop, sol⟩, ⟨suq, sut, sup, sul⟩⟩, by omega, by rw [HY.out], by go_num, by rw [List.length_append, HN1.out]; exact (((own_eleven (r := gs) (HC5.out) (by omega) (.bool son) (.int .i64 sh) (.int .i64 sc) (.int .u16 soq) (.int .u32 sot) (.int .u16 sop) (.int .u8 sol) (.int .u16 suq) (.int .u32 sut) (.int .u16 sup) (.int .u8 sul)).alloc _).alloc _), by rw [HM1.out]; exact (((own_eleven (r := gs) (HT5.out) (by omega) (.bool son) (.int .i64 sh) (.int .i64 sc) (.int .u16 soq) (.int .u32 sot) (.int .u16 sop) (.int .u8 sol) (.int .u16 suq) (.int .u32 sut) (.int .u16 sup) (.int .u8 sul)).alloc _).alloc _), AP4, Lib.hid ⟨OD2.out, by omega, by rw [List.length_append, HN1.out]; simp; omega, by rw [HM1.out]; omega, by rw [List.length_append, HN1.out]; simp⟩, Lib.hid ((((Whole.eleven (Ss41.out) (.bool son) (.int .i64 sh) (.int .i64 sc) (.int .u16 soq) (.int .u32 sot) (.int .u16 sop) (.int .u8 sol) (.int .u16 suq) (.int .u32 sut) (.int .u16 sup) (.int .u8 sul)).alloc (.cells #[.bool son, .int .i64 sh, .int .i64 sc, .int .u16 soq, .int .u32 sot, .int .u16 sop, .int .u8 sol, .int .u16 suq, .int .u32 sut, .int .u16 sup, .int .u8 sul] 27)).alloc (.cells #[.int .u16 qq, .int .u32 qt, .int .u16 qp, .int .u8 ql] 25))), by simp; omega, (((eleven_set (HB41.out) (show w.heap.size ≤ gs from by omega) (.bool son) (.int .i64 sh) (.int .i64 sc) (.int .u16 soq) (.int .u32 sot) (.int .u16 sop) (.int .u8 sol) (.int .u16 suq) (.int .u32 sut) (.int .u16 sup) (.int .u8 sul)).alloc ((eleven_set (HB41.out) (show w.heap.size ≤ gs from by omega) (.bool son) (.int .i64 sh) (.int .i64 sc) (.int .u16 soq) (.int .u32 sot) (.int .u16 sop) (.int .u8 sol) (.int .u16 suq) (.int .u32 sut) (.int .u16 sup) (.int .u8 sul))).size (.cells #[.bool son, .int .i64 sh, .int .i64 sc, .int .u16 soq, .int .u32 sot, .int .u16 sop, .int .u8 sol, .int .u16 suq, .int .u32 sut, .int .u16 sup, .int .u8 sul] 27)).alloc (((eleven_set (HB41.out) (show w.heap.size ≤ gs from by omega) (.bool son) (.int .i64 sh) (.int .i64 sc) (.int .u16 soq) (.int .u32 sot) (.int .u16 sop) (.int .u8 sol) (.int .u16 suq) (.int .u32 sut) (.int .u16 sup) (.int .u8 sul)).alloc ((eleven_set (HB41.out) (show w.heap.size ≤ gs from by omega) (.bool son) (.int .i64 sh) (.int .i64 sc) (.int .u16 soq) (.int .u32 sot) (.int .u16 sop) (.int .u8 sol) (.int .u16 suq) (.int .u32 sut) (.int .u16 sup) (.int .u8 sul))).size (.cells #[.bool son, .int .i64 sh, .int .i64 sc, .int .u16 soq, .int .u32 sot, .int .u16 sop, .int .u8 sol, .int .u16 suq, .int .u32 sut, .int .u16 sup, .int .u8 sul] 27))).size (.cells #[.int .u16 qq, .int .u32 qt, .int .u16 qp, .int .u8 ql] 25))⟩
                case measure => simp [intOf]; omega
              · rw [ht] at CE
                obtain ⟨q, hq⟩ : ∃ q, s.told ⟨yq, 0, 0, 0⟩ = q := ⟨_, rfl⟩
                obtain ⟨d', hd'⟩ : ∃ z, s.sendS ⟨yq, 0, 0, 0⟩ = z := ⟨_, rfl⟩
                rw [hq, hd'] at CE
                rw [hq] at htold
                rw [hd'] at OC
                have OD2 := Lib.hid OC
                have HNE := Lib.hid hne
                clear ht OC hq hd' hne
                obtain ⟨son, sh, sc, ⟨soq, sot, sop, sol⟩, ⟨suq, sut, sup, sul⟩⟩ := s
                obtain ⟨don, dh, dc, ⟨doq, dot, dop, dol⟩, ⟨duq, dut, dup, dul⟩⟩ := d'
                obtain ⟨qq, qt, qp, ql⟩ := q
                dsimp only [Mst.cells, Mn.cells] at *
                have HTQ := Lib.hid htold
                clear htold
                replace CE := Lib.hid CE
                have k0 := HW4.out.cell 0
                have k1 := HW4.out.cell 1
                have k2 := HW4.out.cell 2
                have k3 := HW4.out.cell 3
                have k4 := HW4.out.cell 4
                have k5 := HW4.out.cell 5
                have k6 := HW4.out.cell 6
                have k7 := HW4.out.cell 7
                have k8 := HW4.out.cell 8
                have k9 := HW4.out.cell 9
                have k10 := HW4.out.cell 10
                have f0 := HW4.out.free 0
                have f1 := HW4.out.free 1
                have f2 := HW4.out.free 2
                have f3 := HW4.out.free 3
                have f4 := HW4.out.free 4
                have f5 := HW4.out.free 5
                have f6 := HW4.out.free 6
                have f7 := HW4.out.free 7
                have f8 := HW4.out.free 8
                have f9 := HW4.out.free 9
                have f10 := HW4.out.free 10
                go_wp2_with fail
                refine (CE.out _).mono ?_
                rintro e w41 ⟨rfl, b41⟩
                have HT5 := Lib.hid (own_below (HT4.out.alloc (.cells #[.int .u16 yq, .int .u32 0, .int .u16 0, .int .u8 0] 25)) b41 (Nat.le_refl _))
                have HC5 := Lib.hid (own_below (HC4.out.alloc (.cells #[.int .u16 yq, .int .u32 0, .int .u16 0, .int .u8 0] 25)) b41 (Nat.le_refl _))
                have hz5 := b41.size
                simp at hz5
                have Nx : Whole (w4.alloc (.cells #[.int .u16 yq, .int .u32 0, .int .u16 0, .int .u8 0] 25)) (w4.heap.size) 25 #[.int .u16 yq, .int .u32 0, .int .u16 0, .int .u8 0] := by have := Whole.new w4 25 #[.int .u16 yq, .int .u32 0, .int .u16 0, .int .u8 0]; first | with_reducible exact this | simpa using this
                have Ss41 := ((HW4.out.alloc (.cells #[.int .u16 yq, .int .u32 0, .int .u16 0, .int .u8 0] 25))).below b41 (by have := ((HW4.out.alloc (.cells #[.int .u16 yq, .int .u32 0, .int .u16 0, .int .u8 0] 25))).lt; first | with_reducible exact this | simpa using this)
                have Sx41 := (Nx).below b41 (by have := (Nx).lt; first | with_reducible exact this | simpa using this)
                have HB41 := Lib.hid (((HB4.out.alloc (HB4.out).size (.cells #[.int .u16 yq, .int .u32 0, .int .u16 0, .int .u8 0] 25))).trans (b41.mono ((HB4.out.alloc (HB4.out).size (.cells #[.int .u16 yq, .int .u32 0, .int .u16 0, .int .u8 0] 25))).size))
                have ls41 := Ss41.lt
                have lx41 := Sx41.lt
                clear b41 k0 k1 k2 k3 k4 k5 k6 k7 k8 k9 k10 f0 f1 f2 f3 f4 f5 f6 f7 f8 f9 f10 HW4 Nx HB4 CE y0
                have s41_0 := Ss41.cell 0
                have fs41_0 := Ss41.free 0
                have s41_1 := Ss41.cell 1
                have fs41_1 := Ss41.free 1
                have s41_2 := Ss41.cell 2
                have fs41_2 := Ss41.free 2
                have s41_3 := Ss41.cell 3
                have fs41_3 := Ss41.free 3
                have s41_4 := Ss41.cell 4
                have fs41_4 := Ss41.free 4
                have s41_5 := Ss41.cell 5
                have fs41_5 := Ss41.free 5
                have s41_6 := Ss41.cell 6
                have fs41_6 := Ss41.free 6
                have s41_7 := Ss41.cell 7
                have fs41_7 := Ss41.free 7
                have s41_8 := Ss41.cell 8
                have fs41_8 := Ss41.free 8
                have s41_9 := Ss41.cell 9
                have fs41_9 := Ss41.free 9
                have s41_10 := Ss41.cell 10
                have fs41_10 := Ss41.free 10
                replace Ss41 := Lib.hid Ss41
                replace Sx41 := Lib.hid Sx41
                go_upto_region 30 with fail
                have HC6 := Lib.hid ((((own_eleven (r := gs) (HC5.out) (by omega) (.bool don) (.int .i64 dh) (.int .i64 dc) (.int .u16 doq) (.int .u32 dot) (.int .u16 dop) (.int .u8 dol) (.int .u16 duq) (.int .u32 dut) (.int .u16 dup) (.int .u8 dul)).alloc (.cells #[.bool don, .int .i64 dh, .int .i64 dc, .int .u16 doq, .int .u32 dot, .int .u16 dop, .int .u8 dol, .int .u16 duq, .int .u32 dut, .int .u16 dup, .int .u8 dul] 27)).alloc (.cells #[.int .u16 qq, .int .u32 qt, .int .u16 qp, .int .u8 ql] 25)))
                have HT6 := Lib.hid ((((own_eleven (r := gs) (HT5.out) (by omega) (.bool don) (.int .i64 dh) (.int .i64 dc) (.int .u16 doq) (.int .u32 dot) (.int .u16 dop) (.int .u8 dol) (.int .u16 duq) (.int .u32 dut) (.int .u16 dup) (.int .u8 dul)).alloc (.cells #[.bool don, .int .i64 dh, .int .i64 dc, .int .u16 doq, .int .u32 dot, .int .u16 dop, .int .u8 dol, .int .u16 duq, .int .u32 dut, .int .u16 dup, .int .u8 dul] 27)).alloc (.cells #[.int .u16 qq, .int .u32 qt, .int .u16 qp, .int .u8 ql] 25)))
                obtain ⟨wf6, hwf⟩ : ∃ z, z = (((((((((((((w41.setCell ⟨gs, 0, none⟩ (.bool don)).setCell ⟨gs, 1, none⟩ (.int .i64 dh)).setCell ⟨gs, 2, none⟩ (.int .i64 dc)).setCell ⟨gs, 3, none⟩ (.int .u16 doq)).setCell ⟨gs, 4, none⟩ (.int .u32 dot)).setCell ⟨gs, 5, none⟩ (.int .u16 dop)).setCell ⟨gs, 6, none⟩ (.int .u8 dol)).setCell ⟨gs, 7, none⟩ (.int .u16 duq)).setCell ⟨gs, 8, none⟩ (.int .u32 dut)).setCell ⟨gs, 9, none⟩ (.int .u16 dup)).setCell ⟨gs, 10, none⟩ (.int .u8 dul)).alloc (.cells #[.bool don, .int .i64 dh, .int .i64 dc, .int .u16 doq, .int .u32 dot, .int .u16 dop, .int .u8 dol, .int .u16 duq, .int .u32 dut, .int .u16 dup, .int .u8 dul] 27)).alloc (.cells #[.int .u16 qq, .int .u32 qt, .int .u16 qp, .int .u8 ql] 25)) := ⟨_, rfl⟩
                have Nt : Whole ((((((((((((w41.setCell ⟨gs, 0, none⟩ (.bool don)).setCell ⟨gs, 1, none⟩ (.int .i64 dh)).setCell ⟨gs, 2, none⟩ (.int .i64 dc)).setCell ⟨gs, 3, none⟩ (.int .u16 doq)).setCell ⟨gs, 4, none⟩ (.int .u32 dot)).setCell ⟨gs, 5, none⟩ (.int .u16 dop)).setCell ⟨gs, 6, none⟩ (.int .u8 dol)).setCell ⟨gs, 7, none⟩ (.int .u16 duq)).setCell ⟨gs, 8, none⟩ (.int .u32 dut)).setCell ⟨gs, 9, none⟩ (.int .u16 dup)).setCell ⟨gs, 10, none⟩ (.int .u8 dul)).alloc (.cells #[.bool don, .int .i64 dh, .int .i64 dc, .int .u16 doq, .int .u32 dot, .int .u16 dop, .int .u8 dol, .int .u16 duq, .int .u32 dut, .int .u16 dup, .int .u8 dul] 27)) (w41.heap.size) 27 #[.bool don, .int .i64 dh, .int .i64 dc, .int .u16 doq, .int .u32 dot, .int .u16 dop, .int .u8 dol, .int .u16 duq, .int .u32 dut, .int .u16 dup, .int .u8 dul] := by have := Whole.new (((((((((((w41.setCell ⟨gs, 0, none⟩ (.bool don)).setCell ⟨gs, 1, none⟩ (.int .i64 dh)).setCell ⟨gs, 2, none⟩ (.int .i64 dc)).setCell ⟨gs, 3, none⟩ (.int .u16 doq)).setCell ⟨gs, 4, none⟩ (.int .u32 dot)).setCell ⟨gs, 5, none⟩ (.int .u16 dop)).setCell ⟨gs, 6, none⟩ (.int .u8 dol)).setCell ⟨gs, 7, none⟩ (.int .u16 duq)).setCell ⟨gs, 8, none⟩ (.int .u32 dut)).setCell ⟨gs, 9, none⟩ (.int .u16 dup)).setCell ⟨gs, 10, none⟩ (.int .u8 dul)) 27 #[.bool don, .int .i64 dh, .int .i64 dc, .int .u16 doq, .int .u32 dot, .int .u16 dop, .int .u8 dol, .int .u16 duq, .int .u32 dut, .int .u16 dup, .int .u8 dul]; first | with_reducible exact this | simpa using this
                have Nn : Whole (((((((((((((w41.setCell ⟨gs, 0, none⟩ (.bool don)).setCell ⟨gs, 1, none⟩ (.int .i64 dh)).setCell ⟨gs, 2, none⟩ (.int .i64 dc)).setCell ⟨gs, 3, none⟩ (.int .u16 doq)).setCell ⟨gs, 4, none⟩ (.int .u32 dot)).setCell ⟨gs, 5, none⟩ (.int .u16 dop)).setCell ⟨gs, 6, none⟩ (.int .u8 dol)).setCell ⟨gs, 7, none⟩ (.int .u16 duq)).setCell ⟨gs, 8, none⟩ (.int .u32 dut)).setCell ⟨gs, 9, none⟩ (.int .u16 dup)).setCell ⟨gs, 10, none⟩ (.int .u8 dul)).alloc (.cells #[.bool don, .int .i64 dh, .int .i64 dc, .int .u16 doq, .int .u32 dot, .int .u16 dop, .int .u8 dol, .int .u16 duq, .int .u32 dut, .int .u16 dup, .int .u8 dul] 27)).alloc (.cells #[.int .u16 qq, .int .u32 qt, .int .u16 qp, .int .u8 ql] 25)) (w41.heap.size + 1) 25 #[.int .u16 qq, .int .u32 qt, .int .u16 qp, .int .u8 ql] := by have := Whole.new ((((((((((((w41.setCell ⟨gs, 0, none⟩ (.bool don)).setCell ⟨gs, 1, none⟩ (.int .i64 dh)).setCell ⟨gs, 2, none⟩ (.int .i64 dc)).setCell ⟨gs, 3, none⟩ (.int .u16 doq)).setCell ⟨gs, 4, none⟩ (.int .u32 dot)).setCell ⟨gs, 5, none⟩ (.int .u16 dop)).setCell ⟨gs, 6, none⟩ (.int .u8 dol)).setCell ⟨gs, 7, none⟩ (.int .u16 duq)).setCell ⟨gs, 8, none⟩ (.int .u32 dut)).setCell ⟨gs, 9, none⟩ (.int .u16 dup)).setCell ⟨gs, 10, none⟩ (.int .u8 dul)).alloc (.cells #[.bool don, .int .i64 dh, .int .i64 dc, .int .u16 doq, .int .u32 dot, .int .u16 dop, .int .u8 dol, .int .u16 duq, .int .u32 dut, .int .u16 dup, .int .u8 dul] 27)) 25 #[.int .u16 qq, .int .u32 qt, .int .u16 qp, .int .u8 ql]; first | with_reducible exact this | simpa using this
                have Ssf6 := (((Whole.eleven (Ss41.out) (.bool don) (.int .i64 dh) (.int .i64 dc) (.int .u16 doq) (.int .u32 dot) (.int .u16 dop) (.int .u8 dol) (.int .u16 duq) (.int .u32 dut) (.int .u16 dup) (.int .u8 dul)).alloc (.cells #[.bool don, .int .i64 dh, .int .i64 dc, .int .u16 doq, .int .u32 dot, .int .u16 dop, .int .u8 dol, .int .u16 duq, .int .u32 dut, .int .u16 dup, .int .u8 dul] 27)).alloc (.cells #[.int .u16 qq, .int .u32 qt, .int .u16 qp, .int .u8 ql] 25))
                have Sxf6 := (((Whole.eleven_far (Sx41.out) (show w4.heap.size ≠ gs from by omega) (.bool don) (.int .i64 dh) (.int .i64 dc) (.int .u16 doq) (.int .u32 dot) (.int .u16 dop) (.int .u8 dol) (.int .u16 duq) (.int .u32 dut) (.int .u16 dup) (.int .u8 dul)).alloc (.cells #[.bool don, .int .i64 dh, .int .i64 dc, .int .u16 doq, .int .u32 dot, .int .u16 dop, .int .u8 dol, .int .u16 duq, .int .u32 dut, .int .u16 dup, .int .u8 dul] 27)).alloc (.cells #[.int .u16 qq, .int .u32 qt, .int .u16 qp, .int .u8 ql] 25))
                have Stf6 := (Nt.alloc (.cells #[.int .u16 qq, .int .u32 qt, .int .u16 qp, .int .u8 ql] 25))
                have Snf6 := Nn
                have HBf6 := (((eleven_set (HB41.out) (show w.heap.size ≤ gs from by omega) (.bool don) (.int .i64 dh) (.int .i64 dc) (.int .u16 doq) (.int .u32 dot) (.int .u16 dop) (.int .u8 dol) (.int .u16 duq) (.int .u32 dut) (.int .u16 dup) (.int .u8 dul)).alloc ((eleven_set (HB41.out) (show w.heap.size ≤ gs from by omega) (.bool don) (.int .i64 dh) (.int .i64 dc) (.int .u16 doq) (.int .u32 dot) (.int .u16 dop) (.int .u8 dol) (.int .u16 duq) (.int .u32 dut) (.int .u16 dup) (.int .u8 dul))).size (.cells #[.bool don, .int .i64 dh, .int .i64 dc, .int .u16 doq, .int .u32 dot, .int .u16 dop, .int .u8 dol, .int .u16 duq, .int .u32 dut, .int .u16 dup, .int .u8 dul] 27)).alloc (((eleven_set (HB41.out) (show w.heap.size ≤ gs from by omega) (.bool don) (.int .i64 dh) (.int .i64 dc) (.int .u16 doq) (.int .u32 dot) (.int .u16 dop) (.int .u8 dol) (.int .u16 duq) (.int .u32 dut) (.int .u16 dup) (.int .u8 dul)).alloc ((eleven_set (HB41.out) (show w.heap.size ≤ gs from by omega) (.bool don) (.int .i64 dh) (.int .i64 dc) (.int .u16 doq) (.int .u32 dot) (.int .u16 dop) (.int .u8 dol) (.int .u16 duq) (.int .u32 dut) (.int .u16 dup) (.int .u8 dul))).size (.cells #[.bool don, .int .i64 dh, .int .i64 dc, .int .u16 doq, .int .u32 dot, .int .u16 dop, .int .u8 dol, .int .u16 duq, .int .u32 dut, .int .u16 dup, .int .u8 dul] 27))).size (.cells #[.int .u16 qq, .int .u32 qt, .int .u16 qp, .int .u8 ql] 25))
                have c6 := HC6.out
                have t6 := HT6.out
                rw [← hwf] at c6 t6 Ssf6 Sxf6 Stf6 Snf6 HBf6 ⊢
                clear hwf
                clear s41_0 fs41_0 s41_1 fs41_1 s41_2 fs41_2 s41_3 fs41_3 s41_4 fs41_4 s41_5 fs41_5 s41_6 fs41_6 s41_7 fs41_7 s41_8 fs41_8 s41_9 fs41_9 s41_10 fs41_10 Ss41 Sx41 Nt Nn HB41
                have lsf6 := Ssf6.lt
                have lxf6 := Sxf6.lt
                have ltf6 := Stf6.lt
                have lnf6 := Snf6.lt
                replace HBf6 := Lib.hid HBf6
                have hz6 : gg + 1 ≤ wf6.heap.size := by have := HBf6.out.size; omega
                have nq := Snf6.cell 0
                have HW6 := Lib.hid Ssf6
                have HN6 := Lib.hid Snf6
                have HT7 := Lib.hid t6
                have HC7 := Lib.hid c6
                clear HC6 HT6 c6 t6 HC5 HT5 HC4 HT4 Ssf6 Snf6
                go_wp2_with fail
                go_loopw [20] (fun i wx => ∃ p : Nat, p ≤ M ∧ i = .int .i64 (p : Int) ∧ Hid (∃ q, wx = wf6.drewN q)) (fun i _ => M - (intOf i).toNat)
                case atStart => exact ⟨0, Nat.zero_le _, rfl, Lib.hid ⟨0, rfl⟩⟩
                case round =>
                  obtain ⟨p, hp, rfl, HZ⟩ := hrel
                  by_cases hpl : p < M
                  · obtain ⟨c0, hc0⟩ : ∃ x, ts[p]? = some x := ⟨ts[p]'(by rw [HM1.out]; exact hpl), by simp⟩
                    obtain ⟨g3, rfl, hg3, hg3', hc3⟩ := own_at0 HT7.out (by omega)
                    have hne0 := HNE.out c0 (List.mem_of_getElem? hc0)
                    rw [← HTQ.out] at hne0
                    have q0 : wr.cell? ⟨g3, p, none⟩ = some (.int .u16 ((fq + c0) % 65536)) := by obtain ⟨q, rfl⟩ := HZ.out; exact (hc3 p hpl).trans (lowF_get hc0)
                    have q1 : wr.cell? ⟨w41.heap.size + 1, 0, none⟩ = some (.int .u16 qq) := by obtain ⟨q, rfl⟩ := HZ.out; exact HN6.out.cell 0
                    obtain ⟨zq, hzq⟩ : ∃ z, (fq + c0) % 65536 = z := ⟨_, rfl⟩
                    rw [hzq] at q0 hne0
                    have hzb : (zq == qq) = false := by simp [hne0]
                    have hp1 : (0 : Int) ≤ (p : Int) := by omega
                    have hp2 : (p : Int) < (M : Int) := by omega
                    clear hc0 hzq hc3 hg3 hg3' hne0 nq
                    go_wp2_with fail
                    go_quiet (fail)
                    go_wp2
                    go_roundw
                    case rel => exact ⟨p + 1, by omega, by go_num, Lib.hid (by obtain ⟨q, rfl⟩ := HZ.out; exact ⟨_, World.drewN_drewN _ _ _⟩)⟩
                    case measure => simp [intOf]; omega
                  · obtain rfl : p = M := by omega
                    have HW8 : Hid (Whole wr gs 27 #[.bool don, .int .i64 dh, .int .i64 dc, .int .u16 doq, .int .u32 dot, .int .u16 dop, .int .u8 dol, .int .u16 duq, .int .u32 dut, .int .u16 dup, .int .u8 dul]) := Lib.hid (by obtain ⟨q, rfl⟩ := HZ.out; exact HW6.out)
                    have HC8 : Hid (wr.ownsRow (gg + 1) 22 1 v4 (N + 1) (lowF fq (cs ++ [j + d]))) := Lib.hid (by obtain ⟨q, rfl⟩ := HZ.out; exact HC7.out)
                    have HT8 : Hid (wr.ownsRow (gg + 1) 22 1 (.slice At p ct) p (lowF fq ts)) := Lib.hid (by obtain ⟨q, rfl⟩ := HZ.out; exact HT7.out)
                    have HB8 : Hid (Below w.heap.size w wr) := Lib.hid (by obtain ⟨q, rfl⟩ := HZ.out; exact bdrewN HBf6.out q)
                    have hz8 : gg + 1 ≤ wr.heap.size := by obtain ⟨q, rfl⟩ := HZ.out; exact hz6
                    have q1 : wr.cell? ⟨w41.heap.size + 1, 0, none⟩ = some (.int .u16 qq) := by obtain ⟨q, rfl⟩ := HZ.out; exact HN6.out.cell 0
                    have hnl : w41.heap.size + 1 < wr.heap.size := by obtain ⟨q, rfl⟩ := HZ.out; exact HN6.out.lt
                    have hgl8 := HW8.out.lt
                    clear HW6 HC7 HT7 HBf6 HN6 HZ nq hpl
                    have HRW := Lib.hid (show Row (wr.alloc (.cells #[.int .u16 qq] 22)) (wr.heap.size + 1) 1 (some ⟨wr.heap.size, 0, none⟩) 1 [.int .u16 qq] from Row.one _ _ _)
                    go_wp2_with (at_builtin; refine wpl_append _ rfl (.tmp 118) (.tmp 121) 56 rfl (gg + 1) 22 (.int .u16 0) 1 2 Try.underlying56 info_u16o rfl (by decide) (.slice At p ct) p (lowF fq ts) rfl (HT8.out.alloc _) (wr.heap.size + 1) (some ⟨wr.heap.size, 0, none⟩) 1 1 [.int .u16 qq] rfl HRW.out (by simp [Value.oneCell']) ?ca5 ?cb5 ?cc5 ?_)
                    case ca5 => unfold maxLen; omega
                    case cb5 => omega
                    case cc5 => simp; omega
                    intro v5 w9 hown5 hg5 hv5
                    have HC9 := Lib.hid ((HC8.out.alloc (.cells #[.int .u16 qq] 22)).kept hg5 AP4.out.or)
                    have AP9 := Lib.hid ((Apart.grown (w := wr.alloc (.cells #[.int .u16 qq] 22)) AP4.out.symm (by simpa using hv5) (HC8.out.alloc _)).symm)
                    have HW9 := Lib.hid ((HW8.out.alloc (.cells #[.int .u16 qq] 22)).grown hg5 (fun e => by have := (HT8.out.lt _ e.symm).1; omega))
                    have HB9 := Lib.hid ((HB8.out.alloc HB8.out.size (.cells #[.int .u16 qq] 22)).grown hg5 (by have := HB8.out.size; simp; omega) (fun q hq => by have := (HT8.out.lt q hq).1; omega))
                    have hz9 : gg + 1 ≤ w9.heap.size := by have := hg5.size; simp at this; omega
                    have HO9 := Lib.hid hown5
                    clear hown5 hg5 hv5 HRW HC8 HT8 HW8 HB8 q1 hnl hgl8
                    go_wp2
                    go_roundw
                    case rel => exact ⟨k + 1, cs ++ [j + d], ts ++ [v], j + d, ⟨don, dh, dc, ⟨doq, dot, dop, dol⟩, ⟨duq, dut, dup, dul⟩⟩, by omega, by rw [HY.out], by go_num, by rw [List.length_append, HN1.out]; exact HC9.out, by rw [List.length_append, HM1.out, lowF_append, ← HTQ.out]; exact HO9.out, AP9, Lib.hid ⟨OD2.out, by omega, by rw [List.length_append, HN1.out]; simp; omega, by rw [List.length_append, HM1.out]; simp; omega, by rw [List.length_append, HN1.out]; simp⟩, HW9, hz9, HB9.out⟩
                    case measure => simp [intOf]; omega
    · obtain rfl : k = n := by omega
      go_wp2
      go_ret
      exact ⟨rfl, HB.out⟩

set_option maxRecDepth 100000 in
theorem lifted (os : Os) (started : os.Started) (H : Type) (enc : TypeId × Value → H) :
    ReturnsInHanded {} Try.checked os 6 .any (Rows.mungeOnceSpec.pre6 enc Try.prog Try.f6 Rows.mungeOnceRow.domain false) (Rows.mungeOnceSpec.post enc Try.prog Try.f6 false true false false) := by
  refine returnsInHanded_of_change (C := Try.checked) own started (by kernel_rfl) Try.func6
    (ChangeSpec.witness6 (enc := enc) (C := Try.checked) false ⟨#[], #[.agg #[.int .u16 0, .int .u32 0, .int .u16 0, .int .u8 0], .slice none 0 0, .slice none 0 0], []⟩ 8 (by kernel_rfl) (by kernel_rfl) (by kernel_rfl) (by kernel_rfl)) ?_
  intro W base args ds gs before hval0 hW _ _
  have hval : ∀ (j : Nat) t v, Try.f6.params[j]? = some t → args[j]? = some v → Value.okWide Try.prog W .any base t v := hval0
  have hW' := hW
  obtain ⟨p, q, hA0, hV, _, _, _⟩ := hW
  have hA : DataW.TrodAll enc Try.prog W 0 (fun _ => true) true Try.f6.params.toList args.toList ds p := hA0
  rw [Try.params6] at hA hval
  obtain ⟨v0, vs0, d0, ds0, p0, q0, hargs, rfl, _, h0, r0⟩ := trodAll_cons hA
  obtain ⟨v1, vs1, d1, ds1, p1, q1, rfl, rfl, _, h1, r1⟩ := trodAll_cons r0
  obtain ⟨v2, vs2, d2, ds2, p2, q2, rfl, rfl, _, h2, r2⟩ := trodAll_cons r1
  obtain ⟨rfl, rfl, _⟩ := trodAll_nil r2
  obtain rfl : args = #[v0, v1, v2] := by cases args; simp_all
  obtain ⟨rfl, _⟩ := trodVars_none hV
  refine law_post (s := Rows.mungeOnceSpec) rfl rfl (by rw [Try.params6]; intro t ht; simp at ht; rcases ht with rfl | rfl | rfl <;> exact ⟨by kernel_rfl, of_decide_eq_true (by kernel_rfl)⟩) rfl hW' ?_
  obtain ⟨x0, rfl, hx0⟩ := open_mn (hval 0 25 v0 rfl rfl) h0
  obtain ⟨A1, c1, l1, rfl, hl1, hr1, hq1⟩ := open_i8s (hval 1 55 v1 rfl rfl) h1
  obtain ⟨A2, c2, l2, rfl, hl2, hr2⟩ := open_bools (hval 2 51 v2 rfl rfl) h2
  exact walk W x0 hx0 A1 c1 l1 hl1 hr1 hq1 A2 c2 l2 hl2 hr2

theorem over : Rows.mungeOnceRow.holds Try.pinned (OpenSpec.ofChange Rows.mungeOnceSpec) :=
  OpenClaim.holds_of_wide 6 Try.f6 rfl rfl rfl rfl rfl rfl rfl ⟨rfl, rfl, rfl, rfl, rfl⟩ rfl rfl rfl rfl rfl (by kernel_rfl) Try.func6 (by kernel_rfl)
    (of_decide_eq_true (by kernel_rfl)) (by unfold Func.isWrapper; first | (rw [if_pos (by decide +kernel)]; kernel_rfl) | (rw [if_neg (by decide +kernel)]; exact ⟨rfl, rfl⟩))
    (fun os started H enc _ => lifted os started H enc)

/-- The statement. -/
theorem mungeOnce_holds : Rows.MungeOnceSaid := over

end Go.Proofs.Ytpemikncbolkbaa.UOnce
