/-
  Proved: MungeGaps returns true for all numbers, and every row of steps (of more than 100 there is nothing to show): where none is left out, packets that come late, and gaps, are as far from each other as they came. Conditions: none.
-/
import Derived.Test.YtpemikncbolkbaaMuD
import Derived.Test.YtpemikncbolkbaaMuO
import Derived.Test.YtpemikncbolkbaaMuP
import Derived.Deep.CutBlock
namespace Go.Proofs.Ytpemikncbolkbaa.UGaps
open Go.ChangeShapes Go.WideShapes Go.ChangeAt Go.RowKit
set_option linter.unusedSimpArgs false
set_option linter.unusedVariables false

set_option maxRecDepth 1000000 in
set_option maxHeartbeats 100000000 in
theorem walk (w : World) (f : Mn) (hf : f.Fit) (A : Option Addr) (c : Nat) (l : List Int) (hl : l.length ≤ maxLen) (hr : Row w w.heap.size 1 A l.length (l.map (Value.int .i8))) (hq : ∀ x ∈ l, -128 ≤ x ∧ x < 128) :
    Calls Try.prog 9 #[.agg f.cells, .slice A l.length c] w fun e w' => e = .returned (.bool true) ∧ Below w.heap.size w w' := by
  unfold maxLen at hl
  obtain ⟨n, hn⟩ : ∃ n, l.length = n := ⟨_, rfl⟩
  rw [hn] at hl hr ⊢
  have CA := Lib.hid (fun w => awake_any w)
  have CW := fun w => mswitch_any Mst.zero f 0 (Mst.zero_fit.parts (by decide)) hf (by decide) w
  rw [(first_switch f 0).1, (first_switch f 0).2] at CW
  obtain ⟨ff, hff⟩ : ∃ d, f.less f = d := ⟨_, rfl⟩
  have FZ := Lib.hid (show (⟨true, f.seq, f.seq, ff, f⟩ : Mst).Fit 65536 from ⟨by have := hf.seq; dsimp only; omega, by rw [← hff]; exact Mn.less_fit _ _, hf⟩)
  rw [hff] at CW
  obtain ⟨fq, ft, fp, fl⟩ := f
  obtain ⟨aq, at', ap, al⟩ := ff
  have HFF := Lib.hid hff
  have HF := Lib.hid hf
  dsimp only [Mst.cells, Mn.cells, Mst.zero, Mn.zero] at CW FZ ⊢
  replace CW := Lib.hid CW
  have HR := Lib.hid hr
  have HN := Lib.hid hn
  have HQ := Lib.hid hq
  clear hr hn hq hff hf
  go_enter Try.func9, Try.ntmps9
  go_wp2_with fail
  refine (CA.out _).mono ?_
  rintro e w1 ⟨rfl, b1⟩
  have Nf : Whole (w.alloc (.cells #[.int .u16 fq, .int .u32 ft, .int .u16 fp, .int .u8 fl] 25)) (w.heap.size) 25 #[.int .u16 fq, .int .u32 ft, .int .u16 fp, .int .u8 fl] := by have := Whole.new w 25 #[.int .u16 fq, .int .u32 ft, .int .u16 fp, .int .u8 fl]; first | with_reducible exact this | simpa using this
  have Sf1 := (Nf).below b1 (by have := (Nf).lt; first | with_reducible exact this | simpa using this)
  have HB1 := Lib.hid ((((Below.refl w.heap.size w).alloc ((Below.refl w.heap.size w)).size (.cells #[.int .u16 fq, .int .u32 ft, .int .u16 fp, .int .u8 fl] 25))).trans (b1.mono (((Below.refl w.heap.size w).alloc ((Below.refl w.heap.size w)).size (.cells #[.int .u16 fq, .int .u32 ft, .int .u16 fp, .int .u8 fl] 25))).size))
  have lf1 := Sf1.lt
  clear b1 Nf CA
  have f1_0 := Sf1.cell 0
  have f1_1 := Sf1.cell 1
  have f1_2 := Sf1.cell 2
  have f1_3 := Sf1.cell 3
  replace Sf1 := Lib.hid Sf1
  by_cases h1 : 100 < n
  · go_wp2
    go_ret
    exact ⟨rfl, HB1.out⟩
  go_wp2_with fail
  refine (CW.out _).mono ?_
  rintro e w2 ⟨rfl, b2⟩
  have Ns : Whole (w1.alloc (.cells #[.bool false, .int .i64 0, .int .i64 0, .int .u16 0, .int .u32 0, .int .u16 0, .int .u8 0, .int .u16 0, .int .u32 0, .int .u16 0, .int .u8 0] 27)) (w1.heap.size) 27 #[.bool false, .int .i64 0, .int .i64 0, .int .u16 0, .int .u32 0, .int .u16 0, .int .u8 0, .int .u16 0, .int .u32 0, .int .u16 0, .int .u8 0] := by have := Whole.new w1 27 #[.bool false, .int .i64 0, .int .i64 0, .int .u16 0, .int .u32 0, .int .u16 0, .int .u8 0, .int .u16 0, .int .u32 0, .int .u16 0, .int .u8 0]; first | with_reducible exact this | simpa using this
  have Sf2 := ((Sf1.out.alloc (.cells #[.bool false, .int .i64 0, .int .i64 0, .int .u16 0, .int .u32 0, .int .u16 0, .int .u8 0, .int .u16 0, .int .u32 0, .int .u16 0, .int .u8 0] 27))).below b2 (by have := ((Sf1.out.alloc (.cells #[.bool false, .int .i64 0, .int .i64 0, .int .u16 0, .int .u32 0, .int .u16 0, .int .u8 0, .int .u16 0, .int .u32 0, .int .u16 0, .int .u8 0] 27))).lt; first | with_reducible exact this | simpa using this)
  have Ss2 := (Ns).below b2 (by have := (Ns).lt; first | with_reducible exact this | simpa using this)
  have HB2 := Lib.hid (((HB1.out.alloc (HB1.out).size (.cells #[.bool false, .int .i64 0, .int .i64 0, .int .u16 0, .int .u32 0, .int .u16 0, .int .u8 0, .int .u16 0, .int .u32 0, .int .u16 0, .int .u8 0] 27))).trans (b2.mono ((HB1.out.alloc (HB1.out).size (.cells #[.bool false, .int .i64 0, .int .i64 0, .int .u16 0, .int .u32 0, .int .u16 0, .int .u8 0, .int .u16 0, .int .u32 0, .int .u16 0, .int .u8 0] 27))).size))
  have lf2 := Sf2.lt
  have ls2 := Ss2.lt
  clear b2 f1_0 f1_1 f1_2 f1_3 Sf1 Ns HB1 CW
  have f2_0 := Sf2.cell 0
  have ff2_0 := Sf2.free 0
  have f2_1 := Sf2.cell 1
  have ff2_1 := Sf2.free 1
  have f2_2 := Sf2.cell 2
  have ff2_2 := Sf2.free 2
  have f2_3 := Sf2.cell 3
  have ff2_3 := Sf2.free 3
  have s2_0 := Ss2.cell 0
  have fs2_0 := Ss2.free 0
  have s2_1 := Ss2.cell 1
  have fs2_1 := Ss2.free 1
  have s2_2 := Ss2.cell 2
  have fs2_2 := Ss2.free 2
  have s2_3 := Ss2.cell 3
  have fs2_3 := Ss2.free 3
  have s2_4 := Ss2.cell 4
  have fs2_4 := Ss2.free 4
  have s2_5 := Ss2.cell 5
  have fs2_5 := Ss2.free 5
  have s2_6 := Ss2.cell 6
  have fs2_6 := Ss2.free 6
  have s2_7 := Ss2.cell 7
  have fs2_7 := Ss2.free 7
  have s2_8 := Ss2.cell 8
  have fs2_8 := Ss2.free 8
  have s2_9 := Ss2.cell 9
  have fs2_9 := Ss2.free 9
  have s2_10 := Ss2.cell 10
  have fs2_10 := Ss2.free 10
  replace Sf2 := Lib.hid Sf2
  replace Ss2 := Lib.hid Ss2
  go_wp2_with fail
  obtain ⟨wf1, hwf⟩ : ∃ z, z = ((((((((((((w2.setCell ⟨w1.heap.size, 0, none⟩ (.bool true)).setCell ⟨w1.heap.size, 1, none⟩ (.int .i64 fq)).setCell ⟨w1.heap.size, 2, none⟩ (.int .i64 fq)).setCell ⟨w1.heap.size, 3, none⟩ (.int .u16 aq)).setCell ⟨w1.heap.size, 4, none⟩ (.int .u32 at')).setCell ⟨w1.heap.size, 5, none⟩ (.int .u16 ap)).setCell ⟨w1.heap.size, 6, none⟩ (.int .u8 al)).setCell ⟨w1.heap.size, 7, none⟩ (.int .u16 fq)).setCell ⟨w1.heap.size, 8, none⟩ (.int .u32 ft)).setCell ⟨w1.heap.size, 9, none⟩ (.int .u16 fp)).setCell ⟨w1.heap.size, 10, none⟩ (.int .u8 fl)).alloc (.cells #[.int .u16 fq, .int .u32 ft, .int .u16 fp, .int .u8 fl] 25)) := ⟨_, rfl⟩
  have Ng : Whole ((((((((((((w2.setCell ⟨w1.heap.size, 0, none⟩ (.bool true)).setCell ⟨w1.heap.size, 1, none⟩ (.int .i64 fq)).setCell ⟨w1.heap.size, 2, none⟩ (.int .i64 fq)).setCell ⟨w1.heap.size, 3, none⟩ (.int .u16 aq)).setCell ⟨w1.heap.size, 4, none⟩ (.int .u32 at')).setCell ⟨w1.heap.size, 5, none⟩ (.int .u16 ap)).setCell ⟨w1.heap.size, 6, none⟩ (.int .u8 al)).setCell ⟨w1.heap.size, 7, none⟩ (.int .u16 fq)).setCell ⟨w1.heap.size, 8, none⟩ (.int .u32 ft)).setCell ⟨w1.heap.size, 9, none⟩ (.int .u16 fp)).setCell ⟨w1.heap.size, 10, none⟩ (.int .u8 fl)).alloc (.cells #[.int .u16 fq, .int .u32 ft, .int .u16 fp, .int .u8 fl] 25)) (w2.heap.size) 25 #[.int .u16 fq, .int .u32 ft, .int .u16 fp, .int .u8 fl] := by have := Whole.new (((((((((((w2.setCell ⟨w1.heap.size, 0, none⟩ (.bool true)).setCell ⟨w1.heap.size, 1, none⟩ (.int .i64 fq)).setCell ⟨w1.heap.size, 2, none⟩ (.int .i64 fq)).setCell ⟨w1.heap.size, 3, none⟩ (.int .u16 aq)).setCell ⟨w1.heap.size, 4, none⟩ (.int .u32 at')).setCell ⟨w1.heap.size, 5, none⟩ (.int .u16 ap)).setCell ⟨w1.heap.size, 6, none⟩ (.int .u8 al)).setCell ⟨w1.heap.size, 7, none⟩ (.int .u16 fq)).setCell ⟨w1.heap.size, 8, none⟩ (.int .u32 ft)).setCell ⟨w1.heap.size, 9, none⟩ (.int .u16 fp)).setCell ⟨w1.heap.size, 10, none⟩ (.int .u8 fl)) 25 #[.int .u16 fq, .int .u32 ft, .int .u16 fp, .int .u8 fl]; first | with_reducible exact this | simpa using this
  have Sff1 := ((Whole.eleven_far (Sf2.out) (show w.heap.size ≠ w1.heap.size from by omega) (.bool true) (.int .i64 fq) (.int .i64 fq) (.int .u16 aq) (.int .u32 at') (.int .u16 ap) (.int .u8 al) (.int .u16 fq) (.int .u32 ft) (.int .u16 fp) (.int .u8 fl)).alloc (.cells #[.int .u16 fq, .int .u32 ft, .int .u16 fp, .int .u8 fl] 25))
  have Ssf1 := ((Whole.eleven (Ss2.out) (.bool true) (.int .i64 fq) (.int .i64 fq) (.int .u16 aq) (.int .u32 at') (.int .u16 ap) (.int .u8 al) (.int .u16 fq) (.int .u32 ft) (.int .u16 fp) (.int .u8 fl)).alloc (.cells #[.int .u16 fq, .int .u32 ft, .int .u16 fp, .int .u8 fl] 25))
  have Sgf1 := Ng
  have HBf1 := ((eleven_set (HB2.out) (show w.heap.size ≤ w1.heap.size from by omega) (.bool true) (.int .i64 fq) (.int .i64 fq) (.int .u16 aq) (.int .u32 at') (.int .u16 ap) (.int .u8 al) (.int .u16 fq) (.int .u32 ft) (.int .u16 fp) (.int .u8 fl)).alloc ((eleven_set (HB2.out) (show w.heap.size ≤ w1.heap.size from by omega) (.bool true) (.int .i64 fq) (.int .i64 fq) (.int .u16 aq) (.int .u32 at') (.int .u16 ap) (.int .u8 al) (.int .u16 fq) (.int .u32 ft) (.int .u16 fp) (.int .u8 fl))).size (.cells #[.int .u16 fq, .int .u32 ft, .int .u16 fp, .int .u8 fl] 25))
  rw [← hwf] at Sff1 Ssf1 Sgf1 HBf1 ⊢
  clear hwf
  clear f2_0 ff2_0 f2_1 ff2_1 f2_2 ff2_2 f2_3 ff2_3 s2_0 fs2_0 s2_1 fs2_1 s2_2 fs2_2 s2_3 fs2_3 s2_4 fs2_4 s2_5 fs2_5 s2_6 fs2_6 s2_7 fs2_7 s2_8 fs2_8 s2_9 fs2_9 s2_10 fs2_10 Sf2 Ss2 Ng HB2
  have lff1 := Sff1.lt
  have lsf1 := Ssf1.lt
  have lgf1 := Sgf1.lt
  replace HBf1 := Lib.hid HBf1
  replace Sff1 := Lib.hid Sff1
  replace Ssf1 := Lib.hid Ssf1
  replace Sgf1 := Lib.hid Sgf1
  obtain ⟨gs, hgs⟩ : ∃ g, g = w1.heap.size := ⟨_, rfl⟩
  obtain ⟨gg, hgg⟩ : ∃ g, g = w2.heap.size := ⟨_, rfl⟩
  rw [← hgs, ← hgg]
  rw [← hgs] at Ssf1
  rw [← hgg] at Sgf1
  have d1 : w.heap.size < gs := by omega
  have d2 : gs < gg := by omega
  clear hgs hgg
  go_loopw [8, 9] (fun b i wr => ∃ (k : Nat) (j : Int) (s : Mst), k ≤ n ∧ b = .int .u16 (j % 65536) ∧ i = .int .i64 (k : Int) ∧ Hid (Whole wr w.heap.size 25 #[.int .u16 fq, .int .u32 ft, .int .u16 fp, .int .u8 fl]) ∧ Hid (Whole wr gs 27 s.cells) ∧ Hid (Whole wr gg 25 #[.int .u16 fq, .int .u32 ft, .int .u16 fp, .int .u8 fl]) ∧ Hid (s.Fit (65536 + 32768 * k) ∧ (-(128 * (k : Int)) ≤ j ∧ j ≤ 128 * k) ∧ s.on = true ∧ s.since = fq ∧ s.off = ⟨aq, at', ap, al⟩ ∧ fq ≤ s.high ∧ s.high ≤ fq + 128 * k) ∧ Below w.heap.size w wr) (fun _ i _ => n - (intOf i).toNat)
  case atStart => exact ⟨0, 0, ⟨true, fq, fq, ⟨aq, at', ap, al⟩, ⟨fq, ft, fp, fl⟩⟩, Nat.zero_le _, rfl, rfl, Sff1, Ssf1, Sgf1, Lib.hid ⟨FZ.out, by omega, rfl, rfl, rfl, Int.le_refl _, by dsimp only; omega⟩, HBf1.out⟩
  case round =>
    clear Sff1 Ssf1 Sgf1 HBf1 FZ
    obtain ⟨k, j, s, hk, rfl, rfl, HF1, HS1, HG1, HP, hb⟩ := hrel
    obtain ⟨wo, rfl⟩ : ∃ wo : World, wo = wr := ⟨_, rfl⟩
    have HB := Lib.hid hb
    have l1 := HF1.out.lt
    have l2 := HS1.out.lt
    have l3 := HG1.out.lt
    clear hb
    have k0 := HF1.out.cell 0
    have k1 := HF1.out.cell 1
    have k2 := HF1.out.cell 2
    have k3 := HF1.out.cell 3
    by_cases hlt : k < n
    · obtain ⟨d, hd⟩ : ∃ x, l[k]? = some x := ⟨l[k]'(by rw [HN.out]; exact hlt), by simp⟩
      obtain ⟨g, o, rfl, hg0, hat⟩ := one_at HR.out (by omega)
      have r0 := hat _ HB.out k d hd
      have hdb := HQ.out d (List.mem_of_getElem? hd)
      clear hat hd
      have hgo : g < wo.heap.size := by omega
      have hi1 : (0 : Int) ≤ (k : Int) := by omega
      have hi2 : (k : Int) < (n : Int) := by omega
      obtain ⟨hfit, hj, hon, hsi, hof, hlo, hhi⟩ := HP.out
      have hx : ((⟨(fq + (j + d)) % 65536, ft, fp, fl⟩ : Mn)).Fit := ⟨by dsimp only; omega, HF.out.time, HF.out.pic, HF.out.tl0⟩
      have GA := gaps (s := s) (f := ⟨fq, ft, fp, fl⟩) (x := ⟨(fq + (j + d)) % 65536, ft, fp, fl⟩) (j := j + d) hon hsi (hof.trans HFF.out.symm) hlo (by dsimp only; omega) (by omega) rfl
      have CE := fun w => msend_any s ⟨(fq + (j + d)) % 65536, ft, fp, fl⟩ ⟨by have := hfit.high; omega, hfit.off, hfit.out⟩ hx w
      have LE := fun w => less16_any fq ((fq + (j + d)) % 65536) w
      have GF : (s.sendS ⟨(fq + (j + d)) % 65536, ft, fp, fl⟩).Fit (65536 + 32768 * ((k + 1 : Nat) : Int)) := by have := Mst.send_fit hfit ⟨(fq + (j + d)) % 65536, ft, fp, fl⟩; rwa [show (65536 + 32768 * (k : Int)) + 32768 = 65536 + 32768 * ((k + 1 : Nat) : Int) by omega] at this
      have FN := @Mst.not_told s ⟨(fq + (j + d)) % 65536, ft, fp, fl⟩
      dsimp only at GA
      obtain ⟨g1, g2, g3, g4⟩ := GA
      rw [g1] at CE FN
      rw [g3] at LE
      obtain ⟨t, ht⟩ : ∃ t, s.sendS ⟨(fq + (j + d)) % 65536, ft, fp, fl⟩ = t := ⟨_, rfl⟩
      obtain ⟨q, hq⟩ : ∃ q, s.told ⟨(fq + (j + d)) % 65536, ft, fp, fl⟩ = q := ⟨_, rfl⟩
      rw [ht] at CE FN g4 GF
      rw [hq] at CE FN g2
      have HP2 := Lib.hid (show t.Fit (65536 + 32768 * ((k + 1 : Nat) : Int)) ∧ (-(128 * ((k + 1 : Nat) : Int)) ≤ j + d ∧ j + d ≤ 128 * ((k + 1 : Nat) : Int)) ∧ t.on = true ∧ t.since = fq ∧ t.off = ⟨aq, at', ap, al⟩ ∧ fq ≤ t.high ∧ t.high ≤ fq + 128 * ((k + 1 : Nat) : Int) from
        ⟨GF, by omega, g4.1, g4.2.1, g4.2.2.1.trans HFF.out, g4.2.2.2.1, by have := g4.2.2.2.2; (try dsimp only at this); omega⟩)
      clear hfit hon hsi hof hlo hhi hx GF g1 g3 g4 ht hq HP
      obtain ⟨yq, hyq⟩ : ∃ y, (fq + (j + d)) % 65536 = y := ⟨_, rfl⟩
      obtain ⟨jq, hjq⟩ : ∃ y, (j + d) % 65536 = y := ⟨_, rfl⟩
      have E1 : IntKind.u16.wrap (j % 65536 + IntKind.u16.wrap d) = jq := by rw [wrap_u16, wrap_u16]; omega
      have E2 : IntKind.u16.wrap (fq + jq) = yq := by rw [wrap_u16]; omega
      rw [hyq] at CE LE g2
      obtain ⟨son, sh, sc, ⟨soq, sot, sop, sol⟩, ⟨suq, sut, sup, sul⟩⟩ := s
      obtain ⟨ton, th, tc, ⟨toq, tot, top, tol⟩, ⟨tuq, tut, tup, tul⟩⟩ := t
      obtain ⟨qq, qt, qp, ql⟩ := q
      dsimp only [Mst.cells, Mn.cells, Mst.zero, Mn.zero] at *
      have HJ := Lib.hid hjq
      clear hjq hyq
      by_cases hp : 0 < j + d
      · have e : decide (0 < j + d) = true := decide_eq_true hp
        rw [e] at CE LE FN
        clear e
        obtain rfl : qq = yq := g2 hp
        clear FN g2
        replace CE := Lib.hid CE
        replace LE := Lib.hid LE
        have c0 := HS1.out.cell 0
        have c1 := HS1.out.cell 1
        have c2 := HS1.out.cell 2
        have c3 := HS1.out.cell 3
        have c4 := HS1.out.cell 4
        have c5 := HS1.out.cell 5
        have c6 := HS1.out.cell 6
        have c7 := HS1.out.cell 7
        have c8 := HS1.out.cell 8
        have c9 := HS1.out.cell 9
        have c10 := HS1.out.cell 10
        go_wp2_with fail
        refine (CE.out _).mono ?_
        rintro e w3 ⟨rfl, b3⟩
        have Nx : Whole (wo.alloc (.cells #[.int .u16 qq, .int .u32 ft, .int .u16 fp, .int .u8 fl] 25)) (wo.heap.size) 25 #[.int .u16 qq, .int .u32 ft, .int .u16 fp, .int .u8 fl] := by have := Whole.new wo 25 #[.int .u16 qq, .int .u32 ft, .int .u16 fp, .int .u8 fl]; first | with_reducible exact this | simpa using this
        have Sf3 := ((HF1.out.alloc (.cells #[.int .u16 qq, .int .u32 ft, .int .u16 fp, .int .u8 fl] 25))).below b3 (by have := ((HF1.out.alloc (.cells #[.int .u16 qq, .int .u32 ft, .int .u16 fp, .int .u8 fl] 25))).lt; first | with_reducible exact this | simpa using this)
        have Ss3 := ((HS1.out.alloc (.cells #[.int .u16 qq, .int .u32 ft, .int .u16 fp, .int .u8 fl] 25))).below b3 (by have := ((HS1.out.alloc (.cells #[.int .u16 qq, .int .u32 ft, .int .u16 fp, .int .u8 fl] 25))).lt; first | with_reducible exact this | simpa using this)
        have Sg3 := ((HG1.out.alloc (.cells #[.int .u16 qq, .int .u32 ft, .int .u16 fp, .int .u8 fl] 25))).below b3 (by have := ((HG1.out.alloc (.cells #[.int .u16 qq, .int .u32 ft, .int .u16 fp, .int .u8 fl] 25))).lt; first | with_reducible exact this | simpa using this)
        have Sx3 := (Nx).below b3 (by have := (Nx).lt; first | with_reducible exact this | simpa using this)
        have HB3 := Lib.hid (((HB.out.alloc (HB.out).size (.cells #[.int .u16 qq, .int .u32 ft, .int .u16 fp, .int .u8 fl] 25))).trans (b3.mono ((HB.out.alloc (HB.out).size (.cells #[.int .u16 qq, .int .u32 ft, .int .u16 fp, .int .u8 fl] 25))).size))
        have lf3 := Sf3.lt
        have ls3 := Ss3.lt
        have lg3 := Sg3.lt
        have lx3 := Sx3.lt
        clear b3 k0 k1 k2 k3 c0 c1 c2 c3 c4 c5 c6 c7 c8 c9 c10 HF1 HS1 HG1 Nx HB CE r0 hgo
        have f3_0 := Sf3.cell 0
        have f3_1 := Sf3.cell 1
        have f3_2 := Sf3.cell 2
        have f3_3 := Sf3.cell 3
        have s3_0 := Ss3.cell 0
        have fs3_0 := Ss3.free 0
        have s3_1 := Ss3.cell 1
        have fs3_1 := Ss3.free 1
        have s3_2 := Ss3.cell 2
        have fs3_2 := Ss3.free 2
        have s3_3 := Ss3.cell 3
        have fs3_3 := Ss3.free 3
        have s3_4 := Ss3.cell 4
        have fs3_4 := Ss3.free 4
        have s3_5 := Ss3.cell 5
        have fs3_5 := Ss3.free 5
        have s3_6 := Ss3.cell 6
        have fs3_6 := Ss3.free 6
        have s3_7 := Ss3.cell 7
        have fs3_7 := Ss3.free 7
        have s3_8 := Ss3.cell 8
        have fs3_8 := Ss3.free 8
        have s3_9 := Ss3.cell 9
        have fs3_9 := Ss3.free 9
        have s3_10 := Ss3.cell 10
        have fs3_10 := Ss3.free 10
        have g3_0 := Sg3.cell 0
        have g3_1 := Sg3.cell 1
        have g3_2 := Sg3.cell 2
        have g3_3 := Sg3.cell 3
        have x3_0 := Sx3.cell 0
        have x3_1 := Sx3.cell 1
        have x3_2 := Sx3.cell 2
        have x3_3 := Sx3.cell 3
        replace Sf3 := Lib.hid Sf3
        replace Ss3 := Lib.hid Ss3
        replace Sg3 := Lib.hid Sg3
        replace Sx3 := Lib.hid Sx3
        go_wp2_with fail
        refine (LE.out _).mono ?_
        rintro e w4 ⟨rfl, b4⟩
        have Nt : Whole (w3.alloc (.cells #[.bool ton, .int .i64 th, .int .i64 tc, .int .u16 toq, .int .u32 tot, .int .u16 top, .int .u8 tol, .int .u16 tuq, .int .u32 tut, .int .u16 tup, .int .u8 tul] 27)) (w3.heap.size) 27 #[.bool ton, .int .i64 th, .int .i64 tc, .int .u16 toq, .int .u32 tot, .int .u16 top, .int .u8 tol, .int .u16 tuq, .int .u32 tut, .int .u16 tup, .int .u8 tul] := by have := Whole.new w3 27 #[.bool ton, .int .i64 th, .int .i64 tc, .int .u16 toq, .int .u32 tot, .int .u16 top, .int .u8 tol, .int .u16 tuq, .int .u32 tut, .int .u16 tup, .int .u8 tul]; first | with_reducible exact this | simpa using this
        have Nn : Whole ((w3.alloc (.cells #[.bool ton, .int .i64 th, .int .i64 tc, .int .u16 toq, .int .u32 tot, .int .u16 top, .int .u8 tol, .int .u16 tuq, .int .u32 tut, .int .u16 tup, .int .u8 tul] 27)).alloc (.cells #[.int .u16 qq, .int .u32 qt, .int .u16 qp, .int .u8 ql] 25)) (w3.heap.size + 1) 25 #[.int .u16 qq, .int .u32 qt, .int .u16 qp, .int .u8 ql] := by have := Whole.new (w3.alloc (.cells #[.bool ton, .int .i64 th, .int .i64 tc, .int .u16 toq, .int .u32 tot, .int .u16 top, .int .u8 tol, .int .u16 tuq, .int .u32 tut, .int .u16 tup, .int .u8 tul] 27)) 25 #[.int .u16 qq, .int .u32 qt, .int .u16 qp, .int .u8 ql]; first | with_reducible exact this | simpa using this
        have Sf4 := (((Sf3.out.alloc (.cells #[.bool ton, .int .i64 th, .int .i64 tc, .int .u16 toq, .int .u32 tot, .int .u16 top, .int .u8 tol, .int .u16 tuq, .int .u32 tut, .int .u16 tup, .int .u8 tul] 27)).alloc (.cells #[.int .u16 qq, .int .u32 qt, .int .u16 qp, .int .u8 ql] 25))).below b4 (by have := (((Sf3.out.alloc (.cells #[.bool ton, .int .i64 th, .int .i64 tc, .int .u16 toq, .int .u32 tot, .int .u16 top, .int .u8 tol, .int .u16 tuq, .int .u32 tut, .int .u16 tup, .int .u8 tul] 27)).alloc (.cells #[.int .u16 qq, .int .u32 qt, .int .u16 qp, .int .u8 ql] 25))).lt; first | with_reducible exact this | simpa using this)
        have Ss4 := (((Ss3.out.alloc (.cells #[.bool ton, .int .i64 th, .int .i64 tc, .int .u16 toq, .int .u32 tot, .int .u16 top, .int .u8 tol, .int .u16 tuq, .int .u32 tut, .int .u16 tup, .int .u8 tul] 27)).alloc (.cells #[.int .u16 qq, .int .u32 qt, .int .u16 qp, .int .u8 ql] 25))).below b4 (by have := (((Ss3.out.alloc (.cells #[.bool ton, .int .i64 th, .int .i64 tc, .int .u16 toq, .int .u32 tot, .int .u16 top, .int .u8 tol, .int .u16 tuq, .int .u32 tut, .int .u16 tup, .int .u8 tul] 27)).alloc (.cells #[.int .u16 qq, .int .u32 qt, .int .u16 qp, .int .u8 ql] 25))).lt; first | with_reducible exact this | simpa using this)
        have Sg4 := (((Sg3.out.alloc (.cells #[.bool ton, .int .i64 th, .int .i64 tc, .int .u16 toq, .int .u32 tot, .int .u16 top, .int .u8 tol, .int .u16 tuq, .int .u32 tut, .int .u16 tup, .int .u8 tul] 27)).alloc (.cells #[.int .u16 qq, .int .u32 qt, .int .u16 qp, .int .u8 ql] 25))).below b4 (by have := (((Sg3.out.alloc (.cells #[.bool ton, .int .i64 th, .int .i64 tc, .int .u16 toq, .int .u32 tot, .int .u16 top, .int .u8 tol, .int .u16 tuq, .int .u32 tut, .int .u16 tup, .int .u8 tul] 27)).alloc (.cells #[.int .u16 qq, .int .u32 qt, .int .u16 qp, .int .u8 ql] 25))).lt; first | with_reducible exact this | simpa using this)
        have Sx4 := (((Sx3.out.alloc (.cells #[.bool ton, .int .i64 th, .int .i64 tc, .int .u16 toq, .int .u32 tot, .int .u16 top, .int .u8 tol, .int .u16 tuq, .int .u32 tut, .int .u16 tup, .int .u8 tul] 27)).alloc (.cells #[.int .u16 qq, .int .u32 qt, .int .u16 qp, .int .u8 ql] 25))).below b4 (by have := (((Sx3.out.alloc (.cells #[.bool ton, .int .i64 th, .int .i64 tc, .int .u16 toq, .int .u32 tot, .int .u16 top, .int .u8 tol, .int .u16 tuq, .int .u32 tut, .int .u16 tup, .int .u8 tul] 27)).alloc (.cells #[.int .u16 qq, .int .u32 qt, .int .u16 qp, .int .u8 ql] 25))).lt; first | with_reducible exact this | simpa using this)
        have St4 := ((Nt.alloc (.cells #[.int .u16 qq, .int .u32 qt, .int .u16 qp, .int .u8 ql] 25))).below b4 (by have := ((Nt.alloc (.cells #[.int .u16 qq, .int .u32 qt, .int .u16 qp, .int .u8 ql] 25))).lt; first | with_reducible exact this | simpa using this)
        have Sn4 := (Nn).below b4 (by have := (Nn).lt; first | with_reducible exact this | simpa using this)
        have HB4 := Lib.hid ((((HB3.out.alloc (HB3.out).size (.cells #[.bool ton, .int .i64 th, .int .i64 tc, .int .u16 toq, .int .u32 tot, .int .u16 top, .int .u8 tol, .int .u16 tuq, .int .u32 tut, .int .u16 tup, .int .u8 tul] 27)).alloc ((HB3.out.alloc (HB3.out).size (.cells #[.bool ton, .int .i64 th, .int .i64 tc, .int .u16 toq, .int .u32 tot, .int .u16 top, .int .u8 tol, .int .u16 tuq, .int .u32 tut, .int .u16 tup, .int .u8 tul] 27))).size (.cells #[.int .u16 qq, .int .u32 qt, .int .u16 qp, .int .u8 ql] 25))).trans (b4.mono (((HB3.out.alloc (HB3.out).size (.cells #[.bool ton, .int .i64 th, .int .i64 tc, .int .u16 toq, .int .u32 tot, .int .u16 top, .int .u8 tol, .int .u16 tuq, .int .u32 tut, .int .u16 tup, .int .u8 tul] 27)).alloc ((HB3.out.alloc (HB3.out).size (.cells #[.bool ton, .int .i64 th, .int .i64 tc, .int .u16 toq, .int .u32 tot, .int .u16 top, .int .u8 tol, .int .u16 tuq, .int .u32 tut, .int .u16 tup, .int .u8 tul] 27))).size (.cells #[.int .u16 qq, .int .u32 qt, .int .u16 qp, .int .u8 ql] 25))).size))
        have lf4 := Sf4.lt
        have ls4 := Ss4.lt
        have lg4 := Sg4.lt
        have lx4 := Sx4.lt
        have lt4 := St4.lt
        have ln4 := Sn4.lt
        clear b4 f3_0 f3_1 f3_2 f3_3 s3_0 fs3_0 s3_1 fs3_1 s3_2 fs3_2 s3_3 fs3_3 s3_4 fs3_4 s3_5 fs3_5 s3_6 fs3_6 s3_7 fs3_7 s3_8 fs3_8 s3_9 fs3_9 s3_10 fs3_10 g3_0 g3_1 g3_2 g3_3 x3_0 x3_1 x3_2 x3_3 Sf3 Ss3 Sg3 Sx3 Nt Nn HB3 LE
        have s4_0 := Ss4.cell 0
        have fs4_0 := Ss4.free 0
        have s4_1 := Ss4.cell 1
        have fs4_1 := Ss4.free 1
        have s4_2 := Ss4.cell 2
        have fs4_2 := Ss4.free 2
        have s4_3 := Ss4.cell 3
        have fs4_3 := Ss4.free 3
        have s4_4 := Ss4.cell 4
        have fs4_4 := Ss4.free 4
        have s4_5 := Ss4.cell 5
        have fs4_5 := Ss4.free 5
        have s4_6 := Ss4.cell 6
        have fs4_6 := Ss4.free 6
        have s4_7 := Ss4.cell 7
        have fs4_7 := Ss4.free 7
        have s4_8 := Ss4.cell 8
        have fs4_8 := Ss4.free 8
        have s4_9 := Ss4.cell 9
        have fs4_9 := Ss4.free 9
        have s4_10 := Ss4.cell 10
        have fs4_10 := Ss4.free 10
        have t4_0 := St4.cell 0
        have t4_1 := St4.cell 1
        have t4_2 := St4.cell 2
        have t4_3 := St4.cell 3
        have t4_4 := St4.cell 4
        have t4_5 := St4.cell 5
        have t4_6 := St4.cell 6
        have t4_7 := St4.cell 7
        have t4_8 := St4.cell 8
        have t4_9 := St4.cell 9
        have t4_10 := St4.cell 10
        replace Sf4 := Lib.hid Sf4
        replace Ss4 := Lib.hid Ss4
        replace Sg4 := Lib.hid Sg4
        replace Sx4 := Lib.hid Sx4
        replace St4 := Lib.hid St4
        replace Sn4 := Lib.hid Sn4
        go_wp2
        go_roundw
        case rel => exact ⟨k + 1, j + d, ⟨ton, th, tc, ⟨toq, tot, top, tol⟩, ⟨tuq, tut, tup, tul⟩⟩, by omega, by rw [HJ.out], by go_num, Lib.hid ((Whole.eleven_far (Sf4.out) (show w.heap.size ≠ gs from by omega) (.bool ton) (.int .i64 th) (.int .i64 tc) (.int .u16 toq) (.int .u32 tot) (.int .u16 top) (.int .u8 tol) (.int .u16 tuq) (.int .u32 tut) (.int .u16 tup) (.int .u8 tul))), Lib.hid ((Whole.eleven (Ss4.out) (.bool ton) (.int .i64 th) (.int .i64 tc) (.int .u16 toq) (.int .u32 tot) (.int .u16 top) (.int .u8 tol) (.int .u16 tuq) (.int .u32 tut) (.int .u16 tup) (.int .u8 tul))), Lib.hid ((Whole.eleven_far (Sg4.out) (show gg ≠ gs from by omega) (.bool ton) (.int .i64 th) (.int .i64 tc) (.int .u16 toq) (.int .u32 tot) (.int .u16 top) (.int .u8 tol) (.int .u16 tuq) (.int .u32 tut) (.int .u16 tup) (.int .u8 tul))), HP2, (eleven_set (HB4.out) (show w.heap.size ≤ gs from by omega) (.bool ton) (.int .i64 th) (.int .i64 tc) (.int .u16 toq) (.int .u32 tot) (.int .u16 top) (.int .u8 tol) (.int .u16 tuq) (.int .u32 tut) (.int .u16 tup) (.int .u8 tul))⟩
        case measure => simp [intOf]; omega
      · have e : decide (0 < j + d) = false := decide_eq_false hp
        rw [e] at CE LE FN
        clear e
        have h := FN rfl
        simp only [Mst.mk.injEq, Mn.mk.injEq] at h
        obtain ⟨⟨rfl, rfl, rfl, ⟨rfl, rfl, rfl, rfl⟩, ⟨rfl, rfl, rfl, rfl⟩⟩, ⟨rfl, rfl, rfl, rfl⟩⟩ := h
        clear FN g2
        replace CE := Lib.hid CE
        replace LE := Lib.hid LE
        have c0 := HS1.out.cell 0
        have c1 := HS1.out.cell 1
        have c2 := HS1.out.cell 2
        have c3 := HS1.out.cell 3
        have c4 := HS1.out.cell 4
        have c5 := HS1.out.cell 5
        have c6 := HS1.out.cell 6
        have c7 := HS1.out.cell 7
        have c8 := HS1.out.cell 8
        have c9 := HS1.out.cell 9
        have c10 := HS1.out.cell 10
        go_wp2_with fail
        refine (CE.out _).mono ?_
        rintro e w3 ⟨rfl, b3⟩
        have Nx : Whole (wo.alloc (.cells #[.int .u16 yq, .int .u32 ft, .int .u16 fp, .int .u8 fl] 25)) (wo.heap.size) 25 #[.int .u16 yq, .int .u32 ft, .int .u16 fp, .int .u8 fl] := by have := Whole.new wo 25 #[.int .u16 yq, .int .u32 ft, .int .u16 fp, .int .u8 fl]; first | with_reducible exact this | simpa using this
        have Sf3 := ((HF1.out.alloc (.cells #[.int .u16 yq, .int .u32 ft, .int .u16 fp, .int .u8 fl] 25))).below b3 (by have := ((HF1.out.alloc (.cells #[.int .u16 yq, .int .u32 ft, .int .u16 fp, .int .u8 fl] 25))).lt; first | with_reducible exact this | simpa using this)
        have Ss3 := ((HS1.out.alloc (.cells #[.int .u16 yq, .int .u32 ft, .int .u16 fp, .int .u8 fl] 25))).below b3 (by have := ((HS1.out.alloc (.cells #[.int .u16 yq, .int .u32 ft, .int .u16 fp, .int .u8 fl] 25))).lt; first | with_reducible exact this | simpa using this)
        have Sg3 := ((HG1.out.alloc (.cells #[.int .u16 yq, .int .u32 ft, .int .u16 fp, .int .u8 fl] 25))).below b3 (by have := ((HG1.out.alloc (.cells #[.int .u16 yq, .int .u32 ft, .int .u16 fp, .int .u8 fl] 25))).lt; first | with_reducible exact this | simpa using this)
        have Sx3 := (Nx).below b3 (by have := (Nx).lt; first | with_reducible exact this | simpa using this)
        have HB3 := Lib.hid (((HB.out.alloc (HB.out).size (.cells #[.int .u16 yq, .int .u32 ft, .int .u16 fp, .int .u8 fl] 25))).trans (b3.mono ((HB.out.alloc (HB.out).size (.cells #[.int .u16 yq, .int .u32 ft, .int .u16 fp, .int .u8 fl] 25))).size))
        have lf3 := Sf3.lt
        have ls3 := Ss3.lt
        have lg3 := Sg3.lt
        have lx3 := Sx3.lt
        clear b3 k0 k1 k2 k3 c0 c1 c2 c3 c4 c5 c6 c7 c8 c9 c10 HF1 HS1 HG1 Nx HB CE r0 hgo
        have f3_0 := Sf3.cell 0
        have f3_1 := Sf3.cell 1
        have f3_2 := Sf3.cell 2
        have f3_3 := Sf3.cell 3
        have s3_0 := Ss3.cell 0
        have fs3_0 := Ss3.free 0
        have s3_1 := Ss3.cell 1
        have fs3_1 := Ss3.free 1
        have s3_2 := Ss3.cell 2
        have fs3_2 := Ss3.free 2
        have s3_3 := Ss3.cell 3
        have fs3_3 := Ss3.free 3
        have s3_4 := Ss3.cell 4
        have fs3_4 := Ss3.free 4
        have s3_5 := Ss3.cell 5
        have fs3_5 := Ss3.free 5
        have s3_6 := Ss3.cell 6
        have fs3_6 := Ss3.free 6
        have s3_7 := Ss3.cell 7
        have fs3_7 := Ss3.free 7
        have s3_8 := Ss3.cell 8
        have fs3_8 := Ss3.free 8
        have s3_9 := Ss3.cell 9
        have fs3_9 := Ss3.free 9
        have s3_10 := Ss3.cell 10
        have fs3_10 := Ss3.free 10
        have g3_0 := Sg3.cell 0
        have g3_1 := Sg3.cell 1
        have g3_2 := Sg3.cell 2
        have g3_3 := Sg3.cell 3
        have x3_0 := Sx3.cell 0
        have x3_1 := Sx3.cell 1
        have x3_2 := Sx3.cell 2
        have x3_3 := Sx3.cell 3
        replace Sf3 := Lib.hid Sf3
        replace Ss3 := Lib.hid Ss3
        replace Sg3 := Lib.hid Sg3
        replace Sx3 := Lib.hid Sx3
        go_wp2_with fail
        refine (LE.out _).mono ?_
        rintro e w4 ⟨rfl, b4⟩
        have Nt : Whole (w3.alloc (.cells #[.bool ton, .int .i64 th, .int .i64 tc, .int .u16 toq, .int .u32 tot, .int .u16 top, .int .u8 tol, .int .u16 tuq, .int .u32 tut, .int .u16 tup, .int .u8 tul] 27)) (w3.heap.size) 27 #[.bool ton, .int .i64 th, .int .i64 tc, .int .u16 toq, .int .u32 tot, .int .u16 top, .int .u8 tol, .int .u16 tuq, .int .u32 tut, .int .u16 tup, .int .u8 tul] := by have := Whole.new w3 27 #[.bool ton, .int .i64 th, .int .i64 tc, .int .u16 toq, .int .u32 tot, .int .u16 top, .int .u8 tol, .int .u16 tuq, .int .u32 tut, .int .u16 tup, .int .u8 tul]; first | with_reducible exact this | simpa using this
        have Nn : Whole ((w3.alloc (.cells #[.bool ton, .int .i64 th, .int .i64 tc, .int .u16 toq, .int .u32 tot, .int .u16 top, .int .u8 tol, .int .u16 tuq, .int .u32 tut, .int .u16 tup, .int .u8 tul] 27)).alloc (.cells #[.int .u16 0, .int .u32 0, .int .u16 0, .int .u8 0] 25)) (w3.heap.size + 1) 25 #[.int .u16 0, .int .u32 0, .int .u16 0, .int .u8 0] := by have := Whole.new (w3.alloc (.cells #[.bool ton, .int .i64 th, .int .i64 tc, .int .u16 toq, .int .u32 tot, .int .u16 top, .int .u8 tol, .int .u16 tuq, .int .u32 tut, .int .u16 tup, .int .u8 tul] 27)) 25 #[.int .u16 0, .int .u32 0, .int .u16 0, .int .u8 0]; first | with_reducible exact this | simpa using this
        have Sf4 := (((Sf3.out.alloc (.cells #[.bool ton, .int .i64 th, .int .i64 tc, .int .u16 toq, .int .u32 tot, .int .u16 top, .int .u8 tol, .int .u16 tuq, .int .u32 tut, .int .u16 tup, .int .u8 tul] 27)).alloc (.cells #[.int .u16 0, .int .u32 0, .int .u16 0, .int .u8 0] 25))).below b4 (by have := (((Sf3.out.alloc (.cells #[.bool ton, .int .i64 th, .int .i64 tc, .int .u16 toq, .int .u32 tot, .int .u16 top, .int .u8 tol, .int .u16 tuq, .int .u32 tut, .int .u16 tup, .int .u8 tul] 27)).alloc (.cells #[.int .u16 0, .int .u32 0, .int .u16 0, .int .u8 0] 25))).lt; first | with_reducible exact this | simpa using this)
        have Ss4 := (((Ss3.out.alloc (.cells #[.bool ton, .int .i64 th, .int .i64 tc, .int .u16 toq, .int .u32 tot, .int .u16 top, .int .u8 tol, .int .u16 tuq, .int .u32 tut, .int .u16 tup, .int .u8 tul] 27)).alloc (.cells #[.int .u16 0, .int .u32 0, .int .u16 0, .int .u8 0] 25))).below b4 (by have := (((Ss3.out.alloc (.cells #[.bool ton, .int .i64 th, .int .i64 tc, .int .u16 toq, .int .u32 tot, .int .u16 top, .int .u8 tol, .int .u16 tuq, .int .u32 tut, .int .u16 tup, .int .u8 tul] 27)).alloc (.cells #[.int .u16 0, .int .u32 0, .int .u16 0, .int .u8 0] 25))).lt; first | with_reducible exact this | simpa using this)
        have Sg4 := (((Sg3.out.alloc (.cells #[.bool ton, .int .i64 th, .int .i64 tc, .int .u16 toq, .int .u32 tot, .int .u16 top, .int .u8 tol, .int .u16 tuq, .int .u32 tut, .int .u16 tup, .int .u8 tul] 27)).alloc (.cells #[.int .u16 0, .int .u32 0, .int .u16 0, .int .u8 0] 25))).below b4 (by have := (((Sg3.out.alloc (.cells #[.bool ton, .int .i64 th, .int .i64 tc, .int .u16 toq, .int .u32 tot, .int .u16 top, .int .u8 tol, .int .u16 tuq, .int .u32 tut, .int .u16 tup, .int .u8 tul] 27)).alloc (.cells #[.int .u16 0, .int .u32 0, .int .u16 0, .int .u8 0] 25))).lt; first | with_reducible exact this | simpa using this)
        have Sx4 := (((Sx3.out.alloc (.cells #[.bool ton, .int .i64 th, .int .i64 tc, .int .u16 toq, .int .u32 tot, .int .u16 top, .int .u8 tol, .int .u16 tuq, .int .u32 tut, .int .u16 tup, .int .u8 tul] 27)).alloc (.cells #[.int .u16 0, .int .u32 0, .int .u16 0, .int .u8 0] 25))).below b4 (by have := (((Sx3.out.alloc (.cells #[.bool ton, .int .i64 th, .int .i64 tc, .int .u16 toq, .int .u32 tot, .int .u16 top, .int .u8 tol, .int .u16 tuq, .int .u32 tut, .int .u16 tup, .int .u8 tul] 27)).alloc (.cells #[.int .u16 0, .int .u32 0, .int .u16 0, .int .u8 0] 25))).lt; first | with_reducible exact this | simpa using this)
        have St4 := ((Nt.alloc (.cells #[.int .u16 0, .int .u32 0, .int .u16 0, .int .u8 0] 25))).below b4 (by have := ((Nt.alloc (.cells #[.int .u16 0, .int .u32 0, .int .u16 0, .int .u8 0] 25))).lt; first | with_reducible exact this | simpa using this)
        have Sn4 := (Nn).below b4 (by have := (Nn).lt; first | with_reducible exact this | simpa using this)
        have HB4 := Lib.hid ((((HB3.out.alloc (HB3.out).size (.cells #[.bool ton, .int .i64 th, .int .i64 tc, .int .u16 toq, .int .u32 tot, .int .u16 top, .int .u8 tol, .int .u16 tuq, .int .u32 tut, .int .u16 tup, .int .u8 tul] 27)).alloc ((HB3.out.alloc (HB3.out).size (.cells #[.bool ton, .int .i64 th, .int .i64 tc, .int .u16 toq, .int .u32 tot, .int .u16 top, .int .u8 tol, .int .u16 tuq, .int .u32 tut, .int .u16 tup, .int .u8 tul] 27))).size (.cells #[.int .u16 0, .int .u32 0, .int .u16 0, .int .u8 0] 25))).trans (b4.mono (((HB3.out.alloc (HB3.out).size (.cells #[.bool ton, .int .i64 th, .int .i64 tc, .int .u16 toq, .int .u32 tot, .int .u16 top, .int .u8 tol, .int .u16 tuq, .int .u32 tut, .int .u16 tup, .int .u8 tul] 27)).alloc ((HB3.out.alloc (HB3.out).size (.cells #[.bool ton, .int .i64 th, .int .i64 tc, .int .u16 toq, .int .u32 tot, .int .u16 top, .int .u8 tol, .int .u16 tuq, .int .u32 tut, .int .u16 tup, .int .u8 tul] 27))).size (.cells #[.int .u16 0, .int .u32 0, .int .u16 0, .int .u8 0] 25))).size))
        have lf4 := Sf4.lt
        have ls4 := Ss4.lt
        have lg4 := Sg4.lt
        have lx4 := Sx4.lt
        have lt4 := St4.lt
        have ln4 := Sn4.lt
        clear b4 f3_0 f3_1 f3_2 f3_3 s3_0 fs3_0 s3_1 fs3_1 s3_2 fs3_2 s3_3 fs3_3 s3_4 fs3_4 s3_5 fs3_5 s3_6 fs3_6 s3_7 fs3_7 s3_8 fs3_8 s3_9 fs3_9 s3_10 fs3_10 g3_0 g3_1 g3_2 g3_3 x3_0 x3_1 x3_2 x3_3 Sf3 Ss3 Sg3 Sx3 Nt Nn HB3 LE
        have s4_0 := Ss4.cell 0
        have fs4_0 := Ss4.free 0
        have s4_1 := Ss4.cell 1
        have fs4_1 := Ss4.free 1
        have s4_2 := Ss4.cell 2
        have fs4_2 := Ss4.free 2
        have s4_3 := Ss4.cell 3
        have fs4_3 := Ss4.free 3
        have s4_4 := Ss4.cell 4
        have fs4_4 := Ss4.free 4
        have s4_5 := Ss4.cell 5
        have fs4_5 := Ss4.free 5
        have s4_6 := Ss4.cell 6
        have fs4_6 := Ss4.free 6
        have s4_7 := Ss4.cell 7
        have fs4_7 := Ss4.free 7
        have s4_8 := Ss4.cell 8
        have fs4_8 := Ss4.free 8
        have s4_9 := Ss4.cell 9
        have fs4_9 := Ss4.free 9
        have s4_10 := Ss4.cell 10
        have fs4_10 := Ss4.free 10
        have t4_0 := St4.cell 0
        have t4_1 := St4.cell 1
        have t4_2 := St4.cell 2
        have t4_3 := St4.cell 3
        have t4_4 := St4.cell 4
        have t4_5 := St4.cell 5
        have t4_6 := St4.cell 6
        have t4_7 := St4.cell 7
        have t4_8 := St4.cell 8
        have t4_9 := St4.cell 9
        have t4_10 := St4.cell 10
        replace Sf4 := Lib.hid Sf4
        replace Ss4 := Lib.hid Ss4
        replace Sg4 := Lib.hid Sg4
        replace Sx4 := Lib.hid Sx4
        replace St4 := Lib.hid St4
        replace Sn4 := Lib.hid Sn4
        go_wp2
        go_roundw
        case rel => exact ⟨k + 1, j + d, ⟨ton, th, tc, ⟨toq, tot, top, tol⟩, ⟨tuq, tut, tup, tul⟩⟩, by omega, by rw [HJ.out], by go_num, Lib.hid ((Whole.eleven_far (Sf4.out) (show w.heap.size ≠ gs from by omega) (.bool ton) (.int .i64 th) (.int .i64 tc) (.int .u16 toq) (.int .u32 tot) (.int .u16 top) (.int .u8 tol) (.int .u16 tuq) (.int .u32 tut) (.int .u16 tup) (.int .u8 tul))), Lib.hid ((Whole.eleven (Ss4.out) (.bool ton) (.int .i64 th) (.int .i64 tc) (.int .u16 toq) (.int .u32 tot) (.int .u16 top) (.int .u8 tol) (.int .u16 tuq) (.int .u32 tut) (.int .u16 tup) (.int .u8 tul))), Lib.hid ((Whole.eleven_far (Sg4.out) (show gg ≠ gs from by omega) (.bool ton) (.int .i64 th) (.int .i64 tc) (.int .u16 toq) (.int .u32 tot) (.int .u16 top) (.int .u8 tol) (.int .u16 tuq) (.int .u32 tut) (.int .u16 tup) (.int .u8 tul))), HP2, (eleven_set (HB4.out) (show w.heap.size ≤ gs from by omega) (.bool ton) (.int .i64 th) (.int .i64 tc) (.int .u16 toq) (.int .u32 tot) (.int .u16 top) (.int .u8 tol) (.int .u16 tuq) (.int .u32 tut) (.int .u16 tup) (.int .u8 tul))⟩
        case measure => simp [intOf]; omega
    · obtain rfl : k = n := by omega
      go_wp2
      go_ret
      exact ⟨rfl, HB.out⟩

set_option maxRecDepth 100000 in
theorem lifted (os : Os) (started : os.Started) (H : Type) (enc : TypeId × Value → H) :
    ReturnsInHanded {} Try.checked os 9 .any (Rows.mungeGapsSpec.pre6 enc Try.prog Try.f9 Rows.mungeGapsRow.domain false) (Rows.mungeGapsSpec.post enc Try.prog Try.f9 false true false false) := by
  refine returnsInHanded_of_change (C := Try.checked) own started (by kernel_rfl) Try.func9
    (ChangeSpec.witness6 (enc := enc) (C := Try.checked) false ⟨#[], #[.agg #[.int .u16 0, .int .u32 0, .int .u16 0, .int .u8 0], .slice none 0 0], []⟩ 8 (by kernel_rfl) (by kernel_rfl) (by kernel_rfl) (by kernel_rfl)) ?_
  intro W base args ds gs before hval0 hW _ _
  have hval : ∀ (j : Nat) t v, Try.f9.params[j]? = some t → args[j]? = some v → Value.okWide Try.prog W .any base t v := hval0
  have hW' := hW
  obtain ⟨p, q, hA0, hV, _, _, _⟩ := hW
  have hA : DataW.TrodAll enc Try.prog W 0 (fun _ => true) true Try.f9.params.toList args.toList ds p := hA0
  rw [Try.params9] at hA hval
  obtain ⟨v0, vs0, d0, ds0, p0, q0, hargs, rfl, _, h0, r0⟩ := trodAll_cons hA
  obtain ⟨v1, vs1, d1, ds1, p1, q1, rfl, rfl, _, h1, r1⟩ := trodAll_cons r0
  obtain ⟨rfl, rfl, _⟩ := trodAll_nil r1
  obtain rfl : args = #[v0, v1] := by cases args; simp_all
  obtain ⟨rfl, _⟩ := trodVars_none hV
  refine law_post (s := Rows.mungeGapsSpec) rfl rfl (by rw [Try.params9]; intro t ht; simp at ht; rcases ht with rfl | rfl <;> exact ⟨by kernel_rfl, of_decide_eq_true (by kernel_rfl)⟩) rfl hW' ?_
  obtain ⟨x0, rfl, hx0⟩ := open_mn (hval 0 25 v0 rfl rfl) h0
  obtain ⟨A1, c1, l1, rfl, hl1, hr1, hq1⟩ := open_i8s (hval 1 55 v1 rfl rfl) h1
  exact walk W x0 hx0 A1 c1 l1 hl1 hr1 hq1

theorem over : Rows.mungeGapsRow.holds Try.pinned (OpenSpec.ofChange Rows.mungeGapsSpec) :=
  OpenClaim.holds_of_wide 9 Try.f9 rfl rfl rfl rfl rfl rfl rfl ⟨rfl, rfl, rfl, rfl, rfl⟩ rfl rfl rfl rfl rfl (by kernel_rfl) Try.func9 (by kernel_rfl)
    (of_decide_eq_true (by kernel_rfl)) (by unfold Func.isWrapper; first | (rw [if_pos (by decide +kernel)]; kernel_rfl) | (rw [if_neg (by decide +kernel)]; exact ⟨rfl, rfl⟩))
    (fun os started H enc _ => lifted os started H enc)

/-- The statement. -/
theorem mungeGaps_holds : Rows.MungeGapsSaid := over

end Go.Proofs.Ytpemikncbolkbaa.UGaps
