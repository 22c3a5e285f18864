/-
  Proved: MungePlays returns true for every row of steps (of more than 200 there is nothing to show): whatever is done from the beginning on, the numbers are the document's, step by step. Conditions: none.
-/
import Derived.Test.YtpemikncbolkbaaMuD
import Derived.Test.YtpemikncbolkbaaMuO
import Derived.Test.YtpemikncbolkbaaMuP
import Derived.Test.YtpemikncbolkbaaMuX
import Derived.Test.YtpemikncbolkbaaMuV
import Derived.Test.YtpemikncbolkbaaMuW
import Derived.Test.YtpemikncbolkbaaInv
import Derived.Deep.CutBlock
import Derived.Deep.RegionHeld3
namespace Go.Proofs.Ytpemikncbolkbaa.UPlays
open Go.ChangeShapes Go.WideShapes Go.ChangeAt Go.RowKit
set_option linter.unusedSimpArgs false
set_option linter.unusedVariables false

set_option maxRecDepth 1000000 in
set_option maxHeartbeats 100000000 in
theorem walk (w : World) (A : Option Addr) (c : Nat) (l : List Mk) (hl : l.length ≤ maxLen) (hr : Row w w.heap.size 7 A l.length (rowC stepCs l)) (hq : ∀ a ∈ l, a.Fit) :
    Calls Try.prog 4 #[.slice A l.length c] w fun e w' => e = .returned (.bool true) ∧ Below w.heap.size w w' := by
  unfold maxLen at hl
  obtain ⟨n, hn⟩ : ∃ n, l.length = n := ⟨_, rfl⟩
  rw [hn] at hl hr ⊢
  have CA := Lib.hid (fun w => awake_any w)
  have HR := Lib.hid hr
  have HN := Lib.hid hn
  have HQ := Lib.hid hq
  clear hr hn hq
  go_enter Try.func4, Try.ntmps4
  go_wp2_with fail
  refine (CA.out _).mono ?_
  rintro e w1 ⟨rfl, b1⟩
  by_cases h1 : 200 < n
  · go_wp2
    go_ret
    exact ⟨rfl, b1⟩
  have HW := Lib.hid ((Whole.new w1 27 #[.bool false, .int .i64 0, .int .i64 0, .int .u16 0, .int .u32 0, .int .u16 0, .int .u8 0, .int .u16 0, .int .u32 0, .int .u16 0, .int .u8 0]).alloc (.cells #[.bool false, .int .i64 0, .int .i64 0, .int .i64 0, .int .i64 0, .int .i64 0, .int .i64 0, .int .i64 0, .int .i64 0, .int .i64 0, .int .i64 0] 36))
  have HV := Lib.hid (Whole.new2 w1 (.cells #[.bool false, .int .i64 0, .int .i64 0, .int .u16 0, .int .u32 0, .int .u16 0, .int .u8 0, .int .u16 0, .int .u32 0, .int .u16 0, .int .u8 0] 27) 36 #[.bool false, .int .i64 0, .int .i64 0, .int .i64 0, .int .i64 0, .int .i64 0, .int .i64 0, .int .i64 0, .int .i64 0, .int .i64 0, .int .i64 0])
  have HB := Lib.hid ((b1.alloc b1.size (.cells #[.bool false, .int .i64 0, .int .i64 0, .int .u16 0, .int .u32 0, .int .u16 0, .int .u8 0, .int .u16 0, .int .u32 0, .int .u16 0, .int .u8 0] 27)).alloc (b1.alloc b1.size (.cells #[.bool false, .int .i64 0, .int .i64 0, .int .u16 0, .int .u32 0, .int .u16 0, .int .u8 0, .int .u16 0, .int .u32 0, .int .u16 0, .int .u8 0] 27)).size (.cells #[.bool false, .int .i64 0, .int .i64 0, .int .i64 0, .int .i64 0, .int .i64 0, .int .i64 0, .int .i64 0, .int .i64 0, .int .i64 0, .int .i64 0] 36))
  have hg := b1.size
  clear b1 CA
  go_wp2_with fail
  obtain ⟨gs, hgs⟩ : ∃ g, g = w1.heap.size := ⟨_, rfl⟩
  obtain ⟨gr, hgr⟩ : ∃ g, g = w1.heap.size + 1 := ⟨_, rfl⟩
  rw [← hgr, ← hgs]
  rw [← hgs] at HW hg
  rw [← hgr] at HV
  have hne : gs ≠ gr := by omega
  have hgr2 : w.heap.size ≤ gr := by omega
  clear hgr
  go_loopw [6] (fun i wr => ∃ (k : Nat) (s : Mst), k ≤ n ∧ i = .int .i64 (k : Int) ∧ Hid (Whole wr gs 27 s.cells) ∧ Hid (Whole wr gr 36 s.plain) ∧ Hid (s.Fit (65536 + 32768 * k)) ∧ Below w.heap.size w wr) (fun i _ => n - (intOf i).toNat)
  case atStart => exact ⟨0, Mst.zero, Nat.zero_le _, rfl, HW, HV, Lib.hid ⟨by decide, Mn.zero_fit, Mn.zero_fit⟩, HB.out⟩
  case round =>
    clear HW HV HB hgs
    obtain ⟨k, s, hk, rfl, HW, HV, HF, hb⟩ := hrel
    obtain ⟨wq, rfl⟩ : ∃ wq : World, wq = wr := ⟨_, rfl⟩
    have HB := Lib.hid hb
    have hsz := hb.size
    have hgl := HW.out.lt
    have hgr1 := HV.out.lt
    clear hb
    by_cases hlt : k < n
    · obtain ⟨x, hx⟩ : ∃ x, l[k]? = some x := ⟨l[k]'(by rw [HN.out]; exact hlt), by simp⟩
      obtain ⟨g, o, rfl, hg0, hat⟩ := row_at stepCs_length HR.out (by omega)
      have hat := hat _ HB.out k x
      have r0 := hat 0 _ hx rfl
      have r1 := hat 1 _ hx rfl
      have r2 := hat 2 _ hx rfl
      have r3 := hat 3 _ hx rfl
      have r4 := hat 4 _ hx rfl
      have r5 := hat 5 _ hx rfl
      have r6 := hat 6 _ hx rfl
      have hxf := HQ.out x (List.mem_of_getElem? hx)
      clear hat hx
      have hgo : g < wq.heap.size := by omega
      have hi1 : (0 : Int) ≤ (k : Int) := by omega
      have hi2 : (k : Int) < (n : Int) := by omega
      obtain ⟨ki, ⟨xq, xt, xp, xl⟩, kt, kb⟩ := x
      obtain ⟨hxf, hkt⟩ := hxf
      dsimp only at hxf hkt r0 r1 r2 r3 r4 r5 r6
      rw [Nat.add_zero] at r0
      have CW := fun w => mswitch_any s ⟨xq, xt, xp, xl⟩ kt (HF.out.parts (by omega)) hxf hkt w
      have CD := fun w => mdrop_any s ⟨xq, xt, xp, xl⟩ kb (by have := HF.out; exact ⟨by have := this.high; omega, this.off, this.out⟩) hxf w
      have CE := fun w => msend_any s ⟨xq, xt, xp, xl⟩ (by have := HF.out; exact ⟨by have := this.high; omega, this.off, this.out⟩) hxf w
      have hsf : s.Fit 1000000000000000 := by have := HF.out; exact ⟨by have := this.high; omega, this.off, this.out⟩
      have RW : ∀ w, Calls Try.prog 12 #[.agg s.plain, .agg (Mn.plain ⟨xq, xt, xp, xl⟩), .int .i64 (IntKind.i64.wrap kt)] w fun e w' => e = .returned (.tuple #[.agg (s.switchS ⟨xq, xt, xp, xl⟩ kt).plain, .agg (s.begins ⟨xq, xt, xp, xl⟩ kt).plain]) ∧ Below w.heap.size w w' := by
        have e : IntKind.i64.wrap kt = kt := by simp only [IntKind.wrap, IntKind.bits, IntKind.signed]; simp; omega
        rw [e]
        exact fun w => refSwitch_any s ⟨xq, xt, xp, xl⟩ kt hsf hxf hkt w
      have RD := fun w => refDrop_any s ⟨xq, xt, xp, xl⟩ kb hsf hxf w
      have RE := fun w => refSend_any s ⟨xq, xt, xp, xl⟩ hsf hxf w
      have O2 := fun w => nums_any ⟨xq, xt, xp, xl⟩ hxf w
      have VM := fun w => nums_any (s.begins ⟨xq, xt, xp, xl⟩ kt) (Mst.begins_fit hxf kt) w
      have VQ := fun w => nums_any (s.told ⟨xq, xt, xp, xl⟩) (Mst.told_fit hsf _) w
      have GW : (s.switchS ⟨xq, xt, xp, xl⟩ kt).Fit (65536 + 32768 * ((k + 1 : Nat) : Int)) := Mst.switch_fit hxf kt (by omega)
      have GD : (s.dropS ⟨xq, xt, xp, xl⟩ kb).Fit (65536 + 32768 * ((k + 1 : Nat) : Int)) := by have := Mst.drop_fit HF.out ⟨xq, xt, xp, xl⟩ kb; rwa [show (65536 + 32768 * (k : Int)) + 32768 = 65536 + 32768 * ((k + 1 : Nat) : Int) by omega] at this
      have GE : (s.sendS ⟨xq, xt, xp, xl⟩).Fit (65536 + 32768 * ((k + 1 : Nat) : Int)) := by have := Mst.send_fit HF.out ⟨xq, xt, xp, xl⟩; rwa [show (65536 + 32768 * (k : Int)) + 32768 = 65536 + 32768 * ((k + 1 : Nat) : Int) by omega] at this
      have OW := fun w => mof_any (s.switchS ⟨xq, xt, xp, xl⟩ kt) GW.off GW.out w
      have OX := fun w => mof_any (s.dropS ⟨xq, xt, xp, xl⟩ kb) GD.off GD.out w
      have OE := fun w => mof_any (s.sendS ⟨xq, xt, xp, xl⟩) GE.off GE.out w
      clear hsf
      have OD := drop_out (s := s) (x := ⟨xq, xt, xp, xl⟩) (b := kb)
      obtain ⟨m, hm⟩ : ∃ m, s.begins ⟨xq, xt, xp, xl⟩ kt = m := ⟨_, rfl⟩
      have hu : s.switchS ⟨xq, xt, xp, xl⟩ kt = ⟨true, xq, xq, Mn.less ⟨xq, xt, xp, xl⟩ m, m⟩ := by unfold Mst.switchS; rw [hm]
      obtain ⟨f, hf⟩ : ∃ f, Mn.less ⟨xq, xt, xp, xl⟩ m = f := ⟨_, rfl⟩
      rw [hf] at hu
      rw [hu, hm] at CW RW
      rw [hm] at VM
      rw [hu] at OW
      rw [hu] at GW
      clear hm hf hu
      obtain ⟨d, hd⟩ : ∃ d, s.dropS ⟨xq, xt, xp, xl⟩ kb = d := ⟨_, rfl⟩
      rw [hd] at CD RD GD OX
      clear OD
      clear hd
      obtain ⟨t, ht⟩ : ∃ t, s.sendS ⟨xq, xt, xp, xl⟩ = t := ⟨_, rfl⟩
      obtain ⟨q, hq⟩ : ∃ q, s.told ⟨xq, xt, xp, xl⟩ = q := ⟨_, rfl⟩
      obtain ⟨b, hb⟩ : ∃ b, s.tells ⟨xq, xt, xp, xl⟩ = b := ⟨_, rfl⟩
      rw [ht, hq, hb] at CE RE
      rw [hq] at VQ
      rw [ht] at OE
      rw [ht] at GE
      clear ht hq hb hxf
      have EM := fun w => neq_numsp w m
      have EQ := fun w => neq_numsp w q
      have EU := fun w => neq_mstp w ⟨true, xq, xq, f, m⟩
      have ED := fun w => neq_mstp w d
      have ET := fun w => neq_mstp w t
      obtain ⟨son, sh, sc, ⟨soq, sot, sop, sol⟩, ⟨suq, sut, sup, sul⟩⟩ := s
      obtain ⟨mq, mt, mp, ml⟩ := m
      obtain ⟨fq, ft, fp, fl⟩ := f
      obtain ⟨don, dh, dc, ⟨doq, dot, dop, dol⟩, ⟨duq, dut, dup, dul⟩⟩ := d
      obtain ⟨ton, th, tc, ⟨toq, tot, top, tol⟩, ⟨tuq, tut, tup, tul⟩⟩ := t
      obtain ⟨qq, qt, qp, ql⟩ := q
      dsimp only [Mst.cells, Mn.cells, Mst.plain, Mn.plain] at *
      replace CW := Lib.hid CW
      replace CD := Lib.hid CD
      replace CE := Lib.hid CE
      replace RW := Lib.hid RW
      replace RD := Lib.hid RD
      replace RE := Lib.hid RE
      replace O2 := Lib.hid O2
      replace VM := Lib.hid VM
      replace VQ := Lib.hid VQ
      replace OW := Lib.hid OW
      replace OX := Lib.hid OX
      replace OE := Lib.hid OE
      replace GW := Lib.hid GW
      replace GD := Lib.hid GD
      replace GE := Lib.hid GE
      replace EM := Lib.hid EM
      replace EQ := Lib.hid EQ
      replace EU := Lib.hid EU
      replace ED := Lib.hid ED
      replace ET := Lib.hid ET
      have k0 := HW.out.cell 0
      have k1 := HW.out.cell 1
      have k2 := HW.out.cell 2
      have k3 := HW.out.cell 3
      have k4 := HW.out.cell 4
      have k5 := HW.out.cell 5
      have k6 := HW.out.cell 6
      have k7 := HW.out.cell 7
      have k8 := HW.out.cell 8
      have k9 := HW.out.cell 9
      have k10 := HW.out.cell 10
      have f0 := HW.out.free 0
      have f1 := HW.out.free 1
      have f2 := HW.out.free 2
      have f3 := HW.out.free 3
      have f4 := HW.out.free 4
      have f5 := HW.out.free 5
      have f6 := HW.out.free 6
      have f7 := HW.out.free 7
      have f8 := HW.out.free 8
      have f9 := HW.out.free 9
      have f10 := HW.out.free 10
      have hgl1 : gs < wq.heap.size + 1 := by omega
      have hgl2 : gs < wq.heap.size + 1 + 1 := by omega
      have hgl3 : gs < wq.heap.size + 1 + 1 + 1 := by omega
      have hgm1 : gr < wq.heap.size + 1 := by omega
      have hgm2 : gr < wq.heap.size + 1 + 1 := by omega
      have hgm3 : gr < wq.heap.size + 1 + 1 + 1 := by omega
      by_cases h0 : ki = 0
      · subst h0
        clear CD CE RD RE VQ OX OE GD GE EQ ED ET
        go_wp2_with fail
        refine (CW.out _).mono ?_
        rintro e w2 ⟨rfl, b2⟩
        have Nx : Whole (wq.alloc (.cells #[.int .i64 0, .int .u16 xq, .int .u32 xt, .int .u16 xp, .int .u8 xl, .int .u32 kt, .bool kb] 29)) (wq.heap.size) 29 #[.int .i64 0, .int .u16 xq, .int .u32 xt, .int .u16 xp, .int .u8 xl, .int .u32 kt, .bool kb] := by have := Whole.new wq 29 #[.int .i64 0, .int .u16 xq, .int .u32 xt, .int .u16 xp, .int .u8 xl, .int .u32 kt, .bool kb]; first | with_reducible exact this | simpa using this
        have Ss2 := ((HW.out.alloc (.cells #[.int .i64 0, .int .u16 xq, .int .u32 xt, .int .u16 xp, .int .u8 xl, .int .u32 kt, .bool kb] 29))).below b2 (by have := ((HW.out.alloc (.cells #[.int .i64 0, .int .u16 xq, .int .u32 xt, .int .u16 xp, .int .u8 xl, .int .u32 kt, .bool kb] 29))).lt; first | with_reducible exact this | simpa using this)
        have Sr2 := ((HV.out.alloc (.cells #[.int .i64 0, .int .u16 xq, .int .u32 xt, .int .u16 xp, .int .u8 xl, .int .u32 kt, .bool kb] 29))).below b2 (by have := ((HV.out.alloc (.cells #[.int .i64 0, .int .u16 xq, .int .u32 xt, .int .u16 xp, .int .u8 xl, .int .u32 kt, .bool kb] 29))).lt; first | with_reducible exact this | simpa using this)
        have Sx2 := (Nx).below b2 (by have := (Nx).lt; first | with_reducible exact this | simpa using this)
        have HB2 := Lib.hid (((HB.out.alloc (HB.out).size (.cells #[.int .i64 0, .int .u16 xq, .int .u32 xt, .int .u16 xp, .int .u8 xl, .int .u32 kt, .bool kb] 29))).trans (b2.mono ((HB.out.alloc (HB.out).size (.cells #[.int .i64 0, .int .u16 xq, .int .u32 xt, .int .u16 xp, .int .u8 xl, .int .u32 kt, .bool kb] 29))).size))
        have ls2 := Ss2.lt
        have lr2 := Sr2.lt
        have lx2 := Sx2.lt
        clear b2 k0 f0 k1 f1 k2 f2 k3 f3 k4 f4 k5 f5 k6 f6 k7 f7 k8 f8 k9 f9 k10 f10 HW HV Nx HB CW hgo r0 r1 r2 r3 r4 r5 r6
        have s2_0 := Ss2.cell 0
        have fs2_0 := Ss2.free 0
        have s2_1 := Ss2.cell 1
        have fs2_1 := Ss2.free 1
        have s2_2 := Ss2.cell 2
        have fs2_2 := Ss2.free 2
        have s2_3 := Ss2.cell 3
        have fs2_3 := Ss2.free 3
        have s2_4 := Ss2.cell 4
        have fs2_4 := Ss2.free 4
        have s2_5 := Ss2.cell 5
        have fs2_5 := Ss2.free 5
        have s2_6 := Ss2.cell 6
        have fs2_6 := Ss2.free 6
        have s2_7 := Ss2.cell 7
        have fs2_7 := Ss2.free 7
        have s2_8 := Ss2.cell 8
        have fs2_8 := Ss2.free 8
        have s2_9 := Ss2.cell 9
        have fs2_9 := Ss2.free 9
        have s2_10 := Ss2.cell 10
        have fs2_10 := Ss2.free 10
        have x2_0 := Sx2.cell 0
        have x2_1 := Sx2.cell 1
        have x2_2 := Sx2.cell 2
        have x2_3 := Sx2.cell 3
        have x2_4 := Sx2.cell 4
        have x2_5 := Sx2.cell 5
        have x2_6 := Sx2.cell 6
        have r2_0 := Sr2.cell 0
        have fr2_0 := Sr2.free 0
        have r2_1 := Sr2.cell 1
        have fr2_1 := Sr2.free 1
        have r2_2 := Sr2.cell 2
        have fr2_2 := Sr2.free 2
        have r2_3 := Sr2.cell 3
        have fr2_3 := Sr2.free 3
        have r2_4 := Sr2.cell 4
        have fr2_4 := Sr2.free 4
        have r2_5 := Sr2.cell 5
        have fr2_5 := Sr2.free 5
        have r2_6 := Sr2.cell 6
        have fr2_6 := Sr2.free 6
        have r2_7 := Sr2.cell 7
        have fr2_7 := Sr2.free 7
        have r2_8 := Sr2.cell 8
        have fr2_8 := Sr2.free 8
        have r2_9 := Sr2.cell 9
        have fr2_9 := Sr2.free 9
        have r2_10 := Sr2.cell 10
        have fr2_10 := Sr2.free 10
        replace Ss2 := Lib.hid Ss2
        replace Sr2 := Lib.hid Sr2
        replace Sx2 := Lib.hid Sx2
        go_upto_region 21 with fail
        obtain ⟨wo, hwo⟩ : ∃ wo, wo = ((w2.alloc (.cells #[.bool true, .int .i64 xq, .int .i64 xq, .int .u16 fq, .int .u32 ft, .int .u16 fp, .int .u8 fl, .int .u16 mq, .int .u32 mt, .int .u16 mp, .int .u8 ml] 27)).alloc (.cells #[.int .u16 mq, .int .u32 mt, .int .u16 mp, .int .u8 ml] 25)) := ⟨_, rfl⟩
        have Nt : Whole (w2.alloc (.cells #[.bool true, .int .i64 xq, .int .i64 xq, .int .u16 fq, .int .u32 ft, .int .u16 fp, .int .u8 fl, .int .u16 mq, .int .u32 mt, .int .u16 mp, .int .u8 ml] 27)) (w2.heap.size) 27 #[.bool true, .int .i64 xq, .int .i64 xq, .int .u16 fq, .int .u32 ft, .int .u16 fp, .int .u8 fl, .int .u16 mq, .int .u32 mt, .int .u16 mp, .int .u8 ml] := by have := Whole.new w2 27 #[.bool true, .int .i64 xq, .int .i64 xq, .int .u16 fq, .int .u32 ft, .int .u16 fp, .int .u8 fl, .int .u16 mq, .int .u32 mt, .int .u16 mp, .int .u8 ml]; first | with_reducible exact this | simpa using this
        have Nn : Whole ((w2.alloc (.cells #[.bool true, .int .i64 xq, .int .i64 xq, .int .u16 fq, .int .u32 ft, .int .u16 fp, .int .u8 fl, .int .u16 mq, .int .u32 mt, .int .u16 mp, .int .u8 ml] 27)).alloc (.cells #[.int .u16 mq, .int .u32 mt, .int .u16 mp, .int .u8 ml] 25)) (w2.heap.size + 1) 25 #[.int .u16 mq, .int .u32 mt, .int .u16 mp, .int .u8 ml] := by have := Whole.new (w2.alloc (.cells #[.bool true, .int .i64 xq, .int .i64 xq, .int .u16 fq, .int .u32 ft, .int .u16 fp, .int .u8 fl, .int .u16 mq, .int .u32 mt, .int .u16 mp, .int .u8 ml] 27)) 25 #[.int .u16 mq, .int .u32 mt, .int .u16 mp, .int .u8 ml]; first | with_reducible exact this | simpa using this
        have Ps := ((Ss2.out.alloc (.cells #[.bool true, .int .i64 xq, .int .i64 xq, .int .u16 fq, .int .u32 ft, .int .u16 fp, .int .u8 fl, .int .u16 mq, .int .u32 mt, .int .u16 mp, .int .u8 ml] 27)).alloc (.cells #[.int .u16 mq, .int .u32 mt, .int .u16 mp, .int .u8 ml] 25))
        have Pr := ((Sr2.out.alloc (.cells #[.bool true, .int .i64 xq, .int .i64 xq, .int .u16 fq, .int .u32 ft, .int .u16 fp, .int .u8 fl, .int .u16 mq, .int .u32 mt, .int .u16 mp, .int .u8 ml] 27)).alloc (.cells #[.int .u16 mq, .int .u32 mt, .int .u16 mp, .int .u8 ml] 25))
        have Px := ((Sx2.out.alloc (.cells #[.bool true, .int .i64 xq, .int .i64 xq, .int .u16 fq, .int .u32 ft, .int .u16 fp, .int .u8 fl, .int .u16 mq, .int .u32 mt, .int .u16 mp, .int .u8 ml] 27)).alloc (.cells #[.int .u16 mq, .int .u32 mt, .int .u16 mp, .int .u8 ml] 25))
        have Pt := (Nt.alloc (.cells #[.int .u16 mq, .int .u32 mt, .int .u16 mp, .int .u8 ml] 25))
        have Pn := Nn
        have PB := ((HB2.out.alloc (HB2.out).size (.cells #[.bool true, .int .i64 xq, .int .i64 xq, .int .u16 fq, .int .u32 ft, .int .u16 fp, .int .u8 fl, .int .u16 mq, .int .u32 mt, .int .u16 mp, .int .u8 ml] 27)).alloc ((HB2.out.alloc (HB2.out).size (.cells #[.bool true, .int .i64 xq, .int .i64 xq, .int .u16 fq, .int .u32 ft, .int .u16 fp, .int .u8 fl, .int .u16 mq, .int .u32 mt, .int .u16 mp, .int .u8 ml] 27))).size (.cells #[.int .u16 mq, .int .u32 mt, .int .u16 mp, .int .u8 ml] 25))
        rw [← hwo] at Ps Pr Px Pt Pn PB ⊢
        clear hwo
        clear s2_0 fs2_0 s2_1 fs2_1 s2_2 fs2_2 s2_3 fs2_3 s2_4 fs2_4 s2_5 fs2_5 s2_6 fs2_6 s2_7 fs2_7 s2_8 fs2_8 s2_9 fs2_9 s2_10 fs2_10 x2_0 x2_1 x2_2 x2_3 x2_4 x2_5 x2_6 r2_0 fr2_0 r2_1 fr2_1 r2_2 fr2_2 r2_3 fr2_3 r2_4 fr2_4 r2_5 fr2_5 r2_6 fr2_6 r2_7 fr2_7 r2_8 fr2_8 r2_9 fr2_9 r2_10 fr2_10 Ss2 Sr2 Sx2 Nt Nn HB2
        have ps5 := Ps.lt
        have pr5 := Pr.lt
        have px5 := Px.lt
        have pt5 := Pt.lt
        have pn5 := Pn.lt
        replace Ps := Lib.hid Ps
        replace Pr := Lib.hid Pr
        replace Px := Lib.hid Px
        replace Pt := Lib.hid Pt
        replace Pn := Lib.hid Pn
        replace PB := Lib.hid PB
        have K6 := Lib.hid (fun w' (b' : Below wo.heap.size wo w') => show (fun w' => w'.cell? ⟨gr, 0, none⟩ = some (.bool son) ∧ w'.cell? ⟨gr, 1, none⟩ = some (.int .i64 sh) ∧ w'.cell? ⟨gr, 2, none⟩ = some (.int .i64 sc) ∧ w'.cell? ⟨gr, 3, none⟩ = some (.int .i64 soq) ∧ w'.cell? ⟨gr, 4, none⟩ = some (.int .i64 sot) ∧ w'.cell? ⟨gr, 5, none⟩ = some (.int .i64 sop) ∧ w'.cell? ⟨gr, 6, none⟩ = some (.int .i64 sol) ∧ w'.cell? ⟨gr, 7, none⟩ = some (.int .i64 suq) ∧ w'.cell? ⟨gr, 8, none⟩ = some (.int .i64 sut) ∧ w'.cell? ⟨gr, 9, none⟩ = some (.int .i64 sup) ∧ w'.cell? ⟨gr, 10, none⟩ = some (.int .i64 sul) ∧ w'.cell? ⟨wq.heap.size, 0, none⟩ = some (.int .i64 0) ∧ w'.cell? ⟨wq.heap.size, 1, none⟩ = some (.int .u16 xq) ∧ w'.cell? ⟨wq.heap.size, 2, none⟩ = some (.int .u32 xt) ∧ w'.cell? ⟨wq.heap.size, 3, none⟩ = some (.int .u16 xp) ∧ w'.cell? ⟨wq.heap.size, 4, none⟩ = some (.int .u8 xl) ∧ w'.cell? ⟨wq.heap.size, 5, none⟩ = some (.int .u32 kt) ∧ w'.cell? ⟨wq.heap.size, 6, none⟩ = some (.bool kb)) w' from ⟨(Pr.out.below b' Pr.out.lt).cell 0, (Pr.out.below b' Pr.out.lt).cell 1, (Pr.out.below b' Pr.out.lt).cell 2, (Pr.out.below b' Pr.out.lt).cell 3, (Pr.out.below b' Pr.out.lt).cell 4, (Pr.out.below b' Pr.out.lt).cell 5, (Pr.out.below b' Pr.out.lt).cell 6, (Pr.out.below b' Pr.out.lt).cell 7, (Pr.out.below b' Pr.out.lt).cell 8, (Pr.out.below b' Pr.out.lt).cell 9, (Pr.out.below b' Pr.out.lt).cell 10, (Px.out.below b' Px.out.lt).cell 0, (Px.out.below b' Px.out.lt).cell 1, (Px.out.below b' Px.out.lt).cell 2, (Px.out.below b' Px.out.lt).cell 3, (Px.out.below b' Px.out.lt).cell 4, (Px.out.below b' Px.out.lt).cell 5, (Px.out.below b' Px.out.lt).cell 6⟩)
        go_cut [10, 11] (fun p1 p2 wx => ∃ g1 g2 : Nat, p1 = .pointer (some ⟨g1, 0, none⟩) ∧ p2 = .pointer (some ⟨g2, 0, none⟩) ∧ wo.heap.size ≤ g1 ∧ wo.heap.size ≤ g2 ∧ g1 ≠ g2 ∧ Whole wx g1 36 #[.bool true, .int .i64 xq, .int .i64 xq, .int .i64 fq, .int .i64 ft, .int .i64 fp, .int .i64 fl, .int .i64 mq, .int .i64 mt, .int .i64 mp, .int .i64 ml] ∧ Whole wx g2 34 #[.int .i64 mq, .int .i64 mt, .int .i64 mp, .int .i64 ml] ∧ Below wo.heap.size wo wx)
        case first =>
          refine wp_region_X (S := fun w' => w'.cell? ⟨gr, 0, none⟩ = some (.bool son) ∧ w'.cell? ⟨gr, 1, none⟩ = some (.int .i64 sh) ∧ w'.cell? ⟨gr, 2, none⟩ = some (.int .i64 sc) ∧ w'.cell? ⟨gr, 3, none⟩ = some (.int .i64 soq) ∧ w'.cell? ⟨gr, 4, none⟩ = some (.int .i64 sot) ∧ w'.cell? ⟨gr, 5, none⟩ = some (.int .i64 sop) ∧ w'.cell? ⟨gr, 6, none⟩ = some (.int .i64 sol) ∧ w'.cell? ⟨gr, 7, none⟩ = some (.int .i64 suq) ∧ w'.cell? ⟨gr, 8, none⟩ = some (.int .i64 sut) ∧ w'.cell? ⟨gr, 9, none⟩ = some (.int .i64 sup) ∧ w'.cell? ⟨gr, 10, none⟩ = some (.int .i64 sul) ∧ w'.cell? ⟨wq.heap.size, 0, none⟩ = some (.int .i64 0) ∧ w'.cell? ⟨wq.heap.size, 1, none⟩ = some (.int .u16 xq) ∧ w'.cell? ⟨wq.heap.size, 2, none⟩ = some (.int .u32 xt) ∧ w'.cell? ⟨wq.heap.size, 3, none⟩ = some (.int .u16 xp) ∧ w'.cell? ⟨wq.heap.size, 4, none⟩ = some (.int .u8 xl) ∧ w'.cell? ⟨wq.heap.size, 5, none⟩ = some (.int .u32 kt) ∧ w'.cell? ⟨wq.heap.size, 6, none⟩ = some (.bool kb)) [] (by kernel_rfl) (K6.out _ (Below.refl _ _).drew) (fun hHeld0 => ?_)
          refine wpAnyX_take (i := 0) [] (v := ?_) rfl (by kernel_rfl) (by kernel_rfl) (by kernel_rfl) (by kernel_rfl) (fun _ _ _ h => h) (Or.inl ⟨by kernel_rfl, ?_⟩) (by assumption) ?_
          rotate_left 1
          · (intro w hSw; obtain ⟨m0, m1, m2, m3, m4, m5, m6, m7, m8, m9, m10, m11, m12, m13, m14, m15, m16, m17⟩ := hSw; go_simp; try (with_reducible rfl))
          (try simp only [Act.put, List.getElem_toArray, List.getElem_cons_succ, List.getElem_cons_zero, List.setIfInBounds_toArray, List.set_cons_zero, List.set_cons_succ])
          refine wpAnyX_take (i := 1) [] (v := ?_) rfl (by kernel_rfl) (by kernel_rfl) (by kernel_rfl) (by kernel_rfl) (fun _ _ _ h => h) (Or.inl ⟨by kernel_rfl, ?_⟩) (by assumption) ?_
          rotate_left 1
          · (intro w hSw; obtain ⟨m0, m1, m2, m3, m4, m5, m6, m7, m8, m9, m10, m11, m12, m13, m14, m15, m16, m17⟩ := hSw; go_simp; try (with_reducible rfl))
          (try simp only [Act.put, List.getElem_toArray, List.getElem_cons_succ, List.getElem_cons_zero, List.setIfInBounds_toArray, List.set_cons_zero, List.set_cons_succ])
          refine wpAnyX_take (i := 2) [] (v := ?_) rfl (by kernel_rfl) (by kernel_rfl) (by kernel_rfl) (by kernel_rfl) (fun _ _ _ h => h) (Or.inl ⟨by kernel_rfl, ?_⟩) (by assumption) ?_
          rotate_left 1
          · (intro w hSw; obtain ⟨m0, m1, m2, m3, m4, m5, m6, m7, m8, m9, m10, m11, m12, m13, m14, m15, m16, m17⟩ := hSw; go_simp; try (with_reducible rfl))
          (try simp only [Act.put, List.getElem_toArray, List.getElem_cons_succ, List.getElem_cons_zero, List.setIfInBounds_toArray, List.set_cons_zero, List.set_cons_succ])
          refine wpAnyX_take (i := 4) [] (v := ?_) rfl (by kernel_rfl) (by kernel_rfl) (by kernel_rfl) (by kernel_rfl) (fun _ _ _ h => h) (Or.inl ⟨by kernel_rfl, ?_⟩) (by assumption) ?_
          rotate_left 1
          · (intro w hSw; obtain ⟨m0, m1, m2, m3, m4, m5, m6, m7, m8, m9, m10, m11, m12, m13, m14, m15, m16, m17⟩ := hSw; go_simp; try (with_reducible rfl))
          (try simp only [Act.put, List.getElem_toArray, List.getElem_cons_succ, List.getElem_cons_zero, List.setIfInBounds_toArray, List.set_cons_zero, List.set_cons_succ])
          refine wpAnyX_take (i := 5) [] (v := ?_) rfl (by kernel_rfl) (by kernel_rfl) (by kernel_rfl) (by kernel_rfl) (fun _ _ _ h => h) (Or.inl ⟨by kernel_rfl, ?_⟩) (by assumption) ?_
          rotate_left 1
          · (intro w hSw; obtain ⟨m0, m1, m2, m3, m4, m5, m6, m7, m8, m9, m10, m11, m12, m13, m14, m15, m16, m17⟩ := hSw; go_simp; try (with_reducible rfl))
          (try simp only [Act.put, List.getElem_toArray, List.getElem_cons_succ, List.getElem_cons_zero, List.setIfInBounds_toArray, List.set_cons_zero, List.set_cons_succ])
          refine wpAnyX_take (i := 6) [] (v := ?_) rfl (by kernel_rfl) (by kernel_rfl) (by kernel_rfl) (by kernel_rfl) (fun _ _ _ h => h) (Or.inl ⟨by kernel_rfl, ?_⟩) (by assumption) ?_
          rotate_left 1
          · (intro w hSw; obtain ⟨m0, m1, m2, m3, m4, m5, m6, m7, m8, m9, m10, m11, m12, m13, m14, m15, m16, m17⟩ := hSw; go_simp; try (with_reducible rfl))
          (try simp only [Act.put, List.getElem_toArray, List.getElem_cons_succ, List.getElem_cons_zero, List.setIfInBounds_toArray, List.set_cons_zero, List.set_cons_succ])
          refine wpAnyX_named (fun a0 ha0 => ?_)
          refine wpAnyX_inv (fun l a w' => l.size = 15 ∧ (l.getD 0 false = true ∧ l.getD 1 false = true ∧ l.getD 2 false = true ∧ l.getD 4 false = true ∧ l.getD 5 false = true ∧ l.getD 6 false = true) ∧ Below wo.heap.size wo w' ∧ ∃ t3 t7 t8 t9 t10 t11 t12 : Value, a = (((((((a0.put (some 80) t3).put (some 84) t7).put (some 76) t8).put (some 85) t9).put (some 86) t10).put (some 10) t11).put (some 11) t12) ∧ (l.getD 3 false = true → t3 = (.agg #[.int .i64 xq, .int .i64 xt, .int .i64 xp, .int .i64 xl])) ∧ (l.getD 7 false = true → t7 = (.tuple #[(.agg #[.bool true, .int .i64 xq, .int .i64 xq, .int .i64 fq, .int .i64 ft, .int .i64 fp, .int .i64 fl, .int .i64 mq, .int .i64 mt, .int .i64 mp, .int .i64 ml]), (.agg #[.int .i64 mq, .int .i64 mt, .int .i64 mp, .int .i64 ml])])) ∧ (l.getD 8 false = true → t8 = (.tuple #[(.agg #[.bool true, .int .i64 xq, .int .i64 xq, .int .i64 fq, .int .i64 ft, .int .i64 fp, .int .i64 fl, .int .i64 mq, .int .i64 mt, .int .i64 mp, .int .i64 ml]), (.agg #[.int .i64 mq, .int .i64 mt, .int .i64 mp, .int .i64 ml])])) ∧ (l.getD 9 false = true → t9 = (.agg #[.bool true, .int .i64 xq, .int .i64 xq, .int .i64 fq, .int .i64 ft, .int .i64 fp, .int .i64 fl, .int .i64 mq, .int .i64 mt, .int .i64 mp, .int .i64 ml])) ∧ (l.getD 10 false = true → t10 = (.agg #[.int .i64 mq, .int .i64 mt, .int .i64 mp, .int .i64 ml])) ∧ (l.getD 11 false = true → ∃ g, t11 = .pointer (some ⟨g, 0, none⟩) ∧ wo.heap.size ≤ g ∧ g < w'.heap.size ∧ (l.getD 13 false = false → Whole w' g 36 #[.bool false, .int .i64 0, .int .i64 0, .int .i64 0, .int .i64 0, .int .i64 0, .int .i64 0, .int .i64 0, .int .i64 0, .int .i64 0, .int .i64 0]) ∧ (l.getD 13 false = true → Whole w' g 36 #[.bool true, .int .i64 xq, .int .i64 xq, .int .i64 fq, .int .i64 ft, .int .i64 fp, .int .i64 fl, .int .i64 mq, .int .i64 mt, .int .i64 mp, .int .i64 ml])) ∧ (l.getD 13 false = true → l.getD 11 false = true) ∧ (l.getD 12 false = true → ∃ g, t12 = .pointer (some ⟨g, 0, none⟩) ∧ wo.heap.size ≤ g ∧ g < w'.heap.size ∧ (l.getD 14 false = false → Whole w' g 34 #[.int .i64 0, .int .i64 0, .int .i64 0, .int .i64 0]) ∧ (l.getD 14 false = true → Whole w' g 34 #[.int .i64 mq, .int .i64 mt, .int .i64 mp, .int .i64 ml])) ∧ (l.getD 14 false = true → l.getD 12 false = true) ∧ (l.getD 11 false = true → l.getD 12 false = true → ∀ g g', t11 = .pointer (some ⟨g, 0, none⟩) → t12 = .pointer (some ⟨g', 0, none⟩) → g ≠ g')) (fun l a w hI => K6.out _ hI.2.2.1) ?_ ?_ _ _ _ _ (by decide) ?_
          · intro l a w hI i hi
            obtain ⟨hsz, ⟨k0, k1, k2, k4, k5, k6⟩, hB, t3, t7, t8, t9, t10, t11, t12, rfl, c3, c7, c8, c9, c10, c11, s11, c12, s12, n11_12⟩ := hI
            obtain ⟨hun, hin, hd⟩ := ready_split (n := 15) rfl hi
            clear hi
            rw [show List.range 15 = [0, 1, 2, 3, 4, 5, 6, 7, 8, 9, 10, 11, 12, 13, 14] from rfl] at hin
            simp only [List.mem_cons, List.not_mem_nil, or_false] at hin
            rcases hin with rfl | rfl | rfl | rfl | rfl | rfl | rfl | rfl | rfl | rfl | rfl | rfl | rfl | rfl | rfl
            · exact absurd (was_listed hun k0) id
            · exact absurd (was_listed hun k1) id
            · exact absurd (was_listed hun k2) id
            · have hd := waits_as (L := [2]) (by kernel_rfl) hd
              simp only [List.all_cons, List.all_nil, Bool.and_true, Bool.and_eq_true] at hd
              have e0 := hd
              refine inv_op rfl (fun K hK => ?_)
              subst ha0
              (try simp only [Act.put, List.getElem_toArray, List.getElem_cons_succ, List.getElem_cons_zero, List.setIfInBounds_toArray, List.set_cons_zero, List.set_cons_succ])
              go_simp
              go_wp2_with (refine (O2.out _).mono ?_; rintro e v ⟨rfl, b1⟩)
              refine hK.out _ _ ?_
              exact ⟨by simp [hsz], ⟨listed_new k0, listed_new k1, listed_new k2, listed_new k4, listed_new k5, listed_new k6⟩, (hB.trans (b1.mono hB.size)), (.agg #[.int .i64 xq, .int .i64 xt, .int .i64 xp, .int .i64 xl]), t7, t8, t9, t10, t11, t12, by kernel_rfl, fun _ => rfl, fun h => c7 (listed_old h (by decide)), fun h => c8 (listed_old h (by decide)), fun h => c9 (listed_old h (by decide)), fun h => c10 (listed_old h (by decide)), fun h => by obtain ⟨g, hg, h1, h2, h3, h4⟩ := c11 (listed_old h (by decide)); exact ⟨g, hg, h1, Nat.lt_of_lt_of_le h2 b1.size, fun h => (h3 (listed_same h (by decide))).below b1 (h3 (listed_same h (by decide))).lt, fun h => (h4 (listed_same h (by decide))).below b1 (h4 (listed_same h (by decide))).lt⟩, fun h => listed_new (s11 (listed_old h (by decide))), fun h => by obtain ⟨g, hg, h1, h2, h3, h4⟩ := c12 (listed_old h (by decide)); exact ⟨g, hg, h1, Nat.lt_of_lt_of_le h2 b1.size, fun h => (h3 (listed_same h (by decide))).below b1 (h3 (listed_same h (by decide))).lt, fun h => (h4 (listed_same h (by decide))).below b1 (h4 (listed_same h (by decide))).lt⟩, fun h => listed_new (s12 (listed_old h (by decide))), fun h h' => n11_12 (listed_old h (by decide)) (listed_old h' (by decide))⟩
            · exact absurd (was_listed hun k4) id
            · exact absurd (was_listed hun k5) id
            · exact absurd (was_listed hun k6) id
            · have hd := waits_as (L := [0, 3, 6, 3]) (by kernel_rfl) hd
              simp only [List.all_cons, List.all_nil, Bool.and_true, Bool.and_eq_true] at hd
              obtain ⟨e0, e1, e2, e3⟩ := hd
              obtain rfl := c3 e1
              refine inv_op rfl (fun K hK => ?_)
              subst ha0
              (try simp only [Act.put, List.getElem_toArray, List.getElem_cons_succ, List.getElem_cons_zero, List.setIfInBounds_toArray, List.set_cons_zero, List.set_cons_succ])
              go_simp
              go_wp2_with (refine (RW.out _).mono ?_; rintro e v ⟨rfl, b1⟩)
              refine hK.out _ _ ?_
              exact ⟨by simp [hsz], ⟨listed_new k0, listed_new k1, listed_new k2, listed_new k4, listed_new k5, listed_new k6⟩, (hB.trans (b1.mono hB.size)), (.agg #[.int .i64 xq, .int .i64 xt, .int .i64 xp, .int .i64 xl]), (.tuple #[(.agg #[.bool true, .int .i64 xq, .int .i64 xq, .int .i64 fq, .int .i64 ft, .int .i64 fp, .int .i64 fl, .int .i64 mq, .int .i64 mt, .int .i64 mp, .int .i64 ml]), (.agg #[.int .i64 mq, .int .i64 mt, .int .i64 mp, .int .i64 ml])]), t8, t9, t10, t11, t12, by kernel_rfl, fun _ => rfl, fun _ => rfl, fun h => c8 (listed_old h (by decide)), fun h => c9 (listed_old h (by decide)), fun h => c10 (listed_old h (by decide)), fun h => by obtain ⟨g, hg, h1, h2, h3, h4⟩ := c11 (listed_old h (by decide)); exact ⟨g, hg, h1, Nat.lt_of_lt_of_le h2 b1.size, fun h => (h3 (listed_same h (by decide))).below b1 (h3 (listed_same h (by decide))).lt, fun h => (h4 (listed_same h (by decide))).below b1 (h4 (listed_same h (by decide))).lt⟩, fun h => listed_new (s11 (listed_old h (by decide))), fun h => by obtain ⟨g, hg, h1, h2, h3, h4⟩ := c12 (listed_old h (by decide)); exact ⟨g, hg, h1, Nat.lt_of_lt_of_le h2 b1.size, fun h => (h3 (listed_same h (by decide))).below b1 (h3 (listed_same h (by decide))).lt, fun h => (h4 (listed_same h (by decide))).below b1 (h4 (listed_same h (by decide))).lt⟩, fun h => listed_new (s12 (listed_old h (by decide))), fun h h' => n11_12 (listed_old h (by decide)) (listed_old h' (by decide))⟩
            · have hd := waits_as (L := [7]) (by kernel_rfl) hd
              simp only [List.all_cons, List.all_nil, Bool.and_true, Bool.and_eq_true] at hd
              have e0 := hd
              obtain rfl := c7 e0
              refine inv_op rfl (fun K hK => ?_)
              subst ha0
              (try simp only [Act.put, List.getElem_toArray, List.getElem_cons_succ, List.getElem_cons_zero, List.setIfInBounds_toArray, List.set_cons_zero, List.set_cons_succ])
              go_simp
              refine hK.out _ _ ?_
              exact ⟨by simp [hsz], ⟨listed_new k0, listed_new k1, listed_new k2, listed_new k4, listed_new k5, listed_new k6⟩, hB, t3, (.tuple #[(.agg #[.bool true, .int .i64 xq, .int .i64 xq, .int .i64 fq, .int .i64 ft, .int .i64 fp, .int .i64 fl, .int .i64 mq, .int .i64 mt, .int .i64 mp, .int .i64 ml]), (.agg #[.int .i64 mq, .int .i64 mt, .int .i64 mp, .int .i64 ml])]), (.tuple #[(.agg #[.bool true, .int .i64 xq, .int .i64 xq, .int .i64 fq, .int .i64 ft, .int .i64 fp, .int .i64 fl, .int .i64 mq, .int .i64 mt, .int .i64 mp, .int .i64 ml]), (.agg #[.int .i64 mq, .int .i64 mt, .int .i64 mp, .int .i64 ml])]), t9, t10, t11, t12, by kernel_rfl, fun h => c3 (listed_old h (by decide)), fun _ => rfl, fun _ => rfl, fun h => c9 (listed_old h (by decide)), fun h => c10 (listed_old h (by decide)), fun h => by obtain ⟨g, hg, h1, h2, h3, h4⟩ := c11 (listed_old h (by decide)); exact ⟨g, hg, h1, h2, fun h => h3 (listed_same h (by decide)), fun h => h4 (listed_same h (by decide))⟩, fun h => listed_new (s11 (listed_old h (by decide))), fun h => by obtain ⟨g, hg, h1, h2, h3, h4⟩ := c12 (listed_old h (by decide)); exact ⟨g, hg, h1, h2, fun h => h3 (listed_same h (by decide)), fun h => h4 (listed_same h (by decide))⟩, fun h => listed_new (s12 (listed_old h (by decide))), fun h h' => n11_12 (listed_old h (by decide)) (listed_old h' (by decide))⟩
            · have hd := waits_as (L := [8]) (by kernel_rfl) hd
              simp only [List.all_cons, List.all_nil, Bool.and_true, Bool.and_eq_true] at hd
              have e0 := hd
              obtain rfl := c8 e0
              refine inv_op rfl (fun K hK => ?_)
              subst ha0
              (try simp only [Act.put, List.getElem_toArray, List.getElem_cons_succ, List.getElem_cons_zero, List.setIfInBounds_toArray, List.set_cons_zero, List.set_cons_succ])
              go_simp
              refine hK.out _ _ ?_
              exact ⟨by simp [hsz], ⟨listed_new k0, listed_new k1, listed_new k2, listed_new k4, listed_new k5, listed_new k6⟩, hB, t3, t7, (.tuple #[(.agg #[.bool true, .int .i64 xq, .int .i64 xq, .int .i64 fq, .int .i64 ft, .int .i64 fp, .int .i64 fl, .int .i64 mq, .int .i64 mt, .int .i64 mp, .int .i64 ml]), (.agg #[.int .i64 mq, .int .i64 mt, .int .i64 mp, .int .i64 ml])]), (.agg #[.bool true, .int .i64 xq, .int .i64 xq, .int .i64 fq, .int .i64 ft, .int .i64 fp, .int .i64 fl, .int .i64 mq, .int .i64 mt, .int .i64 mp, .int .i64 ml]), t10, t11, t12, by kernel_rfl, fun h => c3 (listed_old h (by decide)), fun h => c7 (listed_old h (by decide)), fun _ => rfl, fun _ => rfl, fun h => c10 (listed_old h (by decide)), fun h => by obtain ⟨g, hg, h1, h2, h3, h4⟩ := c11 (listed_old h (by decide)); exact ⟨g, hg, h1, h2, fun h => h3 (listed_same h (by decide)), fun h => h4 (listed_same h (by decide))⟩, fun h => listed_new (s11 (listed_old h (by decide))), fun h => by obtain ⟨g, hg, h1, h2, h3, h4⟩ := c12 (listed_old h (by decide)); exact ⟨g, hg, h1, h2, fun h => h3 (listed_same h (by decide)), fun h => h4 (listed_same h (by decide))⟩, fun h => listed_new (s12 (listed_old h (by decide))), fun h h' => n11_12 (listed_old h (by decide)) (listed_old h' (by decide))⟩
            · have hd := waits_as (L := [8]) (by kernel_rfl) hd
              simp only [List.all_cons, List.all_nil, Bool.and_true, Bool.and_eq_true] at hd
              have e0 := hd
              obtain rfl := c8 e0
              refine inv_op rfl (fun K hK => ?_)
              subst ha0
              (try simp only [Act.put, List.getElem_toArray, List.getElem_cons_succ, List.getElem_cons_zero, List.setIfInBounds_toArray, List.set_cons_zero, List.set_cons_succ])
              go_simp
              refine hK.out _ _ ?_
              exact ⟨by simp [hsz], ⟨listed_new k0, listed_new k1, listed_new k2, listed_new k4, listed_new k5, listed_new k6⟩, hB, t3, t7, (.tuple #[(.agg #[.bool true, .int .i64 xq, .int .i64 xq, .int .i64 fq, .int .i64 ft, .int .i64 fp, .int .i64 fl, .int .i64 mq, .int .i64 mt, .int .i64 mp, .int .i64 ml]), (.agg #[.int .i64 mq, .int .i64 mt, .int .i64 mp, .int .i64 ml])]), t9, (.agg #[.int .i64 mq, .int .i64 mt, .int .i64 mp, .int .i64 ml]), t11, t12, by kernel_rfl, fun h => c3 (listed_old h (by decide)), fun h => c7 (listed_old h (by decide)), fun _ => rfl, fun h => c9 (listed_old h (by decide)), fun _ => rfl, fun h => by obtain ⟨g, hg, h1, h2, h3, h4⟩ := c11 (listed_old h (by decide)); exact ⟨g, hg, h1, h2, fun h => h3 (listed_same h (by decide)), fun h => h4 (listed_same h (by decide))⟩, fun h => listed_new (s11 (listed_old h (by decide))), fun h => by obtain ⟨g, hg, h1, h2, h3, h4⟩ := c12 (listed_old h (by decide)); exact ⟨g, hg, h1, h2, fun h => h3 (listed_same h (by decide)), fun h => h4 (listed_same h (by decide))⟩, fun h => listed_new (s12 (listed_old h (by decide))), fun h h' => n11_12 (listed_old h (by decide)) (listed_old h' (by decide))⟩
            · have hd := waits_as (L := []) (by kernel_rfl) hd
              simp only [List.all_cons, List.all_nil, Bool.and_true, Bool.and_eq_true] at hd
              refine inv_op rfl (fun K hK => ?_)
              subst ha0
              (try simp only [Act.put, List.getElem_toArray, List.getElem_cons_succ, List.getElem_cons_zero, List.setIfInBounds_toArray, List.set_cons_zero, List.set_cons_succ])
              go_simp
              refine hK.out _ _ ?_
              exact ⟨by simp [hsz], ⟨listed_new k0, listed_new k1, listed_new k2, listed_new k4, listed_new k5, listed_new k6⟩, (hB.alloc hB.size (.cells #[.bool false, .int .i64 0, .int .i64 0, .int .i64 0, .int .i64 0, .int .i64 0, .int .i64 0, .int .i64 0, .int .i64 0, .int .i64 0, .int .i64 0] 36)), t3, t7, t8, t9, t10, (.pointer (some ⟨w.heap.size, 0, none⟩)), t12, by kernel_rfl, fun h => c3 (listed_old h (by decide)), fun h => c7 (listed_old h (by decide)), fun h => c8 (listed_old h (by decide)), fun h => c9 (listed_old h (by decide)), fun h => c10 (listed_old h (by decide)), fun _ => ⟨_, rfl, hB.size, by simp, fun _ => Whole.new _ _ _, fun h => absurd (was_listed hun (s11 (listed_old h (by decide)))) id⟩, fun h => listed_new (s11 (listed_old h (by decide))), fun h => by obtain ⟨g, hg, h1, h2, h3, h4⟩ := c12 (listed_old h (by decide)); exact ⟨g, hg, h1, (by have := h2; simp; omega), fun h => (h3 (listed_same h (by decide))).alloc _, fun h => (h4 (listed_same h (by decide))).alloc _⟩, fun h => listed_new (s12 (listed_old h (by decide))), fun _ h g g' hg hg' => by obtain ⟨q1, q2, _, q3, _⟩ := c12 (listed_old h (by decide)); rw [hg'] at q2; cases q2; cases hg; omega⟩
            · have hd := waits_as (L := []) (by kernel_rfl) hd
              simp only [List.all_cons, List.all_nil, Bool.and_true, Bool.and_eq_true] at hd
              refine inv_op rfl (fun K hK => ?_)
              subst ha0
              (try simp only [Act.put, List.getElem_toArray, List.getElem_cons_succ, List.getElem_cons_zero, List.setIfInBounds_toArray, List.set_cons_zero, List.set_cons_succ])
              go_simp
              refine hK.out _ _ ?_
              exact ⟨by simp [hsz], ⟨listed_new k0, listed_new k1, listed_new k2, listed_new k4, listed_new k5, listed_new k6⟩, (hB.alloc hB.size (.cells #[.int .i64 0, .int .i64 0, .int .i64 0, .int .i64 0] 34)), t3, t7, t8, t9, t10, t11, (.pointer (some ⟨w.heap.size, 0, none⟩)), by kernel_rfl, fun h => c3 (listed_old h (by decide)), fun h => c7 (listed_old h (by decide)), fun h => c8 (listed_old h (by decide)), fun h => c9 (listed_old h (by decide)), fun h => c10 (listed_old h (by decide)), fun h => by obtain ⟨g, hg, h1, h2, h3, h4⟩ := c11 (listed_old h (by decide)); exact ⟨g, hg, h1, (by have := h2; simp; omega), fun h => (h3 (listed_same h (by decide))).alloc _, fun h => (h4 (listed_same h (by decide))).alloc _⟩, fun h => listed_new (s11 (listed_old h (by decide))), fun _ => ⟨_, rfl, hB.size, by simp, fun _ => Whole.new _ _ _, fun h => absurd (was_listed hun (s12 (listed_old h (by decide)))) id⟩, fun h => listed_new (s12 (listed_old h (by decide))), fun h _ g g' hg hg' => by obtain ⟨q1, q2, _, q3, _⟩ := c11 (listed_old h (by decide)); rw [hg] at q2; cases q2; cases hg'; omega⟩
            · have hd := waits_as (L := [11, 9, 7, 0, 1, 2, 3, 4, 5, 6, 7, 8, 9, 11, 12]) (by kernel_rfl) hd
              simp only [List.all_cons, List.all_nil, Bool.and_true, Bool.and_eq_true] at hd
              obtain ⟨e0, e1, e2, e3, e4, e5, e6, e7, e8, e9, e10, e11, e12, e13, e14⟩ := hd
              obtain ⟨g11, rfl, lo11, lt11, z11, y11⟩ := c11 e0
              obtain rfl := c9 e1
              obtain rfl := c7 e2
              obtain rfl := c3 e6
              obtain rfl := c8 e11
              obtain ⟨g12, rfl, lo12, lt12, z12, y12⟩ := c12 e14
              refine inv_op rfl (fun K hK => ?_)
              subst ha0
              (try simp only [Act.put, List.getElem_toArray, List.getElem_cons_succ, List.getElem_cons_zero, List.setIfInBounds_toArray, List.set_cons_zero, List.set_cons_succ])
              have q := z11 (unlisted_false hun)
              have zz0 := q.cell 0
              have zz1 := q.cell 1
              have zz2 := q.cell 2
              have zz3 := q.cell 3
              have zz4 := q.cell 4
              have zz5 := q.cell 5
              have zz6 := q.cell 6
              have zz7 := q.cell 7
              have zz8 := q.cell 8
              have zz9 := q.cell 9
              have zz10 := q.cell 10
              have yy0 := q.free 0
              have yy1 := q.free 1
              have yy2 := q.free 2
              have yy3 := q.free 3
              have yy4 := q.free 4
              have yy5 := q.free 5
              have yy6 := q.free 6
              have yy7 := q.free 7
              have yy8 := q.free 8
              have yy9 := q.free 9
              have yy10 := q.free 10
              go_simp
              refine hK.out _ _ ?_
              exact ⟨by simp [hsz], ⟨listed_new k0, listed_new k1, listed_new k2, listed_new k4, listed_new k5, listed_new k6⟩, (eleven_set hB lo11 (.bool true) (.int .i64 xq) (.int .i64 xq) (.int .i64 fq) (.int .i64 ft) (.int .i64 fp) (.int .i64 fl) (.int .i64 mq) (.int .i64 mt) (.int .i64 mp) (.int .i64 ml)), (.agg #[.int .i64 xq, .int .i64 xt, .int .i64 xp, .int .i64 xl]), (.tuple #[(.agg #[.bool true, .int .i64 xq, .int .i64 xq, .int .i64 fq, .int .i64 ft, .int .i64 fp, .int .i64 fl, .int .i64 mq, .int .i64 mt, .int .i64 mp, .int .i64 ml]), (.agg #[.int .i64 mq, .int .i64 mt, .int .i64 mp, .int .i64 ml])]), (.tuple #[(.agg #[.bool true, .int .i64 xq, .int .i64 xq, .int .i64 fq, .int .i64 ft, .int .i64 fp, .int .i64 fl, .int .i64 mq, .int .i64 mt, .int .i64 mp, .int .i64 ml]), (.agg #[.int .i64 mq, .int .i64 mt, .int .i64 mp, .int .i64 ml])]), (.agg #[.bool true, .int .i64 xq, .int .i64 xq, .int .i64 fq, .int .i64 ft, .int .i64 fp, .int .i64 fl, .int .i64 mq, .int .i64 mt, .int .i64 mp, .int .i64 ml]), t10, (.pointer (some ⟨g11, 0, none⟩)), (.pointer (some ⟨g12, 0, none⟩)), by kernel_rfl, fun _ => rfl, fun _ => rfl, fun _ => rfl, fun _ => rfl, fun h => c10 (listed_old h (by decide)), fun _ => ⟨g11, rfl, lo11, (by simpa using lt11), fun h => absurd ((listed_now hun).symm.trans h) (by decide), fun _ => (Whole.eleven q (.bool true) (.int .i64 xq) (.int .i64 xq) (.int .i64 fq) (.int .i64 ft) (.int .i64 fp) (.int .i64 fl) (.int .i64 mq) (.int .i64 mt) (.int .i64 mp) (.int .i64 ml))⟩, fun _ => listed_new e0, fun _ => ⟨g12, rfl, lo12, (by simpa using lt12), fun h => Whole.eleven_far (z12 (listed_same h (by decide))) ((Ne.symm (n11_12 e0 e14 _ _ rfl rfl))) (.bool true) (.int .i64 xq) (.int .i64 xq) (.int .i64 fq) (.int .i64 ft) (.int .i64 fp) (.int .i64 fl) (.int .i64 mq) (.int .i64 mt) (.int .i64 mp) (.int .i64 ml), fun h => Whole.eleven_far (y12 (listed_same h (by decide))) ((Ne.symm (n11_12 e0 e14 _ _ rfl rfl))) (.bool true) (.int .i64 xq) (.int .i64 xq) (.int .i64 fq) (.int .i64 ft) (.int .i64 fp) (.int .i64 fl) (.int .i64 mq) (.int .i64 mt) (.int .i64 mp) (.int .i64 ml)⟩, fun h => listed_new (s12 (listed_old h (by decide))), fun h h' => n11_12 (listed_old h (by decide)) (listed_old h' (by decide))⟩
            · have hd := waits_as (L := [12, 10, 13, 0, 1, 2, 3, 4, 5, 6, 7, 8, 9, 10, 11, 12, 13]) (by kernel_rfl) hd
              simp only [List.all_cons, List.all_nil, Bool.and_true, Bool.and_eq_true] at hd
              obtain ⟨e0, e1, e2, e3, e4, e5, e6, e7, e8, e9, e10, e11, e12, e13, e14, e15, e16⟩ := hd
              obtain ⟨g12, rfl, lo12, lt12, z12, y12⟩ := c12 e0
              obtain rfl := c10 e1
              obtain rfl := c3 e6
              obtain rfl := c7 e10
              obtain rfl := c8 e11
              obtain rfl := c9 e12
              obtain ⟨g11, rfl, lo11, lt11, z11, y11⟩ := c11 e14
              refine inv_op rfl (fun K hK => ?_)
              subst ha0
              (try simp only [Act.put, List.getElem_toArray, List.getElem_cons_succ, List.getElem_cons_zero, List.setIfInBounds_toArray, List.set_cons_zero, List.set_cons_succ])
              have q := z12 (unlisted_false hun)
              have zz0 := q.cell 0
              have zz1 := q.cell 1
              have zz2 := q.cell 2
              have zz3 := q.cell 3
              have yy0 := q.free 0
              have yy1 := q.free 1
              have yy2 := q.free 2
              have yy3 := q.free 3
              go_simp
              refine hK.out _ _ ?_
              exact ⟨by simp [hsz], ⟨listed_new k0, listed_new k1, listed_new k2, listed_new k4, listed_new k5, listed_new k6⟩, (four_set hB lo12 (.int .i64 mq) (.int .i64 mt) (.int .i64 mp) (.int .i64 ml)), (.agg #[.int .i64 xq, .int .i64 xt, .int .i64 xp, .int .i64 xl]), (.tuple #[(.agg #[.bool true, .int .i64 xq, .int .i64 xq, .int .i64 fq, .int .i64 ft, .int .i64 fp, .int .i64 fl, .int .i64 mq, .int .i64 mt, .int .i64 mp, .int .i64 ml]), (.agg #[.int .i64 mq, .int .i64 mt, .int .i64 mp, .int .i64 ml])]), (.tuple #[(.agg #[.bool true, .int .i64 xq, .int .i64 xq, .int .i64 fq, .int .i64 ft, .int .i64 fp, .int .i64 fl, .int .i64 mq, .int .i64 mt, .int .i64 mp, .int .i64 ml]), (.agg #[.int .i64 mq, .int .i64 mt, .int .i64 mp, .int .i64 ml])]), (.agg #[.bool true, .int .i64 xq, .int .i64 xq, .int .i64 fq, .int .i64 ft, .int .i64 fp, .int .i64 fl, .int .i64 mq, .int .i64 mt, .int .i64 mp, .int .i64 ml]), (.agg #[.int .i64 mq, .int .i64 mt, .int .i64 mp, .int .i64 ml]), (.pointer (some ⟨g11, 0, none⟩)), (.pointer (some ⟨g12, 0, none⟩)), by kernel_rfl, fun _ => rfl, fun _ => rfl, fun _ => rfl, fun _ => rfl, fun _ => rfl, fun _ => ⟨g11, rfl, lo11, (by simpa using lt11), fun h => Whole.four_far (z11 (listed_same h (by decide))) ((n11_12 e14 e0 _ _ rfl rfl)) (.int .i64 mq) (.int .i64 mt) (.int .i64 mp) (.int .i64 ml), fun h => Whole.four_far (y11 (listed_same h (by decide))) ((n11_12 e14 e0 _ _ rfl rfl)) (.int .i64 mq) (.int .i64 mt) (.int .i64 mp) (.int .i64 ml)⟩, fun h => listed_new (s11 (listed_old h (by decide))), fun _ => ⟨g12, rfl, lo12, (by simpa using lt12), fun h => absurd ((listed_now hun).symm.trans h) (by decide), fun _ => (Whole.four q (.int .i64 mq) (.int .i64 mt) (.int .i64 mp) (.int .i64 ml))⟩, fun _ => listed_new e0, fun h h' => n11_12 (listed_old h (by decide)) (listed_old h' (by decide))⟩
          · intro l a w hI hr
            obtain ⟨hsz, ⟨k0, k1, k2, k4, k5, k6⟩, hB, t3, t7, t8, t9, t10, t11, t12, rfl, c3, c7, c8, c9, c10, c11, s11, c12, s12, n11_12⟩ := hI
            have k3 := done_listed (i := 3) (n := 15) hsz (by decide) rfl hr (by rw [show waitsFor _ _ 3 = [2] from by kernel_rfl]; simp only [List.all_cons, List.all_nil, Bool.and_true, Bool.and_eq_true]; exact k2)
            have k7 := done_listed (i := 7) (n := 15) hsz (by decide) rfl hr (by rw [show waitsFor _ _ 7 = [0, 3, 6, 3] from by kernel_rfl]; simp only [List.all_cons, List.all_nil, Bool.and_true, Bool.and_eq_true]; exact ⟨k0, k3, k6, k3⟩)
            have k8 := done_listed (i := 8) (n := 15) hsz (by decide) rfl hr (by rw [show waitsFor _ _ 8 = [7] from by kernel_rfl]; simp only [List.all_cons, List.all_nil, Bool.and_true, Bool.and_eq_true]; exact k7)
            have k9 := done_listed (i := 9) (n := 15) hsz (by decide) rfl hr (by rw [show waitsFor _ _ 9 = [8] from by kernel_rfl]; simp only [List.all_cons, List.all_nil, Bool.and_true, Bool.and_eq_true]; exact k8)
            have k10 := done_listed (i := 10) (n := 15) hsz (by decide) rfl hr (by rw [show waitsFor _ _ 10 = [8] from by kernel_rfl]; simp only [List.all_cons, List.all_nil, Bool.and_true, Bool.and_eq_true]; exact k8)
            have k11 := done_listed (i := 11) (n := 15) hsz (by decide) rfl hr (by rw [show waitsFor _ _ 11 = [] from by kernel_rfl]; rfl)
            have k12 := done_listed (i := 12) (n := 15) hsz (by decide) rfl hr (by rw [show waitsFor _ _ 12 = [] from by kernel_rfl]; rfl)
            have k13 := done_listed (i := 13) (n := 15) hsz (by decide) rfl hr (by rw [show waitsFor _ _ 13 = [11, 9, 7, 0, 1, 2, 3, 4, 5, 6, 7, 8, 9, 11, 12] from by kernel_rfl]; simp only [List.all_cons, List.all_nil, Bool.and_true, Bool.and_eq_true]; exact ⟨k11, k9, k7, k0, k1, k2, k3, k4, k5, k6, k7, k8, k9, k11, k12⟩)
            have k14 := done_listed (i := 14) (n := 15) hsz (by decide) rfl hr (by rw [show waitsFor _ _ 14 = [12, 10, 13, 0, 1, 2, 3, 4, 5, 6, 7, 8, 9, 10, 11, 12, 13] from by kernel_rfl]; simp only [List.all_cons, List.all_nil, Bool.and_true, Bool.and_eq_true]; exact ⟨k12, k10, k13, k0, k1, k2, k3, k4, k5, k6, k7, k8, k9, k10, k11, k12, k13⟩)
            obtain rfl := c3 k3
            obtain rfl := c7 k7
            obtain rfl := c8 k8
            obtain rfl := c9 k9
            obtain rfl := c10 k10
            obtain ⟨gv, rfl, lov, _, _, Wv⟩ := c11 k11
            replace Wv := Wv k13
            obtain ⟨gq, rfl, loq, _, _, Wq⟩ := c12 k12
            replace Wq := Wq k14
            have nevq := n11_12 k11 k12 _ _ rfl rfl
            clear hr k0 k1 k2 k3 k4 k5 k6 k7 k8 k9 k10 k11 k12 k13 k14 s11 s12 n11_12 c3 c7 c8 c9 c10 c11 c12
            subst ha0
            (try simp only [Act.put, List.getElem_toArray, List.getElem_cons_succ, List.getElem_cons_zero, List.setIfInBounds_toArray, List.set_cons_zero, List.set_cons_succ])
            go_wp2_with fail
            go_meet
            exact ⟨_, _, rfl, rfl, lov, loq, nevq, Wv, Wq, hB⟩
          · refine ⟨rfl, ⟨rfl, rfl, rfl, rfl, rfl, rfl⟩, (Below.refl _ _).drew, a0.tmps.getD 80 undef, a0.tmps.getD 84 undef, a0.tmps.getD 76 undef, a0.tmps.getD 85 undef, a0.tmps.getD 86 undef, a0.tmps.getD 10 undef, a0.tmps.getD 11 undef, ?_, fun h => absurd h (by decide), fun h => absurd h (by decide), fun h => absurd h (by decide), fun h => absurd h (by decide), fun h => absurd h (by decide), fun h => absurd h (by decide), fun h => absurd h (by decide), fun h => absurd h (by decide), fun h => absurd h (by decide), fun h => absurd h (by decide)⟩
            subst ha0
            kernel_rfl
        case rest =>
          obtain ⟨g1_5, g2_5, rfl, rfl, lov5, loq5, nevq, Tv, Tq, bq⟩ := hcut
          obtain ⟨wc5, rfl⟩ : ∃ wd : World, wd = wc := ⟨_, rfl⟩
          have Ssc5 := (Ps.out).below bq Ps.out.lt
          have Src5 := (Pr.out).below bq Pr.out.lt
          have Sxc5 := (Px.out).below bq Px.out.lt
          have Stc5 := (Pt.out).below bq Pt.out.lt
          have Snc5 := (Pn.out).below bq Pn.out.lt
          have Svc5 := Tv
          have Sqc5 := Tq
          have HBc5 := Lib.hid (PB.out.trans (bq.mono PB.out.size))
          clear K6 bq Ps Pr Px Pt Pn Tv Tq PB
          have lsc5 := Ssc5.lt
          have lrc5 := Src5.lt
          have lxc5 := Sxc5.lt
          have ltc5 := Stc5.lt
          have lnc5 := Snc5.lt
          have lvc5 := Svc5.lt
          have lqc5 := Sqc5.lt
          have sc5_0 := Ssc5.cell 0
          have fsc5_0 := Ssc5.free 0
          have sc5_1 := Ssc5.cell 1
          have fsc5_1 := Ssc5.free 1
          have sc5_2 := Ssc5.cell 2
          have fsc5_2 := Ssc5.free 2
          have sc5_3 := Ssc5.cell 3
          have fsc5_3 := Ssc5.free 3
          have sc5_4 := Ssc5.cell 4
          have fsc5_4 := Ssc5.free 4
          have sc5_5 := Ssc5.cell 5
          have fsc5_5 := Ssc5.free 5
          have sc5_6 := Ssc5.cell 6
          have fsc5_6 := Ssc5.free 6
          have sc5_7 := Ssc5.cell 7
          have fsc5_7 := Ssc5.free 7
          have sc5_8 := Ssc5.cell 8
          have fsc5_8 := Ssc5.free 8
          have sc5_9 := Ssc5.cell 9
          have fsc5_9 := Ssc5.free 9
          have sc5_10 := Ssc5.cell 10
          have fsc5_10 := Ssc5.free 10
          have rc5_0 := Src5.cell 0
          have frc5_0 := Src5.free 0
          have rc5_1 := Src5.cell 1
          have frc5_1 := Src5.free 1
          have rc5_2 := Src5.cell 2
          have frc5_2 := Src5.free 2
          have rc5_3 := Src5.cell 3
          have frc5_3 := Src5.free 3
          have rc5_4 := Src5.cell 4
          have frc5_4 := Src5.free 4
          have rc5_5 := Src5.cell 5
          have frc5_5 := Src5.free 5
          have rc5_6 := Src5.cell 6
          have frc5_6 := Src5.free 6
          have rc5_7 := Src5.cell 7
          have frc5_7 := Src5.free 7
          have rc5_8 := Src5.cell 8
          have frc5_8 := Src5.free 8
          have rc5_9 := Src5.cell 9
          have frc5_9 := Src5.free 9
          have rc5_10 := Src5.cell 10
          have frc5_10 := Src5.free 10
          have tc5_0 := Stc5.cell 0
          have tc5_1 := Stc5.cell 1
          have tc5_2 := Stc5.cell 2
          have tc5_3 := Stc5.cell 3
          have tc5_4 := Stc5.cell 4
          have tc5_5 := Stc5.cell 5
          have tc5_6 := Stc5.cell 6
          have tc5_7 := Stc5.cell 7
          have tc5_8 := Stc5.cell 8
          have tc5_9 := Stc5.cell 9
          have tc5_10 := Stc5.cell 10
          have vc5_0 := Svc5.cell 0
          have vc5_1 := Svc5.cell 1
          have vc5_2 := Svc5.cell 2
          have vc5_3 := Svc5.cell 3
          have vc5_4 := Svc5.cell 4
          have vc5_5 := Svc5.cell 5
          have vc5_6 := Svc5.cell 6
          have vc5_7 := Svc5.cell 7
          have vc5_8 := Svc5.cell 8
          have vc5_9 := Svc5.cell 9
          have vc5_10 := Svc5.cell 10
          replace Ssc5 := Lib.hid Ssc5
          replace Src5 := Lib.hid Src5
          replace Sxc5 := Lib.hid Sxc5
          replace Stc5 := Lib.hid Stc5
          replace Snc5 := Lib.hid Snc5
          replace Svc5 := Lib.hid Svc5
          replace Sqc5 := Lib.hid Sqc5
          have EN := EM.out
          go_upto_region 24 with fail
          obtain ⟨wf6, hwf⟩ : ∃ z, z = ((((((((((((((((((((((wc5.setCell ⟨gs, 0, none⟩ (.bool true)).setCell ⟨gs, 1, none⟩ (.int .i64 xq)).setCell ⟨gs, 2, none⟩ (.int .i64 xq)).setCell ⟨gs, 3, none⟩ (.int .u16 fq)).setCell ⟨gs, 4, none⟩ (.int .u32 ft)).setCell ⟨gs, 5, none⟩ (.int .u16 fp)).setCell ⟨gs, 6, none⟩ (.int .u8 fl)).setCell ⟨gs, 7, none⟩ (.int .u16 mq)).setCell ⟨gs, 8, none⟩ (.int .u32 mt)).setCell ⟨gs, 9, none⟩ (.int .u16 mp)).setCell ⟨gs, 10, none⟩ (.int .u8 ml)).setCell ⟨gr, 0, none⟩ (.bool true)).setCell ⟨gr, 1, none⟩ (.int .i64 xq)).setCell ⟨gr, 2, none⟩ (.int .i64 xq)).setCell ⟨gr, 3, none⟩ (.int .i64 fq)).setCell ⟨gr, 4, none⟩ (.int .i64 ft)).setCell ⟨gr, 5, none⟩ (.int .i64 fp)).setCell ⟨gr, 6, none⟩ (.int .i64 fl)).setCell ⟨gr, 7, none⟩ (.int .i64 mq)).setCell ⟨gr, 8, none⟩ (.int .i64 mt)).setCell ⟨gr, 9, none⟩ (.int .i64 mp)).setCell ⟨gr, 10, none⟩ (.int .i64 ml)) := ⟨_, rfl⟩
          have Ssf6 := (Whole.eleven_far ((Whole.eleven (Ssc5.out) (.bool true) (.int .i64 xq) (.int .i64 xq) (.int .u16 fq) (.int .u32 ft) (.int .u16 fp) (.int .u8 fl) (.int .u16 mq) (.int .u32 mt) (.int .u16 mp) (.int .u8 ml))) (show gs ≠ gr from by omega) (.bool true) (.int .i64 xq) (.int .i64 xq) (.int .i64 fq) (.int .i64 ft) (.int .i64 fp) (.int .i64 fl) (.int .i64 mq) (.int .i64 mt) (.int .i64 mp) (.int .i64 ml))
          have Srf6 := (Whole.eleven ((Whole.eleven_far (Src5.out) (show gr ≠ gs from by omega) (.bool true) (.int .i64 xq) (.int .i64 xq) (.int .u16 fq) (.int .u32 ft) (.int .u16 fp) (.int .u8 fl) (.int .u16 mq) (.int .u32 mt) (.int .u16 mp) (.int .u8 ml))) (.bool true) (.int .i64 xq) (.int .i64 xq) (.int .i64 fq) (.int .i64 ft) (.int .i64 fp) (.int .i64 fl) (.int .i64 mq) (.int .i64 mt) (.int .i64 mp) (.int .i64 ml))
          have Sxf6 := (Whole.eleven_far ((Whole.eleven_far (Sxc5.out) (show wq.heap.size ≠ gs from by omega) (.bool true) (.int .i64 xq) (.int .i64 xq) (.int .u16 fq) (.int .u32 ft) (.int .u16 fp) (.int .u8 fl) (.int .u16 mq) (.int .u32 mt) (.int .u16 mp) (.int .u8 ml))) (show wq.heap.size ≠ gr from by omega) (.bool true) (.int .i64 xq) (.int .i64 xq) (.int .i64 fq) (.int .i64 ft) (.int .i64 fp) (.int .i64 fl) (.int .i64 mq) (.int .i64 mt) (.int .i64 mp) (.int .i64 ml))
          have Stf6 := (Whole.eleven_far ((Whole.eleven_far (Stc5.out) (show w2.heap.size ≠ gs from by omega) (.bool true) (.int .i64 xq) (.int .i64 xq) (.int .u16 fq) (.int .u32 ft) (.int .u16 fp) (.int .u8 fl) (.int .u16 mq) (.int .u32 mt) (.int .u16 mp) (.int .u8 ml))) (show w2.heap.size ≠ gr from by omega) (.bool true) (.int .i64 xq) (.int .i64 xq) (.int .i64 fq) (.int .i64 ft) (.int .i64 fp) (.int .i64 fl) (.int .i64 mq) (.int .i64 mt) (.int .i64 mp) (.int .i64 ml))
          have Snf6 := (Whole.eleven_far ((Whole.eleven_far (Snc5.out) (show w2.heap.size + 1 ≠ gs from by omega) (.bool true) (.int .i64 xq) (.int .i64 xq) (.int .u16 fq) (.int .u32 ft) (.int .u16 fp) (.int .u8 fl) (.int .u16 mq) (.int .u32 mt) (.int .u16 mp) (.int .u8 ml))) (show w2.heap.size + 1 ≠ gr from by omega) (.bool true) (.int .i64 xq) (.int .i64 xq) (.int .i64 fq) (.int .i64 ft) (.int .i64 fp) (.int .i64 fl) (.int .i64 mq) (.int .i64 mt) (.int .i64 mp) (.int .i64 ml))
          have Svf6 := (Whole.eleven_far ((Whole.eleven_far (Svc5.out) (show g1_5 ≠ gs from by omega) (.bool true) (.int .i64 xq) (.int .i64 xq) (.int .u16 fq) (.int .u32 ft) (.int .u16 fp) (.int .u8 fl) (.int .u16 mq) (.int .u32 mt) (.int .u16 mp) (.int .u8 ml))) (show g1_5 ≠ gr from by omega) (.bool true) (.int .i64 xq) (.int .i64 xq) (.int .i64 fq) (.int .i64 ft) (.int .i64 fp) (.int .i64 fl) (.int .i64 mq) (.int .i64 mt) (.int .i64 mp) (.int .i64 ml))
          have Sqf6 := (Whole.eleven_far ((Whole.eleven_far (Sqc5.out) (show g2_5 ≠ gs from by omega) (.bool true) (.int .i64 xq) (.int .i64 xq) (.int .u16 fq) (.int .u32 ft) (.int .u16 fp) (.int .u8 fl) (.int .u16 mq) (.int .u32 mt) (.int .u16 mp) (.int .u8 ml))) (show g2_5 ≠ gr from by omega) (.bool true) (.int .i64 xq) (.int .i64 xq) (.int .i64 fq) (.int .i64 ft) (.int .i64 fp) (.int .i64 fl) (.int .i64 mq) (.int .i64 mt) (.int .i64 mp) (.int .i64 ml))
          have HBf6 := (eleven_set ((eleven_set (HBc5.out) (show w.heap.size ≤ gs from by omega) (.bool true) (.int .i64 xq) (.int .i64 xq) (.int .u16 fq) (.int .u32 ft) (.int .u16 fp) (.int .u8 fl) (.int .u16 mq) (.int .u32 mt) (.int .u16 mp) (.int .u8 ml))) (show w.heap.size ≤ gr from by omega) (.bool true) (.int .i64 xq) (.int .i64 xq) (.int .i64 fq) (.int .i64 ft) (.int .i64 fp) (.int .i64 fl) (.int .i64 mq) (.int .i64 mt) (.int .i64 mp) (.int .i64 ml))
          rw [← hwf] at Ssf6 Srf6 Sxf6 Stf6 Snf6 Svf6 Sqf6 HBf6 ⊢
          clear hwf
          clear sc5_0 fsc5_0 sc5_1 fsc5_1 sc5_2 fsc5_2 sc5_3 fsc5_3 sc5_4 fsc5_4 sc5_5 fsc5_5 sc5_6 fsc5_6 sc5_7 fsc5_7 sc5_8 fsc5_8 sc5_9 fsc5_9 sc5_10 fsc5_10 rc5_0 frc5_0 rc5_1 frc5_1 rc5_2 frc5_2 rc5_3 frc5_3 rc5_4 frc5_4 rc5_5 frc5_5 rc5_6 frc5_6 rc5_7 frc5_7 rc5_8 frc5_8 rc5_9 frc5_9 rc5_10 frc5_10 tc5_0 tc5_1 tc5_2 tc5_3 tc5_4 tc5_5 tc5_6 tc5_7 tc5_8 tc5_9 tc5_10 vc5_0 vc5_1 vc5_2 vc5_3 vc5_4 vc5_5 vc5_6 vc5_7 vc5_8 vc5_9 vc5_10 Ssc5 Src5 Sxc5 Stc5 Snc5 Svc5 Sqc5 HBc5
          have lsf6 := Ssf6.lt
          have lrf6 := Srf6.lt
          have lxf6 := Sxf6.lt
          have ltf6 := Stf6.lt
          have lnf6 := Snf6.lt
          have lvf6 := Svf6.lt
          have lqf6 := Sqf6.lt
          replace HBf6 := Lib.hid HBf6
          replace Ssf6 := Lib.hid Ssf6
          replace Srf6 := Lib.hid Srf6
          replace Sxf6 := Lib.hid Sxf6
          replace Stf6 := Lib.hid Stf6
          replace Snf6 := Lib.hid Snf6
          replace Svf6 := Lib.hid Svf6
          replace Sqf6 := Lib.hid Sqf6
          have KS := Lib.hid (fun w' (b' : Below wf6.heap.size wf6 w') => show (fun w' => w'.cell? ⟨w2.heap.size + 1, 0, none⟩ = some (.int .u16 mq) ∧ w'.cell? ⟨w2.heap.size + 1, 1, none⟩ = some (.int .u32 mt) ∧ w'.cell? ⟨w2.heap.size + 1, 2, none⟩ = some (.int .u16 mp) ∧ w'.cell? ⟨w2.heap.size + 1, 3, none⟩ = some (.int .u8 ml) ∧ w'.cell? ⟨g2_5, 0, none⟩ = some (.int .i64 mq) ∧ w'.cell? ⟨g2_5, 1, none⟩ = some (.int .i64 mt) ∧ w'.cell? ⟨g2_5, 2, none⟩ = some (.int .i64 mp) ∧ w'.cell? ⟨g2_5, 3, none⟩ = some (.int .i64 ml)) w' from ⟨(Snf6.out.below b' Snf6.out.lt).cell 0, (Snf6.out.below b' Snf6.out.lt).cell 1, (Snf6.out.below b' Snf6.out.lt).cell 2, (Snf6.out.below b' Snf6.out.lt).cell 3, (Sqf6.out.below b' Sqf6.out.lt).cell 0, (Sqf6.out.below b' Sqf6.out.lt).cell 1, (Sqf6.out.below b' Sqf6.out.lt).cell 2, (Sqf6.out.below b' Sqf6.out.lt).cell 3⟩)
          have hK0 := KS.out wf6 (Below.refl _ _)
          go_region_held3 (fun w' => w'.cell? ⟨w2.heap.size + 1, 0, none⟩ = some (.int .u16 mq) ∧ w'.cell? ⟨w2.heap.size + 1, 1, none⟩ = some (.int .u32 mt) ∧ w'.cell? ⟨w2.heap.size + 1, 2, none⟩ = some (.int .u16 mp) ∧ w'.cell? ⟨w2.heap.size + 1, 3, none⟩ = some (.int .u8 ml) ∧ w'.cell? ⟨g2_5, 0, none⟩ = some (.int .i64 mq) ∧ w'.cell? ⟨g2_5, 1, none⟩ = some (.int .i64 mt) ∧ w'.cell? ⟨g2_5, 2, none⟩ = some (.int .i64 mp) ∧ w'.cell? ⟨g2_5, 3, none⟩ = some (.int .i64 ml))
            (first | exact hK0 | exact KS.out _ BV1 | exact KS.out _ (Below.refl _ _).drew)
            (first | (go_at_call 14; with_reducible refine (VM.out _).mono ?_; rintro e v6_1 ⟨rfl, bv1⟩; have BV1 := ((Below.refl wf6.heap.size wf6).drew).trans (bv1.mono ((Below.refl wf6.heap.size wf6).drew).size)))
          have bb := BV1
          have Ssg6 := (Ssf6.out).below bb (Ssf6.out).lt
          have Srg6 := (Srf6.out).below bb (Srf6.out).lt
          have Sxg6 := (Sxf6.out).below bb (Sxf6.out).lt
          have Stg6 := (Stf6.out).below bb (Stf6.out).lt
          have Sng6 := (Snf6.out).below bb (Snf6.out).lt
          have Svg6 := (Svf6.out).below bb (Svf6.out).lt
          have Sqg6 := (Sqf6.out).below bb (Sqf6.out).lt
          have HBg6 := Lib.hid ((HBf6.out).trans (bb.mono (HBf6.out).size))
          clear bb Ssf6 Srf6 Sxf6 Stf6 Snf6 Svf6 Sqf6 HBf6
          have lsg6 := Ssg6.lt
          have lrg6 := Srg6.lt
          have lxg6 := Sxg6.lt
          have ltg6 := Stg6.lt
          have lng6 := Sng6.lt
          have lvg6 := Svg6.lt
          have lqg6 := Sqg6.lt
          clear KS hK0 bv1 BV1
          clear EN
          replace Ssg6 := Lib.hid Ssg6
          replace Srg6 := Lib.hid Srg6
          replace Sxg6 := Lib.hid Sxg6
          replace Stg6 := Lib.hid Stg6
          replace Sng6 := Lib.hid Sng6
          replace Svg6 := Lib.hid Svg6
          replace Sqg6 := Lib.hid Sqg6
          have EN := EU.out
          go_upto_region 29 with fail
          obtain ⟨wf7, hwf⟩ : ∃ z, z = v6_1 := ⟨_, rfl⟩
          have Ssf7 := Ssg6.out
          have Srf7 := Srg6.out
          have Sxf7 := Sxg6.out
          have Stf7 := Stg6.out
          have Snf7 := Sng6.out
          have Svf7 := Svg6.out
          have Sqf7 := Sqg6.out
          have HBf7 := HBg6.out
          rw [← hwf] at Ssf7 Srf7 Sxf7 Stf7 Snf7 Svf7 Sqf7 HBf7 ⊢
          clear hwf
          clear Ssg6 Srg6 Sxg6 Stg6 Sng6 Svg6 Sqg6 HBg6
          have lsf7 := Ssf7.lt
          have lrf7 := Srf7.lt
          have lxf7 := Sxf7.lt
          have ltf7 := Stf7.lt
          have lnf7 := Snf7.lt
          have lvf7 := Svf7.lt
          have lqf7 := Sqf7.lt
          replace HBf7 := Lib.hid HBf7
          replace Ssf7 := Lib.hid Ssf7
          replace Srf7 := Lib.hid Srf7
          replace Sxf7 := Lib.hid Sxf7
          replace Stf7 := Lib.hid Stf7
          replace Snf7 := Lib.hid Snf7
          replace Svf7 := Lib.hid Svf7
          replace Sqf7 := Lib.hid Sqf7
          have KS := Lib.hid (fun w' (b' : Below wf7.heap.size wf7 w') => show (fun w' => w'.cell? ⟨gs, 0, none⟩ = some (.bool true) ∧ w'.cell? ⟨gs, 1, none⟩ = some (.int .i64 xq) ∧ w'.cell? ⟨gs, 2, none⟩ = some (.int .i64 xq) ∧ w'.cell? ⟨gs, 3, none⟩ = some (.int .u16 fq) ∧ w'.cell? ⟨gs, 4, none⟩ = some (.int .u32 ft) ∧ w'.cell? ⟨gs, 5, none⟩ = some (.int .u16 fp) ∧ w'.cell? ⟨gs, 6, none⟩ = some (.int .u8 fl) ∧ w'.cell? ⟨gs, 7, none⟩ = some (.int .u16 mq) ∧ w'.cell? ⟨gs, 8, none⟩ = some (.int .u32 mt) ∧ w'.cell? ⟨gs, 9, none⟩ = some (.int .u16 mp) ∧ w'.cell? ⟨gs, 10, none⟩ = some (.int .u8 ml) ∧ w'.cell? ⟨gr, 0, none⟩ = some (.bool true) ∧ w'.cell? ⟨gr, 1, none⟩ = some (.int .i64 xq) ∧ w'.cell? ⟨gr, 2, none⟩ = some (.int .i64 xq) ∧ w'.cell? ⟨gr, 3, none⟩ = some (.int .i64 fq) ∧ w'.cell? ⟨gr, 4, none⟩ = some (.int .i64 ft) ∧ w'.cell? ⟨gr, 5, none⟩ = some (.int .i64 fp) ∧ w'.cell? ⟨gr, 6, none⟩ = some (.int .i64 fl) ∧ w'.cell? ⟨gr, 7, none⟩ = some (.int .i64 mq) ∧ w'.cell? ⟨gr, 8, none⟩ = some (.int .i64 mt) ∧ w'.cell? ⟨gr, 9, none⟩ = some (.int .i64 mp) ∧ w'.cell? ⟨gr, 10, none⟩ = some (.int .i64 ml)) w' from ⟨(Ssf7.out.below b' Ssf7.out.lt).cell 0, (Ssf7.out.below b' Ssf7.out.lt).cell 1, (Ssf7.out.below b' Ssf7.out.lt).cell 2, (Ssf7.out.below b' Ssf7.out.lt).cell 3, (Ssf7.out.below b' Ssf7.out.lt).cell 4, (Ssf7.out.below b' Ssf7.out.lt).cell 5, (Ssf7.out.below b' Ssf7.out.lt).cell 6, (Ssf7.out.below b' Ssf7.out.lt).cell 7, (Ssf7.out.below b' Ssf7.out.lt).cell 8, (Ssf7.out.below b' Ssf7.out.lt).cell 9, (Ssf7.out.below b' Ssf7.out.lt).cell 10, (Srf7.out.below b' Srf7.out.lt).cell 0, (Srf7.out.below b' Srf7.out.lt).cell 1, (Srf7.out.below b' Srf7.out.lt).cell 2, (Srf7.out.below b' Srf7.out.lt).cell 3, (Srf7.out.below b' Srf7.out.lt).cell 4, (Srf7.out.below b' Srf7.out.lt).cell 5, (Srf7.out.below b' Srf7.out.lt).cell 6, (Srf7.out.below b' Srf7.out.lt).cell 7, (Srf7.out.below b' Srf7.out.lt).cell 8, (Srf7.out.below b' Srf7.out.lt).cell 9, (Srf7.out.below b' Srf7.out.lt).cell 10⟩)
          have hK0 := KS.out wf7 (Below.refl _ _)
          go_region_held3 (fun w' => w'.cell? ⟨gs, 0, none⟩ = some (.bool true) ∧ w'.cell? ⟨gs, 1, none⟩ = some (.int .i64 xq) ∧ w'.cell? ⟨gs, 2, none⟩ = some (.int .i64 xq) ∧ w'.cell? ⟨gs, 3, none⟩ = some (.int .u16 fq) ∧ w'.cell? ⟨gs, 4, none⟩ = some (.int .u32 ft) ∧ w'.cell? ⟨gs, 5, none⟩ = some (.int .u16 fp) ∧ w'.cell? ⟨gs, 6, none⟩ = some (.int .u8 fl) ∧ w'.cell? ⟨gs, 7, none⟩ = some (.int .u16 mq) ∧ w'.cell? ⟨gs, 8, none⟩ = some (.int .u32 mt) ∧ w'.cell? ⟨gs, 9, none⟩ = some (.int .u16 mp) ∧ w'.cell? ⟨gs, 10, none⟩ = some (.int .u8 ml) ∧ w'.cell? ⟨gr, 0, none⟩ = some (.bool true) ∧ w'.cell? ⟨gr, 1, none⟩ = some (.int .i64 xq) ∧ w'.cell? ⟨gr, 2, none⟩ = some (.int .i64 xq) ∧ w'.cell? ⟨gr, 3, none⟩ = some (.int .i64 fq) ∧ w'.cell? ⟨gr, 4, none⟩ = some (.int .i64 ft) ∧ w'.cell? ⟨gr, 5, none⟩ = some (.int .i64 fp) ∧ w'.cell? ⟨gr, 6, none⟩ = some (.int .i64 fl) ∧ w'.cell? ⟨gr, 7, none⟩ = some (.int .i64 mq) ∧ w'.cell? ⟨gr, 8, none⟩ = some (.int .i64 mt) ∧ w'.cell? ⟨gr, 9, none⟩ = some (.int .i64 mp) ∧ w'.cell? ⟨gr, 10, none⟩ = some (.int .i64 ml))
            (first | exact hK0 | exact KS.out _ BV1 | exact KS.out _ (Below.refl _ _).drew)
            (first | (go_at_call 13; with_reducible refine (OW.out _).mono ?_; rintro e v7_1 ⟨rfl, bv1⟩; have BV1 := ((Below.refl wf7.heap.size wf7).drew).trans (bv1.mono ((Below.refl wf7.heap.size wf7).drew).size)))
          have bb := BV1
          have Ssg7 := (Ssf7.out).below bb (Ssf7.out).lt
          have Srg7 := (Srf7.out).below bb (Srf7.out).lt
          have Sxg7 := (Sxf7.out).below bb (Sxf7.out).lt
          have Stg7 := (Stf7.out).below bb (Stf7.out).lt
          have Sng7 := (Snf7.out).below bb (Snf7.out).lt
          have Svg7 := (Svf7.out).below bb (Svf7.out).lt
          have Sqg7 := (Sqf7.out).below bb (Sqf7.out).lt
          have HBg7 := Lib.hid ((HBf7.out).trans (bb.mono (HBf7.out).size))
          clear bb Ssf7 Srf7 Sxf7 Stf7 Snf7 Svf7 Sqf7 HBf7
          have lsg7 := Ssg7.lt
          have lrg7 := Srg7.lt
          have lxg7 := Sxg7.lt
          have ltg7 := Stg7.lt
          have lng7 := Sng7.lt
          have lvg7 := Svg7.lt
          have lqg7 := Sqg7.lt
          clear KS hK0 bv1 BV1
          replace Ssg7 := Lib.hid Ssg7
          replace Srg7 := Lib.hid Srg7
          replace Sxg7 := Lib.hid Sxg7
          replace Stg7 := Lib.hid Stg7
          replace Sng7 := Lib.hid Sng7
          replace Svg7 := Lib.hid Svg7
          replace Sqg7 := Lib.hid Sqg7
          go_wp2_with fail
          go_wp2
          go_roundw
          case rel => exact ⟨k + 1, ⟨true, xq, xq, ⟨fq, ft, fp, fl⟩, ⟨mq, mt, mp, ml⟩⟩, by omega, by go_num, Lib.hid (Ssg7.out), Lib.hid (Srg7.out), GW, HBg7.out⟩
          case measure => simp [intOf]; omega
      by_cases h1 : ki = 1
      · subst h1
        clear CW CE RW RE VM VQ OW OE GW GE EM EQ EU ET
        go_wp2_with fail
        refine (CD.out _).mono ?_
        rintro e w2 ⟨rfl, b2⟩
        have Nx : Whole (wq.alloc (.cells #[.int .i64 1, .int .u16 xq, .int .u32 xt, .int .u16 xp, .int .u8 xl, .int .u32 kt, .bool kb] 29)) (wq.heap.size) 29 #[.int .i64 1, .int .u16 xq, .int .u32 xt, .int .u16 xp, .int .u8 xl, .int .u32 kt, .bool kb] := by have := Whole.new wq 29 #[.int .i64 1, .int .u16 xq, .int .u32 xt, .int .u16 xp, .int .u8 xl, .int .u32 kt, .bool kb]; first | with_reducible exact this | simpa using this
        have Ss2 := ((HW.out.alloc (.cells #[.int .i64 1, .int .u16 xq, .int .u32 xt, .int .u16 xp, .int .u8 xl, .int .u32 kt, .bool kb] 29))).below b2 (by have := ((HW.out.alloc (.cells #[.int .i64 1, .int .u16 xq, .int .u32 xt, .int .u16 xp, .int .u8 xl, .int .u32 kt, .bool kb] 29))).lt; first | with_reducible exact this | simpa using this)
        have Sr2 := ((HV.out.alloc (.cells #[.int .i64 1, .int .u16 xq, .int .u32 xt, .int .u16 xp, .int .u8 xl, .int .u32 kt, .bool kb] 29))).below b2 (by have := ((HV.out.alloc (.cells #[.int .i64 1, .int .u16 xq, .int .u32 xt, .int .u16 xp, .int .u8 xl, .int .u32 kt, .bool kb] 29))).lt; first | with_reducible exact this | simpa using this)
        have Sx2 := (Nx).below b2 (by have := (Nx).lt; first | with_reducible exact this | simpa using this)
        have HB2 := Lib.hid (((HB.out.alloc (HB.out).size (.cells #[.int .i64 1, .int .u16 xq, .int .u32 xt, .int .u16 xp, .int .u8 xl, .int .u32 kt, .bool kb] 29))).trans (b2.mono ((HB.out.alloc (HB.out).size (.cells #[.int .i64 1, .int .u16 xq, .int .u32 xt, .int .u16 xp, .int .u8 xl, .int .u32 kt, .bool kb] 29))).size))
        have ls2 := Ss2.lt
        have lr2 := Sr2.lt
        have lx2 := Sx2.lt
        clear b2 k0 f0 k1 f1 k2 f2 k3 f3 k4 f4 k5 f5 k6 f6 k7 f7 k8 f8 k9 f9 k10 f10 HW HV Nx HB CD hgo r0 r1 r2 r3 r4 r5 r6
        have s2_0 := Ss2.cell 0
        have fs2_0 := Ss2.free 0
        have s2_1 := Ss2.cell 1
        have fs2_1 := Ss2.free 1
        have s2_2 := Ss2.cell 2
        have fs2_2 := Ss2.free 2
        have s2_3 := Ss2.cell 3
        have fs2_3 := Ss2.free 3
        have s2_4 := Ss2.cell 4
        have fs2_4 := Ss2.free 4
        have s2_5 := Ss2.cell 5
        have fs2_5 := Ss2.free 5
        have s2_6 := Ss2.cell 6
        have fs2_6 := Ss2.free 6
        have s2_7 := Ss2.cell 7
        have fs2_7 := Ss2.free 7
        have s2_8 := Ss2.cell 8
        have fs2_8 := Ss2.free 8
        have s2_9 := Ss2.cell 9
        have fs2_9 := Ss2.free 9
        have s2_10 := Ss2.cell 10
        have fs2_10 := Ss2.free 10
        have x2_0 := Sx2.cell 0
        have x2_1 := Sx2.cell 1
        have x2_2 := Sx2.cell 2
        have x2_3 := Sx2.cell 3
        have x2_4 := Sx2.cell 4
        have x2_5 := Sx2.cell 5
        have x2_6 := Sx2.cell 6
        have r2_0 := Sr2.cell 0
        have fr2_0 := Sr2.free 0
        have r2_1 := Sr2.cell 1
        have fr2_1 := Sr2.free 1
        have r2_2 := Sr2.cell 2
        have fr2_2 := Sr2.free 2
        have r2_3 := Sr2.cell 3
        have fr2_3 := Sr2.free 3
        have r2_4 := Sr2.cell 4
        have fr2_4 := Sr2.free 4
        have r2_5 := Sr2.cell 5
        have fr2_5 := Sr2.free 5
        have r2_6 := Sr2.cell 6
        have fr2_6 := Sr2.free 6
        have r2_7 := Sr2.cell 7
        have fr2_7 := Sr2.free 7
        have r2_8 := Sr2.cell 8
        have fr2_8 := Sr2.free 8
        have r2_9 := Sr2.cell 9
        have fr2_9 := Sr2.free 9
        have r2_10 := Sr2.cell 10
        have fr2_10 := Sr2.free 10
        replace Ss2 := Lib.hid Ss2
        replace Sr2 := Lib.hid Sr2
        replace Sx2 := Lib.hid Sx2
        go_upto_region 28 with fail
        obtain ⟨wf3, hwf⟩ : ∃ z, z = (((((((((((w2.setCell ⟨gs, 0, none⟩ (.bool don)).setCell ⟨gs, 1, none⟩ (.int .i64 dh)).setCell ⟨gs, 2, none⟩ (.int .i64 dc)).setCell ⟨gs, 3, none⟩ (.int .u16 doq)).setCell ⟨gs, 4, none⟩ (.int .u32 dot)).setCell ⟨gs, 5, none⟩ (.int .u16 dop)).setCell ⟨gs, 6, none⟩ (.int .u8 dol)).setCell ⟨gs, 7, none⟩ (.int .u16 duq)).setCell ⟨gs, 8, none⟩ (.int .u32 dut)).setCell ⟨gs, 9, none⟩ (.int .u16 dup)).setCell ⟨gs, 10, none⟩ (.int .u8 dul)) := ⟨_, rfl⟩
        have Ssf3 := (Whole.eleven (Ss2.out) (.bool don) (.int .i64 dh) (.int .i64 dc) (.int .u16 doq) (.int .u32 dot) (.int .u16 dop) (.int .u8 dol) (.int .u16 duq) (.int .u32 dut) (.int .u16 dup) (.int .u8 dul))
        have Srf3 := (Whole.eleven_far (Sr2.out) (show gr ≠ gs from by omega) (.bool don) (.int .i64 dh) (.int .i64 dc) (.int .u16 doq) (.int .u32 dot) (.int .u16 dop) (.int .u8 dol) (.int .u16 duq) (.int .u32 dut) (.int .u16 dup) (.int .u8 dul))
        have Sxf3 := (Whole.eleven_far (Sx2.out) (show wq.heap.size ≠ gs from by omega) (.bool don) (.int .i64 dh) (.int .i64 dc) (.int .u16 doq) (.int .u32 dot) (.int .u16 dop) (.int .u8 dol) (.int .u16 duq) (.int .u32 dut) (.int .u16 dup) (.int .u8 dul))
        have HBf3 := (eleven_set (HB2.out) (show w.heap.size ≤ gs from by omega) (.bool don) (.int .i64 dh) (.int .i64 dc) (.int .u16 doq) (.int .u32 dot) (.int .u16 dop) (.int .u8 dol) (.int .u16 duq) (.int .u32 dut) (.int .u16 dup) (.int .u8 dul))
        rw [← hwf] at Ssf3 Srf3 Sxf3 HBf3 ⊢
        clear hwf
        clear s2_0 fs2_0 s2_1 fs2_1 s2_2 fs2_2 s2_3 fs2_3 s2_4 fs2_4 s2_5 fs2_5 s2_6 fs2_6 s2_7 fs2_7 s2_8 fs2_8 s2_9 fs2_9 s2_10 fs2_10 x2_0 x2_1 x2_2 x2_3 x2_4 x2_5 x2_6 r2_0 fr2_0 r2_1 fr2_1 r2_2 fr2_2 r2_3 fr2_3 r2_4 fr2_4 r2_5 fr2_5 r2_6 fr2_6 r2_7 fr2_7 r2_8 fr2_8 r2_9 fr2_9 r2_10 fr2_10 Ss2 Sr2 Sx2 HB2
        have lsf3 := Ssf3.lt
        have lrf3 := Srf3.lt
        have lxf3 := Sxf3.lt
        replace HBf3 := Lib.hid HBf3
        replace Ssf3 := Lib.hid Ssf3
        replace Srf3 := Lib.hid Srf3
        replace Sxf3 := Lib.hid Sxf3
        obtain ⟨wo, rfl⟩ : ∃ z, z = wf3 := ⟨_, rfl⟩
        have K6 := Lib.hid (fun w' (b' : Below wo.heap.size wo w') => show (fun w' => w'.cell? ⟨gr, 0, none⟩ = some (.bool son) ∧ w'.cell? ⟨gr, 1, none⟩ = some (.int .i64 sh) ∧ w'.cell? ⟨gr, 2, none⟩ = some (.int .i64 sc) ∧ w'.cell? ⟨gr, 3, none⟩ = some (.int .i64 soq) ∧ w'.cell? ⟨gr, 4, none⟩ = some (.int .i64 sot) ∧ w'.cell? ⟨gr, 5, none⟩ = some (.int .i64 sop) ∧ w'.cell? ⟨gr, 6, none⟩ = some (.int .i64 sol) ∧ w'.cell? ⟨gr, 7, none⟩ = some (.int .i64 suq) ∧ w'.cell? ⟨gr, 8, none⟩ = some (.int .i64 sut) ∧ w'.cell? ⟨gr, 9, none⟩ = some (.int .i64 sup) ∧ w'.cell? ⟨gr, 10, none⟩ = some (.int .i64 sul) ∧ w'.cell? ⟨wq.heap.size, 0, none⟩ = some (.int .i64 1) ∧ w'.cell? ⟨wq.heap.size, 1, none⟩ = some (.int .u16 xq) ∧ w'.cell? ⟨wq.heap.size, 2, none⟩ = some (.int .u32 xt) ∧ w'.cell? ⟨wq.heap.size, 3, none⟩ = some (.int .u16 xp) ∧ w'.cell? ⟨wq.heap.size, 4, none⟩ = some (.int .u8 xl) ∧ w'.cell? ⟨wq.heap.size, 5, none⟩ = some (.int .u32 kt) ∧ w'.cell? ⟨wq.heap.size, 6, none⟩ = some (.bool kb)) w' from ⟨(Srf3.out.below b' Srf3.out.lt).cell 0, (Srf3.out.below b' Srf3.out.lt).cell 1, (Srf3.out.below b' Srf3.out.lt).cell 2, (Srf3.out.below b' Srf3.out.lt).cell 3, (Srf3.out.below b' Srf3.out.lt).cell 4, (Srf3.out.below b' Srf3.out.lt).cell 5, (Srf3.out.below b' Srf3.out.lt).cell 6, (Srf3.out.below b' Srf3.out.lt).cell 7, (Srf3.out.below b' Srf3.out.lt).cell 8, (Srf3.out.below b' Srf3.out.lt).cell 9, (Srf3.out.below b' Srf3.out.lt).cell 10, (Sxf3.out.below b' Sxf3.out.lt).cell 0, (Sxf3.out.below b' Sxf3.out.lt).cell 1, (Sxf3.out.below b' Sxf3.out.lt).cell 2, (Sxf3.out.below b' Sxf3.out.lt).cell 3, (Sxf3.out.below b' Sxf3.out.lt).cell 4, (Sxf3.out.below b' Sxf3.out.lt).cell 5, (Sxf3.out.below b' Sxf3.out.lt).cell 6⟩)
        refine wp_region_X (S := fun w' => w'.cell? ⟨gr, 0, none⟩ = some (.bool son) ∧ w'.cell? ⟨gr, 1, none⟩ = some (.int .i64 sh) ∧ w'.cell? ⟨gr, 2, none⟩ = some (.int .i64 sc) ∧ w'.cell? ⟨gr, 3, none⟩ = some (.int .i64 soq) ∧ w'.cell? ⟨gr, 4, none⟩ = some (.int .i64 sot) ∧ w'.cell? ⟨gr, 5, none⟩ = some (.int .i64 sop) ∧ w'.cell? ⟨gr, 6, none⟩ = some (.int .i64 sol) ∧ w'.cell? ⟨gr, 7, none⟩ = some (.int .i64 suq) ∧ w'.cell? ⟨gr, 8, none⟩ = some (.int .i64 sut) ∧ w'.cell? ⟨gr, 9, none⟩ = some (.int .i64 sup) ∧ w'.cell? ⟨gr, 10, none⟩ = some (.int .i64 sul) ∧ w'.cell? ⟨wq.heap.size, 0, none⟩ = some (.int .i64 1) ∧ w'.cell? ⟨wq.heap.size, 1, none⟩ = some (.int .u16 xq) ∧ w'.cell? ⟨wq.heap.size, 2, none⟩ = some (.int .u32 xt) ∧ w'.cell? ⟨wq.heap.size, 3, none⟩ = some (.int .u16 xp) ∧ w'.cell? ⟨wq.heap.size, 4, none⟩ = some (.int .u8 xl) ∧ w'.cell? ⟨wq.heap.size, 5, none⟩ = some (.int .u32 kt) ∧ w'.cell? ⟨wq.heap.size, 6, none⟩ = some (.bool kb)) [7] (by kernel_rfl) (K6.out _ (Below.refl _ _).drew) (fun hHeld0 => ?_)
        refine wpAnyX_take (i := 0) [6, 7] (v := ?_) rfl (by kernel_rfl) (by kernel_rfl) (by kernel_rfl) (by kernel_rfl) (fun _ _ _ h => h) (Or.inl ⟨by kernel_rfl, ?_⟩) (by assumption) ?_
        rotate_left 1
        · (intro w hSw; obtain ⟨m0, m1, m2, m3, m4, m5, m6, m7, m8, m9, m10, m11, m12, m13, m14, m15, m16, m17⟩ := hSw; go_simp; try (with_reducible rfl))
        (try simp only [Act.put, List.getElem_toArray, List.getElem_cons_succ, List.getElem_cons_zero, List.setIfInBounds_toArray, List.set_cons_zero, List.set_cons_succ])
        refine wpAnyX_take (i := 1) [2, 3, 6, 7] (v := ?_) rfl (by kernel_rfl) (by kernel_rfl) (by kernel_rfl) (by kernel_rfl) (fun _ _ _ h => h) (Or.inl ⟨by kernel_rfl, ?_⟩) (by assumption) ?_
        rotate_left 1
        · (intro w hSw; obtain ⟨m0, m1, m2, m3, m4, m5, m6, m7, m8, m9, m10, m11, m12, m13, m14, m15, m16, m17⟩ := hSw; go_simp; try (with_reducible rfl))
        (try simp only [Act.put, List.getElem_toArray, List.getElem_cons_succ, List.getElem_cons_zero, List.setIfInBounds_toArray, List.set_cons_zero, List.set_cons_succ])
        refine wpAnyX_take (i := 2) [3, 6, 7] (v := ?_) rfl (by kernel_rfl) (by kernel_rfl) (by kernel_rfl) (by kernel_rfl) (fun _ _ _ h => h) (Or.inl ⟨by kernel_rfl, ?_⟩) (by assumption) ?_
        rotate_left 1
        · (intro w hSw; obtain ⟨m0, m1, m2, m3, m4, m5, m6, m7, m8, m9, m10, m11, m12, m13, m14, m15, m16, m17⟩ := hSw; go_simp; try (with_reducible rfl))
        (try simp only [Act.put, List.getElem_toArray, List.getElem_cons_succ, List.getElem_cons_zero, List.setIfInBounds_toArray, List.set_cons_zero, List.set_cons_succ])
        refine wpAnyX_take (i := 4) [5, 6, 7] (v := ?_) rfl (by kernel_rfl) (by kernel_rfl) (by kernel_rfl) (by kernel_rfl) (fun _ _ _ h => h) (Or.inl ⟨by kernel_rfl, ?_⟩) (by assumption) ?_
        rotate_left 1
        · (intro w hSw; obtain ⟨m0, m1, m2, m3, m4, m5, m6, m7, m8, m9, m10, m11, m12, m13, m14, m15, m16, m17⟩ := hSw; go_simp; try (with_reducible rfl))
        (try simp only [Act.put, List.getElem_toArray, List.getElem_cons_succ, List.getElem_cons_zero, List.setIfInBounds_toArray, List.set_cons_zero, List.set_cons_succ])
        refine wpAnyX_take (i := 5) [6, 7] (v := ?_) rfl (by kernel_rfl) (by kernel_rfl) (by kernel_rfl) (by kernel_rfl) (fun _ _ _ h => h) (Or.inl ⟨by kernel_rfl, ?_⟩) (by assumption) ?_
        rotate_left 1
        · (intro w hSw; obtain ⟨m0, m1, m2, m3, m4, m5, m6, m7, m8, m9, m10, m11, m12, m13, m14, m15, m16, m17⟩ := hSw; go_simp; try (with_reducible rfl))
        (try simp only [Act.put, List.getElem_toArray, List.getElem_cons_succ, List.getElem_cons_zero, List.setIfInBounds_toArray, List.set_cons_zero, List.set_cons_succ])
        refine wpAnyX_one 3 (by kernel_rfl) rfl (fun K hK => ?_)
        go_simp
        go_wp2_with (refine (O2.out _).mono ?_; rintro e v3_1 ⟨rfl, bv1⟩)
        have BV1 := ((Below.refl wo.heap.size wo).drew).trans (bv1.mono ((Below.refl wo.heap.size wo).drew).size)
        refine hK.out _ _ (.inr (K6.out _ BV1)) ?_
        have hHeld1 := K6.out _ BV1
        clear hK K
        (try simp only [Act.put, List.getElem_toArray, List.getElem_cons_succ, List.getElem_cons_zero, List.setIfInBounds_toArray, List.set_cons_zero, List.set_cons_succ])
        refine wpAnyX_one 6 (by kernel_rfl) rfl (fun K hK => ?_)
        go_simp
        go_wp2_with (refine (RD.out _).mono ?_; rintro e v3_2 ⟨rfl, bv2⟩)
        have BV2 := (BV1).trans (bv2.mono (BV1).size)
        refine hK.out _ _ (.inr (K6.out _ BV2)) ?_
        have hHeld2 := K6.out _ BV2
        clear hK K
        (try simp only [Act.put, List.getElem_toArray, List.getElem_cons_succ, List.getElem_cons_zero, List.setIfInBounds_toArray, List.set_cons_zero, List.set_cons_succ])
        refine wpAnyX_one 7 (by kernel_rfl) rfl (fun K hK => ?_)
        have QT := (Srf3.out).below BV2 (Srf3.out).lt
        have qz0 := QT.cell 0
        have qz1 := QT.cell 1
        have qz2 := QT.cell 2
        have qz3 := QT.cell 3
        have qz4 := QT.cell 4
        have qz5 := QT.cell 5
        have qz6 := QT.cell 6
        have qz7 := QT.cell 7
        have qz8 := QT.cell 8
        have qz9 := QT.cell 9
        have qz10 := QT.cell 10
        have qy0 := QT.free 0
        have qy1 := QT.free 1
        have qy2 := QT.free 2
        have qy3 := QT.free 3
        have qy4 := QT.free 4
        have qy5 := QT.free 5
        have qy6 := QT.free 6
        have qy7 := QT.free 7
        have qy8 := QT.free 8
        have qy9 := QT.free 9
        have qy10 := QT.free 10
        go_simp
        refine hK.out _ _ (.inl (by decide)) ?_
        clear hK K
        (try simp only [Act.put, List.getElem_toArray, List.getElem_cons_succ, List.getElem_cons_zero, List.setIfInBounds_toArray, List.set_cons_zero, List.set_cons_succ])
        refine wpAnyX_done (by kernel_rfl) ?_ _
        have bb := BV2
        have Ssg3 := (Ssf3.out).below bb (Ssf3.out).lt
        have Srg3 := (Srf3.out).below bb (Srf3.out).lt
        have Sxg3 := (Sxf3.out).below bb (Sxf3.out).lt
        have HBg3 := Lib.hid ((HBf3.out).trans (bb.mono (HBf3.out).size))
        clear bb Ssf3 Srf3 Sxf3 HBf3
        have lsg3 := Ssg3.lt
        have lrg3 := Srg3.lt
        have lxg3 := Sxg3.lt
        clear K6 QT bv1 BV1 hHeld1 bv2 BV2 hHeld2 hHeld0 qz0 qy0 qz1 qy1 qz2 qy2 qz3 qy3 qz4 qy4 qz5 qy5 qz6 qy6 qz7 qy7 qz8 qy8 qz9 qy9 qz10 qy10
        have sc3_0 := Ssg3.cell 0
        have sc3_1 := Ssg3.cell 1
        have sc3_2 := Ssg3.cell 2
        have sc3_3 := Ssg3.cell 3
        have sc3_4 := Ssg3.cell 4
        have sc3_5 := Ssg3.cell 5
        have sc3_6 := Ssg3.cell 6
        have sc3_7 := Ssg3.cell 7
        have sc3_8 := Ssg3.cell 8
        have sc3_9 := Ssg3.cell 9
        have sc3_10 := Ssg3.cell 10
        have rc3_0 := Srg3.cell 0
        have rc3_1 := Srg3.cell 1
        have rc3_2 := Srg3.cell 2
        have rc3_3 := Srg3.cell 3
        have rc3_4 := Srg3.cell 4
        have rc3_5 := Srg3.cell 5
        have rc3_6 := Srg3.cell 6
        have rc3_7 := Srg3.cell 7
        have rc3_8 := Srg3.cell 8
        have rc3_9 := Srg3.cell 9
        have rc3_10 := Srg3.cell 10
        replace Ssg3 := Lib.hid Ssg3
        replace Srg3 := Lib.hid Srg3
        replace Sxg3 := Lib.hid Sxg3
        have EN := ED.out
        go_upto_region 29 with fail
        obtain ⟨wf4, hwf⟩ : ∃ z, z = (((((((((((v3_2.setCell ⟨gr, 0, none⟩ (.bool don)).setCell ⟨gr, 1, none⟩ (.int .i64 dh)).setCell ⟨gr, 2, none⟩ (.int .i64 dc)).setCell ⟨gr, 3, none⟩ (.int .i64 doq)).setCell ⟨gr, 4, none⟩ (.int .i64 dot)).setCell ⟨gr, 5, none⟩ (.int .i64 dop)).setCell ⟨gr, 6, none⟩ (.int .i64 dol)).setCell ⟨gr, 7, none⟩ (.int .i64 duq)).setCell ⟨gr, 8, none⟩ (.int .i64 dut)).setCell ⟨gr, 9, none⟩ (.int .i64 dup)).setCell ⟨gr, 10, none⟩ (.int .i64 dul)) := ⟨_, rfl⟩
        have Ssf4 := (Whole.eleven_far (Ssg3.out) (show gs ≠ gr from by omega) (.bool don) (.int .i64 dh) (.int .i64 dc) (.int .i64 doq) (.int .i64 dot) (.int .i64 dop) (.int .i64 dol) (.int .i64 duq) (.int .i64 dut) (.int .i64 dup) (.int .i64 dul))
        have Srf4 := (Whole.eleven (Srg3.out) (.bool don) (.int .i64 dh) (.int .i64 dc) (.int .i64 doq) (.int .i64 dot) (.int .i64 dop) (.int .i64 dol) (.int .i64 duq) (.int .i64 dut) (.int .i64 dup) (.int .i64 dul))
        have Sxf4 := (Whole.eleven_far (Sxg3.out) (show wq.heap.size ≠ gr from by omega) (.bool don) (.int .i64 dh) (.int .i64 dc) (.int .i64 doq) (.int .i64 dot) (.int .i64 dop) (.int .i64 dol) (.int .i64 duq) (.int .i64 dut) (.int .i64 dup) (.int .i64 dul))
        have HBf4 := (eleven_set (HBg3.out) (show w.heap.size ≤ gr from by omega) (.bool don) (.int .i64 dh) (.int .i64 dc) (.int .i64 doq) (.int .i64 dot) (.int .i64 dop) (.int .i64 dol) (.int .i64 duq) (.int .i64 dut) (.int .i64 dup) (.int .i64 dul))
        rw [← hwf] at Ssf4 Srf4 Sxf4 HBf4 ⊢
        clear hwf
        clear sc3_0 sc3_1 sc3_2 sc3_3 sc3_4 sc3_5 sc3_6 sc3_7 sc3_8 sc3_9 sc3_10 rc3_0 rc3_1 rc3_2 rc3_3 rc3_4 rc3_5 rc3_6 rc3_7 rc3_8 rc3_9 rc3_10 Ssg3 Srg3 Sxg3 HBg3
        have lsf4 := Ssf4.lt
        have lrf4 := Srf4.lt
        have lxf4 := Sxf4.lt
        replace HBf4 := Lib.hid HBf4
        replace Ssf4 := Lib.hid Ssf4
        replace Srf4 := Lib.hid Srf4
        replace Sxf4 := Lib.hid Sxf4
        have KS := Lib.hid (fun w' (b' : Below wf4.heap.size wf4 w') => show (fun w' => w'.cell? ⟨gs, 0, none⟩ = some (.bool don) ∧ w'.cell? ⟨gs, 1, none⟩ = some (.int .i64 dh) ∧ w'.cell? ⟨gs, 2, none⟩ = some (.int .i64 dc) ∧ w'.cell? ⟨gs, 3, none⟩ = some (.int .u16 doq) ∧ w'.cell? ⟨gs, 4, none⟩ = some (.int .u32 dot) ∧ w'.cell? ⟨gs, 5, none⟩ = some (.int .u16 dop) ∧ w'.cell? ⟨gs, 6, none⟩ = some (.int .u8 dol) ∧ w'.cell? ⟨gs, 7, none⟩ = some (.int .u16 duq) ∧ w'.cell? ⟨gs, 8, none⟩ = some (.int .u32 dut) ∧ w'.cell? ⟨gs, 9, none⟩ = some (.int .u16 dup) ∧ w'.cell? ⟨gs, 10, none⟩ = some (.int .u8 dul) ∧ w'.cell? ⟨gr, 0, none⟩ = some (.bool don) ∧ w'.cell? ⟨gr, 1, none⟩ = some (.int .i64 dh) ∧ w'.cell? ⟨gr, 2, none⟩ = some (.int .i64 dc) ∧ w'.cell? ⟨gr, 3, none⟩ = some (.int .i64 doq) ∧ w'.cell? ⟨gr, 4, none⟩ = some (.int .i64 dot) ∧ w'.cell? ⟨gr, 5, none⟩ = some (.int .i64 dop) ∧ w'.cell? ⟨gr, 6, none⟩ = some (.int .i64 dol) ∧ w'.cell? ⟨gr, 7, none⟩ = some (.int .i64 duq) ∧ w'.cell? ⟨gr, 8, none⟩ = some (.int .i64 dut) ∧ w'.cell? ⟨gr, 9, none⟩ = some (.int .i64 dup) ∧ w'.cell? ⟨gr, 10, none⟩ = some (.int .i64 dul)) w' from ⟨(Ssf4.out.below b' Ssf4.out.lt).cell 0, (Ssf4.out.below b' Ssf4.out.lt).cell 1, (Ssf4.out.below b' Ssf4.out.lt).cell 2, (Ssf4.out.below b' Ssf4.out.lt).cell 3, (Ssf4.out.below b' Ssf4.out.lt).cell 4, (Ssf4.out.below b' Ssf4.out.lt).cell 5, (Ssf4.out.below b' Ssf4.out.lt).cell 6, (Ssf4.out.below b' Ssf4.out.lt).cell 7, (Ssf4.out.below b' Ssf4.out.lt).cell 8, (Ssf4.out.below b' Ssf4.out.lt).cell 9, (Ssf4.out.below b' Ssf4.out.lt).cell 10, (Srf4.out.below b' Srf4.out.lt).cell 0, (Srf4.out.below b' Srf4.out.lt).cell 1, (Srf4.out.below b' Srf4.out.lt).cell 2, (Srf4.out.below b' Srf4.out.lt).cell 3, (Srf4.out.below b' Srf4.out.lt).cell 4, (Srf4.out.below b' Srf4.out.lt).cell 5, (Srf4.out.below b' Srf4.out.lt).cell 6, (Srf4.out.below b' Srf4.out.lt).cell 7, (Srf4.out.below b' Srf4.out.lt).cell 8, (Srf4.out.below b' Srf4.out.lt).cell 9, (Srf4.out.below b' Srf4.out.lt).cell 10⟩)
        have hK0 := KS.out wf4 (Below.refl _ _)
        go_region_held3 (fun w' => w'.cell? ⟨gs, 0, none⟩ = some (.bool don) ∧ w'.cell? ⟨gs, 1, none⟩ = some (.int .i64 dh) ∧ w'.cell? ⟨gs, 2, none⟩ = some (.int .i64 dc) ∧ w'.cell? ⟨gs, 3, none⟩ = some (.int .u16 doq) ∧ w'.cell? ⟨gs, 4, none⟩ = some (.int .u32 dot) ∧ w'.cell? ⟨gs, 5, none⟩ = some (.int .u16 dop) ∧ w'.cell? ⟨gs, 6, none⟩ = some (.int .u8 dol) ∧ w'.cell? ⟨gs, 7, none⟩ = some (.int .u16 duq) ∧ w'.cell? ⟨gs, 8, none⟩ = some (.int .u32 dut) ∧ w'.cell? ⟨gs, 9, none⟩ = some (.int .u16 dup) ∧ w'.cell? ⟨gs, 10, none⟩ = some (.int .u8 dul) ∧ w'.cell? ⟨gr, 0, none⟩ = some (.bool don) ∧ w'.cell? ⟨gr, 1, none⟩ = some (.int .i64 dh) ∧ w'.cell? ⟨gr, 2, none⟩ = some (.int .i64 dc) ∧ w'.cell? ⟨gr, 3, none⟩ = some (.int .i64 doq) ∧ w'.cell? ⟨gr, 4, none⟩ = some (.int .i64 dot) ∧ w'.cell? ⟨gr, 5, none⟩ = some (.int .i64 dop) ∧ w'.cell? ⟨gr, 6, none⟩ = some (.int .i64 dol) ∧ w'.cell? ⟨gr, 7, none⟩ = some (.int .i64 duq) ∧ w'.cell? ⟨gr, 8, none⟩ = some (.int .i64 dut) ∧ w'.cell? ⟨gr, 9, none⟩ = some (.int .i64 dup) ∧ w'.cell? ⟨gr, 10, none⟩ = some (.int .i64 dul))
          (first | exact hK0 | exact KS.out _ BV1 | exact KS.out _ (Below.refl _ _).drew)
          (first | (go_at_call 13; with_reducible refine (OX.out _).mono ?_; rintro e v4_1 ⟨rfl, bv1⟩; have BV1 := ((Below.refl wf4.heap.size wf4).drew).trans (bv1.mono ((Below.refl wf4.heap.size wf4).drew).size)))
        have bb := BV1
        have Ssg4 := (Ssf4.out).below bb (Ssf4.out).lt
        have Srg4 := (Srf4.out).below bb (Srf4.out).lt
        have Sxg4 := (Sxf4.out).below bb (Sxf4.out).lt
        have HBg4 := Lib.hid ((HBf4.out).trans (bb.mono (HBf4.out).size))
        clear bb Ssf4 Srf4 Sxf4 HBf4
        have lsg4 := Ssg4.lt
        have lrg4 := Srg4.lt
        have lxg4 := Sxg4.lt
        clear KS hK0 bv1 BV1
        replace Ssg4 := Lib.hid Ssg4
        replace Srg4 := Lib.hid Srg4
        replace Sxg4 := Lib.hid Sxg4
        go_wp2_with fail
        go_wp2
        go_roundw
        case rel => exact ⟨k + 1, ⟨don, dh, dc, ⟨doq, dot, dop, dol⟩, ⟨duq, dut, dup, dul⟩⟩, by omega, by go_num, Lib.hid (Ssg4.out), Lib.hid (Srg4.out), GD, HBg4.out⟩
        case measure => simp [intOf]; omega
      clear CW CD RW RD VM OW OX GW GD EM EU ED
      go_wp2_with fail
      refine (CE.out _).mono ?_
      rintro e w2 ⟨rfl, b2⟩
      have Nx : Whole (wq.alloc (.cells #[.int .i64 ki, .int .u16 xq, .int .u32 xt, .int .u16 xp, .int .u8 xl, .int .u32 kt, .bool kb] 29)) (wq.heap.size) 29 #[.int .i64 ki, .int .u16 xq, .int .u32 xt, .int .u16 xp, .int .u8 xl, .int .u32 kt, .bool kb] := by have := Whole.new wq 29 #[.int .i64 ki, .int .u16 xq, .int .u32 xt, .int .u16 xp, .int .u8 xl, .int .u32 kt, .bool kb]; first | with_reducible exact this | simpa using this
      have Ss2 := ((HW.out.alloc (.cells #[.int .i64 ki, .int .u16 xq, .int .u32 xt, .int .u16 xp, .int .u8 xl, .int .u32 kt, .bool kb] 29))).below b2 (by have := ((HW.out.alloc (.cells #[.int .i64 ki, .int .u16 xq, .int .u32 xt, .int .u16 xp, .int .u8 xl, .int .u32 kt, .bool kb] 29))).lt; first | with_reducible exact this | simpa using this)
      have Sr2 := ((HV.out.alloc (.cells #[.int .i64 ki, .int .u16 xq, .int .u32 xt, .int .u16 xp, .int .u8 xl, .int .u32 kt, .bool kb] 29))).below b2 (by have := ((HV.out.alloc (.cells #[.int .i64 ki, .int .u16 xq, .int .u32 xt, .int .u16 xp, .int .u8 xl, .int .u32 kt, .bool kb] 29))).lt; first | with_reducible exact this | simpa using this)
      have Sx2 := (Nx).below b2 (by have := (Nx).lt; first | with_reducible exact this | simpa using this)
      have HB2 := Lib.hid (((HB.out.alloc (HB.out).size (.cells #[.int .i64 ki, .int .u16 xq, .int .u32 xt, .int .u16 xp, .int .u8 xl, .int .u32 kt, .bool kb] 29))).trans (b2.mono ((HB.out.alloc (HB.out).size (.cells #[.int .i64 ki, .int .u16 xq, .int .u32 xt, .int .u16 xp, .int .u8 xl, .int .u32 kt, .bool kb] 29))).size))
      have ls2 := Ss2.lt
      have lr2 := Sr2.lt
      have lx2 := Sx2.lt
      clear b2 k0 f0 k1 f1 k2 f2 k3 f3 k4 f4 k5 f5 k6 f6 k7 f7 k8 f8 k9 f9 k10 f10 HW HV Nx HB CE hgo r0 r1 r2 r3 r4 r5 r6
      have s2_0 := Ss2.cell 0
      have fs2_0 := Ss2.free 0
      have s2_1 := Ss2.cell 1
      have fs2_1 := Ss2.free 1
      have s2_2 := Ss2.cell 2
      have fs2_2 := Ss2.free 2
      have s2_3 := Ss2.cell 3
      have fs2_3 := Ss2.free 3
      have s2_4 := Ss2.cell 4
      have fs2_4 := Ss2.free 4
      have s2_5 := Ss2.cell 5
      have fs2_5 := Ss2.free 5
      have s2_6 := Ss2.cell 6
      have fs2_6 := Ss2.free 6
      have s2_7 := Ss2.cell 7
      have fs2_7 := Ss2.free 7
      have s2_8 := Ss2.cell 8
      have fs2_8 := Ss2.free 8
      have s2_9 := Ss2.cell 9
      have fs2_9 := Ss2.free 9
      have s2_10 := Ss2.cell 10
      have fs2_10 := Ss2.free 10
      have x2_0 := Sx2.cell 0
      have x2_1 := Sx2.cell 1
      have x2_2 := Sx2.cell 2
      have x2_3 := Sx2.cell 3
      have x2_4 := Sx2.cell 4
      have x2_5 := Sx2.cell 5
      have x2_6 := Sx2.cell 6
      have r2_0 := Sr2.cell 0
      have fr2_0 := Sr2.free 0
      have r2_1 := Sr2.cell 1
      have fr2_1 := Sr2.free 1
      have r2_2 := Sr2.cell 2
      have fr2_2 := Sr2.free 2
      have r2_3 := Sr2.cell 3
      have fr2_3 := Sr2.free 3
      have r2_4 := Sr2.cell 4
      have fr2_4 := Sr2.free 4
      have r2_5 := Sr2.cell 5
      have fr2_5 := Sr2.free 5
      have r2_6 := Sr2.cell 6
      have fr2_6 := Sr2.free 6
      have r2_7 := Sr2.cell 7
      have fr2_7 := Sr2.free 7
      have r2_8 := Sr2.cell 8
      have fr2_8 := Sr2.free 8
      have r2_9 := Sr2.cell 9
      have fr2_9 := Sr2.free 9
      have r2_10 := Sr2.cell 10
      have fr2_10 := Sr2.free 10
      replace Ss2 := Lib.hid Ss2
      replace Sr2 := Lib.hid Sr2
      replace Sx2 := Lib.hid Sx2
      go_upto_region 14 with fail
      obtain ⟨wo, hwo⟩ : ∃ wo, wo = ((w2.alloc (.cells #[.bool ton, .int .i64 th, .int .i64 tc, .int .u16 toq, .int .u32 tot, .int .u16 top, .int .u8 tol, .int .u16 tuq, .int .u32 tut, .int .u16 tup, .int .u8 tul] 27)).alloc (.cells #[.int .u16 qq, .int .u32 qt, .int .u16 qp, .int .u8 ql] 25)) := ⟨_, rfl⟩
      have Nt : Whole (w2.alloc (.cells #[.bool ton, .int .i64 th, .int .i64 tc, .int .u16 toq, .int .u32 tot, .int .u16 top, .int .u8 tol, .int .u16 tuq, .int .u32 tut, .int .u16 tup, .int .u8 tul] 27)) (w2.heap.size) 27 #[.bool ton, .int .i64 th, .int .i64 tc, .int .u16 toq, .int .u32 tot, .int .u16 top, .int .u8 tol, .int .u16 tuq, .int .u32 tut, .int .u16 tup, .int .u8 tul] := by have := Whole.new w2 27 #[.bool ton, .int .i64 th, .int .i64 tc, .int .u16 toq, .int .u32 tot, .int .u16 top, .int .u8 tol, .int .u16 tuq, .int .u32 tut, .int .u16 tup, .int .u8 tul]; first | with_reducible exact this | simpa using this
      have Nn : Whole ((w2.alloc (.cells #[.bool ton, .int .i64 th, .int .i64 tc, .int .u16 toq, .int .u32 tot, .int .u16 top, .int .u8 tol, .int .u16 tuq, .int .u32 tut, .int .u16 tup, .int .u8 tul] 27)).alloc (.cells #[.int .u16 qq, .int .u32 qt, .int .u16 qp, .int .u8 ql] 25)) (w2.heap.size + 1) 25 #[.int .u16 qq, .int .u32 qt, .int .u16 qp, .int .u8 ql] := by have := Whole.new (w2.alloc (.cells #[.bool ton, .int .i64 th, .int .i64 tc, .int .u16 toq, .int .u32 tot, .int .u16 top, .int .u8 tol, .int .u16 tuq, .int .u32 tut, .int .u16 tup, .int .u8 tul] 27)) 25 #[.int .u16 qq, .int .u32 qt, .int .u16 qp, .int .u8 ql]; first | with_reducible exact this | simpa using this
      have Ps := ((Ss2.out.alloc (.cells #[.bool ton, .int .i64 th, .int .i64 tc, .int .u16 toq, .int .u32 tot, .int .u16 top, .int .u8 tol, .int .u16 tuq, .int .u32 tut, .int .u16 tup, .int .u8 tul] 27)).alloc (.cells #[.int .u16 qq, .int .u32 qt, .int .u16 qp, .int .u8 ql] 25))
      have Pr := ((Sr2.out.alloc (.cells #[.bool ton, .int .i64 th, .int .i64 tc, .int .u16 toq, .int .u32 tot, .int .u16 top, .int .u8 tol, .int .u16 tuq, .int .u32 tut, .int .u16 tup, .int .u8 tul] 27)).alloc (.cells #[.int .u16 qq, .int .u32 qt, .int .u16 qp, .int .u8 ql] 25))
      have Px := ((Sx2.out.alloc (.cells #[.bool ton, .int .i64 th, .int .i64 tc, .int .u16 toq, .int .u32 tot, .int .u16 top, .int .u8 tol, .int .u16 tuq, .int .u32 tut, .int .u16 tup, .int .u8 tul] 27)).alloc (.cells #[.int .u16 qq, .int .u32 qt, .int .u16 qp, .int .u8 ql] 25))
      have Pt := (Nt.alloc (.cells #[.int .u16 qq, .int .u32 qt, .int .u16 qp, .int .u8 ql] 25))
      have Pn := Nn
      have PB := ((HB2.out.alloc (HB2.out).size (.cells #[.bool ton, .int .i64 th, .int .i64 tc, .int .u16 toq, .int .u32 tot, .int .u16 top, .int .u8 tol, .int .u16 tuq, .int .u32 tut, .int .u16 tup, .int .u8 tul] 27)).alloc ((HB2.out.alloc (HB2.out).size (.cells #[.bool ton, .int .i64 th, .int .i64 tc, .int .u16 toq, .int .u32 tot, .int .u16 top, .int .u8 tol, .int .u16 tuq, .int .u32 tut, .int .u16 tup, .int .u8 tul] 27))).size (.cells #[.int .u16 qq, .int .u32 qt, .int .u16 qp, .int .u8 ql] 25))
      rw [← hwo] at Ps Pr Px Pt Pn PB ⊢
      clear hwo
      clear s2_0 fs2_0 s2_1 fs2_1 s2_2 fs2_2 s2_3 fs2_3 s2_4 fs2_4 s2_5 fs2_5 s2_6 fs2_6 s2_7 fs2_7 s2_8 fs2_8 s2_9 fs2_9 s2_10 fs2_10 x2_0 x2_1 x2_2 x2_3 x2_4 x2_5 x2_6 r2_0 fr2_0 r2_1 fr2_1 r2_2 fr2_2 r2_3 fr2_3 r2_4 fr2_4 r2_5 fr2_5 r2_6 fr2_6 r2_7 fr2_7 r2_8 fr2_8 r2_9 fr2_9 r2_10 fr2_10 Ss2 Sr2 Sx2 Nt Nn HB2
      have ps5 := Ps.lt
      have pr5 := Pr.lt
      have px5 := Px.lt
      have pt5 := Pt.lt
      have pn5 := Pn.lt
      replace Ps := Lib.hid Ps
      replace Pr := Lib.hid Pr
      replace Px := Lib.hid Px
      replace Pt := Lib.hid Pt
      replace Pn := Lib.hid Pn
      replace PB := Lib.hid PB
      have K6 := Lib.hid (fun w' (b' : Below wo.heap.size wo w') => show (fun w' => w'.cell? ⟨gr, 0, none⟩ = some (.bool son) ∧ w'.cell? ⟨gr, 1, none⟩ = some (.int .i64 sh) ∧ w'.cell? ⟨gr, 2, none⟩ = some (.int .i64 sc) ∧ w'.cell? ⟨gr, 3, none⟩ = some (.int .i64 soq) ∧ w'.cell? ⟨gr, 4, none⟩ = some (.int .i64 sot) ∧ w'.cell? ⟨gr, 5, none⟩ = some (.int .i64 sop) ∧ w'.cell? ⟨gr, 6, none⟩ = some (.int .i64 sol) ∧ w'.cell? ⟨gr, 7, none⟩ = some (.int .i64 suq) ∧ w'.cell? ⟨gr, 8, none⟩ = some (.int .i64 sut) ∧ w'.cell? ⟨gr, 9, none⟩ = some (.int .i64 sup) ∧ w'.cell? ⟨gr, 10, none⟩ = some (.int .i64 sul) ∧ w'.cell? ⟨wq.heap.size, 0, none⟩ = some (.int .i64 ki) ∧ w'.cell? ⟨wq.heap.size, 1, none⟩ = some (.int .u16 xq) ∧ w'.cell? ⟨wq.heap.size, 2, none⟩ = some (.int .u32 xt) ∧ w'.cell? ⟨wq.heap.size, 3, none⟩ = some (.int .u16 xp) ∧ w'.cell? ⟨wq.heap.size, 4, none⟩ = some (.int .u8 xl) ∧ w'.cell? ⟨wq.heap.size, 5, none⟩ = some (.int .u32 kt) ∧ w'.cell? ⟨wq.heap.size, 6, none⟩ = some (.bool kb)) w' from ⟨(Pr.out.below b' Pr.out.lt).cell 0, (Pr.out.below b' Pr.out.lt).cell 1, (Pr.out.below b' Pr.out.lt).cell 2, (Pr.out.below b' Pr.out.lt).cell 3, (Pr.out.below b' Pr.out.lt).cell 4, (Pr.out.below b' Pr.out.lt).cell 5, (Pr.out.below b' Pr.out.lt).cell 6, (Pr.out.below b' Pr.out.lt).cell 7, (Pr.out.below b' Pr.out.lt).cell 8, (Pr.out.below b' Pr.out.lt).cell 9, (Pr.out.below b' Pr.out.lt).cell 10, (Px.out.below b' Px.out.lt).cell 0, (Px.out.below b' Px.out.lt).cell 1, (Px.out.below b' Px.out.lt).cell 2, (Px.out.below b' Px.out.lt).cell 3, (Px.out.below b' Px.out.lt).cell 4, (Px.out.below b' Px.out.lt).cell 5, (Px.out.below b' Px.out.lt).cell 6⟩)
      go_cut [15, 16, 17] (fun p1 p2 x17 wx => x17 = (.bool b) ∧ ∃ g1 g2 : Nat, p1 = .pointer (some ⟨g1, 0, none⟩) ∧ p2 = .pointer (some ⟨g2, 0, none⟩) ∧ wo.heap.size ≤ g1 ∧ wo.heap.size ≤ g2 ∧ g1 ≠ g2 ∧ Whole wx g1 36 #[.bool ton, .int .i64 th, .int .i64 tc, .int .i64 toq, .int .i64 tot, .int .i64 top, .int .i64 tol, .int .i64 tuq, .int .i64 tut, .int .i64 tup, .int .i64 tul] ∧ Whole wx g2 34 #[.int .i64 qq, .int .i64 qt, .int .i64 qp, .int .i64 ql] ∧ Below wo.heap.size wo wx)
      case first =>
        refine wp_region_X (S := fun w' => w'.cell? ⟨gr, 0, none⟩ = some (.bool son) ∧ w'.cell? ⟨gr, 1, none⟩ = some (.int .i64 sh) ∧ w'.cell? ⟨gr, 2, none⟩ = some (.int .i64 sc) ∧ w'.cell? ⟨gr, 3, none⟩ = some (.int .i64 soq) ∧ w'.cell? ⟨gr, 4, none⟩ = some (.int .i64 sot) ∧ w'.cell? ⟨gr, 5, none⟩ = some (.int .i64 sop) ∧ w'.cell? ⟨gr, 6, none⟩ = some (.int .i64 sol) ∧ w'.cell? ⟨gr, 7, none⟩ = some (.int .i64 suq) ∧ w'.cell? ⟨gr, 8, none⟩ = some (.int .i64 sut) ∧ w'.cell? ⟨gr, 9, none⟩ = some (.int .i64 sup) ∧ w'.cell? ⟨gr, 10, none⟩ = some (.int .i64 sul) ∧ w'.cell? ⟨wq.heap.size, 0, none⟩ = some (.int .i64 ki) ∧ w'.cell? ⟨wq.heap.size, 1, none⟩ = some (.int .u16 xq) ∧ w'.cell? ⟨wq.heap.size, 2, none⟩ = some (.int .u32 xt) ∧ w'.cell? ⟨wq.heap.size, 3, none⟩ = some (.int .u16 xp) ∧ w'.cell? ⟨wq.heap.size, 4, none⟩ = some (.int .u8 xl) ∧ w'.cell? ⟨wq.heap.size, 5, none⟩ = some (.int .u32 kt) ∧ w'.cell? ⟨wq.heap.size, 6, none⟩ = some (.bool kb)) [] (by kernel_rfl) (K6.out _ (Below.refl _ _).drew) (fun hHeld0 => ?_)
        refine wpAnyX_take (i := 0) [] (v := ?_) rfl (by kernel_rfl) (by kernel_rfl) (by kernel_rfl) (by kernel_rfl) (fun _ _ _ h => h) (Or.inl ⟨by kernel_rfl, ?_⟩) (by assumption) ?_
        rotate_left 1
        · (intro w hSw; obtain ⟨m0, m1, m2, m3, m4, m5, m6, m7, m8, m9, m10, m11, m12, m13, m14, m15, m16, m17⟩ := hSw; go_simp; try (with_reducible rfl))
        (try simp only [Act.put, List.getElem_toArray, List.getElem_cons_succ, List.getElem_cons_zero, List.setIfInBounds_toArray, List.set_cons_zero, List.set_cons_succ])
        refine wpAnyX_take (i := 1) [] (v := ?_) rfl (by kernel_rfl) (by kernel_rfl) (by kernel_rfl) (by kernel_rfl) (fun _ _ _ h => h) (Or.inl ⟨by kernel_rfl, ?_⟩) (by assumption) ?_
        rotate_left 1
        · (intro w hSw; obtain ⟨m0, m1, m2, m3, m4, m5, m6, m7, m8, m9, m10, m11, m12, m13, m14, m15, m16, m17⟩ := hSw; go_simp; try (with_reducible rfl))
        (try simp only [Act.put, List.getElem_toArray, List.getElem_cons_succ, List.getElem_cons_zero, List.setIfInBounds_toArray, List.set_cons_zero, List.set_cons_succ])
        refine wpAnyX_take (i := 2) [] (v := ?_) rfl (by kernel_rfl) (by kernel_rfl) (by kernel_rfl) (by kernel_rfl) (fun _ _ _ h => h) (Or.inl ⟨by kernel_rfl, ?_⟩) (by assumption) ?_
        rotate_left 1
        · (intro w hSw; obtain ⟨m0, m1, m2, m3, m4, m5, m6, m7, m8, m9, m10, m11, m12, m13, m14, m15, m16, m17⟩ := hSw; go_simp; try (with_reducible rfl))
        (try simp only [Act.put, List.getElem_toArray, List.getElem_cons_succ, List.getElem_cons_zero, List.setIfInBounds_toArray, List.set_cons_zero, List.set_cons_succ])
        refine wpAnyX_named (fun a0 ha0 => ?_)
        refine wpAnyX_inv (fun l a w' => l.size = 14 ∧ (l.getD 0 false = true ∧ l.getD 1 false = true ∧ l.getD 2 false = true) ∧ Below wo.heap.size wo w' ∧ ∃ t3 t4 t5 t6 t7 t8 t9 t10 t13 : Value, a = (((((((((a0.put (some 49) t3).put (some 50) t4).put (some 45) t5).put (some 51) t6).put (some 52) t7).put (some 53) t8).put (some 15) t9).put (some 16) t10).put (some 17) t13) ∧ (l.getD 3 false = true → t3 = (.agg #[.int .i64 xq, .int .i64 xt, .int .i64 xp, .int .i64 xl])) ∧ (l.getD 4 false = true → t4 = (.tuple #[(.agg #[.bool ton, .int .i64 th, .int .i64 tc, .int .i64 toq, .int .i64 tot, .int .i64 top, .int .i64 tol, .int .i64 tuq, .int .i64 tut, .int .i64 tup, .int .i64 tul]), (.agg #[.int .i64 qq, .int .i64 qt, .int .i64 qp, .int .i64 ql]), (.bool b)])) ∧ (l.getD 5 false = true → t5 = (.tuple #[(.agg #[.bool ton, .int .i64 th, .int .i64 tc, .int .i64 toq, .int .i64 tot, .int .i64 top, .int .i64 tol, .int .i64 tuq, .int .i64 tut, .int .i64 tup, .int .i64 tul]), (.agg #[.int .i64 qq, .int .i64 qt, .int .i64 qp, .int .i64 ql]), (.bool b)])) ∧ (l.getD 6 false = true → t6 = (.agg #[.bool ton, .int .i64 th, .int .i64 tc, .int .i64 toq, .int .i64 tot, .int .i64 top, .int .i64 tol, .int .i64 tuq, .int .i64 tut, .int .i64 tup, .int .i64 tul])) ∧ (l.getD 7 false = true → t7 = (.agg #[.int .i64 qq, .int .i64 qt, .int .i64 qp, .int .i64 ql])) ∧ (l.getD 8 false = true → t8 = (.bool b)) ∧ (l.getD 9 false = true → ∃ g, t9 = .pointer (some ⟨g, 0, none⟩) ∧ wo.heap.size ≤ g ∧ g < w'.heap.size ∧ (l.getD 11 false = false → Whole w' g 36 #[.bool false, .int .i64 0, .int .i64 0, .int .i64 0, .int .i64 0, .int .i64 0, .int .i64 0, .int .i64 0, .int .i64 0, .int .i64 0, .int .i64 0]) ∧ (l.getD 11 false = true → Whole w' g 36 #[.bool ton, .int .i64 th, .int .i64 tc, .int .i64 toq, .int .i64 tot, .int .i64 top, .int .i64 tol, .int .i64 tuq, .int .i64 tut, .int .i64 tup, .int .i64 tul])) ∧ (l.getD 11 false = true → l.getD 9 false = true) ∧ (l.getD 10 false = true → ∃ g, t10 = .pointer (some ⟨g, 0, none⟩) ∧ wo.heap.size ≤ g ∧ g < w'.heap.size ∧ (l.getD 12 false = false → Whole w' g 34 #[.int .i64 0, .int .i64 0, .int .i64 0, .int .i64 0]) ∧ (l.getD 12 false = true → Whole w' g 34 #[.int .i64 qq, .int .i64 qt, .int .i64 qp, .int .i64 ql])) ∧ (l.getD 12 false = true → l.getD 10 false = true) ∧ (l.getD 13 false = true → t13 = (.bool b)) ∧ (l.getD 9 false = true → l.getD 10 false = true → ∀ g g', t9 = .pointer (some ⟨g, 0, none⟩) → t10 = .pointer (some ⟨g', 0, none⟩) → g ≠ g')) (fun l a w hI => K6.out _ hI.2.2.1) ?_ ?_ _ _ _ _ (by decide) ?_
        · intro l a w hI i hi
          obtain ⟨hsz, ⟨k0, k1, k2⟩, hB, t3, t4, t5, t6, t7, t8, t9, t10, t13, rfl, c3, c4, c5, c6, c7, c8, c9, s9, c10, s10, c13, n9_10⟩ := hI
          obtain ⟨hun, hin, hd⟩ := ready_split (n := 14) rfl hi
          clear hi
          rw [show List.range 14 = [0, 1, 2, 3, 4, 5, 6, 7, 8, 9, 10, 11, 12, 13] from rfl] at hin
          simp only [List.mem_cons, List.not_mem_nil, or_false] at hin
          rcases hin with rfl | rfl | rfl | rfl | rfl | rfl | rfl | rfl | rfl | rfl | rfl | rfl | rfl | rfl
          · exact absurd (was_listed hun k0) id
          · exact absurd (was_listed hun k1) id
          · exact absurd (was_listed hun k2) id
          · have hd := waits_as (L := [2]) (by kernel_rfl) hd
            simp only [List.all_cons, List.all_nil, Bool.and_true, Bool.and_eq_true] at hd
            have e0 := hd
            refine inv_op rfl (fun K hK => ?_)
            subst ha0
            (try simp only [Act.put, List.getElem_toArray, List.getElem_cons_succ, List.getElem_cons_zero, List.setIfInBounds_toArray, List.set_cons_zero, List.set_cons_succ])
            go_simp
            go_wp2_with (refine (O2.out _).mono ?_; rintro e v ⟨rfl, b1⟩)
            refine hK.out _ _ ?_
            exact ⟨by simp [hsz], ⟨listed_new k0, listed_new k1, listed_new k2⟩, (hB.trans (b1.mono hB.size)), (.agg #[.int .i64 xq, .int .i64 xt, .int .i64 xp, .int .i64 xl]), t4, t5, t6, t7, t8, t9, t10, t13, by kernel_rfl, fun _ => rfl, fun h => c4 (listed_old h (by decide)), fun h => c5 (listed_old h (by decide)), fun h => c6 (listed_old h (by decide)), fun h => c7 (listed_old h (by decide)), fun h => c8 (listed_old h (by decide)), fun h => by obtain ⟨g, hg, h1, h2, h3, h4⟩ := c9 (listed_old h (by decide)); exact ⟨g, hg, h1, Nat.lt_of_lt_of_le h2 b1.size, fun h => (h3 (listed_same h (by decide))).below b1 (h3 (listed_same h (by decide))).lt, fun h => (h4 (listed_same h (by decide))).below b1 (h4 (listed_same h (by decide))).lt⟩, fun h => listed_new (s9 (listed_old h (by decide))), fun h => by obtain ⟨g, hg, h1, h2, h3, h4⟩ := c10 (listed_old h (by decide)); exact ⟨g, hg, h1, Nat.lt_of_lt_of_le h2 b1.size, fun h => (h3 (listed_same h (by decide))).below b1 (h3 (listed_same h (by decide))).lt, fun h => (h4 (listed_same h (by decide))).below b1 (h4 (listed_same h (by decide))).lt⟩, fun h => listed_new (s10 (listed_old h (by decide))), fun h => c13 (listed_old h (by decide)), fun h h' => n9_10 (listed_old h (by decide)) (listed_old h' (by decide))⟩
          · have hd := waits_as (L := [0, 3, 3]) (by kernel_rfl) hd
            simp only [List.all_cons, List.all_nil, Bool.and_true, Bool.and_eq_true] at hd
            obtain ⟨e0, e1, e2⟩ := hd
            obtain rfl := c3 e1
            refine inv_op rfl (fun K hK => ?_)
            subst ha0
            (try simp only [Act.put, List.getElem_toArray, List.getElem_cons_succ, List.getElem_cons_zero, List.setIfInBounds_toArray, List.set_cons_zero, List.set_cons_succ])
            go_simp
            go_wp2_with (refine (RE.out _).mono ?_; rintro e v ⟨rfl, b1⟩)
            refine hK.out _ _ ?_
            exact ⟨by simp [hsz], ⟨listed_new k0, listed_new k1, listed_new k2⟩, (hB.trans (b1.mono hB.size)), (.agg #[.int .i64 xq, .int .i64 xt, .int .i64 xp, .int .i64 xl]), (.tuple #[(.agg #[.bool ton, .int .i64 th, .int .i64 tc, .int .i64 toq, .int .i64 tot, .int .i64 top, .int .i64 tol, .int .i64 tuq, .int .i64 tut, .int .i64 tup, .int .i64 tul]), (.agg #[.int .i64 qq, .int .i64 qt, .int .i64 qp, .int .i64 ql]), (.bool b)]), t5, t6, t7, t8, t9, t10, t13, by kernel_rfl, fun _ => rfl, fun _ => rfl, fun h => c5 (listed_old h (by decide)), fun h => c6 (listed_old h (by decide)), fun h => c7 (listed_old h (by decide)), fun h => c8 (listed_old h (by decide)), fun h => by obtain ⟨g, hg, h1, h2, h3, h4⟩ := c9 (listed_old h (by decide)); exact ⟨g, hg, h1, Nat.lt_of_lt_of_le h2 b1.size, fun h => (h3 (listed_same h (by decide))).below b1 (h3 (listed_same h (by decide))).lt, fun h => (h4 (listed_same h (by decide))).below b1 (h4 (listed_same h (by decide))).lt⟩, fun h => listed_new (s9 (listed_old h (by decide))), fun h => by obtain ⟨g, hg, h1, h2, h3, h4⟩ := c10 (listed_old h (by decide)); exact ⟨g, hg, h1, Nat.lt_of_lt_of_le h2 b1.size, fun h => (h3 (listed_same h (by decide))).below b1 (h3 (listed_same h (by decide))).lt, fun h => (h4 (listed_same h (by decide))).below b1 (h4 (listed_same h (by decide))).lt⟩, fun h => listed_new (s10 (listed_old h (by decide))), fun h => c13 (listed_old h (by decide)), fun h h' => n9_10 (listed_old h (by decide)) (listed_old h' (by decide))⟩
          · have hd := waits_as (L := [4]) (by kernel_rfl) hd
            simp only [List.all_cons, List.all_nil, Bool.and_true, Bool.and_eq_true] at hd
            have e0 := hd
            obtain rfl := c4 e0
            refine inv_op rfl (fun K hK => ?_)
            subst ha0
            (try simp only [Act.put, List.getElem_toArray, List.getElem_cons_succ, List.getElem_cons_zero, List.setIfInBounds_toArray, List.set_cons_zero, List.set_cons_succ])
            go_simp
            refine hK.out _ _ ?_
            exact ⟨by simp [hsz], ⟨listed_new k0, listed_new k1, listed_new k2⟩, hB, t3, (.tuple #[(.agg #[.bool ton, .int .i64 th, .int .i64 tc, .int .i64 toq, .int .i64 tot, .int .i64 top, .int .i64 tol, .int .i64 tuq, .int .i64 tut, .int .i64 tup, .int .i64 tul]), (.agg #[.int .i64 qq, .int .i64 qt, .int .i64 qp, .int .i64 ql]), (.bool b)]), (.tuple #[(.agg #[.bool ton, .int .i64 th, .int .i64 tc, .int .i64 toq, .int .i64 tot, .int .i64 top, .int .i64 tol, .int .i64 tuq, .int .i64 tut, .int .i64 tup, .int .i64 tul]), (.agg #[.int .i64 qq, .int .i64 qt, .int .i64 qp, .int .i64 ql]), (.bool b)]), t6, t7, t8, t9, t10, t13, by kernel_rfl, fun h => c3 (listed_old h (by decide)), fun _ => rfl, fun _ => rfl, fun h => c6 (listed_old h (by decide)), fun h => c7 (listed_old h (by decide)), fun h => c8 (listed_old h (by decide)), fun h => by obtain ⟨g, hg, h1, h2, h3, h4⟩ := c9 (listed_old h (by decide)); exact ⟨g, hg, h1, h2, fun h => h3 (listed_same h (by decide)), fun h => h4 (listed_same h (by decide))⟩, fun h => listed_new (s9 (listed_old h (by decide))), fun h => by obtain ⟨g, hg, h1, h2, h3, h4⟩ := c10 (listed_old h (by decide)); exact ⟨g, hg, h1, h2, fun h => h3 (listed_same h (by decide)), fun h => h4 (listed_same h (by decide))⟩, fun h => listed_new (s10 (listed_old h (by decide))), fun h => c13 (listed_old h (by decide)), fun h h' => n9_10 (listed_old h (by decide)) (listed_old h' (by decide))⟩
          · have hd := waits_as (L := [5]) (by kernel_rfl) hd
            simp only [List.all_cons, List.all_nil, Bool.and_true, Bool.and_eq_true] at hd
            have e0 := hd
            obtain rfl := c5 e0
            refine inv_op rfl (fun K hK => ?_)
            subst ha0
            (try simp only [Act.put, List.getElem_toArray, List.getElem_cons_succ, List.getElem_cons_zero, List.setIfInBounds_toArray, List.set_cons_zero, List.set_cons_succ])
            go_simp
            refine hK.out _ _ ?_
            exact ⟨by simp [hsz], ⟨listed_new k0, listed_new k1, listed_new k2⟩, hB, t3, t4, (.tuple #[(.agg #[.bool ton, .int .i64 th, .int .i64 tc, .int .i64 toq, .int .i64 tot, .int .i64 top, .int .i64 tol, .int .i64 tuq, .int .i64 tut, .int .i64 tup, .int .i64 tul]), (.agg #[.int .i64 qq, .int .i64 qt, .int .i64 qp, .int .i64 ql]), (.bool b)]), (.agg #[.bool ton, .int .i64 th, .int .i64 tc, .int .i64 toq, .int .i64 tot, .int .i64 top, .int .i64 tol, .int .i64 tuq, .int .i64 tut, .int .i64 tup, .int .i64 tul]), t7, t8, t9, t10, t13, by kernel_rfl, fun h => c3 (listed_old h (by decide)), fun h => c4 (listed_old h (by decide)), fun _ => rfl, fun _ => rfl, fun h => c7 (listed_old h (by decide)), fun h => c8 (listed_old h (by decide)), fun h => by obtain ⟨g, hg, h1, h2, h3, h4⟩ := c9 (listed_old h (by decide)); exact ⟨g, hg, h1, h2, fun h => h3 (listed_same h (by decide)), fun h => h4 (listed_same h (by decide))⟩, fun h => listed_new (s9 (listed_old h (by decide))), fun h => by obtain ⟨g, hg, h1, h2, h3, h4⟩ := c10 (listed_old h (by decide)); exact ⟨g, hg, h1, h2, fun h => h3 (listed_same h (by decide)), fun h => h4 (listed_same h (by decide))⟩, fun h => listed_new (s10 (listed_old h (by decide))), fun h => c13 (listed_old h (by decide)), fun h h' => n9_10 (listed_old h (by decide)) (listed_old h' (by decide))⟩
          · have hd := waits_as (L := [5]) (by kernel_rfl) hd
            simp only [List.all_cons, List.all_nil, Bool.and_true, Bool.and_eq_true] at hd
            have e0 := hd
            obtain rfl := c5 e0
            refine inv_op rfl (fun K hK => ?_)
            subst ha0
            (try simp only [Act.put, List.getElem_toArray, List.getElem_cons_succ, List.getElem_cons_zero, List.setIfInBounds_toArray, List.set_cons_zero, List.set_cons_succ])
            go_simp
            refine hK.out _ _ ?_
            exact ⟨by simp [hsz], ⟨listed_new k0, listed_new k1, listed_new k2⟩, hB, t3, t4, (.tuple #[(.agg #[.bool ton, .int .i64 th, .int .i64 tc, .int .i64 toq, .int .i64 tot, .int .i64 top, .int .i64 tol, .int .i64 tuq, .int .i64 tut, .int .i64 tup, .int .i64 tul]), (.agg #[.int .i64 qq, .int .i64 qt, .int .i64 qp, .int .i64 ql]), (.bool b)]), t6, (.agg #[.int .i64 qq, .int .i64 qt, .int .i64 qp, .int .i64 ql]), t8, t9, t10, t13, by kernel_rfl, fun h => c3 (listed_old h (by decide)), fun h => c4 (listed_old h (by decide)), fun _ => rfl, fun h => c6 (listed_old h (by decide)), fun _ => rfl, fun h => c8 (listed_old h (by decide)), fun h => by obtain ⟨g, hg, h1, h2, h3, h4⟩ := c9 (listed_old h (by decide)); exact ⟨g, hg, h1, h2, fun h => h3 (listed_same h (by decide)), fun h => h4 (listed_same h (by decide))⟩, fun h => listed_new (s9 (listed_old h (by decide))), fun h => by obtain ⟨g, hg, h1, h2, h3, h4⟩ := c10 (listed_old h (by decide)); exact ⟨g, hg, h1, h2, fun h => h3 (listed_same h (by decide)), fun h => h4 (listed_same h (by decide))⟩, fun h => listed_new (s10 (listed_old h (by decide))), fun h => c13 (listed_old h (by decide)), fun h h' => n9_10 (listed_old h (by decide)) (listed_old h' (by decide))⟩
          · have hd := waits_as (L := [5]) (by kernel_rfl) hd
            simp only [List.all_cons, List.all_nil, Bool.and_true, Bool.and_eq_true] at hd
            have e0 := hd
            obtain rfl := c5 e0
            refine inv_op rfl (fun K hK => ?_)
            subst ha0
            (try simp only [Act.put, List.getElem_toArray, List.getElem_cons_succ, List.getElem_cons_zero, List.setIfInBounds_toArray, List.set_cons_zero, List.set_cons_succ])
            go_simp
            refine hK.out _ _ ?_
            exact ⟨by simp [hsz], ⟨listed_new k0, listed_new k1, listed_new k2⟩, hB, t3, t4, (.tuple #[(.agg #[.bool ton, .int .i64 th, .int .i64 tc, .int .i64 toq, .int .i64 tot, .int .i64 top, .int .i64 tol, .int .i64 tuq, .int .i64 tut, .int .i64 tup, .int .i64 tul]), (.agg #[.int .i64 qq, .int .i64 qt, .int .i64 qp, .int .i64 ql]), (.bool b)]), t6, t7, (.bool b), t9, t10, t13, by kernel_rfl, fun h => c3 (listed_old h (by decide)), fun h => c4 (listed_old h (by decide)), fun _ => rfl, fun h => c6 (listed_old h (by decide)), fun h => c7 (listed_old h (by decide)), fun _ => rfl, fun h => by obtain ⟨g, hg, h1, h2, h3, h4⟩ := c9 (listed_old h (by decide)); exact ⟨g, hg, h1, h2, fun h => h3 (listed_same h (by decide)), fun h => h4 (listed_same h (by decide))⟩, fun h => listed_new (s9 (listed_old h (by decide))), fun h => by obtain ⟨g, hg, h1, h2, h3, h4⟩ := c10 (listed_old h (by decide)); exact ⟨g, hg, h1, h2, fun h => h3 (listed_same h (by decide)), fun h => h4 (listed_same h (by decide))⟩, fun h => listed_new (s10 (listed_old h (by decide))), fun h => c13 (listed_old h (by decide)), fun h h' => n9_10 (listed_old h (by decide)) (listed_old h' (by decide))⟩
          · have hd := waits_as (L := []) (by kernel_rfl) hd
            simp only [List.all_cons, List.all_nil, Bool.and_true, Bool.and_eq_true] at hd
            refine inv_op rfl (fun K hK => ?_)
            subst ha0
            (try simp only [Act.put, List.getElem_toArray, List.getElem_cons_succ, List.getElem_cons_zero, List.setIfInBounds_toArray, List.set_cons_zero, List.set_cons_succ])
            go_simp
            refine hK.out _ _ ?_
            exact ⟨by simp [hsz], ⟨listed_new k0, listed_new k1, listed_new k2⟩, (hB.alloc hB.size (.cells #[.bool false, .int .i64 0, .int .i64 0, .int .i64 0, .int .i64 0, .int .i64 0, .int .i64 0, .int .i64 0, .int .i64 0, .int .i64 0, .int .i64 0] 36)), t3, t4, t5, t6, t7, t8, (.pointer (some ⟨w.heap.size, 0, none⟩)), t10, t13, by kernel_rfl, fun h => c3 (listed_old h (by decide)), fun h => c4 (listed_old h (by decide)), fun h => c5 (listed_old h (by decide)), fun h => c6 (listed_old h (by decide)), fun h => c7 (listed_old h (by decide)), fun h => c8 (listed_old h (by decide)), fun _ => ⟨_, rfl, hB.size, by simp, fun _ => Whole.new _ _ _, fun h => absurd (was_listed hun (s9 (listed_old h (by decide)))) id⟩, fun h => listed_new (s9 (listed_old h (by decide))), fun h => by obtain ⟨g, hg, h1, h2, h3, h4⟩ := c10 (listed_old h (by decide)); exact ⟨g, hg, h1, (by have := h2; simp; omega), fun h => (h3 (listed_same h (by decide))).alloc _, fun h => (h4 (listed_same h (by decide))).alloc _⟩, fun h => listed_new (s10 (listed_old h (by decide))), fun h => c13 (listed_old h (by decide)), fun _ h g g' hg hg' => by obtain ⟨q1, q2, _, q3, _⟩ := c10 (listed_old h (by decide)); rw [hg'] at q2; cases q2; cases hg; omega⟩
          · have hd := waits_as (L := []) (by kernel_rfl) hd
            simp only [List.all_cons, List.all_nil, Bool.and_true, Bool.and_eq_true] at hd
            refine inv_op rfl (fun K hK => ?_)
            subst ha0
            (try simp only [Act.put, List.getElem_toArray, List.getElem_cons_succ, List.getElem_cons_zero, List.setIfInBounds_toArray, List.set_cons_zero, List.set_cons_succ])
            go_simp
            refine hK.out _ _ ?_
            exact ⟨by simp [hsz], ⟨listed_new k0, listed_new k1, listed_new k2⟩, (hB.alloc hB.size (.cells #[.int .i64 0, .int .i64 0, .int .i64 0, .int .i64 0] 34)), t3, t4, t5, t6, t7, t8, t9, (.pointer (some ⟨w.heap.size, 0, none⟩)), t13, by kernel_rfl, fun h => c3 (listed_old h (by decide)), fun h => c4 (listed_old h (by decide)), fun h => c5 (listed_old h (by decide)), fun h => c6 (listed_old h (by decide)), fun h => c7 (listed_old h (by decide)), fun h => c8 (listed_old h (by decide)), fun h => by obtain ⟨g, hg, h1, h2, h3, h4⟩ := c9 (listed_old h (by decide)); exact ⟨g, hg, h1, (by have := h2; simp; omega), fun h => (h3 (listed_same h (by decide))).alloc _, fun h => (h4 (listed_same h (by decide))).alloc _⟩, fun h => listed_new (s9 (listed_old h (by decide))), fun _ => ⟨_, rfl, hB.size, by simp, fun _ => Whole.new _ _ _, fun h => absurd (was_listed hun (s10 (listed_old h (by decide)))) id⟩, fun h => listed_new (s10 (listed_old h (by decide))), fun h => c13 (listed_old h (by decide)), fun h _ g g' hg hg' => by obtain ⟨q1, q2, _, q3, _⟩ := c9 (listed_old h (by decide)); rw [hg] at q2; cases q2; cases hg'; omega⟩
          · have hd := waits_as (L := [9, 6, 4, 0, 1, 2, 3, 4, 5, 6, 9, 10]) (by kernel_rfl) hd
            simp only [List.all_cons, List.all_nil, Bool.and_true, Bool.and_eq_true] at hd
            obtain ⟨e0, e1, e2, e3, e4, e5, e6, e7, e8, e9, e10, e11⟩ := hd
            obtain ⟨g9, rfl, lo9, lt9, z9, y9⟩ := c9 e0
            obtain rfl := c6 e1
            obtain rfl := c4 e2
            obtain rfl := c3 e6
            obtain rfl := c5 e8
            obtain ⟨g10, rfl, lo10, lt10, z10, y10⟩ := c10 e11
            refine inv_op rfl (fun K hK => ?_)
            subst ha0
            (try simp only [Act.put, List.getElem_toArray, List.getElem_cons_succ, List.getElem_cons_zero, List.setIfInBounds_toArray, List.set_cons_zero, List.set_cons_succ])
            have q := z9 (unlisted_false hun)
            have zz0 := q.cell 0
            have zz1 := q.cell 1
            have zz2 := q.cell 2
            have zz3 := q.cell 3
            have zz4 := q.cell 4
            have zz5 := q.cell 5
            have zz6 := q.cell 6
            have zz7 := q.cell 7
            have zz8 := q.cell 8
            have zz9 := q.cell 9
            have zz10 := q.cell 10
            have yy0 := q.free 0
            have yy1 := q.free 1
            have yy2 := q.free 2
            have yy3 := q.free 3
            have yy4 := q.free 4
            have yy5 := q.free 5
            have yy6 := q.free 6
            have yy7 := q.free 7
            have yy8 := q.free 8
            have yy9 := q.free 9
            have yy10 := q.free 10
            go_simp
            refine hK.out _ _ ?_
            exact ⟨by simp [hsz], ⟨listed_new k0, listed_new k1, listed_new k2⟩, (eleven_set hB lo9 (.bool ton) (.int .i64 th) (.int .i64 tc) (.int .i64 toq) (.int .i64 tot) (.int .i64 top) (.int .i64 tol) (.int .i64 tuq) (.int .i64 tut) (.int .i64 tup) (.int .i64 tul)), (.agg #[.int .i64 xq, .int .i64 xt, .int .i64 xp, .int .i64 xl]), (.tuple #[(.agg #[.bool ton, .int .i64 th, .int .i64 tc, .int .i64 toq, .int .i64 tot, .int .i64 top, .int .i64 tol, .int .i64 tuq, .int .i64 tut, .int .i64 tup, .int .i64 tul]), (.agg #[.int .i64 qq, .int .i64 qt, .int .i64 qp, .int .i64 ql]), (.bool b)]), (.tuple #[(.agg #[.bool ton, .int .i64 th, .int .i64 tc, .int .i64 toq, .int .i64 tot, .int .i64 top, .int .i64 tol, .int .i64 tuq, .int .i64 tut, .int .i64 tup, .int .i64 tul]), (.agg #[.int .i64 qq, .int .i64 qt, .int .i64 qp, .int .i64 ql]), (.bool b)]), (.agg #[.bool ton, .int .i64 th, .int .i64 tc, .int .i64 toq, .int .i64 tot, .int .i64 top, .int .i64 tol, .int .i64 tuq, .int .i64 tut, .int .i64 tup, .int .i64 tul]), t7, t8, (.pointer (some ⟨g9, 0, none⟩)), (.pointer (some ⟨g10, 0, none⟩)), t13, by kernel_rfl, fun _ => rfl, fun _ => rfl, fun _ => rfl, fun _ => rfl, fun h => c7 (listed_old h (by decide)), fun h => c8 (listed_old h (by decide)), fun _ => ⟨g9, rfl, lo9, (by simpa using lt9), fun h => absurd ((listed_now hun).symm.trans h) (by decide), fun _ => (Whole.eleven q (.bool ton) (.int .i64 th) (.int .i64 tc) (.int .i64 toq) (.int .i64 tot) (.int .i64 top) (.int .i64 tol) (.int .i64 tuq) (.int .i64 tut) (.int .i64 tup) (.int .i64 tul))⟩, fun _ => listed_new e0, fun _ => ⟨g10, rfl, lo10, (by simpa using lt10), fun h => Whole.eleven_far (z10 (listed_same h (by decide))) ((Ne.symm (n9_10 e0 e11 _ _ rfl rfl))) (.bool ton) (.int .i64 th) (.int .i64 tc) (.int .i64 toq) (.int .i64 tot) (.int .i64 top) (.int .i64 tol) (.int .i64 tuq) (.int .i64 tut) (.int .i64 tup) (.int .i64 tul), fun h => Whole.eleven_far (y10 (listed_same h (by decide))) ((Ne.symm (n9_10 e0 e11 _ _ rfl rfl))) (.bool ton) (.int .i64 th) (.int .i64 tc) (.int .i64 toq) (.int .i64 tot) (.int .i64 top) (.int .i64 tol) (.int .i64 tuq) (.int .i64 tut) (.int .i64 tup) (.int .i64 tul)⟩, fun h => listed_new (s10 (listed_old h (by decide))), fun h => c13 (listed_old h (by decide)), fun h h' => n9_10 (listed_old h (by decide)) (listed_old h' (by decide))⟩
          · have hd := waits_as (L := [10, 7, 11, 0, 1, 2, 3, 4, 5, 6, 7, 9, 10, 11]) (by kernel_rfl) hd
            simp only [List.all_cons, List.all_nil, Bool.and_true, Bool.and_eq_true] at hd
            obtain ⟨e0, e1, e2, e3, e4, e5, e6, e7, e8, e9, e10, e11, e12, e13⟩ := hd
            obtain ⟨g10, rfl, lo10, lt10, z10, y10⟩ := c10 e0
            obtain rfl := c7 e1
            obtain rfl := c3 e6
            obtain rfl := c4 e7
            obtain rfl := c5 e8
            obtain rfl := c6 e9
            obtain ⟨g9, rfl, lo9, lt9, z9, y9⟩ := c9 e11
            refine inv_op rfl (fun K hK => ?_)
            subst ha0
            (try simp only [Act.put, List.getElem_toArray, List.getElem_cons_succ, List.getElem_cons_zero, List.setIfInBounds_toArray, List.set_cons_zero, List.set_cons_succ])
            have q := z10 (unlisted_false hun)
            have zz0 := q.cell 0
            have zz1 := q.cell 1
            have zz2 := q.cell 2
            have zz3 := q.cell 3
            have yy0 := q.free 0
            have yy1 := q.free 1
            have yy2 := q.free 2
            have yy3 := q.free 3
            go_simp
            refine hK.out _ _ ?_
            exact ⟨by simp [hsz], ⟨listed_new k0, listed_new k1, listed_new k2⟩, (four_set hB lo10 (.int .i64 qq) (.int .i64 qt) (.int .i64 qp) (.int .i64 ql)), (.agg #[.int .i64 xq, .int .i64 xt, .int .i64 xp, .int .i64 xl]), (.tuple #[(.agg #[.bool ton, .int .i64 th, .int .i64 tc, .int .i64 toq, .int .i64 tot, .int .i64 top, .int .i64 tol, .int .i64 tuq, .int .i64 tut, .int .i64 tup, .int .i64 tul]), (.agg #[.int .i64 qq, .int .i64 qt, .int .i64 qp, .int .i64 ql]), (.bool b)]), (.tuple #[(.agg #[.bool ton, .int .i64 th, .int .i64 tc, .int .i64 toq, .int .i64 tot, .int .i64 top, .int .i64 tol, .int .i64 tuq, .int .i64 tut, .int .i64 tup, .int .i64 tul]), (.agg #[.int .i64 qq, .int .i64 qt, .int .i64 qp, .int .i64 ql]), (.bool b)]), (.agg #[.bool ton, .int .i64 th, .int .i64 tc, .int .i64 toq, .int .i64 tot, .int .i64 top, .int .i64 tol, .int .i64 tuq, .int .i64 tut, .int .i64 tup, .int .i64 tul]), (.agg #[.int .i64 qq, .int .i64 qt, .int .i64 qp, .int .i64 ql]), t8, (.pointer (some ⟨g9, 0, none⟩)), (.pointer (some ⟨g10, 0, none⟩)), t13, by kernel_rfl, fun _ => rfl, fun _ => rfl, fun _ => rfl, fun _ => rfl, fun _ => rfl, fun h => c8 (listed_old h (by decide)), fun _ => ⟨g9, rfl, lo9, (by simpa using lt9), fun h => Whole.four_far (z9 (listed_same h (by decide))) ((n9_10 e11 e0 _ _ rfl rfl)) (.int .i64 qq) (.int .i64 qt) (.int .i64 qp) (.int .i64 ql), fun h => Whole.four_far (y9 (listed_same h (by decide))) ((n9_10 e11 e0 _ _ rfl rfl)) (.int .i64 qq) (.int .i64 qt) (.int .i64 qp) (.int .i64 ql)⟩, fun h => listed_new (s9 (listed_old h (by decide))), fun _ => ⟨g10, rfl, lo10, (by simpa using lt10), fun h => absurd ((listed_now hun).symm.trans h) (by decide), fun _ => (Whole.four q (.int .i64 qq) (.int .i64 qt) (.int .i64 qp) (.int .i64 ql))⟩, fun _ => listed_new e0, fun h => c13 (listed_old h (by decide)), fun h h' => n9_10 (listed_old h (by decide)) (listed_old h' (by decide))⟩
          · have hd := waits_as (L := [8, 12, 0, 1, 2, 3, 4, 5, 6, 7, 8, 9, 10, 11, 12]) (by kernel_rfl) hd
            simp only [List.all_cons, List.all_nil, Bool.and_true, Bool.and_eq_true] at hd
            obtain ⟨e0, e1, e2, e3, e4, e5, e6, e7, e8, e9, e10, e11, e12, e13, e14⟩ := hd
            obtain rfl := c8 e0
            obtain rfl := c3 e5
            obtain rfl := c4 e6
            obtain rfl := c5 e7
            obtain rfl := c6 e8
            obtain rfl := c7 e9
            obtain ⟨g9, rfl, lo9, lt9, z9, y9⟩ := c9 e11
            obtain ⟨g10, rfl, lo10, lt10, z10, y10⟩ := c10 e12
            refine inv_op rfl (fun K hK => ?_)
            subst ha0
            (try simp only [Act.put, List.getElem_toArray, List.getElem_cons_succ, List.getElem_cons_zero, List.setIfInBounds_toArray, List.set_cons_zero, List.set_cons_succ])
            go_simp
            refine hK.out _ _ ?_
            exact ⟨by simp [hsz], ⟨listed_new k0, listed_new k1, listed_new k2⟩, hB, (.agg #[.int .i64 xq, .int .i64 xt, .int .i64 xp, .int .i64 xl]), (.tuple #[(.agg #[.bool ton, .int .i64 th, .int .i64 tc, .int .i64 toq, .int .i64 tot, .int .i64 top, .int .i64 tol, .int .i64 tuq, .int .i64 tut, .int .i64 tup, .int .i64 tul]), (.agg #[.int .i64 qq, .int .i64 qt, .int .i64 qp, .int .i64 ql]), (.bool b)]), (.tuple #[(.agg #[.bool ton, .int .i64 th, .int .i64 tc, .int .i64 toq, .int .i64 tot, .int .i64 top, .int .i64 tol, .int .i64 tuq, .int .i64 tut, .int .i64 tup, .int .i64 tul]), (.agg #[.int .i64 qq, .int .i64 qt, .int .i64 qp, .int .i64 ql]), (.bool b)]), (.agg #[.bool ton, .int .i64 th, .int .i64 tc, .int .i64 toq, .int .i64 tot, .int .i64 top, .int .i64 tol, .int .i64 tuq, .int .i64 tut, .int .i64 tup, .int .i64 tul]), (.agg #[.int .i64 qq, .int .i64 qt, .int .i64 qp, .int .i64 ql]), (.bool b), (.pointer (some ⟨g9, 0, none⟩)), (.pointer (some ⟨g10, 0, none⟩)), (.bool b), by kernel_rfl, fun _ => rfl, fun _ => rfl, fun _ => rfl, fun _ => rfl, fun _ => rfl, fun _ => rfl, fun _ => ⟨g9, rfl, lo9, lt9, fun h => z9 (listed_same h (by decide)), fun h => y9 (listed_same h (by decide))⟩, fun h => listed_new (s9 (listed_old h (by decide))), fun _ => ⟨g10, rfl, lo10, lt10, fun h => z10 (listed_same h (by decide)), fun h => y10 (listed_same h (by decide))⟩, fun h => listed_new (s10 (listed_old h (by decide))), fun _ => rfl, fun h h' => n9_10 (listed_old h (by decide)) (listed_old h' (by decide))⟩
        · intro l a w hI hr
          obtain ⟨hsz, ⟨k0, k1, k2⟩, hB, t3, t4, t5, t6, t7, t8, t9, t10, t13, rfl, c3, c4, c5, c6, c7, c8, c9, s9, c10, s10, c13, n9_10⟩ := hI
          have k3 := done_listed (i := 3) (n := 14) hsz (by decide) rfl hr (by rw [show waitsFor _ _ 3 = [2] from by kernel_rfl]; simp only [List.all_cons, List.all_nil, Bool.and_true, Bool.and_eq_true]; exact k2)
          have k4 := done_listed (i := 4) (n := 14) hsz (by decide) rfl hr (by rw [show waitsFor _ _ 4 = [0, 3, 3] from by kernel_rfl]; simp only [List.all_cons, List.all_nil, Bool.and_true, Bool.and_eq_true]; exact ⟨k0, k3, k3⟩)
          have k5 := done_listed (i := 5) (n := 14) hsz (by decide) rfl hr (by rw [show waitsFor _ _ 5 = [4] from by kernel_rfl]; simp only [List.all_cons, List.all_nil, Bool.and_true, Bool.and_eq_true]; exact k4)
          have k6 := done_listed (i := 6) (n := 14) hsz (by decide) rfl hr (by rw [show waitsFor _ _ 6 = [5] from by kernel_rfl]; simp only [List.all_cons, List.all_nil, Bool.and_true, Bool.and_eq_true]; exact k5)
          have k7 := done_listed (i := 7) (n := 14) hsz (by decide) rfl hr (by rw [show waitsFor _ _ 7 = [5] from by kernel_rfl]; simp only [List.all_cons, List.all_nil, Bool.and_true, Bool.and_eq_true]; exact k5)
          have k8 := done_listed (i := 8) (n := 14) hsz (by decide) rfl hr (by rw [show waitsFor _ _ 8 = [5] from by kernel_rfl]; simp only [List.all_cons, List.all_nil, Bool.and_true, Bool.and_eq_true]; exact k5)
          have k9 := done_listed (i := 9) (n := 14) hsz (by decide) rfl hr (by rw [show waitsFor _ _ 9 = [] from by kernel_rfl]; rfl)
          have k10 := done_listed (i := 10) (n := 14) hsz (by decide) rfl hr (by rw [show waitsFor _ _ 10 = [] from by kernel_rfl]; rfl)
          have k11 := done_listed (i := 11) (n := 14) hsz (by decide) rfl hr (by rw [show waitsFor _ _ 11 = [9, 6, 4, 0, 1, 2, 3, 4, 5, 6, 9, 10] from by kernel_rfl]; simp only [List.all_cons, List.all_nil, Bool.and_true, Bool.and_eq_true]; exact ⟨k9, k6, k4, k0, k1, k2, k3, k4, k5, k6, k9, k10⟩)
          have k12 := done_listed (i := 12) (n := 14) hsz (by decide) rfl hr (by rw [show waitsFor _ _ 12 = [10, 7, 11, 0, 1, 2, 3, 4, 5, 6, 7, 9, 10, 11] from by kernel_rfl]; simp only [List.all_cons, List.all_nil, Bool.and_true, Bool.and_eq_true]; exact ⟨k10, k7, k11, k0, k1, k2, k3, k4, k5, k6, k7, k9, k10, k11⟩)
          have k13 := done_listed (i := 13) (n := 14) hsz (by decide) rfl hr (by rw [show waitsFor _ _ 13 = [8, 12, 0, 1, 2, 3, 4, 5, 6, 7, 8, 9, 10, 11, 12] from by kernel_rfl]; simp only [List.all_cons, List.all_nil, Bool.and_true, Bool.and_eq_true]; exact ⟨k8, k12, k0, k1, k2, k3, k4, k5, k6, k7, k8, k9, k10, k11, k12⟩)
          obtain rfl := c3 k3
          obtain rfl := c4 k4
          obtain rfl := c5 k5
          obtain rfl := c6 k6
          obtain rfl := c7 k7
          obtain rfl := c8 k8
          obtain rfl := c13 k13
          obtain ⟨gv, rfl, lov, _, _, Wv⟩ := c9 k9
          replace Wv := Wv k11
          obtain ⟨gq, rfl, loq, _, _, Wq⟩ := c10 k10
          replace Wq := Wq k12
          have nevq := n9_10 k9 k10 _ _ rfl rfl
          clear hr k0 k1 k2 k3 k4 k5 k6 k7 k8 k9 k10 k11 k12 k13 s9 s10 n9_10 c3 c4 c5 c6 c7 c8 c9 c10 c13
          subst ha0
          (try simp only [Act.put, List.getElem_toArray, List.getElem_cons_succ, List.getElem_cons_zero, List.setIfInBounds_toArray, List.set_cons_zero, List.set_cons_succ])
          go_wp2_with fail
          go_meet
          exact ⟨rfl, _, _, rfl, rfl, lov, loq, nevq, Wv, Wq, hB⟩
        · refine ⟨rfl, ⟨rfl, rfl, rfl⟩, (Below.refl _ _).drew, a0.tmps.getD 49 undef, a0.tmps.getD 50 undef, a0.tmps.getD 45 undef, a0.tmps.getD 51 undef, a0.tmps.getD 52 undef, a0.tmps.getD 53 undef, a0.tmps.getD 15 undef, a0.tmps.getD 16 undef, a0.tmps.getD 17 undef, ?_, fun h => absurd h (by decide), fun h => absurd h (by decide), fun h => absurd h (by decide), fun h => absurd h (by decide), fun h => absurd h (by decide), fun h => absurd h (by decide), fun h => absurd h (by decide), fun h => absurd h (by decide), fun h => absurd h (by decide), fun h => absurd h (by decide), fun h => absurd h (by decide), fun h => absurd h (by decide)⟩
          subst ha0
          kernel_rfl
      case rest =>
        obtain ⟨rfl, g1_5, g2_5, rfl, rfl, lov5, loq5, nevq, Tv, Tq, bq⟩ := hcut
        obtain ⟨wc5, rfl⟩ : ∃ wd : World, wd = wc := ⟨_, rfl⟩
        have Ssc5 := (Ps.out).below bq Ps.out.lt
        have Src5 := (Pr.out).below bq Pr.out.lt
        have Sxc5 := (Px.out).below bq Px.out.lt
        have Stc5 := (Pt.out).below bq Pt.out.lt
        have Snc5 := (Pn.out).below bq Pn.out.lt
        have Svc5 := Tv
        have Sqc5 := Tq
        have HBc5 := Lib.hid (PB.out.trans (bq.mono PB.out.size))
        clear K6 bq Ps Pr Px Pt Pn Tv Tq PB
        have lsc5 := Ssc5.lt
        have lrc5 := Src5.lt
        have lxc5 := Sxc5.lt
        have ltc5 := Stc5.lt
        have lnc5 := Snc5.lt
        have lvc5 := Svc5.lt
        have lqc5 := Sqc5.lt
        have sc5_0 := Ssc5.cell 0
        have fsc5_0 := Ssc5.free 0
        have sc5_1 := Ssc5.cell 1
        have fsc5_1 := Ssc5.free 1
        have sc5_2 := Ssc5.cell 2
        have fsc5_2 := Ssc5.free 2
        have sc5_3 := Ssc5.cell 3
        have fsc5_3 := Ssc5.free 3
        have sc5_4 := Ssc5.cell 4
        have fsc5_4 := Ssc5.free 4
        have sc5_5 := Ssc5.cell 5
        have fsc5_5 := Ssc5.free 5
        have sc5_6 := Ssc5.cell 6
        have fsc5_6 := Ssc5.free 6
        have sc5_7 := Ssc5.cell 7
        have fsc5_7 := Ssc5.free 7
        have sc5_8 := Ssc5.cell 8
        have fsc5_8 := Ssc5.free 8
        have sc5_9 := Ssc5.cell 9
        have fsc5_9 := Ssc5.free 9
        have sc5_10 := Ssc5.cell 10
        have fsc5_10 := Ssc5.free 10
        have rc5_0 := Src5.cell 0
        have frc5_0 := Src5.free 0
        have rc5_1 := Src5.cell 1
        have frc5_1 := Src5.free 1
        have rc5_2 := Src5.cell 2
        have frc5_2 := Src5.free 2
        have rc5_3 := Src5.cell 3
        have frc5_3 := Src5.free 3
        have rc5_4 := Src5.cell 4
        have frc5_4 := Src5.free 4
        have rc5_5 := Src5.cell 5
        have frc5_5 := Src5.free 5
        have rc5_6 := Src5.cell 6
        have frc5_6 := Src5.free 6
        have rc5_7 := Src5.cell 7
        have frc5_7 := Src5.free 7
        have rc5_8 := Src5.cell 8
        have frc5_8 := Src5.free 8
        have rc5_9 := Src5.cell 9
        have frc5_9 := Src5.free 9
        have rc5_10 := Src5.cell 10
        have frc5_10 := Src5.free 10
        have tc5_0 := Stc5.cell 0
        have tc5_1 := Stc5.cell 1
        have tc5_2 := Stc5.cell 2
        have tc5_3 := Stc5.cell 3
        have tc5_4 := Stc5.cell 4
        have tc5_5 := Stc5.cell 5
        have tc5_6 := Stc5.cell 6
        have tc5_7 := Stc5.cell 7
        have tc5_8 := Stc5.cell 8
        have tc5_9 := Stc5.cell 9
        have tc5_10 := Stc5.cell 10
        have vc5_0 := Svc5.cell 0
        have vc5_1 := Svc5.cell 1
        have vc5_2 := Svc5.cell 2
        have vc5_3 := Svc5.cell 3
        have vc5_4 := Svc5.cell 4
        have vc5_5 := Svc5.cell 5
        have vc5_6 := Svc5.cell 6
        have vc5_7 := Svc5.cell 7
        have vc5_8 := Svc5.cell 8
        have vc5_9 := Svc5.cell 9
        have vc5_10 := Svc5.cell 10
        replace Ssc5 := Lib.hid Ssc5
        replace Src5 := Lib.hid Src5
        replace Sxc5 := Lib.hid Sxc5
        replace Stc5 := Lib.hid Stc5
        replace Snc5 := Lib.hid Snc5
        replace Svc5 := Lib.hid Svc5
        replace Sqc5 := Lib.hid Sqc5
        have EN := EQ.out
        cases b
        · go_upto_region 17 with fail
          obtain ⟨wf6, hwf⟩ : ∃ z, z = ((((((((((((((((((((((wc5.setCell ⟨gs, 0, none⟩ (.bool ton)).setCell ⟨gs, 1, none⟩ (.int .i64 th)).setCell ⟨gs, 2, none⟩ (.int .i64 tc)).setCell ⟨gs, 3, none⟩ (.int .u16 toq)).setCell ⟨gs, 4, none⟩ (.int .u32 tot)).setCell ⟨gs, 5, none⟩ (.int .u16 top)).setCell ⟨gs, 6, none⟩ (.int .u8 tol)).setCell ⟨gs, 7, none⟩ (.int .u16 tuq)).setCell ⟨gs, 8, none⟩ (.int .u32 tut)).setCell ⟨gs, 9, none⟩ (.int .u16 tup)).setCell ⟨gs, 10, none⟩ (.int .u8 tul)).setCell ⟨gr, 0, none⟩ (.bool ton)).setCell ⟨gr, 1, none⟩ (.int .i64 th)).setCell ⟨gr, 2, none⟩ (.int .i64 tc)).setCell ⟨gr, 3, none⟩ (.int .i64 toq)).setCell ⟨gr, 4, none⟩ (.int .i64 tot)).setCell ⟨gr, 5, none⟩ (.int .i64 top)).setCell ⟨gr, 6, none⟩ (.int .i64 tol)).setCell ⟨gr, 7, none⟩ (.int .i64 tuq)).setCell ⟨gr, 8, none⟩ (.int .i64 tut)).setCell ⟨gr, 9, none⟩ (.int .i64 tup)).setCell ⟨gr, 10, none⟩ (.int .i64 tul)) := ⟨_, rfl⟩
          have Ssf6 := (Whole.eleven_far ((Whole.eleven (Ssc5.out) (.bool ton) (.int .i64 th) (.int .i64 tc) (.int .u16 toq) (.int .u32 tot) (.int .u16 top) (.int .u8 tol) (.int .u16 tuq) (.int .u32 tut) (.int .u16 tup) (.int .u8 tul))) (show gs ≠ gr from by omega) (.bool ton) (.int .i64 th) (.int .i64 tc) (.int .i64 toq) (.int .i64 tot) (.int .i64 top) (.int .i64 tol) (.int .i64 tuq) (.int .i64 tut) (.int .i64 tup) (.int .i64 tul))
          have Srf6 := (Whole.eleven ((Whole.eleven_far (Src5.out) (show gr ≠ gs from by omega) (.bool ton) (.int .i64 th) (.int .i64 tc) (.int .u16 toq) (.int .u32 tot) (.int .u16 top) (.int .u8 tol) (.int .u16 tuq) (.int .u32 tut) (.int .u16 tup) (.int .u8 tul))) (.bool ton) (.int .i64 th) (.int .i64 tc) (.int .i64 toq) (.int .i64 tot) (.int .i64 top) (.int .i64 tol) (.int .i64 tuq) (.int .i64 tut) (.int .i64 tup) (.int .i64 tul))
          have Sxf6 := (Whole.eleven_far ((Whole.eleven_far (Sxc5.out) (show wq.heap.size ≠ gs from by omega) (.bool ton) (.int .i64 th) (.int .i64 tc) (.int .u16 toq) (.int .u32 tot) (.int .u16 top) (.int .u8 tol) (.int .u16 tuq) (.int .u32 tut) (.int .u16 tup) (.int .u8 tul))) (show wq.heap.size ≠ gr from by omega) (.bool ton) (.int .i64 th) (.int .i64 tc) (.int .i64 toq) (.int .i64 tot) (.int .i64 top) (.int .i64 tol) (.int .i64 tuq) (.int .i64 tut) (.int .i64 tup) (.int .i64 tul))
          have Stf6 := (Whole.eleven_far ((Whole.eleven_far (Stc5.out) (show w2.heap.size ≠ gs from by omega) (.bool ton) (.int .i64 th) (.int .i64 tc) (.int .u16 toq) (.int .u32 tot) (.int .u16 top) (.int .u8 tol) (.int .u16 tuq) (.int .u32 tut) (.int .u16 tup) (.int .u8 tul))) (show w2.heap.size ≠ gr from by omega) (.bool ton) (.int .i64 th) (.int .i64 tc) (.int .i64 toq) (.int .i64 tot) (.int .i64 top) (.int .i64 tol) (.int .i64 tuq) (.int .i64 tut) (.int .i64 tup) (.int .i64 tul))
          have Snf6 := (Whole.eleven_far ((Whole.eleven_far (Snc5.out) (show w2.heap.size + 1 ≠ gs from by omega) (.bool ton) (.int .i64 th) (.int .i64 tc) (.int .u16 toq) (.int .u32 tot) (.int .u16 top) (.int .u8 tol) (.int .u16 tuq) (.int .u32 tut) (.int .u16 tup) (.int .u8 tul))) (show w2.heap.size + 1 ≠ gr from by omega) (.bool ton) (.int .i64 th) (.int .i64 tc) (.int .i64 toq) (.int .i64 tot) (.int .i64 top) (.int .i64 tol) (.int .i64 tuq) (.int .i64 tut) (.int .i64 tup) (.int .i64 tul))
          have Svf6 := (Whole.eleven_far ((Whole.eleven_far (Svc5.out) (show g1_5 ≠ gs from by omega) (.bool ton) (.int .i64 th) (.int .i64 tc) (.int .u16 toq) (.int .u32 tot) (.int .u16 top) (.int .u8 tol) (.int .u16 tuq) (.int .u32 tut) (.int .u16 tup) (.int .u8 tul))) (show g1_5 ≠ gr from by omega) (.bool ton) (.int .i64 th) (.int .i64 tc) (.int .i64 toq) (.int .i64 tot) (.int .i64 top) (.int .i64 tol) (.int .i64 tuq) (.int .i64 tut) (.int .i64 tup) (.int .i64 tul))
          have Sqf6 := (Whole.eleven_far ((Whole.eleven_far (Sqc5.out) (show g2_5 ≠ gs from by omega) (.bool ton) (.int .i64 th) (.int .i64 tc) (.int .u16 toq) (.int .u32 tot) (.int .u16 top) (.int .u8 tol) (.int .u16 tuq) (.int .u32 tut) (.int .u16 tup) (.int .u8 tul))) (show g2_5 ≠ gr from by omega) (.bool ton) (.int .i64 th) (.int .i64 tc) (.int .i64 toq) (.int .i64 tot) (.int .i64 top) (.int .i64 tol) (.int .i64 tuq) (.int .i64 tut) (.int .i64 tup) (.int .i64 tul))
          have HBf6 := (eleven_set ((eleven_set (HBc5.out) (show w.heap.size ≤ gs from by omega) (.bool ton) (.int .i64 th) (.int .i64 tc) (.int .u16 toq) (.int .u32 tot) (.int .u16 top) (.int .u8 tol) (.int .u16 tuq) (.int .u32 tut) (.int .u16 tup) (.int .u8 tul))) (show w.heap.size ≤ gr from by omega) (.bool ton) (.int .i64 th) (.int .i64 tc) (.int .i64 toq) (.int .i64 tot) (.int .i64 top) (.int .i64 tol) (.int .i64 tuq) (.int .i64 tut) (.int .i64 tup) (.int .i64 tul))
          rw [← hwf] at Ssf6 Srf6 Sxf6 Stf6 Snf6 Svf6 Sqf6 HBf6 ⊢
          clear hwf
          clear sc5_0 fsc5_0 sc5_1 fsc5_1 sc5_2 fsc5_2 sc5_3 fsc5_3 sc5_4 fsc5_4 sc5_5 fsc5_5 sc5_6 fsc5_6 sc5_7 fsc5_7 sc5_8 fsc5_8 sc5_9 fsc5_9 sc5_10 fsc5_10 rc5_0 frc5_0 rc5_1 frc5_1 rc5_2 frc5_2 rc5_3 frc5_3 rc5_4 frc5_4 rc5_5 frc5_5 rc5_6 frc5_6 rc5_7 frc5_7 rc5_8 frc5_8 rc5_9 frc5_9 rc5_10 frc5_10 tc5_0 tc5_1 tc5_2 tc5_3 tc5_4 tc5_5 tc5_6 tc5_7 tc5_8 tc5_9 tc5_10 vc5_0 vc5_1 vc5_2 vc5_3 vc5_4 vc5_5 vc5_6 vc5_7 vc5_8 vc5_9 vc5_10 Ssc5 Src5 Sxc5 Stc5 Snc5 Svc5 Sqc5 HBc5
          have lsf6 := Ssf6.lt
          have lrf6 := Srf6.lt
          have lxf6 := Sxf6.lt
          have ltf6 := Stf6.lt
          have lnf6 := Snf6.lt
          have lvf6 := Svf6.lt
          have lqf6 := Sqf6.lt
          replace HBf6 := Lib.hid HBf6
          replace Ssf6 := Lib.hid Ssf6
          replace Srf6 := Lib.hid Srf6
          replace Sxf6 := Lib.hid Sxf6
          replace Stf6 := Lib.hid Stf6
          replace Snf6 := Lib.hid Snf6
          replace Svf6 := Lib.hid Svf6
          replace Sqf6 := Lib.hid Sqf6
          have KS := Lib.hid (fun w' (b' : Below wf6.heap.size wf6 w') => show (fun w' => w'.cell? ⟨w2.heap.size + 1, 0, none⟩ = some (.int .u16 qq) ∧ w'.cell? ⟨w2.heap.size + 1, 1, none⟩ = some (.int .u32 qt) ∧ w'.cell? ⟨w2.heap.size + 1, 2, none⟩ = some (.int .u16 qp) ∧ w'.cell? ⟨w2.heap.size + 1, 3, none⟩ = some (.int .u8 ql) ∧ w'.cell? ⟨g2_5, 0, none⟩ = some (.int .i64 qq) ∧ w'.cell? ⟨g2_5, 1, none⟩ = some (.int .i64 qt) ∧ w'.cell? ⟨g2_5, 2, none⟩ = some (.int .i64 qp) ∧ w'.cell? ⟨g2_5, 3, none⟩ = some (.int .i64 ql)) w' from ⟨(Snf6.out.below b' Snf6.out.lt).cell 0, (Snf6.out.below b' Snf6.out.lt).cell 1, (Snf6.out.below b' Snf6.out.lt).cell 2, (Snf6.out.below b' Snf6.out.lt).cell 3, (Sqf6.out.below b' Sqf6.out.lt).cell 0, (Sqf6.out.below b' Sqf6.out.lt).cell 1, (Sqf6.out.below b' Sqf6.out.lt).cell 2, (Sqf6.out.below b' Sqf6.out.lt).cell 3⟩)
          have hK0 := KS.out wf6 (Below.refl _ _)
          go_region_held3 (fun w' => w'.cell? ⟨w2.heap.size + 1, 0, none⟩ = some (.int .u16 qq) ∧ w'.cell? ⟨w2.heap.size + 1, 1, none⟩ = some (.int .u32 qt) ∧ w'.cell? ⟨w2.heap.size + 1, 2, none⟩ = some (.int .u16 qp) ∧ w'.cell? ⟨w2.heap.size + 1, 3, none⟩ = some (.int .u8 ql) ∧ w'.cell? ⟨g2_5, 0, none⟩ = some (.int .i64 qq) ∧ w'.cell? ⟨g2_5, 1, none⟩ = some (.int .i64 qt) ∧ w'.cell? ⟨g2_5, 2, none⟩ = some (.int .i64 qp) ∧ w'.cell? ⟨g2_5, 3, none⟩ = some (.int .i64 ql))
            (first | exact hK0 | exact KS.out _ BV1 | exact KS.out _ (Below.refl _ _).drew)
            (first | (go_at_call 14; with_reducible refine (VQ.out _).mono ?_; rintro e v6_1 ⟨rfl, bv1⟩; have BV1 := ((Below.refl wf6.heap.size wf6).drew).trans (bv1.mono ((Below.refl wf6.heap.size wf6).drew).size)))
          have bb := BV1
          have Ssg6 := (Ssf6.out).below bb (Ssf6.out).lt
          have Srg6 := (Srf6.out).below bb (Srf6.out).lt
          have Sxg6 := (Sxf6.out).below bb (Sxf6.out).lt
          have Stg6 := (Stf6.out).below bb (Stf6.out).lt
          have Sng6 := (Snf6.out).below bb (Snf6.out).lt
          have Svg6 := (Svf6.out).below bb (Svf6.out).lt
          have Sqg6 := (Sqf6.out).below bb (Sqf6.out).lt
          have HBg6 := Lib.hid ((HBf6.out).trans (bb.mono (HBf6.out).size))
          clear bb Ssf6 Srf6 Sxf6 Stf6 Snf6 Svf6 Sqf6 HBf6
          have lsg6 := Ssg6.lt
          have lrg6 := Srg6.lt
          have lxg6 := Sxg6.lt
          have ltg6 := Stg6.lt
          have lng6 := Sng6.lt
          have lvg6 := Svg6.lt
          have lqg6 := Sqg6.lt
          clear KS hK0 bv1 BV1
          clear EN
          replace Ssg6 := Lib.hid Ssg6
          replace Srg6 := Lib.hid Srg6
          replace Sxg6 := Lib.hid Sxg6
          replace Stg6 := Lib.hid Stg6
          replace Sng6 := Lib.hid Sng6
          replace Svg6 := Lib.hid Svg6
          replace Sqg6 := Lib.hid Sqg6
          have EN := ET.out
          go_upto_region 29 with fail
          obtain ⟨wf7, hwf⟩ : ∃ z, z = v6_1 := ⟨_, rfl⟩
          have Ssf7 := Ssg6.out
          have Srf7 := Srg6.out
          have Sxf7 := Sxg6.out
          have Stf7 := Stg6.out
          have Snf7 := Sng6.out
          have Svf7 := Svg6.out
          have Sqf7 := Sqg6.out
          have HBf7 := HBg6.out
          rw [← hwf] at Ssf7 Srf7 Sxf7 Stf7 Snf7 Svf7 Sqf7 HBf7 ⊢
          clear hwf
          clear Ssg6 Srg6 Sxg6 Stg6 Sng6 Svg6 Sqg6 HBg6
          have lsf7 := Ssf7.lt
          have lrf7 := Srf7.lt
          have lxf7 := Sxf7.lt
          have ltf7 := Stf7.lt
          have lnf7 := Snf7.lt
          have lvf7 := Svf7.lt
          have lqf7 := Sqf7.lt
          replace HBf7 := Lib.hid HBf7
          replace Ssf7 := Lib.hid Ssf7
          replace Srf7 := Lib.hid Srf7
          replace Sxf7 := Lib.hid Sxf7
          replace Stf7 := Lib.hid Stf7
          replace Snf7 := Lib.hid Snf7
          replace Svf7 := Lib.hid Svf7
          replace Sqf7 := Lib.hid Sqf7
          have KS := Lib.hid (fun w' (b' : Below wf7.heap.size wf7 w') => show (fun w' => w'.cell? ⟨gs, 0, none⟩ = some (.bool ton) ∧ w'.cell? ⟨gs, 1, none⟩ = some (.int .i64 th) ∧ w'.cell? ⟨gs, 2, none⟩ = some (.int .i64 tc) ∧ w'.cell? ⟨gs, 3, none⟩ = some (.int .u16 toq) ∧ w'.cell? ⟨gs, 4, none⟩ = some (.int .u32 tot) ∧ w'.cell? ⟨gs, 5, none⟩ = some (.int .u16 top) ∧ w'.cell? ⟨gs, 6, none⟩ = some (.int .u8 tol) ∧ w'.cell? ⟨gs, 7, none⟩ = some (.int .u16 tuq) ∧ w'.cell? ⟨gs, 8, none⟩ = some (.int .u32 tut) ∧ w'.cell? ⟨gs, 9, none⟩ = some (.int .u16 tup) ∧ w'.cell? ⟨gs, 10, none⟩ = some (.int .u8 tul) ∧ w'.cell? ⟨gr, 0, none⟩ = some (.bool ton) ∧ w'.cell? ⟨gr, 1, none⟩ = some (.int .i64 th) ∧ w'.cell? ⟨gr, 2, none⟩ = some (.int .i64 tc) ∧ w'.cell? ⟨gr, 3, none⟩ = some (.int .i64 toq) ∧ w'.cell? ⟨gr, 4, none⟩ = some (.int .i64 tot) ∧ w'.cell? ⟨gr, 5, none⟩ = some (.int .i64 top) ∧ w'.cell? ⟨gr, 6, none⟩ = some (.int .i64 tol) ∧ w'.cell? ⟨gr, 7, none⟩ = some (.int .i64 tuq) ∧ w'.cell? ⟨gr, 8, none⟩ = some (.int .i64 tut) ∧ w'.cell? ⟨gr, 9, none⟩ = some (.int .i64 tup) ∧ w'.cell? ⟨gr, 10, none⟩ = some (.int .i64 tul)) w' from ⟨(Ssf7.out.below b' Ssf7.out.lt).cell 0, (Ssf7.out.below b' Ssf7.out.lt).cell 1, (Ssf7.out.below b' Ssf7.out.lt).cell 2, (Ssf7.out.below b' Ssf7.out.lt).cell 3, (Ssf7.out.below b' Ssf7.out.lt).cell 4, (Ssf7.out.below b' Ssf7.out.lt).cell 5, (Ssf7.out.below b' Ssf7.out.lt).cell 6, (Ssf7.out.below b' Ssf7.out.lt).cell 7, (Ssf7.out.below b' Ssf7.out.lt).cell 8, (Ssf7.out.below b' Ssf7.out.lt).cell 9, (Ssf7.out.below b' Ssf7.out.lt).cell 10, (Srf7.out.below b' Srf7.out.lt).cell 0, (Srf7.out.below b' Srf7.out.lt).cell 1, (Srf7.out.below b' Srf7.out.lt).cell 2, (Srf7.out.below b' Srf7.out.lt).cell 3, (Srf7.out.below b' Srf7.out.lt).cell 4, (Srf7.out.below b' Srf7.out.lt).cell 5, (Srf7.out.below b' Srf7.out.lt).cell 6, (Srf7.out.below b' Srf7.out.lt).cell 7, (Srf7.out.below b' Srf7.out.lt).cell 8, (Srf7.out.below b' Srf7.out.lt).cell 9, (Srf7.out.below b' Srf7.out.lt).cell 10⟩)
          have hK0 := KS.out wf7 (Below.refl _ _)
          go_region_held3 (fun w' => w'.cell? ⟨gs, 0, none⟩ = some (.bool ton) ∧ w'.cell? ⟨gs, 1, none⟩ = some (.int .i64 th) ∧ w'.cell? ⟨gs, 2, none⟩ = some (.int .i64 tc) ∧ w'.cell? ⟨gs, 3, none⟩ = some (.int .u16 toq) ∧ w'.cell? ⟨gs, 4, none⟩ = some (.int .u32 tot) ∧ w'.cell? ⟨gs, 5, none⟩ = some (.int .u16 top) ∧ w'.cell? ⟨gs, 6, none⟩ = some (.int .u8 tol) ∧ w'.cell? ⟨gs, 7, none⟩ = some (.int .u16 tuq) ∧ w'.cell? ⟨gs, 8, none⟩ = some (.int .u32 tut) ∧ w'.cell? ⟨gs, 9, none⟩ = some (.int .u16 tup) ∧ w'.cell? ⟨gs, 10, none⟩ = some (.int .u8 tul) ∧ w'.cell? ⟨gr, 0, none⟩ = some (.bool ton) ∧ w'.cell? ⟨gr, 1, none⟩ = some (.int .i64 th) ∧ w'.cell? ⟨gr, 2, none⟩ = some (.int .i64 tc) ∧ w'.cell? ⟨gr, 3, none⟩ = some (.int .i64 toq) ∧ w'.cell? ⟨gr, 4, none⟩ = some (.int .i64 tot) ∧ w'.cell? ⟨gr, 5, none⟩ = some (.int .i64 top) ∧ w'.cell? ⟨gr, 6, none⟩ = some (.int .i64 tol) ∧ w'.cell? ⟨gr, 7, none⟩ = some (.int .i64 tuq) ∧ w'.cell? ⟨gr, 8, none⟩ = some (.int .i64 tut) ∧ w'.cell? ⟨gr, 9, none⟩ = some (.int .i64 tup) ∧ w'.cell? ⟨gr, 10, none⟩ = some (.int .i64 tul))
            (first | exact hK0 | exact KS.out _ BV1 | exact KS.out _ (Below.refl _ _).drew)
            (first | (go_at_call 13; with_reducible refine (OE.out _).mono ?_; rintro e v7_1 ⟨rfl, bv1⟩; have BV1 := ((Below.refl wf7.heap.size wf7).drew).trans (bv1.mono ((Below.refl wf7.heap.size wf7).drew).size)))
          have bb := BV1
          have Ssg7 := (Ssf7.out).below bb (Ssf7.out).lt
          have Srg7 := (Srf7.out).below bb (Srf7.out).lt
          have Sxg7 := (Sxf7.out).below bb (Sxf7.out).lt
          have Stg7 := (Stf7.out).below bb (Stf7.out).lt
          have Sng7 := (Snf7.out).below bb (Snf7.out).lt
          have Svg7 := (Svf7.out).below bb (Svf7.out).lt
          have Sqg7 := (Sqf7.out).below bb (Sqf7.out).lt
          have HBg7 := Lib.hid ((HBf7.out).trans (bb.mono (HBf7.out).size))
          clear bb Ssf7 Srf7 Sxf7 Stf7 Snf7 Svf7 Sqf7 HBf7
          have lsg7 := Ssg7.lt
          have lrg7 := Srg7.lt
          have lxg7 := Sxg7.lt
          have ltg7 := Stg7.lt
          have lng7 := Sng7.lt
          have lvg7 := Svg7.lt
          have lqg7 := Sqg7.lt
          clear KS hK0 bv1 BV1
          replace Ssg7 := Lib.hid Ssg7
          replace Srg7 := Lib.hid Srg7
          replace Sxg7 := Lib.hid Sxg7
          replace Stg7 := Lib.hid Stg7
          replace Sng7 := Lib.hid Sng7
          replace Svg7 := Lib.hid Svg7
          replace Sqg7 := Lib.hid Sqg7
          go_wp2_with fail
          go_wp2
          go_roundw
          case rel => exact ⟨k + 1, ⟨ton, th, tc, ⟨toq, tot, top, tol⟩, ⟨tuq, tut, tup, tul⟩⟩, by omega, by go_num, Lib.hid (Ssg7.out), Lib.hid (Srg7.out), GE, HBg7.out⟩
          case measure => simp [intOf]; omega
        · go_upto_region 17 with fail
          obtain ⟨wf6, hwf⟩ : ∃ z, z = ((((((((((((((((((((((wc5.setCell ⟨gs, 0, none⟩ (.bool ton)).setCell ⟨gs, 1, none⟩ (.int .i64 th)).setCell ⟨gs, 2, none⟩ (.int .i64 tc)).setCell ⟨gs, 3, none⟩ (.int .u16 toq)).setCell ⟨gs, 4, none⟩ (.int .u32 tot)).setCell ⟨gs, 5, none⟩ (.int .u16 top)).setCell ⟨gs, 6, none⟩ (.int .u8 tol)).setCell ⟨gs, 7, none⟩ (.int .u16 tuq)).setCell ⟨gs, 8, none⟩ (.int .u32 tut)).setCell ⟨gs, 9, none⟩ (.int .u16 tup)).setCell ⟨gs, 10, none⟩ (.int .u8 tul)).setCell ⟨gr, 0, none⟩ (.bool ton)).setCell ⟨gr, 1, none⟩ (.int .i64 th)).setCell ⟨gr, 2, none⟩ (.int .i64 tc)).setCell ⟨gr, 3, none⟩ (.int .i64 toq)).setCell ⟨gr, 4, none⟩ (.int .i64 tot)).setCell ⟨gr, 5, none⟩ (.int .i64 top)).setCell ⟨gr, 6, none⟩ (.int .i64 tol)).setCell ⟨gr, 7, none⟩ (.int .i64 tuq)).setCell ⟨gr, 8, none⟩ (.int .i64 tut)).setCell ⟨gr, 9, none⟩ (.int .i64 tup)).setCell ⟨gr, 10, none⟩ (.int .i64 tul)) := ⟨_, rfl⟩
          have Ssf6 := (Whole.eleven_far ((Whole.eleven (Ssc5.out) (.bool ton) (.int .i64 th) (.int .i64 tc) (.int .u16 toq) (.int .u32 tot) (.int .u16 top) (.int .u8 tol) (.int .u16 tuq) (.int .u32 tut) (.int .u16 tup) (.int .u8 tul))) (show gs ≠ gr from by omega) (.bool ton) (.int .i64 th) (.int .i64 tc) (.int .i64 toq) (.int .i64 tot) (.int .i64 top) (.int .i64 tol) (.int .i64 tuq) (.int .i64 tut) (.int .i64 tup) (.int .i64 tul))
          have Srf6 := (Whole.eleven ((Whole.eleven_far (Src5.out) (show gr ≠ gs from by omega) (.bool ton) (.int .i64 th) (.int .i64 tc) (.int .u16 toq) (.int .u32 tot) (.int .u16 top) (.int .u8 tol) (.int .u16 tuq) (.int .u32 tut) (.int .u16 tup) (.int .u8 tul))) (.bool ton) (.int .i64 th) (.int .i64 tc) (.int .i64 toq) (.int .i64 tot) (.int .i64 top) (.int .i64 tol) (.int .i64 tuq) (.int .i64 tut) (.int .i64 tup) (.int .i64 tul))
          have Sxf6 := (Whole.eleven_far ((Whole.eleven_far (Sxc5.out) (show wq.heap.size ≠ gs from by omega) (.bool ton) (.int .i64 th) (.int .i64 tc) (.int .u16 toq) (.int .u32 tot) (.int .u16 top) (.int .u8 tol) (.int .u16 tuq) (.int .u32 tut) (.int .u16 tup) (.int .u8 tul))) (show wq.heap.size ≠ gr from by omega) (.bool ton) (.int .i64 th) (.int .i64 tc) (.int .i64 toq) (.int .i64 tot) (.int .i64 top) (.int .i64 tol) (.int .i64 tuq) (.int .i64 tut) (.int .i64 tup) (.int .i64 tul))
          have Stf6 := (Whole.eleven_far ((Whole.eleven_far (Stc5.out) (show w2.heap.size ≠ gs from by omega) (.bool ton) (.int .i64 th) (.int .i64 tc) (.int .u16 toq) (.int .u32 tot) (.int .u16 top) (.int .u8 tol) (.int .u16 tuq) (.int .u32 tut) (.int .u16 tup) (.int .u8 tul))) (show w2.heap.size ≠ gr from by omega) (.bool ton) (.int .i64 th) (.int .i64 tc) (.int .i64 toq) (.int .i64 tot) (.int .i64 top) (.int .i64 tol) (.int .i64 tuq) (.int .i64 tut) (.int .i64 tup) (.int .i64 tul))
          have Snf6 := (Whole.eleven_far ((Whole.eleven_far (Snc5.out) (show w2.heap.size + 1 ≠ gs from by omega) (.bool ton) (.int .i64 th) (.int .i64 tc) (.int .u16 toq) (.int .u32 tot) (.int .u16 top) (.int .u8 tol) (.int .u16 tuq) (.int .u32 tut) (.int .u16 tup) (.int .u8 tul))) (show w2.heap.size + 1 ≠ gr from by omega) (.bool ton) (.int .i64 th) (.int .i64 tc) (.int .i64 toq) (.int .i64 tot) (.int .i64 top) (.int .i64 tol) (.int .i64 tuq) (.int .i64 tut) (.int .i64 tup) (.int .i64 tul))
          have Svf6 := (Whole.eleven_far ((Whole.eleven_far (Svc5.out) (show g1_5 ≠ gs from by omega) (.bool ton) (.int .i64 th) (.int .i64 tc) (.int .u16 toq) (.int .u32 tot) (.int .u16 top) (.int .u8 tol) (.int .u16 tuq) (.int .u32 tut) (.int .u16 tup) (.int .u8 tul))) (show g1_5 ≠ gr from by omega) (.bool ton) (.int .i64 th) (.int .i64 tc) (.int .i64 toq) (.int .i64 tot) (.int .i64 top) (.int .i64 tol) (.int .i64 tuq) (.int .i64 tut) (.int .i64 tup) (.int .i64 tul))
          have Sqf6 := (Whole.eleven_far ((Whole.eleven_far (Sqc5.out) (show g2_5 ≠ gs from by omega) (.bool ton) (.int .i64 th) (.int .i64 tc) (.int .u16 toq) (.int .u32 tot) (.int .u16 top) (.int .u8 tol) (.int .u16 tuq) (.int .u32 tut) (.int .u16 tup) (.int .u8 tul))) (show g2_5 ≠ gr from by omega) (.bool ton) (.int .i64 th) (.int .i64 tc) (.int .i64 toq) (.int .i64 tot) (.int .i64 top) (.int .i64 tol) (.int .i64 tuq) (.int .i64 tut) (.int .i64 tup) (.int .i64 tul))
          have HBf6 := (eleven_set ((eleven_set (HBc5.out) (show w.heap.size ≤ gs from by omega) (.bool ton) (.int .i64 th) (.int .i64 tc) (.int .u16 toq) (.int .u32 tot) (.int .u16 top) (.int .u8 tol) (.int .u16 tuq) (.int .u32 tut) (.int .u16 tup) (.int .u8 tul))) (show w.heap.size ≤ gr from by omega) (.bool ton) (.int .i64 th) (.int .i64 tc) (.int .i64 toq) (.int .i64 tot) (.int .i64 top) (.int .i64 tol) (.int .i64 tuq) (.int .i64 tut) (.int .i64 tup) (.int .i64 tul))
          rw [← hwf] at Ssf6 Srf6 Sxf6 Stf6 Snf6 Svf6 Sqf6 HBf6 ⊢
          clear hwf
          clear sc5_0 fsc5_0 sc5_1 fsc5_1 sc5_2 fsc5_2 sc5_3 fsc5_3 sc5_4 fsc5_4 sc5_5 fsc5_5 sc5_6 fsc5_6 sc5_7 fsc5_7 sc5_8 fsc5_8 sc5_9 fsc5_9 sc5_10 fsc5_10 rc5_0 frc5_0 rc5_1 frc5_1 rc5_2 frc5_2 rc5_3 frc5_3 rc5_4 frc5_4 rc5_5 frc5_5 rc5_6 frc5_6 rc5_7 frc5_7 rc5_8 frc5_8 rc5_9 frc5_9 rc5_10 frc5_10 tc5_0 tc5_1 tc5_2 tc5_3 tc5_4 tc5_5 tc5_6 tc5_7 tc5_8 tc5_9 tc5_10 vc5_0 vc5_1 vc5_2 vc5_3 vc5_4 vc5_5 vc5_6 vc5_7 vc5_8 vc5_9 vc5_10 Ssc5 Src5 Sxc5 Stc5 Snc5 Svc5 Sqc5 HBc5
          have lsf6 := Ssf6.lt
          have lrf6 := Srf6.lt
          have lxf6 := Sxf6.lt
          have ltf6 := Stf6.lt
          have lnf6 := Snf6.lt
          have lvf6 := Svf6.lt
          have lqf6 := Sqf6.lt
          replace HBf6 := Lib.hid HBf6
          replace Ssf6 := Lib.hid Ssf6
          replace Srf6 := Lib.hid Srf6
          replace Sxf6 := Lib.hid Sxf6
          replace Stf6 := Lib.hid Stf6
          replace Snf6 := Lib.hid Snf6
          replace Svf6 := Lib.hid Svf6
          replace Sqf6 := Lib.hid Sqf6
          have KS := Lib.hid (fun w' (b' : Below wf6.heap.size wf6 w') => show (fun w' => w'.cell? ⟨w2.heap.size + 1, 0, none⟩ = some (.int .u16 qq) ∧ w'.cell? ⟨w2.heap.size + 1, 1, none⟩ = some (.int .u32 qt) ∧ w'.cell? ⟨w2.heap.size + 1, 2, none⟩ = some (.int .u16 qp) ∧ w'.cell? ⟨w2.heap.size + 1, 3, none⟩ = some (.int .u8 ql) ∧ w'.cell? ⟨g2_5, 0, none⟩ = some (.int .i64 qq) ∧ w'.cell? ⟨g2_5, 1, none⟩ = some (.int .i64 qt) ∧ w'.cell? ⟨g2_5, 2, none⟩ = some (.int .i64 qp) ∧ w'.cell? ⟨g2_5, 3, none⟩ = some (.int .i64 ql)) w' from ⟨(Snf6.out.below b' Snf6.out.lt).cell 0, (Snf6.out.below b' Snf6.out.lt).cell 1, (Snf6.out.below b' Snf6.out.lt).cell 2, (Snf6.out.below b' Snf6.out.lt).cell 3, (Sqf6.out.below b' Sqf6.out.lt).cell 0, (Sqf6.out.below b' Sqf6.out.lt).cell 1, (Sqf6.out.below b' Sqf6.out.lt).cell 2, (Sqf6.out.below b' Sqf6.out.lt).cell 3⟩)
          have hK0 := KS.out wf6 (Below.refl _ _)
          go_region_held3 (fun w' => w'.cell? ⟨w2.heap.size + 1, 0, none⟩ = some (.int .u16 qq) ∧ w'.cell? ⟨w2.heap.size + 1, 1, none⟩ = some (.int .u32 qt) ∧ w'.cell? ⟨w2.heap.size + 1, 2, none⟩ = some (.int .u16 qp) ∧ w'.cell? ⟨w2.heap.size + 1, 3, none⟩ = some (.int .u8 ql) ∧ w'.cell? ⟨g2_5, 0, none⟩ = some (.int .i64 qq) ∧ w'.cell? ⟨g2_5, 1, none⟩ = some (.int .i64 qt) ∧ w'.cell? ⟨g2_5, 2, none⟩ = some (.int .i64 qp) ∧ w'.cell? ⟨g2_5, 3, none⟩ = some (.int .i64 ql))
            (first | exact hK0 | exact KS.out _ BV1 | exact KS.out _ (Below.refl _ _).drew)
            (first | (go_at_call 14; with_reducible refine (VQ.out _).mono ?_; rintro e v6_1 ⟨rfl, bv1⟩; have BV1 := ((Below.refl wf6.heap.size wf6).drew).trans (bv1.mono ((Below.refl wf6.heap.size wf6).drew).size)))
          have bb := BV1
          have Ssg6 := (Ssf6.out).below bb (Ssf6.out).lt
          have Srg6 := (Srf6.out).below bb (Srf6.out).lt
          have Sxg6 := (Sxf6.out).below bb (Sxf6.out).lt
          have Stg6 := (Stf6.out).below bb (Stf6.out).lt
          have Sng6 := (Snf6.out).below bb (Snf6.out).lt
          have Svg6 := (Svf6.out).below bb (Svf6.out).lt
          have Sqg6 := (Sqf6.out).below bb (Sqf6.out).lt
          have HBg6 := Lib.hid ((HBf6.out).trans (bb.mono (HBf6.out).size))
          clear bb Ssf6 Srf6 Sxf6 Stf6 Snf6 Svf6 Sqf6 HBf6
          have lsg6 := Ssg6.lt
          have lrg6 := Srg6.lt
          have lxg6 := Sxg6.lt
          have ltg6 := Stg6.lt
          have lng6 := Sng6.lt
          have lvg6 := Svg6.lt
          have lqg6 := Sqg6.lt
          clear KS hK0 bv1 BV1
          clear EN
          replace Ssg6 := Lib.hid Ssg6
          replace Srg6 := Lib.hid Srg6
          replace Sxg6 := Lib.hid Sxg6
          replace Stg6 := Lib.hid Stg6
          replace Sng6 := Lib.hid Sng6
          replace Svg6 := Lib.hid Svg6
          replace Sqg6 := Lib.hid Sqg6
          have EN := ET.out
          go_upto_region 29 with fail
          obtain ⟨wf7, hwf⟩ : ∃ z, z = v6_1 := ⟨_, rfl⟩
          have Ssf7 := Ssg6.out
          have Srf7 := Srg6.out
          have Sxf7 := Sxg6.out
          have Stf7 := Stg6.out
          have Snf7 := Sng6.out
          have Svf7 := Svg6.out
          have Sqf7 := Sqg6.out
          have HBf7 := HBg6.out
          rw [← hwf] at Ssf7 Srf7 Sxf7 Stf7 Snf7 Svf7 Sqf7 HBf7 ⊢
          clear hwf
          clear Ssg6 Srg6 Sxg6 Stg6 Sng6 Svg6 Sqg6 HBg6
          have lsf7 := Ssf7.lt
          have lrf7 := Srf7.lt
          have lxf7 := Sxf7.lt
          have ltf7 := Stf7.lt
          have lnf7 := Snf7.lt
          have lvf7 := Svf7.lt
          have lqf7 := Sqf7.lt
          replace HBf7 := Lib.hid HBf7
          replace Ssf7 := Lib.hid Ssf7
          replace Srf7 := Lib.hid Srf7
          replace Sxf7 := Lib.hid Sxf7
          replace Stf7 := Lib.hid Stf7
          replace Snf7 := Lib.hid Snf7
          replace Svf7 := Lib.hid Svf7
          replace Sqf7 := Lib.hid Sqf7
          have KS := Lib.hid (fun w' (b' : Below wf7.heap.size wf7 w') => show (fun w' => w'.cell? ⟨gs, 0, none⟩ = some (.bool ton) ∧ w'.cell? ⟨gs, 1, none⟩ = some (.int .i64 th) ∧ w'.cell? ⟨gs, 2, none⟩ = some (.int .i64 tc) ∧ w'.cell? ⟨gs, 3, none⟩ = some (.int .u16 toq) ∧ w'.cell? ⟨gs, 4, none⟩ = some (.int .u32 tot) ∧ w'.cell? ⟨gs, 5, none⟩ = some (.int .u16 top) ∧ w'.cell? ⟨gs, 6, none⟩ = some (.int .u8 tol) ∧ w'.cell? ⟨gs, 7, none⟩ = some (.int .u16 tuq) ∧ w'.cell? ⟨gs, 8, none⟩ = some (.int .u32 tut) ∧ w'.cell? ⟨gs, 9, none⟩ = some (.int .u16 tup) ∧ w'.cell? ⟨gs, 10, none⟩ = some (.int .u8 tul) ∧ w'.cell? ⟨gr, 0, none⟩ = some (.bool ton) ∧ w'.cell? ⟨gr, 1, none⟩ = some (.int .i64 th) ∧ w'.cell? ⟨gr, 2, none⟩ = some (.int .i64 tc) ∧ w'.cell? ⟨gr, 3, none⟩ = some (.int .i64 toq) ∧ w'.cell? ⟨gr, 4, none⟩ = some (.int .i64 tot) ∧ w'.cell? ⟨gr, 5, none⟩ = some (.int .i64 top) ∧ w'.cell? ⟨gr, 6, none⟩ = some (.int .i64 tol) ∧ w'.cell? ⟨gr, 7, none⟩ = some (.int .i64 tuq) ∧ w'.cell? ⟨gr, 8, none⟩ = some (.int .i64 tut) ∧ w'.cell? ⟨gr, 9, none⟩ = some (.int .i64 tup) ∧ w'.cell? ⟨gr, 10, none⟩ = some (.int .i64 tul)) w' from ⟨(Ssf7.out.below b' Ssf7.out.lt).cell 0, (Ssf7.out.below b' Ssf7.out.lt).cell 1, (Ssf7.out.below b' Ssf7.out.lt).cell 2, (Ssf7.out.below b' Ssf7.out.lt).cell 3, (Ssf7.out.below b' Ssf7.out.lt).cell 4, (Ssf7.out.below b' Ssf7.out.lt).cell 5, (Ssf7.out.below b' Ssf7.out.lt).cell 6, (Ssf7.out.below b' Ssf7.out.lt).cell 7, (Ssf7.out.below b' Ssf7.out.lt).cell 8, (Ssf7.out.below b' Ssf7.out.lt).cell 9, (Ssf7.out.below b' Ssf7.out.lt).cell 10, (Srf7.out.below b' Srf7.out.lt).cell 0, (Srf7.out.below b' Srf7.out.lt).cell 1, (Srf7.out.below b' Srf7.out.lt).cell 2, (Srf7.out.below b' Srf7.out.lt).cell 3, (Srf7.out.below b' Srf7.out.lt).cell 4, (Srf7.out.below b' Srf7.out.lt).cell 5, (Srf7.out.below b' Srf7.out.lt).cell 6, (Srf7.out.below b' Srf7.out.lt).cell 7, (Srf7.out.below b' Srf7.out.lt).cell 8, (Srf7.out.below b' Srf7.out.lt).cell 9, (Srf7.out.below b' Srf7.out.lt).cell 10⟩)
          have hK0 := KS.out wf7 (Below.refl _ _)
          go_region_held3 (fun w' => w'.cell? ⟨gs, 0, none⟩ = some (.bool ton) ∧ w'.cell? ⟨gs, 1, none⟩ = some (.int .i64 th) ∧ w'.cell? ⟨gs, 2, none⟩ = some (.int .i64 tc) ∧ w'.cell? ⟨gs, 3, none⟩ = some (.int .u16 toq) ∧ w'.cell? ⟨gs, 4, none⟩ = some (.int .u32 tot) ∧ w'.cell? ⟨gs, 5, none⟩ = some (.int .u16 top) ∧ w'.cell? ⟨gs, 6, none⟩ = some (.int .u8 tol) ∧ w'.cell? ⟨gs, 7, none⟩ = some (.int .u16 tuq) ∧ w'.cell? ⟨gs, 8, none⟩ = some (.int .u32 tut) ∧ w'.cell? ⟨gs, 9, none⟩ = some (.int .u16 tup) ∧ w'.cell? ⟨gs, 10, none⟩ = some (.int .u8 tul) ∧ w'.cell? ⟨gr, 0, none⟩ = some (.bool ton) ∧ w'.cell? ⟨gr, 1, none⟩ = some (.int .i64 th) ∧ w'.cell? ⟨gr, 2, none⟩ = some (.int .i64 tc) ∧ w'.cell? ⟨gr, 3, none⟩ = some (.int .i64 toq) ∧ w'.cell? ⟨gr, 4, none⟩ = some (.int .i64 tot) ∧ w'.cell? ⟨gr, 5, none⟩ = some (.int .i64 top) ∧ w'.cell? ⟨gr, 6, none⟩ = some (.int .i64 tol) ∧ w'.cell? ⟨gr, 7, none⟩ = some (.int .i64 tuq) ∧ w'.cell? ⟨gr, 8, none⟩ = some (.int .i64 tut) ∧ w'.cell? ⟨gr, 9, none⟩ = some (.int .i64 tup) ∧ w'.cell? ⟨gr, 10, none⟩ = some (.int .i64 tul))
            (first | exact hK0 | exact KS.out _ BV1 | exact KS.out _ (Below.refl _ _).drew)
            (first | (go_at_call 13; with_reducible refine (OE.out _).mono ?_; rintro e v7_1 ⟨rfl, bv1⟩; have BV1 := ((Below.refl wf7.heap.size wf7).drew).trans (bv1.mono ((Below.refl wf7.heap.size wf7).drew).size)))
          have bb := BV1
          have Ssg7 := (Ssf7.out).below bb (Ssf7.out).lt
          have Srg7 := (Srf7.out).below bb (Srf7.out).lt
          have Sxg7 := (Sxf7.out).below bb (Sxf7.out).lt
          have Stg7 := (Stf7.out).below bb (Stf7.out).lt
          have Sng7 := (Snf7.out).below bb (Snf7.out).lt
          have Svg7 := (Svf7.out).below bb (Svf7.out).lt
          have Sqg7 := (Sqf7.out).below bb (Sqf7.out).lt
          have HBg7 := Lib.hid ((HBf7.out).trans (bb.mono (HBf7.out).size))
          clear bb Ssf7 Srf7 Sxf7 Stf7 Snf7 Svf7 Sqf7 HBf7
          have lsg7 := Ssg7.lt
          have lrg7 := Srg7.lt
          have lxg7 := Sxg7.lt
          have ltg7 := Stg7.lt
          have lng7 := Sng7.lt
          have lvg7 := Svg7.lt
          have lqg7 := Sqg7.lt
          clear KS hK0 bv1 BV1
          replace Ssg7 := Lib.hid Ssg7
          replace Srg7 := Lib.hid Srg7
          replace Sxg7 := Lib.hid Sxg7
          replace Stg7 := Lib.hid Stg7
          replace Sng7 := Lib.hid Sng7
          replace Svg7 := Lib.hid Svg7
          replace Sqg7 := Lib.hid Sqg7
          go_wp2_with fail
          go_wp2
          go_roundw
          case rel => exact ⟨k + 1, ⟨ton, th, tc, ⟨toq, tot, top, tol⟩, ⟨tuq, tut, tup, tul⟩⟩, by omega, by go_num, Lib.hid (Ssg7.out), Lib.hid (Srg7.out), GE, HBg7.out⟩
          case measure => simp [intOf]; omega
    · obtain rfl : k = n := by omega
      go_wp2
      go_ret
      exact ⟨rfl, HB.out⟩

set_option maxRecDepth 100000 in
theorem lifted (os : Os) (started : os.Started) (H : Type) (enc : TypeId × Value → H) :
    ReturnsInHanded {} Try.checked os 4 .any (Rows.mungePlaysSpec.pre6 enc Try.prog Try.f4 Rows.mungePlaysRow.domain false) (Rows.mungePlaysSpec.post enc Try.prog Try.f4 false true false false) := by
  refine returnsInHanded_of_change (C := Try.checked) own started (by kernel_rfl) Try.func4
    (ChangeSpec.witness6 (enc := enc) (C := Try.checked) false ⟨#[], #[.slice none 0 0], []⟩ 8 (by kernel_rfl) (by kernel_rfl) (by kernel_rfl) (by kernel_rfl)) ?_
  intro W base args ds gs before hval0 hW _ _
  have hval : ∀ (j : Nat) t v, Try.f4.params[j]? = some t → args[j]? = some v → Value.okWide Try.prog W .any base t v := hval0
  have hW' := hW
  obtain ⟨p, q, hA0, hV, _, _, _⟩ := hW
  have hA : DataW.TrodAll enc Try.prog W 0 (fun _ => true) true Try.f4.params.toList args.toList ds p := hA0
  rw [Try.params4] at hA hval
  obtain ⟨v0, vs0, d0, ds0, p0, q0, hargs, rfl, _, h0, r0⟩ := trodAll_cons hA
  obtain ⟨rfl, rfl, _⟩ := trodAll_nil r0
  obtain rfl : args = #[v0] := by cases args; simp_all
  obtain ⟨rfl, _⟩ := trodVars_none hV
  refine law_post (s := Rows.mungePlaysSpec) rfl rfl (by rw [Try.params4]; intro t ht; simp at ht; rcases ht with rfl <;> exact ⟨by kernel_rfl, of_decide_eq_true (by kernel_rfl)⟩) rfl hW' ?_
  obtain ⟨A0, c0, l0, rfl, hl0, hr0, hq0⟩ := open_steps (hval 0 48 v0 rfl rfl) h0
  exact walk W A0 c0 l0 hl0 hr0 hq0

theorem over : Rows.mungePlaysRow.holds Try.pinned (OpenSpec.ofChange Rows.mungePlaysSpec) :=
  OpenClaim.holds_of_wide 4 Try.f4 rfl rfl rfl rfl rfl rfl rfl ⟨rfl, rfl, rfl, rfl, rfl⟩ rfl rfl rfl rfl rfl (by kernel_rfl) Try.func4 (by kernel_rfl)
    (of_decide_eq_true (by kernel_rfl)) (by unfold Func.isWrapper; first | (rw [if_pos (by decide +kernel)]; kernel_rfl) | (rw [if_neg (by decide +kernel)]; exact ⟨rfl, rfl⟩))
    (fun os started H enc _ => lifted os started H enc)

/-- The statement. -/
theorem mungePlays_holds : Rows.MungePlaysSaid := over

end Go.Proofs.Ytpemikncbolkbaa.UPlays
