/-
  Proved: MungeTimes returns true for every row of steps (of more than 200, or with a step of half of the way round, there is nothing to show): the times of packets that aren't behind never go back. Conditions: none.
-/
import Derived.Test.YtpemikncbolkbaaMuD
import Derived.Test.YtpemikncbolkbaaMuO
import Derived.Test.YtpemikncbolkbaaMuP
import Derived.Deep.CutBlock
namespace Go.Proofs.Ytpemikncbolkbaa.UTimes
open Go.ChangeShapes Go.WideShapes Go.ChangeAt Go.RowKit
set_option linter.unusedSimpArgs false
set_option linter.unusedVariables false

set_option maxRecDepth 1000000 in
set_option maxHeartbeats 100000000 in
theorem walk (w : World) (A : Option Addr) (c : Nat) (l : List Mk) (hl : l.length ≤ maxLen) (hr : Row w w.heap.size 7 A l.length (rowC stepCs l)) (hq : ∀ a ∈ l, a.Fit) :
    Calls Try.prog 7 #[.slice A l.length c] w fun e w' => e = .returned (.bool true) ∧ Below w.heap.size w w' := by
  unfold maxLen at hl
  obtain ⟨n, hn⟩ : ∃ n, l.length = n := ⟨_, rfl⟩
  rw [hn] at hl hr ⊢
  have CA := Lib.hid (fun w => awake_any w)
  have HR := Lib.hid hr
  have HN := Lib.hid hn
  have HQ := Lib.hid hq
  clear hr hn hq
  go_enter Try.func7, Try.ntmps7
  go_wp2_with fail
  refine (CA.out _).mono ?_
  rintro e w1 ⟨rfl, b1⟩
  by_cases h1 : 200 < n
  · go_wp2
    go_ret
    exact ⟨rfl, b1⟩
  have HW := Lib.hid (Whole.new w1 27 #[.bool false, .int .i64 0, .int .i64 0, .int .u16 0, .int .u32 0, .int .u16 0, .int .u8 0, .int .u16 0, .int .u32 0, .int .u16 0, .int .u8 0])
  have HB := Lib.hid (b1.alloc b1.size (.cells #[.bool false, .int .i64 0, .int .i64 0, .int .u16 0, .int .u32 0, .int .u16 0, .int .u8 0, .int .u16 0, .int .u32 0, .int .u16 0, .int .u8 0] 27))
  obtain ⟨gs, hgs⟩ : ∃ g, g = w1.heap.size := ⟨_, rfl⟩
  have hg := b1.size
  rw [← hgs] at hg HW
  clear b1 CA
  go_wp2_with fail
  rw [← hgs]
  go_loopw [5] (fun i wr => ∃ (k : Nat) (s : Mst), k ≤ n ∧ i = .int .i64 (k : Int) ∧ Hid (Whole wr gs 27 s.cells) ∧ Hid (s.Fit (65536 + 32768 * k)) ∧ Below w.heap.size w wr) (fun i _ => n - (intOf i).toNat)
  case atStart => exact ⟨0, Mst.zero, Nat.zero_le _, rfl, HW, Lib.hid ⟨by decide, Mn.zero_fit, Mn.zero_fit⟩, HB.out⟩
  case round =>
    clear HW HB hgs
    obtain ⟨k, s, hk, rfl, HW, HF, hb⟩ := hrel
    obtain ⟨wo, rfl⟩ : ∃ wo : World, wo = wr := ⟨_, rfl⟩
    have HB := Lib.hid hb
    have hsz := hb.size
    have hgl := HW.out.lt
    clear hb
    by_cases hlt : k < n
    · obtain ⟨x, hx⟩ : ∃ x, l[k]? = some x := ⟨l[k]'(by rw [HN.out]; exact hlt), by simp⟩
      obtain ⟨g, o, rfl, hg0, hat⟩ := row_at stepCs_length HR.out (by omega)
      have hat := hat _ HB.out k x
      have r0 := hat 0 _ hx rfl
      have r1 := hat 1 _ hx rfl
      have r2 := hat 2 _ hx rfl
      have r3 := hat 3 _ hx rfl
      have r4 := hat 4 _ hx rfl
      have r5 := hat 5 _ hx rfl
      have r6 := hat 6 _ hx rfl
      have hxf := HQ.out x (List.mem_of_getElem? hx)
      clear hat hx
      have hgo : g < wo.heap.size := by omega
      have hi1 : (0 : Int) ≤ (k : Int) := by omega
      have hi2 : (k : Int) < (n : Int) := by omega
      obtain ⟨ki, ⟨xq, xt, xp, xl⟩, kt, kb⟩ := x
      obtain ⟨hxf, hkt⟩ := hxf
      dsimp only at hxf hkt r0 r1 r2 r3 r4 r5 r6
      rw [Nat.add_zero] at r0
      have CW := fun w => mswitch_any s ⟨xq, xt, xp, xl⟩ kt (HF.out.parts (by omega)) hxf hkt w
      have CD := fun w => mdrop_any s ⟨xq, xt, xp, xl⟩ kb (by have := HF.out; exact ⟨by have := this.high; omega, this.off, this.out⟩) hxf w
      have CE := fun w => msend_any s ⟨xq, xt, xp, xl⟩ (by have := HF.out; exact ⟨by have := this.high; omega, this.off, this.out⟩) hxf w
      have FW := fun (h : s.on = true) (h2 : kt < 2147483648) => times_switch (x := ⟨xq, xt, xp, xl⟩) HF.out.out h hkt.1 h2
      have FE := times_send (s := s) (x := ⟨xq, xt, xp, xl⟩)
      have GW : (s.switchS ⟨xq, xt, xp, xl⟩ kt).Fit (65536 + 32768 * ((k + 1 : Nat) : Int)) := Mst.switch_fit hxf kt (by omega)
      have GD : (s.dropS ⟨xq, xt, xp, xl⟩ kb).Fit (65536 + 32768 * ((k + 1 : Nat) : Int)) := by have := Mst.drop_fit HF.out ⟨xq, xt, xp, xl⟩ kb; rwa [show (65536 + 32768 * (k : Int)) + 32768 = 65536 + 32768 * ((k + 1 : Nat) : Int) by omega] at this
      have GE : (s.sendS ⟨xq, xt, xp, xl⟩).Fit (65536 + 32768 * ((k + 1 : Nat) : Int)) := by have := Mst.send_fit HF.out ⟨xq, xt, xp, xl⟩; rwa [show (65536 + 32768 * (k : Int)) + 32768 = 65536 + 32768 * ((k + 1 : Nat) : Int) by omega] at this
      have OD := drop_out (s := s) (x := ⟨xq, xt, xp, xl⟩) (b := kb)
      obtain ⟨m, hm⟩ : ∃ m, s.begins ⟨xq, xt, xp, xl⟩ kt = m := ⟨_, rfl⟩
      have hu : s.switchS ⟨xq, xt, xp, xl⟩ kt = ⟨true, xq, xq, Mn.less ⟨xq, xt, xp, xl⟩ m, m⟩ := by unfold Mst.switchS; rw [hm]
      obtain ⟨f, hf⟩ : ∃ f, Mn.less ⟨xq, xt, xp, xl⟩ m = f := ⟨_, rfl⟩
      rw [hf] at hu
      rw [hu, hm] at CW
      rw [hm] at FW
      rw [hu] at GW
      clear hm hf hu
      obtain ⟨d, hd⟩ : ∃ d, s.dropS ⟨xq, xt, xp, xl⟩ kb = d := ⟨_, rfl⟩
      rw [hd] at CD GD OD
      clear hd
      obtain ⟨t, ht⟩ : ∃ t, s.sendS ⟨xq, xt, xp, xl⟩ = t := ⟨_, rfl⟩
      obtain ⟨q, hq⟩ : ∃ q, s.told ⟨xq, xt, xp, xl⟩ = q := ⟨_, rfl⟩
      obtain ⟨b, hb⟩ : ∃ b, s.tells ⟨xq, xt, xp, xl⟩ = b := ⟨_, rfl⟩
      rw [ht, hq, hb] at CE
      rw [ht] at FE GE
      clear ht hq hb hxf
      have EM := fun w => neq_nums w m
      have ES := fun w => neq_nums w s.out
      have ET := fun w => neq_nums w t.out
      obtain ⟨son, sh, sc, ⟨soq, sot, sop, sol⟩, ⟨suq, sut, sup, sul⟩⟩ := s
      obtain ⟨mq, mt, mp, ml⟩ := m
      obtain ⟨fq, ft, fp, fl⟩ := f
      obtain ⟨don, dh, dc, ⟨doq, dot, dop, dol⟩, ⟨duq, dut, dup, dul⟩⟩ := d
      obtain ⟨ton, th, tc, ⟨toq, tot, top, tol⟩, ⟨tuq, tut, tup, tul⟩⟩ := t
      obtain ⟨qq, qt, qp, ql⟩ := q
      dsimp only [Mst.cells, Mn.cells] at *
      simp only [Mn.mk.injEq] at OD
      obtain ⟨rfl, rfl, rfl, rfl⟩ := OD
      replace CW := Lib.hid CW
      replace CD := Lib.hid CD
      replace CE := Lib.hid CE
      replace FW := Lib.hid FW
      replace FE := Lib.hid FE
      replace GW := Lib.hid GW
      replace GD := Lib.hid GD
      replace GE := Lib.hid GE
      replace EM := Lib.hid EM
      replace ES := Lib.hid ES
      replace ET := Lib.hid ET
      have k0 := HW.out.cell 0
      have k1 := HW.out.cell 1
      have k2 := HW.out.cell 2
      have k3 := HW.out.cell 3
      have k4 := HW.out.cell 4
      have k5 := HW.out.cell 5
      have k6 := HW.out.cell 6
      have k7 := HW.out.cell 7
      have k8 := HW.out.cell 8
      have k9 := HW.out.cell 9
      have k10 := HW.out.cell 10
      have f0 := HW.out.free 0
      have f1 := HW.out.free 1
      have f2 := HW.out.free 2
      have f3 := HW.out.free 3
      have f4 := HW.out.free 4
      have f5 := HW.out.free 5
      have f6 := HW.out.free 6
      have f7 := HW.out.free 7
      have f8 := HW.out.free 8
      have f9 := HW.out.free 9
      have f10 := HW.out.free 10
      have hgl1 : gs < wo.heap.size + 1 := by omega
      have hgl2 : gs < wo.heap.size + 1 + 1 := by omega
      have hgl3 : gs < wo.heap.size + 1 + 1 + 1 := by omega
      by_cases hT : 2147483648 ≤ kt
      · go_wp2
        go_ret
        exact ⟨rfl, (HB.out.alloc (HB.out).size (.cells #[.int .i64 ki, .int .u16 xq, .int .u32 xt, .int .u16 xp, .int .u8 xl, .int .u32 kt, .bool kb] 29))⟩
      by_cases h0 : ki = 0
      · subst h0
        clear CD CE FE GD GE ES ET
        go_wp2_with fail
        refine (CW.out _).mono ?_
        rintro e w2 ⟨rfl, b2⟩
        have Nx : Whole (wo.alloc (.cells #[.int .i64 0, .int .u16 xq, .int .u32 xt, .int .u16 xp, .int .u8 xl, .int .u32 kt, .bool kb] 29)) (wo.heap.size) 29 #[.int .i64 0, .int .u16 xq, .int .u32 xt, .int .u16 xp, .int .u8 xl, .int .u32 kt, .bool kb] := by have := Whole.new wo 29 #[.int .i64 0, .int .u16 xq, .int .u32 xt, .int .u16 xp, .int .u8 xl, .int .u32 kt, .bool kb]; first | with_reducible exact this | simpa using this
        have Nwas : Whole ((wo.alloc (.cells #[.int .i64 0, .int .u16 xq, .int .u32 xt, .int .u16 xp, .int .u8 xl, .int .u32 kt, .bool kb] 29)).alloc (.cells #[.bool son, .int .i64 sh, .int .i64 sc, .int .u16 soq, .int .u32 sot, .int .u16 sop, .int .u8 sol, .int .u16 suq, .int .u32 sut, .int .u16 sup, .int .u8 sul] 27)) (wo.heap.size + 1) 27 #[.bool son, .int .i64 sh, .int .i64 sc, .int .u16 soq, .int .u32 sot, .int .u16 sop, .int .u8 sol, .int .u16 suq, .int .u32 sut, .int .u16 sup, .int .u8 sul] := by have := Whole.new (wo.alloc (.cells #[.int .i64 0, .int .u16 xq, .int .u32 xt, .int .u16 xp, .int .u8 xl, .int .u32 kt, .bool kb] 29)) 27 #[.bool son, .int .i64 sh, .int .i64 sc, .int .u16 soq, .int .u32 sot, .int .u16 sop, .int .u8 sol, .int .u16 suq, .int .u32 sut, .int .u16 sup, .int .u8 sul]; first | with_reducible exact this | simpa using this
        have Ntold : Whole (((wo.alloc (.cells #[.int .i64 0, .int .u16 xq, .int .u32 xt, .int .u16 xp, .int .u8 xl, .int .u32 kt, .bool kb] 29)).alloc (.cells #[.bool son, .int .i64 sh, .int .i64 sc, .int .u16 soq, .int .u32 sot, .int .u16 sop, .int .u8 sol, .int .u16 suq, .int .u32 sut, .int .u16 sup, .int .u8 sul] 27)).alloc (.cells #[.int .u16 suq, .int .u32 sut, .int .u16 sup, .int .u8 sul] 25)) (wo.heap.size + 1 + 1) 25 #[.int .u16 suq, .int .u32 sut, .int .u16 sup, .int .u8 sul] := by have := Whole.new ((wo.alloc (.cells #[.int .i64 0, .int .u16 xq, .int .u32 xt, .int .u16 xp, .int .u8 xl, .int .u32 kt, .bool kb] 29)).alloc (.cells #[.bool son, .int .i64 sh, .int .i64 sc, .int .u16 soq, .int .u32 sot, .int .u16 sop, .int .u8 sol, .int .u16 suq, .int .u32 sut, .int .u16 sup, .int .u8 sul] 27)) 25 #[.int .u16 suq, .int .u32 sut, .int .u16 sup, .int .u8 sul]; first | with_reducible exact this | simpa using this
        have Ss2 := ((((HW.out.alloc (.cells #[.int .i64 0, .int .u16 xq, .int .u32 xt, .int .u16 xp, .int .u8 xl, .int .u32 kt, .bool kb] 29)).alloc (.cells #[.bool son, .int .i64 sh, .int .i64 sc, .int .u16 soq, .int .u32 sot, .int .u16 sop, .int .u8 sol, .int .u16 suq, .int .u32 sut, .int .u16 sup, .int .u8 sul] 27)).alloc (.cells #[.int .u16 suq, .int .u32 sut, .int .u16 sup, .int .u8 sul] 25))).below b2 (by have := ((((HW.out.alloc (.cells #[.int .i64 0, .int .u16 xq, .int .u32 xt, .int .u16 xp, .int .u8 xl, .int .u32 kt, .bool kb] 29)).alloc (.cells #[.bool son, .int .i64 sh, .int .i64 sc, .int .u16 soq, .int .u32 sot, .int .u16 sop, .int .u8 sol, .int .u16 suq, .int .u32 sut, .int .u16 sup, .int .u8 sul] 27)).alloc (.cells #[.int .u16 suq, .int .u32 sut, .int .u16 sup, .int .u8 sul] 25))).lt; first | with_reducible exact this | simpa using this)
        have Sx2 := (((Nx.alloc (.cells #[.bool son, .int .i64 sh, .int .i64 sc, .int .u16 soq, .int .u32 sot, .int .u16 sop, .int .u8 sol, .int .u16 suq, .int .u32 sut, .int .u16 sup, .int .u8 sul] 27)).alloc (.cells #[.int .u16 suq, .int .u32 sut, .int .u16 sup, .int .u8 sul] 25))).below b2 (by have := (((Nx.alloc (.cells #[.bool son, .int .i64 sh, .int .i64 sc, .int .u16 soq, .int .u32 sot, .int .u16 sop, .int .u8 sol, .int .u16 suq, .int .u32 sut, .int .u16 sup, .int .u8 sul] 27)).alloc (.cells #[.int .u16 suq, .int .u32 sut, .int .u16 sup, .int .u8 sul] 25))).lt; first | with_reducible exact this | simpa using this)
        have Swas2 := ((Nwas.alloc (.cells #[.int .u16 suq, .int .u32 sut, .int .u16 sup, .int .u8 sul] 25))).below b2 (by have := ((Nwas.alloc (.cells #[.int .u16 suq, .int .u32 sut, .int .u16 sup, .int .u8 sul] 25))).lt; first | with_reducible exact this | simpa using this)
        have Stold2 := (Ntold).below b2 (by have := (Ntold).lt; first | with_reducible exact this | simpa using this)
        have HB2 := Lib.hid (((((HB.out.alloc (HB.out).size (.cells #[.int .i64 0, .int .u16 xq, .int .u32 xt, .int .u16 xp, .int .u8 xl, .int .u32 kt, .bool kb] 29)).alloc ((HB.out.alloc (HB.out).size (.cells #[.int .i64 0, .int .u16 xq, .int .u32 xt, .int .u16 xp, .int .u8 xl, .int .u32 kt, .bool kb] 29))).size (.cells #[.bool son, .int .i64 sh, .int .i64 sc, .int .u16 soq, .int .u32 sot, .int .u16 sop, .int .u8 sol, .int .u16 suq, .int .u32 sut, .int .u16 sup, .int .u8 sul] 27)).alloc (((HB.out.alloc (HB.out).size (.cells #[.int .i64 0, .int .u16 xq, .int .u32 xt, .int .u16 xp, .int .u8 xl, .int .u32 kt, .bool kb] 29)).alloc ((HB.out.alloc (HB.out).size (.cells #[.int .i64 0, .int .u16 xq, .int .u32 xt, .int .u16 xp, .int .u8 xl, .int .u32 kt, .bool kb] 29))).size (.cells #[.bool son, .int .i64 sh, .int .i64 sc, .int .u16 soq, .int .u32 sot, .int .u16 sop, .int .u8 sol, .int .u16 suq, .int .u32 sut, .int .u16 sup, .int .u8 sul] 27))).size (.cells #[.int .u16 suq, .int .u32 sut, .int .u16 sup, .int .u8 sul] 25))).trans (b2.mono ((((HB.out.alloc (HB.out).size (.cells #[.int .i64 0, .int .u16 xq, .int .u32 xt, .int .u16 xp, .int .u8 xl, .int .u32 kt, .bool kb] 29)).alloc ((HB.out.alloc (HB.out).size (.cells #[.int .i64 0, .int .u16 xq, .int .u32 xt, .int .u16 xp, .int .u8 xl, .int .u32 kt, .bool kb] 29))).size (.cells #[.bool son, .int .i64 sh, .int .i64 sc, .int .u16 soq, .int .u32 sot, .int .u16 sop, .int .u8 sol, .int .u16 suq, .int .u32 sut, .int .u16 sup, .int .u8 sul] 27)).alloc (((HB.out.alloc (HB.out).size (.cells #[.int .i64 0, .int .u16 xq, .int .u32 xt, .int .u16 xp, .int .u8 xl, .int .u32 kt, .bool kb] 29)).alloc ((HB.out.alloc (HB.out).size (.cells #[.int .i64 0, .int .u16 xq, .int .u32 xt, .int .u16 xp, .int .u8 xl, .int .u32 kt, .bool kb] 29))).size (.cells #[.bool son, .int .i64 sh, .int .i64 sc, .int .u16 soq, .int .u32 sot, .int .u16 sop, .int .u8 sol, .int .u16 suq, .int .u32 sut, .int .u16 sup, .int .u8 sul] 27))).size (.cells #[.int .u16 suq, .int .u32 sut, .int .u16 sup, .int .u8 sul] 25))).size))
        have ls2 := Ss2.lt
        have lx2 := Sx2.lt
        have lwas2 := Swas2.lt
        have ltold2 := Stold2.lt
        clear b2 k0 f0 k1 f1 k2 f2 k3 f3 k4 f4 k5 f5 k6 f6 k7 f7 k8 f8 k9 f9 k10 f10 HW Nx Nwas Ntold HB CW hgo r0 r1 r2 r3 r4 r5 r6
        have s2_0 := Ss2.cell 0
        have fs2_0 := Ss2.free 0
        have s2_1 := Ss2.cell 1
        have fs2_1 := Ss2.free 1
        have s2_2 := Ss2.cell 2
        have fs2_2 := Ss2.free 2
        have s2_3 := Ss2.cell 3
        have fs2_3 := Ss2.free 3
        have s2_4 := Ss2.cell 4
        have fs2_4 := Ss2.free 4
        have s2_5 := Ss2.cell 5
        have fs2_5 := Ss2.free 5
        have s2_6 := Ss2.cell 6
        have fs2_6 := Ss2.free 6
        have s2_7 := Ss2.cell 7
        have fs2_7 := Ss2.free 7
        have s2_8 := Ss2.cell 8
        have fs2_8 := Ss2.free 8
        have s2_9 := Ss2.cell 9
        have fs2_9 := Ss2.free 9
        have s2_10 := Ss2.cell 10
        have fs2_10 := Ss2.free 10
        have x2_0 := Sx2.cell 0
        have x2_1 := Sx2.cell 1
        have x2_2 := Sx2.cell 2
        have x2_3 := Sx2.cell 3
        have x2_4 := Sx2.cell 4
        have x2_5 := Sx2.cell 5
        have x2_6 := Sx2.cell 6
        have was2_0 := Swas2.cell 0
        have was2_1 := Swas2.cell 1
        have was2_2 := Swas2.cell 2
        have was2_3 := Swas2.cell 3
        have was2_4 := Swas2.cell 4
        have was2_5 := Swas2.cell 5
        have was2_6 := Swas2.cell 6
        have was2_7 := Swas2.cell 7
        have was2_8 := Swas2.cell 8
        have was2_9 := Swas2.cell 9
        have was2_10 := Swas2.cell 10
        have told2_0 := Stold2.cell 0
        have ftold2_0 := Stold2.free 0
        have told2_1 := Stold2.cell 1
        have ftold2_1 := Stold2.free 1
        have told2_2 := Stold2.cell 2
        have ftold2_2 := Stold2.free 2
        have told2_3 := Stold2.cell 3
        have ftold2_3 := Stold2.free 3
        replace Ss2 := Lib.hid Ss2
        replace Sx2 := Lib.hid Sx2
        replace Swas2 := Lib.hid Swas2
        replace Stold2 := Lib.hid Stold2
        cases son
        · have EQ := EM.out
          go_wp2
          go_roundw
          case rel => exact ⟨k + 1, ⟨true, xq, xq, ⟨fq, ft, fp, fl⟩, ⟨mq, mt, mp, ml⟩⟩, by omega, by go_num, Lib.hid ((((Whole.four_far ((Whole.eleven (Ss2.out) (.bool true) (.int .i64 xq) (.int .i64 xq) (.int .u16 fq) (.int .u32 ft) (.int .u16 fp) (.int .u8 fl) (.int .u16 mq) (.int .u32 mt) (.int .u16 mp) (.int .u8 ml))) (show gs ≠ wo.heap.size + 1 + 1 from by omega) (.int .u16 mq) (.int .u32 mt) (.int .u16 mp) (.int .u8 ml)).alloc (.cells #[.bool true, .int .i64 xq, .int .i64 xq, .int .u16 fq, .int .u32 ft, .int .u16 fp, .int .u8 fl, .int .u16 mq, .int .u32 mt, .int .u16 mp, .int .u8 ml] 27)).alloc (.cells #[.int .u16 mq, .int .u32 mt, .int .u16 mp, .int .u8 ml] 25))), GW, (((four_set ((eleven_set (HB2.out) (show w.heap.size ≤ gs from by omega) (.bool true) (.int .i64 xq) (.int .i64 xq) (.int .u16 fq) (.int .u32 ft) (.int .u16 fp) (.int .u8 fl) (.int .u16 mq) (.int .u32 mt) (.int .u16 mp) (.int .u8 ml))) (show w.heap.size ≤ wo.heap.size + 1 + 1 from by omega) (.int .u16 mq) (.int .u32 mt) (.int .u16 mp) (.int .u8 ml)).alloc ((four_set ((eleven_set (HB2.out) (show w.heap.size ≤ gs from by omega) (.bool true) (.int .i64 xq) (.int .i64 xq) (.int .u16 fq) (.int .u32 ft) (.int .u16 fp) (.int .u8 fl) (.int .u16 mq) (.int .u32 mt) (.int .u16 mp) (.int .u8 ml))) (show w.heap.size ≤ wo.heap.size + 1 + 1 from by omega) (.int .u16 mq) (.int .u32 mt) (.int .u16 mp) (.int .u8 ml))).size (.cells #[.bool true, .int .i64 xq, .int .i64 xq, .int .u16 fq, .int .u32 ft, .int .u16 fp, .int .u8 fl, .int .u16 mq, .int .u32 mt, .int .u16 mp, .int .u8 ml] 27)).alloc (((four_set ((eleven_set (HB2.out) (show w.heap.size ≤ gs from by omega) (.bool true) (.int .i64 xq) (.int .i64 xq) (.int .u16 fq) (.int .u32 ft) (.int .u16 fp) (.int .u8 fl) (.int .u16 mq) (.int .u32 mt) (.int .u16 mp) (.int .u8 ml))) (show w.heap.size ≤ wo.heap.size + 1 + 1 from by omega) (.int .u16 mq) (.int .u32 mt) (.int .u16 mp) (.int .u8 ml)).alloc ((four_set ((eleven_set (HB2.out) (show w.heap.size ≤ gs from by omega) (.bool true) (.int .i64 xq) (.int .i64 xq) (.int .u16 fq) (.int .u32 ft) (.int .u16 fp) (.int .u8 fl) (.int .u16 mq) (.int .u32 mt) (.int .u16 mp) (.int .u8 ml))) (show w.heap.size ≤ wo.heap.size + 1 + 1 from by omega) (.int .u16 mq) (.int .u32 mt) (.int .u16 mp) (.int .u8 ml))).size (.cells #[.bool true, .int .i64 xq, .int .i64 xq, .int .u16 fq, .int .u32 ft, .int .u16 fp, .int .u8 fl, .int .u16 mq, .int .u32 mt, .int .u16 mp, .int .u8 ml] 27))).size (.cells #[.int .u16 mq, .int .u32 mt, .int .u16 mp, .int .u8 ml] 25))⟩
          case measure => simp [intOf]; omega
        · have EQ := EM.out
          have LE := fun w => less32_any mt sut w
          rw [show up32 mt sut = false from FW.out rfl (by omega)] at LE
          replace LE := Lib.hid LE
          go_wp2_with fail
          refine (LE.out _).mono ?_
          rintro e w3 ⟨rfl, b3⟩
          have Nt : Whole ((((((((((((((((w2.setCell ⟨gs, 0, none⟩ (.bool true)).setCell ⟨gs, 1, none⟩ (.int .i64 xq)).setCell ⟨gs, 2, none⟩ (.int .i64 xq)).setCell ⟨gs, 3, none⟩ (.int .u16 fq)).setCell ⟨gs, 4, none⟩ (.int .u32 ft)).setCell ⟨gs, 5, none⟩ (.int .u16 fp)).setCell ⟨gs, 6, none⟩ (.int .u8 fl)).setCell ⟨gs, 7, none⟩ (.int .u16 mq)).setCell ⟨gs, 8, none⟩ (.int .u32 mt)).setCell ⟨gs, 9, none⟩ (.int .u16 mp)).setCell ⟨gs, 10, none⟩ (.int .u8 ml)).setCell ⟨wo.heap.size + 1 + 1, 0, none⟩ (.int .u16 mq)).setCell ⟨wo.heap.size + 1 + 1, 1, none⟩ (.int .u32 mt)).setCell ⟨wo.heap.size + 1 + 1, 2, none⟩ (.int .u16 mp)).setCell ⟨wo.heap.size + 1 + 1, 3, none⟩ (.int .u8 ml)).alloc (.cells #[.bool true, .int .i64 xq, .int .i64 xq, .int .u16 fq, .int .u32 ft, .int .u16 fp, .int .u8 fl, .int .u16 mq, .int .u32 mt, .int .u16 mp, .int .u8 ml] 27)) (w2.heap.size) 27 #[.bool true, .int .i64 xq, .int .i64 xq, .int .u16 fq, .int .u32 ft, .int .u16 fp, .int .u8 fl, .int .u16 mq, .int .u32 mt, .int .u16 mp, .int .u8 ml] := by have := Whole.new (((((((((((((((w2.setCell ⟨gs, 0, none⟩ (.bool true)).setCell ⟨gs, 1, none⟩ (.int .i64 xq)).setCell ⟨gs, 2, none⟩ (.int .i64 xq)).setCell ⟨gs, 3, none⟩ (.int .u16 fq)).setCell ⟨gs, 4, none⟩ (.int .u32 ft)).setCell ⟨gs, 5, none⟩ (.int .u16 fp)).setCell ⟨gs, 6, none⟩ (.int .u8 fl)).setCell ⟨gs, 7, none⟩ (.int .u16 mq)).setCell ⟨gs, 8, none⟩ (.int .u32 mt)).setCell ⟨gs, 9, none⟩ (.int .u16 mp)).setCell ⟨gs, 10, none⟩ (.int .u8 ml)).setCell ⟨wo.heap.size + 1 + 1, 0, none⟩ (.int .u16 mq)).setCell ⟨wo.heap.size + 1 + 1, 1, none⟩ (.int .u32 mt)).setCell ⟨wo.heap.size + 1 + 1, 2, none⟩ (.int .u16 mp)).setCell ⟨wo.heap.size + 1 + 1, 3, none⟩ (.int .u8 ml)) 27 #[.bool true, .int .i64 xq, .int .i64 xq, .int .u16 fq, .int .u32 ft, .int .u16 fp, .int .u8 fl, .int .u16 mq, .int .u32 mt, .int .u16 mp, .int .u8 ml]; first | with_reducible exact this | simpa using this
          have Nn : Whole (((((((((((((((((w2.setCell ⟨gs, 0, none⟩ (.bool true)).setCell ⟨gs, 1, none⟩ (.int .i64 xq)).setCell ⟨gs, 2, none⟩ (.int .i64 xq)).setCell ⟨gs, 3, none⟩ (.int .u16 fq)).setCell ⟨gs, 4, none⟩ (.int .u32 ft)).setCell ⟨gs, 5, none⟩ (.int .u16 fp)).setCell ⟨gs, 6, none⟩ (.int .u8 fl)).setCell ⟨gs, 7, none⟩ (.int .u16 mq)).setCell ⟨gs, 8, none⟩ (.int .u32 mt)).setCell ⟨gs, 9, none⟩ (.int .u16 mp)).setCell ⟨gs, 10, none⟩ (.int .u8 ml)).setCell ⟨wo.heap.size + 1 + 1, 0, none⟩ (.int .u16 mq)).setCell ⟨wo.heap.size + 1 + 1, 1, none⟩ (.int .u32 mt)).setCell ⟨wo.heap.size + 1 + 1, 2, none⟩ (.int .u16 mp)).setCell ⟨wo.heap.size + 1 + 1, 3, none⟩ (.int .u8 ml)).alloc (.cells #[.bool true, .int .i64 xq, .int .i64 xq, .int .u16 fq, .int .u32 ft, .int .u16 fp, .int .u8 fl, .int .u16 mq, .int .u32 mt, .int .u16 mp, .int .u8 ml] 27)).alloc (.cells #[.int .u16 mq, .int .u32 mt, .int .u16 mp, .int .u8 ml] 25)) (w2.heap.size + 1) 25 #[.int .u16 mq, .int .u32 mt, .int .u16 mp, .int .u8 ml] := by have := Whole.new ((((((((((((((((w2.setCell ⟨gs, 0, none⟩ (.bool true)).setCell ⟨gs, 1, none⟩ (.int .i64 xq)).setCell ⟨gs, 2, none⟩ (.int .i64 xq)).setCell ⟨gs, 3, none⟩ (.int .u16 fq)).setCell ⟨gs, 4, none⟩ (.int .u32 ft)).setCell ⟨gs, 5, none⟩ (.int .u16 fp)).setCell ⟨gs, 6, none⟩ (.int .u8 fl)).setCell ⟨gs, 7, none⟩ (.int .u16 mq)).setCell ⟨gs, 8, none⟩ (.int .u32 mt)).setCell ⟨gs, 9, none⟩ (.int .u16 mp)).setCell ⟨gs, 10, none⟩ (.int .u8 ml)).setCell ⟨wo.heap.size + 1 + 1, 0, none⟩ (.int .u16 mq)).setCell ⟨wo.heap.size + 1 + 1, 1, none⟩ (.int .u32 mt)).setCell ⟨wo.heap.size + 1 + 1, 2, none⟩ (.int .u16 mp)).setCell ⟨wo.heap.size + 1 + 1, 3, none⟩ (.int .u8 ml)).alloc (.cells #[.bool true, .int .i64 xq, .int .i64 xq, .int .u16 fq, .int .u32 ft, .int .u16 fp, .int .u8 fl, .int .u16 mq, .int .u32 mt, .int .u16 mp, .int .u8 ml] 27)) 25 #[.int .u16 mq, .int .u32 mt, .int .u16 mp, .int .u8 ml]; first | with_reducible exact this | simpa using this
          have Ss3 := ((((Whole.four_far ((Whole.eleven (Ss2.out) (.bool true) (.int .i64 xq) (.int .i64 xq) (.int .u16 fq) (.int .u32 ft) (.int .u16 fp) (.int .u8 fl) (.int .u16 mq) (.int .u32 mt) (.int .u16 mp) (.int .u8 ml))) (show gs ≠ wo.heap.size + 1 + 1 from by omega) (.int .u16 mq) (.int .u32 mt) (.int .u16 mp) (.int .u8 ml)).alloc (.cells #[.bool true, .int .i64 xq, .int .i64 xq, .int .u16 fq, .int .u32 ft, .int .u16 fp, .int .u8 fl, .int .u16 mq, .int .u32 mt, .int .u16 mp, .int .u8 ml] 27)).alloc (.cells #[.int .u16 mq, .int .u32 mt, .int .u16 mp, .int .u8 ml] 25))).below b3 (by have := ((((Whole.four_far ((Whole.eleven (Ss2.out) (.bool true) (.int .i64 xq) (.int .i64 xq) (.int .u16 fq) (.int .u32 ft) (.int .u16 fp) (.int .u8 fl) (.int .u16 mq) (.int .u32 mt) (.int .u16 mp) (.int .u8 ml))) (show gs ≠ wo.heap.size + 1 + 1 from by omega) (.int .u16 mq) (.int .u32 mt) (.int .u16 mp) (.int .u8 ml)).alloc (.cells #[.bool true, .int .i64 xq, .int .i64 xq, .int .u16 fq, .int .u32 ft, .int .u16 fp, .int .u8 fl, .int .u16 mq, .int .u32 mt, .int .u16 mp, .int .u8 ml] 27)).alloc (.cells #[.int .u16 mq, .int .u32 mt, .int .u16 mp, .int .u8 ml] 25))).lt; first | with_reducible exact this | simpa using this)
          have Sx3 := ((((Whole.four_far ((Whole.eleven_far (Sx2.out) (show wo.heap.size ≠ gs from by omega) (.bool true) (.int .i64 xq) (.int .i64 xq) (.int .u16 fq) (.int .u32 ft) (.int .u16 fp) (.int .u8 fl) (.int .u16 mq) (.int .u32 mt) (.int .u16 mp) (.int .u8 ml))) (show wo.heap.size ≠ wo.heap.size + 1 + 1 from by omega) (.int .u16 mq) (.int .u32 mt) (.int .u16 mp) (.int .u8 ml)).alloc (.cells #[.bool true, .int .i64 xq, .int .i64 xq, .int .u16 fq, .int .u32 ft, .int .u16 fp, .int .u8 fl, .int .u16 mq, .int .u32 mt, .int .u16 mp, .int .u8 ml] 27)).alloc (.cells #[.int .u16 mq, .int .u32 mt, .int .u16 mp, .int .u8 ml] 25))).below b3 (by have := ((((Whole.four_far ((Whole.eleven_far (Sx2.out) (show wo.heap.size ≠ gs from by omega) (.bool true) (.int .i64 xq) (.int .i64 xq) (.int .u16 fq) (.int .u32 ft) (.int .u16 fp) (.int .u8 fl) (.int .u16 mq) (.int .u32 mt) (.int .u16 mp) (.int .u8 ml))) (show wo.heap.size ≠ wo.heap.size + 1 + 1 from by omega) (.int .u16 mq) (.int .u32 mt) (.int .u16 mp) (.int .u8 ml)).alloc (.cells #[.bool true, .int .i64 xq, .int .i64 xq, .int .u16 fq, .int .u32 ft, .int .u16 fp, .int .u8 fl, .int .u16 mq, .int .u32 mt, .int .u16 mp, .int .u8 ml] 27)).alloc (.cells #[.int .u16 mq, .int .u32 mt, .int .u16 mp, .int .u8 ml] 25))).lt; first | with_reducible exact this | simpa using this)
          have Swas3 := ((((Whole.four_far ((Whole.eleven_far (Swas2.out) (show wo.heap.size + 1 ≠ gs from by omega) (.bool true) (.int .i64 xq) (.int .i64 xq) (.int .u16 fq) (.int .u32 ft) (.int .u16 fp) (.int .u8 fl) (.int .u16 mq) (.int .u32 mt) (.int .u16 mp) (.int .u8 ml))) (show wo.heap.size + 1 ≠ wo.heap.size + 1 + 1 from by omega) (.int .u16 mq) (.int .u32 mt) (.int .u16 mp) (.int .u8 ml)).alloc (.cells #[.bool true, .int .i64 xq, .int .i64 xq, .int .u16 fq, .int .u32 ft, .int .u16 fp, .int .u8 fl, .int .u16 mq, .int .u32 mt, .int .u16 mp, .int .u8 ml] 27)).alloc (.cells #[.int .u16 mq, .int .u32 mt, .int .u16 mp, .int .u8 ml] 25))).below b3 (by have := ((((Whole.four_far ((Whole.eleven_far (Swas2.out) (show wo.heap.size + 1 ≠ gs from by omega) (.bool true) (.int .i64 xq) (.int .i64 xq) (.int .u16 fq) (.int .u32 ft) (.int .u16 fp) (.int .u8 fl) (.int .u16 mq) (.int .u32 mt) (.int .u16 mp) (.int .u8 ml))) (show wo.heap.size + 1 ≠ wo.heap.size + 1 + 1 from by omega) (.int .u16 mq) (.int .u32 mt) (.int .u16 mp) (.int .u8 ml)).alloc (.cells #[.bool true, .int .i64 xq, .int .i64 xq, .int .u16 fq, .int .u32 ft, .int .u16 fp, .int .u8 fl, .int .u16 mq, .int .u32 mt, .int .u16 mp, .int .u8 ml] 27)).alloc (.cells #[.int .u16 mq, .int .u32 mt, .int .u16 mp, .int .u8 ml] 25))).lt; first | with_reducible exact this | simpa using this)
          have Stold3 := ((((Whole.four ((Whole.eleven_far (Stold2.out) (show wo.heap.size + 1 + 1 ≠ gs from by omega) (.bool true) (.int .i64 xq) (.int .i64 xq) (.int .u16 fq) (.int .u32 ft) (.int .u16 fp) (.int .u8 fl) (.int .u16 mq) (.int .u32 mt) (.int .u16 mp) (.int .u8 ml))) (.int .u16 mq) (.int .u32 mt) (.int .u16 mp) (.int .u8 ml)).alloc (.cells #[.bool true, .int .i64 xq, .int .i64 xq, .int .u16 fq, .int .u32 ft, .int .u16 fp, .int .u8 fl, .int .u16 mq, .int .u32 mt, .int .u16 mp, .int .u8 ml] 27)).alloc (.cells #[.int .u16 mq, .int .u32 mt, .int .u16 mp, .int .u8 ml] 25))).below b3 (by have := ((((Whole.four ((Whole.eleven_far (Stold2.out) (show wo.heap.size + 1 + 1 ≠ gs from by omega) (.bool true) (.int .i64 xq) (.int .i64 xq) (.int .u16 fq) (.int .u32 ft) (.int .u16 fp) (.int .u8 fl) (.int .u16 mq) (.int .u32 mt) (.int .u16 mp) (.int .u8 ml))) (.int .u16 mq) (.int .u32 mt) (.int .u16 mp) (.int .u8 ml)).alloc (.cells #[.bool true, .int .i64 xq, .int .i64 xq, .int .u16 fq, .int .u32 ft, .int .u16 fp, .int .u8 fl, .int .u16 mq, .int .u32 mt, .int .u16 mp, .int .u8 ml] 27)).alloc (.cells #[.int .u16 mq, .int .u32 mt, .int .u16 mp, .int .u8 ml] 25))).lt; first | with_reducible exact this | simpa using this)
          have St3 := ((Nt.alloc (.cells #[.int .u16 mq, .int .u32 mt, .int .u16 mp, .int .u8 ml] 25))).below b3 (by have := ((Nt.alloc (.cells #[.int .u16 mq, .int .u32 mt, .int .u16 mp, .int .u8 ml] 25))).lt; first | with_reducible exact this | simpa using this)
          have Sn3 := (Nn).below b3 (by have := (Nn).lt; first | with_reducible exact this | simpa using this)
          have HB3 := Lib.hid (((((four_set ((eleven_set (HB2.out) (show w.heap.size ≤ gs from by omega) (.bool true) (.int .i64 xq) (.int .i64 xq) (.int .u16 fq) (.int .u32 ft) (.int .u16 fp) (.int .u8 fl) (.int .u16 mq) (.int .u32 mt) (.int .u16 mp) (.int .u8 ml))) (show w.heap.size ≤ wo.heap.size + 1 + 1 from by omega) (.int .u16 mq) (.int .u32 mt) (.int .u16 mp) (.int .u8 ml)).alloc ((four_set ((eleven_set (HB2.out) (show w.heap.size ≤ gs from by omega) (.bool true) (.int .i64 xq) (.int .i64 xq) (.int .u16 fq) (.int .u32 ft) (.int .u16 fp) (.int .u8 fl) (.int .u16 mq) (.int .u32 mt) (.int .u16 mp) (.int .u8 ml))) (show w.heap.size ≤ wo.heap.size + 1 + 1 from by omega) (.int .u16 mq) (.int .u32 mt) (.int .u16 mp) (.int .u8 ml))).size (.cells #[.bool true, .int .i64 xq, .int .i64 xq, .int .u16 fq, .int .u32 ft, .int .u16 fp, .int .u8 fl, .int .u16 mq, .int .u32 mt, .int .u16 mp, .int .u8 ml] 27)).alloc (((four_set ((eleven_set (HB2.out) (show w.heap.size ≤ gs from by omega) (.bool true) (.int .i64 xq) (.int .i64 xq) (.int .u16 fq) (.int .u32 ft) (.int .u16 fp) (.int .u8 fl) (.int .u16 mq) (.int .u32 mt) (.int .u16 mp) (.int .u8 ml))) (show w.heap.size ≤ wo.heap.size + 1 + 1 from by omega) (.int .u16 mq) (.int .u32 mt) (.int .u16 mp) (.int .u8 ml)).alloc ((four_set ((eleven_set (HB2.out) (show w.heap.size ≤ gs from by omega) (.bool true) (.int .i64 xq) (.int .i64 xq) (.int .u16 fq) (.int .u32 ft) (.int .u16 fp) (.int .u8 fl) (.int .u16 mq) (.int .u32 mt) (.int .u16 mp) (.int .u8 ml))) (show w.heap.size ≤ wo.heap.size + 1 + 1 from by omega) (.int .u16 mq) (.int .u32 mt) (.int .u16 mp) (.int .u8 ml))).size (.cells #[.bool true, .int .i64 xq, .int .i64 xq, .int .u16 fq, .int .u32 ft, .int .u16 fp, .int .u8 fl, .int .u16 mq, .int .u32 mt, .int .u16 mp, .int .u8 ml] 27))).size (.cells #[.int .u16 mq, .int .u32 mt, .int .u16 mp, .int .u8 ml] 25))).trans (b3.mono ((((four_set ((eleven_set (HB2.out) (show w.heap.size ≤ gs from by omega) (.bool true) (.int .i64 xq) (.int .i64 xq) (.int .u16 fq) (.int .u32 ft) (.int .u16 fp) (.int .u8 fl) (.int .u16 mq) (.int .u32 mt) (.int .u16 mp) (.int .u8 ml))) (show w.heap.size ≤ wo.heap.size + 1 + 1 from by omega) (.int .u16 mq) (.int .u32 mt) (.int .u16 mp) (.int .u8 ml)).alloc ((four_set ((eleven_set (HB2.out) (show w.heap.size ≤ gs from by omega) (.bool true) (.int .i64 xq) (.int .i64 xq) (.int .u16 fq) (.int .u32 ft) (.int .u16 fp) (.int .u8 fl) (.int .u16 mq) (.int .u32 mt) (.int .u16 mp) (.int .u8 ml))) (show w.heap.size ≤ wo.heap.size + 1 + 1 from by omega) (.int .u16 mq) (.int .u32 mt) (.int .u16 mp) (.int .u8 ml))).size (.cells #[.bool true, .int .i64 xq, .int .i64 xq, .int .u16 fq, .int .u32 ft, .int .u16 fp, .int .u8 fl, .int .u16 mq, .int .u32 mt, .int .u16 mp, .int .u8 ml] 27)).alloc (((four_set ((eleven_set (HB2.out) (show w.heap.size ≤ gs from by omega) (.bool true) (.int .i64 xq) (.int .i64 xq) (.int .u16 fq) (.int .u32 ft) (.int .u16 fp) (.int .u8 fl) (.int .u16 mq) (.int .u32 mt) (.int .u16 mp) (.int .u8 ml))) (show w.heap.size ≤ wo.heap.size + 1 + 1 from by omega) (.int .u16 mq) (.int .u32 mt) (.int .u16 mp) (.int .u8 ml)).alloc ((four_set ((eleven_set (HB2.out) (show w.heap.size ≤ gs from by omega) (.bool true) (.int .i64 xq) (.int .i64 xq) (.int .u16 fq) (.int .u32 ft) (.int .u16 fp) (.int .u8 fl) (.int .u16 mq) (.int .u32 mt) (.int .u16 mp) (.int .u8 ml))) (show w.heap.size ≤ wo.heap.size + 1 + 1 from by omega) (.int .u16 mq) (.int .u32 mt) (.int .u16 mp) (.int .u8 ml))).size (.cells #[.bool true, .int .i64 xq, .int .i64 xq, .int .u16 fq, .int .u32 ft, .int .u16 fp, .int .u8 fl, .int .u16 mq, .int .u32 mt, .int .u16 mp, .int .u8 ml] 27))).size (.cells #[.int .u16 mq, .int .u32 mt, .int .u16 mp, .int .u8 ml] 25))).size))
          have ls3 := Ss3.lt
          have lx3 := Sx3.lt
          have lwas3 := Swas3.lt
          have ltold3 := Stold3.lt
          have lt3 := St3.lt
          have ln3 := Sn3.lt
          clear b3 s2_0 fs2_0 s2_1 fs2_1 s2_2 fs2_2 s2_3 fs2_3 s2_4 fs2_4 s2_5 fs2_5 s2_6 fs2_6 s2_7 fs2_7 s2_8 fs2_8 s2_9 fs2_9 s2_10 fs2_10 x2_0 x2_1 x2_2 x2_3 x2_4 x2_5 x2_6 was2_0 was2_1 was2_2 was2_3 was2_4 was2_5 was2_6 was2_7 was2_8 was2_9 was2_10 told2_0 ftold2_0 told2_1 ftold2_1 told2_2 ftold2_2 told2_3 ftold2_3 Ss2 Sx2 Swas2 Stold2 Nt Nn HB2 LE
          have s3_0 := Ss3.cell 0
          have s3_1 := Ss3.cell 1
          have s3_2 := Ss3.cell 2
          have s3_3 := Ss3.cell 3
          have s3_4 := Ss3.cell 4
          have s3_5 := Ss3.cell 5
          have s3_6 := Ss3.cell 6
          have s3_7 := Ss3.cell 7
          have s3_8 := Ss3.cell 8
          have s3_9 := Ss3.cell 9
          have s3_10 := Ss3.cell 10
          have told3_0 := Stold3.cell 0
          have told3_1 := Stold3.cell 1
          have told3_2 := Stold3.cell 2
          have told3_3 := Stold3.cell 3
          have was3_0 := Swas3.cell 0
          have was3_1 := Swas3.cell 1
          have was3_2 := Swas3.cell 2
          have was3_3 := Swas3.cell 3
          have was3_4 := Swas3.cell 4
          have was3_5 := Swas3.cell 5
          have was3_6 := Swas3.cell 6
          have was3_7 := Swas3.cell 7
          have was3_8 := Swas3.cell 8
          have was3_9 := Swas3.cell 9
          have was3_10 := Swas3.cell 10
          replace Ss3 := Lib.hid Ss3
          replace Sx3 := Lib.hid Sx3
          replace Swas3 := Lib.hid Swas3
          replace Stold3 := Lib.hid Stold3
          replace St3 := Lib.hid St3
          replace Sn3 := Lib.hid Sn3
          go_wp2
          go_roundw
          case rel => exact ⟨k + 1, ⟨true, xq, xq, ⟨fq, ft, fp, fl⟩, ⟨mq, mt, mp, ml⟩⟩, by omega, by go_num, Lib.hid (Ss3.out), GW, HB3.out⟩
          case measure => simp [intOf]; omega
      by_cases h1 : ki = 1
      · subst h1
        clear CW CE FW FE GW GE EM ET
        go_wp2_with fail
        refine (CD.out _).mono ?_
        rintro e w2 ⟨rfl, b2⟩
        have Nx : Whole (wo.alloc (.cells #[.int .i64 1, .int .u16 xq, .int .u32 xt, .int .u16 xp, .int .u8 xl, .int .u32 kt, .bool kb] 29)) (wo.heap.size) 29 #[.int .i64 1, .int .u16 xq, .int .u32 xt, .int .u16 xp, .int .u8 xl, .int .u32 kt, .bool kb] := by have := Whole.new wo 29 #[.int .i64 1, .int .u16 xq, .int .u32 xt, .int .u16 xp, .int .u8 xl, .int .u32 kt, .bool kb]; first | with_reducible exact this | simpa using this
        have Nwas : Whole ((wo.alloc (.cells #[.int .i64 1, .int .u16 xq, .int .u32 xt, .int .u16 xp, .int .u8 xl, .int .u32 kt, .bool kb] 29)).alloc (.cells #[.bool son, .int .i64 sh, .int .i64 sc, .int .u16 soq, .int .u32 sot, .int .u16 sop, .int .u8 sol, .int .u16 suq, .int .u32 sut, .int .u16 sup, .int .u8 sul] 27)) (wo.heap.size + 1) 27 #[.bool son, .int .i64 sh, .int .i64 sc, .int .u16 soq, .int .u32 sot, .int .u16 sop, .int .u8 sol, .int .u16 suq, .int .u32 sut, .int .u16 sup, .int .u8 sul] := by have := Whole.new (wo.alloc (.cells #[.int .i64 1, .int .u16 xq, .int .u32 xt, .int .u16 xp, .int .u8 xl, .int .u32 kt, .bool kb] 29)) 27 #[.bool son, .int .i64 sh, .int .i64 sc, .int .u16 soq, .int .u32 sot, .int .u16 sop, .int .u8 sol, .int .u16 suq, .int .u32 sut, .int .u16 sup, .int .u8 sul]; first | with_reducible exact this | simpa using this
        have Ntold : Whole (((wo.alloc (.cells #[.int .i64 1, .int .u16 xq, .int .u32 xt, .int .u16 xp, .int .u8 xl, .int .u32 kt, .bool kb] 29)).alloc (.cells #[.bool son, .int .i64 sh, .int .i64 sc, .int .u16 soq, .int .u32 sot, .int .u16 sop, .int .u8 sol, .int .u16 suq, .int .u32 sut, .int .u16 sup, .int .u8 sul] 27)).alloc (.cells #[.int .u16 suq, .int .u32 sut, .int .u16 sup, .int .u8 sul] 25)) (wo.heap.size + 1 + 1) 25 #[.int .u16 suq, .int .u32 sut, .int .u16 sup, .int .u8 sul] := by have := Whole.new ((wo.alloc (.cells #[.int .i64 1, .int .u16 xq, .int .u32 xt, .int .u16 xp, .int .u8 xl, .int .u32 kt, .bool kb] 29)).alloc (.cells #[.bool son, .int .i64 sh, .int .i64 sc, .int .u16 soq, .int .u32 sot, .int .u16 sop, .int .u8 sol, .int .u16 suq, .int .u32 sut, .int .u16 sup, .int .u8 sul] 27)) 25 #[.int .u16 suq, .int .u32 sut, .int .u16 sup, .int .u8 sul]; first | with_reducible exact this | simpa using this
        have Ss2 := ((((HW.out.alloc (.cells #[.int .i64 1, .int .u16 xq, .int .u32 xt, .int .u16 xp, .int .u8 xl, .int .u32 kt, .bool kb] 29)).alloc (.cells #[.bool son, .int .i64 sh, .int .i64 sc, .int .u16 soq, .int .u32 sot, .int .u16 sop, .int .u8 sol, .int .u16 suq, .int .u32 sut, .int .u16 sup, .int .u8 sul] 27)).alloc (.cells #[.int .u16 suq, .int .u32 sut, .int .u16 sup, .int .u8 sul] 25))).below b2 (by have := ((((HW.out.alloc (.cells #[.int .i64 1, .int .u16 xq, .int .u32 xt, .int .u16 xp, .int .u8 xl, .int .u32 kt, .bool kb] 29)).alloc (.cells #[.bool son, .int .i64 sh, .int .i64 sc, .int .u16 soq, .int .u32 sot, .int .u16 sop, .int .u8 sol, .int .u16 suq, .int .u32 sut, .int .u16 sup, .int .u8 sul] 27)).alloc (.cells #[.int .u16 suq, .int .u32 sut, .int .u16 sup, .int .u8 sul] 25))).lt; first | with_reducible exact this | simpa using this)
        have Sx2 := (((Nx.alloc (.cells #[.bool son, .int .i64 sh, .int .i64 sc, .int .u16 soq, .int .u32 sot, .int .u16 sop, .int .u8 sol, .int .u16 suq, .int .u32 sut, .int .u16 sup, .int .u8 sul] 27)).alloc (.cells #[.int .u16 suq, .int .u32 sut, .int .u16 sup, .int .u8 sul] 25))).below b2 (by have := (((Nx.alloc (.cells #[.bool son, .int .i64 sh, .int .i64 sc, .int .u16 soq, .int .u32 sot, .int .u16 sop, .int .u8 sol, .int .u16 suq, .int .u32 sut, .int .u16 sup, .int .u8 sul] 27)).alloc (.cells #[.int .u16 suq, .int .u32 sut, .int .u16 sup, .int .u8 sul] 25))).lt; first | with_reducible exact this | simpa using this)
        have Swas2 := ((Nwas.alloc (.cells #[.int .u16 suq, .int .u32 sut, .int .u16 sup, .int .u8 sul] 25))).below b2 (by have := ((Nwas.alloc (.cells #[.int .u16 suq, .int .u32 sut, .int .u16 sup, .int .u8 sul] 25))).lt; first | with_reducible exact this | simpa using this)
        have Stold2 := (Ntold).below b2 (by have := (Ntold).lt; first | with_reducible exact this | simpa using this)
        have HB2 := Lib.hid (((((HB.out.alloc (HB.out).size (.cells #[.int .i64 1, .int .u16 xq, .int .u32 xt, .int .u16 xp, .int .u8 xl, .int .u32 kt, .bool kb] 29)).alloc ((HB.out.alloc (HB.out).size (.cells #[.int .i64 1, .int .u16 xq, .int .u32 xt, .int .u16 xp, .int .u8 xl, .int .u32 kt, .bool kb] 29))).size (.cells #[.bool son, .int .i64 sh, .int .i64 sc, .int .u16 soq, .int .u32 sot, .int .u16 sop, .int .u8 sol, .int .u16 suq, .int .u32 sut, .int .u16 sup, .int .u8 sul] 27)).alloc (((HB.out.alloc (HB.out).size (.cells #[.int .i64 1, .int .u16 xq, .int .u32 xt, .int .u16 xp, .int .u8 xl, .int .u32 kt, .bool kb] 29)).alloc ((HB.out.alloc (HB.out).size (.cells #[.int .i64 1, .int .u16 xq, .int .u32 xt, .int .u16 xp, .int .u8 xl, .int .u32 kt, .bool kb] 29))).size (.cells #[.bool son, .int .i64 sh, .int .i64 sc, .int .u16 soq, .int .u32 sot, .int .u16 sop, .int .u8 sol, .int .u16 suq, .int .u32 sut, .int .u16 sup, .int .u8 sul] 27))).size (.cells #[.int .u16 suq, .int .u32 sut, .int .u16 sup, .int .u8 sul] 25))).trans (b2.mono ((((HB.out.alloc (HB.out).size (.cells #[.int .i64 1, .int .u16 xq, .int .u32 xt, .int .u16 xp, .int .u8 xl, .int .u32 kt, .bool kb] 29)).alloc ((HB.out.alloc (HB.out).size (.cells #[.int .i64 1, .int .u16 xq, .int .u32 xt, .int .u16 xp, .int .u8 xl, .int .u32 kt, .bool kb] 29))).size (.cells #[.bool son, .int .i64 sh, .int .i64 sc, .int .u16 soq, .int .u32 sot, .int .u16 sop, .int .u8 sol, .int .u16 suq, .int .u32 sut, .int .u16 sup, .int .u8 sul] 27)).alloc (((HB.out.alloc (HB.out).size (.cells #[.int .i64 1, .int .u16 xq, .int .u32 xt, .int .u16 xp, .int .u8 xl, .int .u32 kt, .bool kb] 29)).alloc ((HB.out.alloc (HB.out).size (.cells #[.int .i64 1, .int .u16 xq, .int .u32 xt, .int .u16 xp, .int .u8 xl, .int .u32 kt, .bool kb] 29))).size (.cells #[.bool son, .int .i64 sh, .int .i64 sc, .int .u16 soq, .int .u32 sot, .int .u16 sop, .int .u8 sol, .int .u16 suq, .int .u32 sut, .int .u16 sup, .int .u8 sul] 27))).size (.cells #[.int .u16 suq, .int .u32 sut, .int .u16 sup, .int .u8 sul] 25))).size))
        have ls2 := Ss2.lt
        have lx2 := Sx2.lt
        have lwas2 := Swas2.lt
        have ltold2 := Stold2.lt
        clear b2 k0 f0 k1 f1 k2 f2 k3 f3 k4 f4 k5 f5 k6 f6 k7 f7 k8 f8 k9 f9 k10 f10 HW Nx Nwas Ntold HB CD hgo r0 r1 r2 r3 r4 r5 r6
        have s2_0 := Ss2.cell 0
        have fs2_0 := Ss2.free 0
        have s2_1 := Ss2.cell 1
        have fs2_1 := Ss2.free 1
        have s2_2 := Ss2.cell 2
        have fs2_2 := Ss2.free 2
        have s2_3 := Ss2.cell 3
        have fs2_3 := Ss2.free 3
        have s2_4 := Ss2.cell 4
        have fs2_4 := Ss2.free 4
        have s2_5 := Ss2.cell 5
        have fs2_5 := Ss2.free 5
        have s2_6 := Ss2.cell 6
        have fs2_6 := Ss2.free 6
        have s2_7 := Ss2.cell 7
        have fs2_7 := Ss2.free 7
        have s2_8 := Ss2.cell 8
        have fs2_8 := Ss2.free 8
        have s2_9 := Ss2.cell 9
        have fs2_9 := Ss2.free 9
        have s2_10 := Ss2.cell 10
        have fs2_10 := Ss2.free 10
        have x2_0 := Sx2.cell 0
        have x2_1 := Sx2.cell 1
        have x2_2 := Sx2.cell 2
        have x2_3 := Sx2.cell 3
        have x2_4 := Sx2.cell 4
        have x2_5 := Sx2.cell 5
        have x2_6 := Sx2.cell 6
        have was2_0 := Swas2.cell 0
        have was2_1 := Swas2.cell 1
        have was2_2 := Swas2.cell 2
        have was2_3 := Swas2.cell 3
        have was2_4 := Swas2.cell 4
        have was2_5 := Swas2.cell 5
        have was2_6 := Swas2.cell 6
        have was2_7 := Swas2.cell 7
        have was2_8 := Swas2.cell 8
        have was2_9 := Swas2.cell 9
        have was2_10 := Swas2.cell 10
        have told2_0 := Stold2.cell 0
        have ftold2_0 := Stold2.free 0
        have told2_1 := Stold2.cell 1
        have ftold2_1 := Stold2.free 1
        have told2_2 := Stold2.cell 2
        have ftold2_2 := Stold2.free 2
        have told2_3 := Stold2.cell 3
        have ftold2_3 := Stold2.free 3
        replace Ss2 := Lib.hid Ss2
        replace Sx2 := Lib.hid Sx2
        replace Swas2 := Lib.hid Swas2
        replace Stold2 := Lib.hid Stold2
        cases son
        · have EQ := ES.out
          go_wp2
          go_roundw
          case rel => exact ⟨k + 1, ⟨don, dh, dc, ⟨doq, dot, dop, dol⟩, ⟨suq, sut, sup, sul⟩⟩, by omega, by go_num, Lib.hid ((Whole.eleven (Ss2.out) (.bool don) (.int .i64 dh) (.int .i64 dc) (.int .u16 doq) (.int .u32 dot) (.int .u16 dop) (.int .u8 dol) (.int .u16 suq) (.int .u32 sut) (.int .u16 sup) (.int .u8 sul))), GD, (eleven_set (HB2.out) (show w.heap.size ≤ gs from by omega) (.bool don) (.int .i64 dh) (.int .i64 dc) (.int .u16 doq) (.int .u32 dot) (.int .u16 dop) (.int .u8 dol) (.int .u16 suq) (.int .u32 sut) (.int .u16 sup) (.int .u8 sul))⟩
          case measure => simp [intOf]; omega
        · have EQ := ES.out
          have LE := fun w => less32_any sut sut w
          rw [up32_self] at LE
          replace LE := Lib.hid LE
          go_wp2_with fail
          refine (LE.out _).mono ?_
          rintro e w3 ⟨rfl, b3⟩
          have Ss3 := ((Whole.eleven (Ss2.out) (.bool don) (.int .i64 dh) (.int .i64 dc) (.int .u16 doq) (.int .u32 dot) (.int .u16 dop) (.int .u8 dol) (.int .u16 suq) (.int .u32 sut) (.int .u16 sup) (.int .u8 sul))).below b3 (by have := ((Whole.eleven (Ss2.out) (.bool don) (.int .i64 dh) (.int .i64 dc) (.int .u16 doq) (.int .u32 dot) (.int .u16 dop) (.int .u8 dol) (.int .u16 suq) (.int .u32 sut) (.int .u16 sup) (.int .u8 sul))).lt; first | with_reducible exact this | simpa using this)
          have Sx3 := ((Whole.eleven_far (Sx2.out) (show wo.heap.size ≠ gs from by omega) (.bool don) (.int .i64 dh) (.int .i64 dc) (.int .u16 doq) (.int .u32 dot) (.int .u16 dop) (.int .u8 dol) (.int .u16 suq) (.int .u32 sut) (.int .u16 sup) (.int .u8 sul))).below b3 (by have := ((Whole.eleven_far (Sx2.out) (show wo.heap.size ≠ gs from by omega) (.bool don) (.int .i64 dh) (.int .i64 dc) (.int .u16 doq) (.int .u32 dot) (.int .u16 dop) (.int .u8 dol) (.int .u16 suq) (.int .u32 sut) (.int .u16 sup) (.int .u8 sul))).lt; first | with_reducible exact this | simpa using this)
          have Swas3 := ((Whole.eleven_far (Swas2.out) (show wo.heap.size + 1 ≠ gs from by omega) (.bool don) (.int .i64 dh) (.int .i64 dc) (.int .u16 doq) (.int .u32 dot) (.int .u16 dop) (.int .u8 dol) (.int .u16 suq) (.int .u32 sut) (.int .u16 sup) (.int .u8 sul))).below b3 (by have := ((Whole.eleven_far (Swas2.out) (show wo.heap.size + 1 ≠ gs from by omega) (.bool don) (.int .i64 dh) (.int .i64 dc) (.int .u16 doq) (.int .u32 dot) (.int .u16 dop) (.int .u8 dol) (.int .u16 suq) (.int .u32 sut) (.int .u16 sup) (.int .u8 sul))).lt; first | with_reducible exact this | simpa using this)
          have Stold3 := ((Whole.eleven_far (Stold2.out) (show wo.heap.size + 1 + 1 ≠ gs from by omega) (.bool don) (.int .i64 dh) (.int .i64 dc) (.int .u16 doq) (.int .u32 dot) (.int .u16 dop) (.int .u8 dol) (.int .u16 suq) (.int .u32 sut) (.int .u16 sup) (.int .u8 sul))).below b3 (by have := ((Whole.eleven_far (Stold2.out) (show wo.heap.size + 1 + 1 ≠ gs from by omega) (.bool don) (.int .i64 dh) (.int .i64 dc) (.int .u16 doq) (.int .u32 dot) (.int .u16 dop) (.int .u8 dol) (.int .u16 suq) (.int .u32 sut) (.int .u16 sup) (.int .u8 sul))).lt; first | with_reducible exact this | simpa using this)
          have HB3 := Lib.hid (((eleven_set (HB2.out) (show w.heap.size ≤ gs from by omega) (.bool don) (.int .i64 dh) (.int .i64 dc) (.int .u16 doq) (.int .u32 dot) (.int .u16 dop) (.int .u8 dol) (.int .u16 suq) (.int .u32 sut) (.int .u16 sup) (.int .u8 sul))).trans (b3.mono ((eleven_set (HB2.out) (show w.heap.size ≤ gs from by omega) (.bool don) (.int .i64 dh) (.int .i64 dc) (.int .u16 doq) (.int .u32 dot) (.int .u16 dop) (.int .u8 dol) (.int .u16 suq) (.int .u32 sut) (.int .u16 sup) (.int .u8 sul))).size))
          have ls3 := Ss3.lt
          have lx3 := Sx3.lt
          have lwas3 := Swas3.lt
          have ltold3 := Stold3.lt
          clear b3 s2_0 fs2_0 s2_1 fs2_1 s2_2 fs2_2 s2_3 fs2_3 s2_4 fs2_4 s2_5 fs2_5 s2_6 fs2_6 s2_7 fs2_7 s2_8 fs2_8 s2_9 fs2_9 s2_10 fs2_10 x2_0 x2_1 x2_2 x2_3 x2_4 x2_5 x2_6 was2_0 was2_1 was2_2 was2_3 was2_4 was2_5 was2_6 was2_7 was2_8 was2_9 was2_10 told2_0 ftold2_0 told2_1 ftold2_1 told2_2 ftold2_2 told2_3 ftold2_3 Ss2 Sx2 Swas2 Stold2 HB2 LE ls2 lx2 lwas2 ltold2
          have s3_0 := Ss3.cell 0
          have s3_1 := Ss3.cell 1
          have s3_2 := Ss3.cell 2
          have s3_3 := Ss3.cell 3
          have s3_4 := Ss3.cell 4
          have s3_5 := Ss3.cell 5
          have s3_6 := Ss3.cell 6
          have s3_7 := Ss3.cell 7
          have s3_8 := Ss3.cell 8
          have s3_9 := Ss3.cell 9
          have s3_10 := Ss3.cell 10
          have told3_0 := Stold3.cell 0
          have told3_1 := Stold3.cell 1
          have told3_2 := Stold3.cell 2
          have told3_3 := Stold3.cell 3
          have was3_0 := Swas3.cell 0
          have was3_1 := Swas3.cell 1
          have was3_2 := Swas3.cell 2
          have was3_3 := Swas3.cell 3
          have was3_4 := Swas3.cell 4
          have was3_5 := Swas3.cell 5
          have was3_6 := Swas3.cell 6
          have was3_7 := Swas3.cell 7
          have was3_8 := Swas3.cell 8
          have was3_9 := Swas3.cell 9
          have was3_10 := Swas3.cell 10
          replace Ss3 := Lib.hid Ss3
          replace Sx3 := Lib.hid Sx3
          replace Swas3 := Lib.hid Swas3
          replace Stold3 := Lib.hid Stold3
          go_wp2
          go_roundw
          case rel => exact ⟨k + 1, ⟨don, dh, dc, ⟨doq, dot, dop, dol⟩, ⟨suq, sut, sup, sul⟩⟩, by omega, by go_num, Lib.hid (Ss3.out), GD, HB3.out⟩
          case measure => simp [intOf]; omega
      clear CW CD FW GW GD EM ES
      go_wp2_with fail
      refine (CE.out _).mono ?_
      rintro e w2 ⟨rfl, b2⟩
      have Nx : Whole (wo.alloc (.cells #[.int .i64 ki, .int .u16 xq, .int .u32 xt, .int .u16 xp, .int .u8 xl, .int .u32 kt, .bool kb] 29)) (wo.heap.size) 29 #[.int .i64 ki, .int .u16 xq, .int .u32 xt, .int .u16 xp, .int .u8 xl, .int .u32 kt, .bool kb] := by have := Whole.new wo 29 #[.int .i64 ki, .int .u16 xq, .int .u32 xt, .int .u16 xp, .int .u8 xl, .int .u32 kt, .bool kb]; first | with_reducible exact this | simpa using this
      have Nwas : Whole ((wo.alloc (.cells #[.int .i64 ki, .int .u16 xq, .int .u32 xt, .int .u16 xp, .int .u8 xl, .int .u32 kt, .bool kb] 29)).alloc (.cells #[.bool son, .int .i64 sh, .int .i64 sc, .int .u16 soq, .int .u32 sot, .int .u16 sop, .int .u8 sol, .int .u16 suq, .int .u32 sut, .int .u16 sup, .int .u8 sul] 27)) (wo.heap.size + 1) 27 #[.bool son, .int .i64 sh, .int .i64 sc, .int .u16 soq, .int .u32 sot, .int .u16 sop, .int .u8 sol, .int .u16 suq, .int .u32 sut, .int .u16 sup, .int .u8 sul] := by have := Whole.new (wo.alloc (.cells #[.int .i64 ki, .int .u16 xq, .int .u32 xt, .int .u16 xp, .int .u8 xl, .int .u32 kt, .bool kb] 29)) 27 #[.bool son, .int .i64 sh, .int .i64 sc, .int .u16 soq, .int .u32 sot, .int .u16 sop, .int .u8 sol, .int .u16 suq, .int .u32 sut, .int .u16 sup, .int .u8 sul]; first | with_reducible exact this | simpa using this
      have Ntold : Whole (((wo.alloc (.cells #[.int .i64 ki, .int .u16 xq, .int .u32 xt, .int .u16 xp, .int .u8 xl, .int .u32 kt, .bool kb] 29)).alloc (.cells #[.bool son, .int .i64 sh, .int .i64 sc, .int .u16 soq, .int .u32 sot, .int .u16 sop, .int .u8 sol, .int .u16 suq, .int .u32 sut, .int .u16 sup, .int .u8 sul] 27)).alloc (.cells #[.int .u16 suq, .int .u32 sut, .int .u16 sup, .int .u8 sul] 25)) (wo.heap.size + 1 + 1) 25 #[.int .u16 suq, .int .u32 sut, .int .u16 sup, .int .u8 sul] := by have := Whole.new ((wo.alloc (.cells #[.int .i64 ki, .int .u16 xq, .int .u32 xt, .int .u16 xp, .int .u8 xl, .int .u32 kt, .bool kb] 29)).alloc (.cells #[.bool son, .int .i64 sh, .int .i64 sc, .int .u16 soq, .int .u32 sot, .int .u16 sop, .int .u8 sol, .int .u16 suq, .int .u32 sut, .int .u16 sup, .int .u8 sul] 27)) 25 #[.int .u16 suq, .int .u32 sut, .int .u16 sup, .int .u8 sul]; first | with_reducible exact this | simpa using this
      have Ss2 := ((((HW.out.alloc (.cells #[.int .i64 ki, .int .u16 xq, .int .u32 xt, .int .u16 xp, .int .u8 xl, .int .u32 kt, .bool kb] 29)).alloc (.cells #[.bool son, .int .i64 sh, .int .i64 sc, .int .u16 soq, .int .u32 sot, .int .u16 sop, .int .u8 sol, .int .u16 suq, .int .u32 sut, .int .u16 sup, .int .u8 sul] 27)).alloc (.cells #[.int .u16 suq, .int .u32 sut, .int .u16 sup, .int .u8 sul] 25))).below b2 (by have := ((((HW.out.alloc (.cells #[.int .i64 ki, .int .u16 xq, .int .u32 xt, .int .u16 xp, .int .u8 xl, .int .u32 kt, .bool kb] 29)).alloc (.cells #[.bool son, .int .i64 sh, .int .i64 sc, .int .u16 soq, .int .u32 sot, .int .u16 sop, .int .u8 sol, .int .u16 suq, .int .u32 sut, .int .u16 sup, .int .u8 sul] 27)).alloc (.cells #[.int .u16 suq, .int .u32 sut, .int .u16 sup, .int .u8 sul] 25))).lt; first | with_reducible exact this | simpa using this)
      have Sx2 := (((Nx.alloc (.cells #[.bool son, .int .i64 sh, .int .i64 sc, .int .u16 soq, .int .u32 sot, .int .u16 sop, .int .u8 sol, .int .u16 suq, .int .u32 sut, .int .u16 sup, .int .u8 sul] 27)).alloc (.cells #[.int .u16 suq, .int .u32 sut, .int .u16 sup, .int .u8 sul] 25))).below b2 (by have := (((Nx.alloc (.cells #[.bool son, .int .i64 sh, .int .i64 sc, .int .u16 soq, .int .u32 sot, .int .u16 sop, .int .u8 sol, .int .u16 suq, .int .u32 sut, .int .u16 sup, .int .u8 sul] 27)).alloc (.cells #[.int .u16 suq, .int .u32 sut, .int .u16 sup, .int .u8 sul] 25))).lt; first | with_reducible exact this | simpa using this)
      have Swas2 := ((Nwas.alloc (.cells #[.int .u16 suq, .int .u32 sut, .int .u16 sup, .int .u8 sul] 25))).below b2 (by have := ((Nwas.alloc (.cells #[.int .u16 suq, .int .u32 sut, .int .u16 sup, .int .u8 sul] 25))).lt; first | with_reducible exact this | simpa using this)
      have Stold2 := (Ntold).below b2 (by have := (Ntold).lt; first | with_reducible exact this | simpa using this)
      have HB2 := Lib.hid (((((HB.out.alloc (HB.out).size (.cells #[.int .i64 ki, .int .u16 xq, .int .u32 xt, .int .u16 xp, .int .u8 xl, .int .u32 kt, .bool kb] 29)).alloc ((HB.out.alloc (HB.out).size (.cells #[.int .i64 ki, .int .u16 xq, .int .u32 xt, .int .u16 xp, .int .u8 xl, .int .u32 kt, .bool kb] 29))).size (.cells #[.bool son, .int .i64 sh, .int .i64 sc, .int .u16 soq, .int .u32 sot, .int .u16 sop, .int .u8 sol, .int .u16 suq, .int .u32 sut, .int .u16 sup, .int .u8 sul] 27)).alloc (((HB.out.alloc (HB.out).size (.cells #[.int .i64 ki, .int .u16 xq, .int .u32 xt, .int .u16 xp, .int .u8 xl, .int .u32 kt, .bool kb] 29)).alloc ((HB.out.alloc (HB.out).size (.cells #[.int .i64 ki, .int .u16 xq, .int .u32 xt, .int .u16 xp, .int .u8 xl, .int .u32 kt, .bool kb] 29))).size (.cells #[.bool son, .int .i64 sh, .int .i64 sc, .int .u16 soq, .int .u32 sot, .int .u16 sop, .int .u8 sol, .int .u16 suq, .int .u32 sut, .int .u16 sup, .int .u8 sul] 27))).size (.cells #[.int .u16 suq, .int .u32 sut, .int .u16 sup, .int .u8 sul] 25))).trans (b2.mono ((((HB.out.alloc (HB.out).size (.cells #[.int .i64 ki, .int .u16 xq, .int .u32 xt, .int .u16 xp, .int .u8 xl, .int .u32 kt, .bool kb] 29)).alloc ((HB.out.alloc (HB.out).size (.cells #[.int .i64 ki, .int .u16 xq, .int .u32 xt, .int .u16 xp, .int .u8 xl, .int .u32 kt, .bool kb] 29))).size (.cells #[.bool son, .int .i64 sh, .int .i64 sc, .int .u16 soq, .int .u32 sot, .int .u16 sop, .int .u8 sol, .int .u16 suq, .int .u32 sut, .int .u16 sup, .int .u8 sul] 27)).alloc (((HB.out.alloc (HB.out).size (.cells #[.int .i64 ki, .int .u16 xq, .int .u32 xt, .int .u16 xp, .int .u8 xl, .int .u32 kt, .bool kb] 29)).alloc ((HB.out.alloc (HB.out).size (.cells #[.int .i64 ki, .int .u16 xq, .int .u32 xt, .int .u16 xp, .int .u8 xl, .int .u32 kt, .bool kb] 29))).size (.cells #[.bool son, .int .i64 sh, .int .i64 sc, .int .u16 soq, .int .u32 sot, .int .u16 sop, .int .u8 sol, .int .u16 suq, .int .u32 sut, .int .u16 sup, .int .u8 sul] 27))).size (.cells #[.int .u16 suq, .int .u32 sut, .int .u16 sup, .int .u8 sul] 25))).size))
      have ls2 := Ss2.lt
      have lx2 := Sx2.lt
      have lwas2 := Swas2.lt
      have ltold2 := Stold2.lt
      clear b2 k0 f0 k1 f1 k2 f2 k3 f3 k4 f4 k5 f5 k6 f6 k7 f7 k8 f8 k9 f9 k10 f10 HW Nx Nwas Ntold HB CE hgo r0 r1 r2 r3 r4 r5 r6
      have s2_0 := Ss2.cell 0
      have fs2_0 := Ss2.free 0
      have s2_1 := Ss2.cell 1
      have fs2_1 := Ss2.free 1
      have s2_2 := Ss2.cell 2
      have fs2_2 := Ss2.free 2
      have s2_3 := Ss2.cell 3
      have fs2_3 := Ss2.free 3
      have s2_4 := Ss2.cell 4
      have fs2_4 := Ss2.free 4
      have s2_5 := Ss2.cell 5
      have fs2_5 := Ss2.free 5
      have s2_6 := Ss2.cell 6
      have fs2_6 := Ss2.free 6
      have s2_7 := Ss2.cell 7
      have fs2_7 := Ss2.free 7
      have s2_8 := Ss2.cell 8
      have fs2_8 := Ss2.free 8
      have s2_9 := Ss2.cell 9
      have fs2_9 := Ss2.free 9
      have s2_10 := Ss2.cell 10
      have fs2_10 := Ss2.free 10
      have x2_0 := Sx2.cell 0
      have x2_1 := Sx2.cell 1
      have x2_2 := Sx2.cell 2
      have x2_3 := Sx2.cell 3
      have x2_4 := Sx2.cell 4
      have x2_5 := Sx2.cell 5
      have x2_6 := Sx2.cell 6
      have was2_0 := Swas2.cell 0
      have was2_1 := Swas2.cell 1
      have was2_2 := Swas2.cell 2
      have was2_3 := Swas2.cell 3
      have was2_4 := Swas2.cell 4
      have was2_5 := Swas2.cell 5
      have was2_6 := Swas2.cell 6
      have was2_7 := Swas2.cell 7
      have was2_8 := Swas2.cell 8
      have was2_9 := Swas2.cell 9
      have was2_10 := Swas2.cell 10
      have told2_0 := Stold2.cell 0
      have ftold2_0 := Stold2.free 0
      have told2_1 := Stold2.cell 1
      have ftold2_1 := Stold2.free 1
      have told2_2 := Stold2.cell 2
      have ftold2_2 := Stold2.free 2
      have told2_3 := Stold2.cell 3
      have ftold2_3 := Stold2.free 3
      replace Ss2 := Lib.hid Ss2
      replace Sx2 := Lib.hid Sx2
      replace Swas2 := Lib.hid Swas2
      replace Stold2 := Lib.hid Stold2
      cases son
      · have EQ := ET.out
        go_wp2
        go_roundw
        case rel => exact ⟨k + 1, ⟨ton, th, tc, ⟨toq, tot, top, tol⟩, ⟨tuq, tut, tup, tul⟩⟩, by omega, by go_num, Lib.hid ((((Whole.four_far ((Whole.eleven (Ss2.out) (.bool ton) (.int .i64 th) (.int .i64 tc) (.int .u16 toq) (.int .u32 tot) (.int .u16 top) (.int .u8 tol) (.int .u16 tuq) (.int .u32 tut) (.int .u16 tup) (.int .u8 tul))) (show gs ≠ wo.heap.size + 1 + 1 from by omega) (.int .u16 tuq) (.int .u32 tut) (.int .u16 tup) (.int .u8 tul)).alloc (.cells #[.bool ton, .int .i64 th, .int .i64 tc, .int .u16 toq, .int .u32 tot, .int .u16 top, .int .u8 tol, .int .u16 tuq, .int .u32 tut, .int .u16 tup, .int .u8 tul] 27)).alloc (.cells #[.int .u16 qq, .int .u32 qt, .int .u16 qp, .int .u8 ql] 25))), GE, (((four_set ((eleven_set (HB2.out) (show w.heap.size ≤ gs from by omega) (.bool ton) (.int .i64 th) (.int .i64 tc) (.int .u16 toq) (.int .u32 tot) (.int .u16 top) (.int .u8 tol) (.int .u16 tuq) (.int .u32 tut) (.int .u16 tup) (.int .u8 tul))) (show w.heap.size ≤ wo.heap.size + 1 + 1 from by omega) (.int .u16 tuq) (.int .u32 tut) (.int .u16 tup) (.int .u8 tul)).alloc ((four_set ((eleven_set (HB2.out) (show w.heap.size ≤ gs from by omega) (.bool ton) (.int .i64 th) (.int .i64 tc) (.int .u16 toq) (.int .u32 tot) (.int .u16 top) (.int .u8 tol) (.int .u16 tuq) (.int .u32 tut) (.int .u16 tup) (.int .u8 tul))) (show w.heap.size ≤ wo.heap.size + 1 + 1 from by omega) (.int .u16 tuq) (.int .u32 tut) (.int .u16 tup) (.int .u8 tul))).size (.cells #[.bool ton, .int .i64 th, .int .i64 tc, .int .u16 toq, .int .u32 tot, .int .u16 top, .int .u8 tol, .int .u16 tuq, .int .u32 tut, .int .u16 tup, .int .u8 tul] 27)).alloc (((four_set ((eleven_set (HB2.out) (show w.heap.size ≤ gs from by omega) (.bool ton) (.int .i64 th) (.int .i64 tc) (.int .u16 toq) (.int .u32 tot) (.int .u16 top) (.int .u8 tol) (.int .u16 tuq) (.int .u32 tut) (.int .u16 tup) (.int .u8 tul))) (show w.heap.size ≤ wo.heap.size + 1 + 1 from by omega) (.int .u16 tuq) (.int .u32 tut) (.int .u16 tup) (.int .u8 tul)).alloc ((four_set ((eleven_set (HB2.out) (show w.heap.size ≤ gs from by omega) (.bool ton) (.int .i64 th) (.int .i64 tc) (.int .u16 toq) (.int .u32 tot) (.int .u16 top) (.int .u8 tol) (.int .u16 tuq) (.int .u32 tut) (.int .u16 tup) (.int .u8 tul))) (show w.heap.size ≤ wo.heap.size + 1 + 1 from by omega) (.int .u16 tuq) (.int .u32 tut) (.int .u16 tup) (.int .u8 tul))).size (.cells #[.bool ton, .int .i64 th, .int .i64 tc, .int .u16 toq, .int .u32 tot, .int .u16 top, .int .u8 tol, .int .u16 tuq, .int .u32 tut, .int .u16 tup, .int .u8 tul] 27))).size (.cells #[.int .u16 qq, .int .u32 qt, .int .u16 qp, .int .u8 ql] 25))⟩
        case measure => simp [intOf]; omega
      · have EQ := ET.out
        have LE := fun w => less32_any tut sut w
        rw [show up32 tut sut = false from FE.out] at LE
        replace LE := Lib.hid LE
        go_wp2_with fail
        refine (LE.out _).mono ?_
        rintro e w3 ⟨rfl, b3⟩
        have Nt : Whole ((((((((((((((((w2.setCell ⟨gs, 0, none⟩ (.bool ton)).setCell ⟨gs, 1, none⟩ (.int .i64 th)).setCell ⟨gs, 2, none⟩ (.int .i64 tc)).setCell ⟨gs, 3, none⟩ (.int .u16 toq)).setCell ⟨gs, 4, none⟩ (.int .u32 tot)).setCell ⟨gs, 5, none⟩ (.int .u16 top)).setCell ⟨gs, 6, none⟩ (.int .u8 tol)).setCell ⟨gs, 7, none⟩ (.int .u16 tuq)).setCell ⟨gs, 8, none⟩ (.int .u32 tut)).setCell ⟨gs, 9, none⟩ (.int .u16 tup)).setCell ⟨gs, 10, none⟩ (.int .u8 tul)).setCell ⟨wo.heap.size + 1 + 1, 0, none⟩ (.int .u16 tuq)).setCell ⟨wo.heap.size + 1 + 1, 1, none⟩ (.int .u32 tut)).setCell ⟨wo.heap.size + 1 + 1, 2, none⟩ (.int .u16 tup)).setCell ⟨wo.heap.size + 1 + 1, 3, none⟩ (.int .u8 tul)).alloc (.cells #[.bool ton, .int .i64 th, .int .i64 tc, .int .u16 toq, .int .u32 tot, .int .u16 top, .int .u8 tol, .int .u16 tuq, .int .u32 tut, .int .u16 tup, .int .u8 tul] 27)) (w2.heap.size) 27 #[.bool ton, .int .i64 th, .int .i64 tc, .int .u16 toq, .int .u32 tot, .int .u16 top, .int .u8 tol, .int .u16 tuq, .int .u32 tut, .int .u16 tup, .int .u8 tul] := by have := Whole.new (((((((((((((((w2.setCell ⟨gs, 0, none⟩ (.bool ton)).setCell ⟨gs, 1, none⟩ (.int .i64 th)).setCell ⟨gs, 2, none⟩ (.int .i64 tc)).setCell ⟨gs, 3, none⟩ (.int .u16 toq)).setCell ⟨gs, 4, none⟩ (.int .u32 tot)).setCell ⟨gs, 5, none⟩ (.int .u16 top)).setCell ⟨gs, 6, none⟩ (.int .u8 tol)).setCell ⟨gs, 7, none⟩ (.int .u16 tuq)).setCell ⟨gs, 8, none⟩ (.int .u32 tut)).setCell ⟨gs, 9, none⟩ (.int .u16 tup)).setCell ⟨gs, 10, none⟩ (.int .u8 tul)).setCell ⟨wo.heap.size + 1 + 1, 0, none⟩ (.int .u16 tuq)).setCell ⟨wo.heap.size + 1 + 1, 1, none⟩ (.int .u32 tut)).setCell ⟨wo.heap.size + 1 + 1, 2, none⟩ (.int .u16 tup)).setCell ⟨wo.heap.size + 1 + 1, 3, none⟩ (.int .u8 tul)) 27 #[.bool ton, .int .i64 th, .int .i64 tc, .int .u16 toq, .int .u32 tot, .int .u16 top, .int .u8 tol, .int .u16 tuq, .int .u32 tut, .int .u16 tup, .int .u8 tul]; first | with_reducible exact this | simpa using this
        have Nn : Whole (((((((((((((((((w2.setCell ⟨gs, 0, none⟩ (.bool ton)).setCell ⟨gs, 1, none⟩ (.int .i64 th)).setCell ⟨gs, 2, none⟩ (.int .i64 tc)).setCell ⟨gs, 3, none⟩ (.int .u16 toq)).setCell ⟨gs, 4, none⟩ (.int .u32 tot)).setCell ⟨gs, 5, none⟩ (.int .u16 top)).setCell ⟨gs, 6, none⟩ (.int .u8 tol)).setCell ⟨gs, 7, none⟩ (.int .u16 tuq)).setCell ⟨gs, 8, none⟩ (.int .u32 tut)).setCell ⟨gs, 9, none⟩ (.int .u16 tup)).setCell ⟨gs, 10, none⟩ (.int .u8 tul)).setCell ⟨wo.heap.size + 1 + 1, 0, none⟩ (.int .u16 tuq)).setCell ⟨wo.heap.size + 1 + 1, 1, none⟩ (.int .u32 tut)).setCell ⟨wo.heap.size + 1 + 1, 2, none⟩ (.int .u16 tup)).setCell ⟨wo.heap.size + 1 + 1, 3, none⟩ (.int .u8 tul)).alloc (.cells #[.bool ton, .int .i64 th, .int .i64 tc, .int .u16 toq, .int .u32 tot, .int .u16 top, .int .u8 tol, .int .u16 tuq, .int .u32 tut, .int .u16 tup, .int .u8 tul] 27)).alloc (.cells #[.int .u16 qq, .int .u32 qt, .int .u16 qp, .int .u8 ql] 25)) (w2.heap.size + 1) 25 #[.int .u16 qq, .int .u32 qt, .int .u16 qp, .int .u8 ql] := by have := Whole.new ((((((((((((((((w2.setCell ⟨gs, 0, none⟩ (.bool ton)).setCell ⟨gs, 1, none⟩ (.int .i64 th)).setCell ⟨gs, 2, none⟩ (.int .i64 tc)).setCell ⟨gs, 3, none⟩ (.int .u16 toq)).setCell ⟨gs, 4, none⟩ (.int .u32 tot)).setCell ⟨gs, 5, none⟩ (.int .u16 top)).setCell ⟨gs, 6, none⟩ (.int .u8 tol)).setCell ⟨gs, 7, none⟩ (.int .u16 tuq)).setCell ⟨gs, 8, none⟩ (.int .u32 tut)).setCell ⟨gs, 9, none⟩ (.int .u16 tup)).setCell ⟨gs, 10, none⟩ (.int .u8 tul)).setCell ⟨wo.heap.size + 1 + 1, 0, none⟩ (.int .u16 tuq)).setCell ⟨wo.heap.size + 1 + 1, 1, none⟩ (.int .u32 tut)).setCell ⟨wo.heap.size + 1 + 1, 2, none⟩ (.int .u16 tup)).setCell ⟨wo.heap.size + 1 + 1, 3, none⟩ (.int .u8 tul)).alloc (.cells #[.bool ton, .int .i64 th, .int .i64 tc, .int .u16 toq, .int .u32 tot, .int .u16 top, .int .u8 tol, .int .u16 tuq, .int .u32 tut, .int .u16 tup, .int .u8 tul] 27)) 25 #[.int .u16 qq, .int .u32 qt, .int .u16 qp, .int .u8 ql]; first | with_reducible exact this | simpa using this
        have Ss3 := ((((Whole.four_far ((Whole.eleven (Ss2.out) (.bool ton) (.int .i64 th) (.int .i64 tc) (.int .u16 toq) (.int .u32 tot) (.int .u16 top) (.int .u8 tol) (.int .u16 tuq) (.int .u32 tut) (.int .u16 tup) (.int .u8 tul))) (show gs ≠ wo.heap.size + 1 + 1 from by omega) (.int .u16 tuq) (.int .u32 tut) (.int .u16 tup) (.int .u8 tul)).alloc (.cells #[.bool ton, .int .i64 th, .int .i64 tc, .int .u16 toq, .int .u32 tot, .int .u16 top, .int .u8 tol, .int .u16 tuq, .int .u32 tut, .int .u16 tup, .int .u8 tul] 27)).alloc (.cells #[.int .u16 qq, .int .u32 qt, .int .u16 qp, .int .u8 ql] 25))).below b3 (by have := ((((Whole.four_far ((Whole.eleven (Ss2.out) (.bool ton) (.int .i64 th) (.int .i64 tc) (.int .u16 toq) (.int .u32 tot) (.int .u16 top) (.int .u8 tol) (.int .u16 tuq) (.int .u32 tut) (.int .u16 tup) (.int .u8 tul))) (show gs ≠ wo.heap.size + 1 + 1 from by omega) (.int .u16 tuq) (.int .u32 tut) (.int .u16 tup) (.int .u8 tul)).alloc (.cells #[.bool ton, .int .i64 th, .int .i64 tc, .int .u16 toq, .int .u32 tot, .int .u16 top, .int .u8 tol, .int .u16 tuq, .int .u32 tut, .int .u16 tup, .int .u8 tul] 27)).alloc (.cells #[.int .u16 qq, .int .u32 qt, .int .u16 qp, .int .u8 ql] 25))).lt; first | with_reducible exact this | simpa using this)
        have Sx3 := ((((Whole.four_far ((Whole.eleven_far (Sx2.out) (show wo.heap.size ≠ gs from by omega) (.bool ton) (.int .i64 th) (.int .i64 tc) (.int .u16 toq) (.int .u32 tot) (.int .u16 top) (.int .u8 tol) (.int .u16 tuq) (.int .u32 tut) (.int .u16 tup) (.int .u8 tul))) (show wo.heap.size ≠ wo.heap.size + 1 + 1 from by omega) (.int .u16 tuq) (.int .u32 tut) (.int .u16 tup) (.int .u8 tul)).alloc (.cells #[.bool ton, .int .i64 th, .int .i64 tc, .int .u16 toq, .int .u32 tot, .int .u16 top, .int .u8 tol, .int .u16 tuq, .int .u32 tut, .int .u16 tup, .int .u8 tul] 27)).alloc (.cells #[.int .u16 qq, .int .u32 qt, .int .u16 qp, .int .u8 ql] 25))).below b3 (by have := ((((Whole.four_far ((Whole.eleven_far (Sx2.out) (show wo.heap.size ≠ gs from by omega) (.bool ton) (.int .i64 th) (.int .i64 tc) (.int .u16 toq) (.int .u32 tot) (.int .u16 top) (.int .u8 tol) (.int .u16 tuq) (.int .u32 tut) (.int .u16 tup) (.int .u8 tul))) (show wo.heap.size ≠ wo.heap.size + 1 + 1 from by omega) (.int .u16 tuq) (.int .u32 tut) (.int .u16 tup) (.int .u8 tul)).alloc (.cells #[.bool ton, .int .i64 th, .int .i64 tc, .int .u16 toq, .int .u32 tot, .int .u16 top, .int .u8 tol, .int .u16 tuq, .int .u32 tut, .int .u16 tup, .int .u8 tul] 27)).alloc (.cells #[.int .u16 qq, .int .u32 qt, .int .u16 qp, .int .u8 ql] 25))).lt; first | with_reducible exact this | simpa using this)
        have Swas3 := ((((Whole.four_far ((Whole.eleven_far (Swas2.out) (show wo.heap.size + 1 ≠ gs from by omega) (.bool ton) (.int .i64 th) (.int .i64 tc) (.int .u16 toq) (.int .u32 tot) (.int .u16 top) (.int .u8 tol) (.int .u16 tuq) (.int .u32 tut) (.int .u16 tup) (.int .u8 tul))) (show wo.heap.size + 1 ≠ wo.heap.size + 1 + 1 from by omega) (.int .u16 tuq) (.int .u32 tut) (.int .u16 tup) (.int .u8 tul)).alloc (.cells #[.bool ton, .int .i64 th, .int .i64 tc, .int .u16 toq, .int .u32 tot, .int .u16 top, .int .u8 tol, .int .u16 tuq, .int .u32 tut, .int .u16 tup, .int .u8 tul] 27)).alloc (.cells #[.int .u16 qq, .int .u32 qt, .int .u16 qp, .int .u8 ql] 25))).below b3 (by have := ((((Whole.four_far ((Whole.eleven_far (Swas2.out) (show wo.heap.size + 1 ≠ gs from by omega) (.bool ton) (.int .i64 th) (.int .i64 tc) (.int .u16 toq) (.int .u32 tot) (.int .u16 top) (.int .u8 tol) (.int .u16 tuq) (.int .u32 tut) (.int .u16 tup) (.int .u8 tul))) (show wo.heap.size + 1 ≠ wo.heap.size + 1 + 1 from by omega) (.int .u16 tuq) (.int .u32 tut) (.int .u16 tup) (.int .u8 tul)).alloc (.cells #[.bool ton, .int .i64 th, .int .i64 tc, .int .u16 toq, .int .u32 tot, .int .u16 top, .int .u8 tol, .int .u16 tuq, .int .u32 tut, .int .u16 tup, .int .u8 tul] 27)).alloc (.cells #[.int .u16 qq, .int .u32 qt, .int .u16 qp, .int .u8 ql] 25))).lt; first | with_reducible exact this | simpa using this)
        have Stold3 := ((((Whole.four ((Whole.eleven_far (Stold2.out) (show wo.heap.size + 1 + 1 ≠ gs from by omega) (.bool ton) (.int .i64 th) (.int .i64 tc) (.int .u16 toq) (.int .u32 tot) (.int .u16 top) (.int .u8 tol) (.int .u16 tuq) (.int .u32 tut) (.int .u16 tup) (.int .u8 tul))) (.int .u16 tuq) (.int .u32 tut) (.int .u16 tup) (.int .u8 tul)).alloc (.cells #[.bool ton, .int .i64 th, .int .i64 tc, .int .u16 toq, .int .u32 tot, .int .u16 top, .int .u8 tol, .int .u16 tuq, .int .u32 tut, .int .u16 tup, .int .u8 tul] 27)).alloc (.cells #[.int .u16 qq, .int .u32 qt, .int .u16 qp, .int .u8 ql] 25))).below b3 (by have := ((((Whole.four ((Whole.eleven_far (Stold2.out) (show wo.heap.size + 1 + 1 ≠ gs from by omega) (.bool ton) (.int .i64 th) (.int .i64 tc) (.int .u16 toq) (.int .u32 tot) (.int .u16 top) (.int .u8 tol) (.int .u16 tuq) (.int .u32 tut) (.int .u16 tup) (.int .u8 tul))) (.int .u16 tuq) (.int .u32 tut) (.int .u16 tup) (.int .u8 tul)).alloc (.cells #[.bool ton, .int .i64 th, .int .i64 tc, .int .u16 toq, .int .u32 tot, .int .u16 top, .int .u8 tol, .int .u16 tuq, .int .u32 tut, .int .u16 tup, .int .u8 tul] 27)).alloc (.cells #[.int .u16 qq, .int .u32 qt, .int .u16 qp, .int .u8 ql] 25))).lt; first | with_reducible exact this | simpa using this)
        have St3 := ((Nt.alloc (.cells #[.int .u16 qq, .int .u32 qt, .int .u16 qp, .int .u8 ql] 25))).below b3 (by have := ((Nt.alloc (.cells #[.int .u16 qq, .int .u32 qt, .int .u16 qp, .int .u8 ql] 25))).lt; first | with_reducible exact this | simpa using this)
        have Sn3 := (Nn).below b3 (by have := (Nn).lt; first | with_reducible exact this | simpa using this)
        have HB3 := Lib.hid (((((four_set ((eleven_set (HB2.out) (show w.heap.size ≤ gs from by omega) (.bool ton) (.int .i64 th) (.int .i64 tc) (.int .u16 toq) (.int .u32 tot) (.int .u16 top) (.int .u8 tol) (.int .u16 tuq) (.int .u32 tut) (.int .u16 tup) (.int .u8 tul))) (show w.heap.size ≤ wo.heap.size + 1 + 1 from by omega) (.int .u16 tuq) (.int .u32 tut) (.int .u16 tup) (.int .u8 tul)).alloc ((four_set ((eleven_set (HB2.out) (show w.heap.size ≤ gs from by omega) (.bool ton) (.int .i64 th) (.int .i64 tc) (.int .u16 toq) (.int .u32 tot) (.int .u16 top) (.int .u8 tol) (.int .u16 tuq) (.int .u32 tut) (.int .u16 tup) (.int .u8 tul))) (show w.heap.size ≤ wo.heap.size + 1 + 1 from by omega) (.int .u16 tuq) (.int .u32 tut) (.int .u16 tup) (.int .u8 tul))).size (.cells #[.bool ton, .int .i64 th, .int .i64 tc, .int .u16 toq, .int .u32 tot, .int .u16 top, .int .u8 tol, .int .u16 tuq, .int .u32 tut, .int .u16 tup, .int .u8 tul] 27)).alloc (((four_set ((eleven_set (HB2.out) (show w.heap.size ≤ gs from by omega) (.bool ton) (.int .i64 th) (.int .i64 tc) (.int .u16 toq) (.int .u32 tot) (.int .u16 top) (.int .u8 tol) (.int .u16 tuq) (.int .u32 tut) (.int .u16 tup) (.int .u8 tul))) (show w.heap.size ≤ wo.heap.size + 1 + 1 from by omega) (.int .u16 tuq) (.int .u32 tut) (.int .u16 tup) (.int .u8 tul)).alloc ((four_set ((eleven_set (HB2.out) (show w.heap.size ≤ gs from by omega) (.bool ton) (.int .i64 th) (.int .i64 tc) (.int .u16 toq) (.int .u32 tot) (.int .u16 top) (.int .u8 tol) (.int .u16 tuq) (.int .u32 tut) (.int .u16 tup) (.int .u8 tul))) (show w.heap.size ≤ wo.heap.size + 1 + 1 from by omega) (.int .u16 tuq) (.int .u32 tut) (.int .u16 tup) (.int .u8 tul))).size (.cells #[.bool ton, .int .i64 th, .int .i64 tc, .int .u16 toq, .int .u32 tot, .int .u16 top, .int .u8 tol, .int .u16 tuq, .int .u32 tut, .int .u16 tup, .int .u8 tul] 27))).size (.cells #[.int .u16 qq, .int .u32 qt, .int .u16 qp, .int .u8 ql] 25))).trans (b3.mono ((((four_set ((eleven_set (HB2.out) (show w.heap.size ≤ gs from by omega) (.bool ton) (.int .i64 th) (.int .i64 tc) (.int .u16 toq) (.int .u32 tot) (.int .u16 top) (.int .u8 tol) (.int .u16 tuq) (.int .u32 tut) (.int .u16 tup) (.int .u8 tul))) (show w.heap.size ≤ wo.heap.size + 1 + 1 from by omega) (.int .u16 tuq) (.int .u32 tut) (.int .u16 tup) (.int .u8 tul)).alloc ((four_set ((eleven_set (HB2.out) (show w.heap.size ≤ gs from by omega) (.bool ton) (.int .i64 th) (.int .i64 tc) (.int .u16 toq) (.int .u32 tot) (.int .u16 top) (.int .u8 tol) (.int .u16 tuq) (.int .u32 tut) (.int .u16 tup) (.int .u8 tul))) (show w.heap.size ≤ wo.heap.size + 1 + 1 from by omega) (.int .u16 tuq) (.int .u32 tut) (.int .u16 tup) (.int .u8 tul))).size (.cells #[.bool ton, .int .i64 th, .int .i64 tc, .int .u16 toq, .int .u32 tot, .int .u16 top, .int .u8 tol, .int .u16 tuq, .int .u32 tut, .int .u16 tup, .int .u8 tul] 27)).alloc (((four_set ((eleven_set (HB2.out) (show w.heap.size ≤ gs from by omega) (.bool ton) (.int .i64 th) (.int .i64 tc) (.int .u16 toq) (.int .u32 tot) (.int .u16 top) (.int .u8 tol) (.int .u16 tuq) (.int .u32 tut) (.int .u16 tup) (.int .u8 tul))) (show w.heap.size ≤ wo.heap.size + 1 + 1 from by omega) (.int .u16 tuq) (.int .u32 tut) (.int .u16 tup) (.int .u8 tul)).alloc ((four_set ((eleven_set (HB2.out) (show w.heap.size ≤ gs from by omega) (.bool ton) (.int .i64 th) (.int .i64 tc) (.int .u16 toq) (.int .u32 tot) (.int .u16 top) (.int .u8 tol) (.int .u16 tuq) (.int .u32 tut) (.int .u16 tup) (.int .u8 tul))) (show w.heap.size ≤ wo.heap.size + 1 + 1 from by omega) (.int .u16 tuq) (.int .u32 tut) (.int .u16 tup) (.int .u8 tul))).size (.cells #[.bool ton, .int .i64 th, .int .i64 tc, .int .u16 toq, .int .u32 tot, .int .u16 top, .int .u8 tol, .int .u16 tuq, .int .u32 tut, .int .u16 tup, .int .u8 tul] 27))).size (.cells #[.int .u16 qq, .int .u32 qt, .int .u16 qp, .int .u8 ql] 25))).size))
        have ls3 := Ss3.lt
        have lx3 := Sx3.lt
        have lwas3 := Swas3.lt
        have ltold3 := Stold3.lt
        have lt3 := St3.lt
        have ln3 := Sn3.lt
        clear b3 s2_0 fs2_0 s2_1 fs2_1 s2_2 fs2_2 s2_3 fs2_3 s2_4 fs2_4 s2_5 fs2_5 s2_6 fs2_6 s2_7 fs2_7 s2_8 fs2_8 s2_9 fs2_9 s2_10 fs2_10 x2_0 x2_1 x2_2 x2_3 x2_4 x2_5 x2_6 was2_0 was2_1 was2_2 was2_3 was2_4 was2_5 was2_6 was2_7 was2_8 was2_9 was2_10 told2_0 ftold2_0 told2_1 ftold2_1 told2_2 ftold2_2 told2_3 ftold2_3 Ss2 Sx2 Swas2 Stold2 Nt Nn HB2 LE
        have s3_0 := Ss3.cell 0
        have s3_1 := Ss3.cell 1
        have s3_2 := Ss3.cell 2
        have s3_3 := Ss3.cell 3
        have s3_4 := Ss3.cell 4
        have s3_5 := Ss3.cell 5
        have s3_6 := Ss3.cell 6
        have s3_7 := Ss3.cell 7
        have s3_8 := Ss3.cell 8
        have s3_9 := Ss3.cell 9
        have s3_10 := Ss3.cell 10
        have told3_0 := Stold3.cell 0
        have told3_1 := Stold3.cell 1
        have told3_2 := Stold3.cell 2
        have told3_3 := Stold3.cell 3
        have was3_0 := Swas3.cell 0
        have was3_1 := Swas3.cell 1
        have was3_2 := Swas3.cell 2
        have was3_3 := Swas3.cell 3
        have was3_4 := Swas3.cell 4
        have was3_5 := Swas3.cell 5
        have was3_6 := Swas3.cell 6
        have was3_7 := Swas3.cell 7
        have was3_8 := Swas3.cell 8
        have was3_9 := Swas3.cell 9
        have was3_10 := Swas3.cell 10
        replace Ss3 := Lib.hid Ss3
        replace Sx3 := Lib.hid Sx3
        replace Swas3 := Lib.hid Swas3
        replace Stold3 := Lib.hid Stold3
        replace St3 := Lib.hid St3
        replace Sn3 := Lib.hid Sn3
        go_wp2
        go_roundw
        case rel => exact ⟨k + 1, ⟨ton, th, tc, ⟨toq, tot, top, tol⟩, ⟨tuq, tut, tup, tul⟩⟩, by omega, by go_num, Lib.hid (Ss3.out), GE, HB3.out⟩
        case measure => simp [intOf]; omega
    · obtain rfl : k = n := by omega
      go_wp2
      go_ret
      exact ⟨rfl, HB.out⟩

set_option maxRecDepth 100000 in
theorem lifted (os : Os) (started : os.Started) (H : Type) (enc : TypeId × Value → H) :
    ReturnsInHanded {} Try.checked os 7 .any (Rows.mungeTimesSpec.pre6 enc Try.prog Try.f7 Rows.mungeTimesRow.domain false) (Rows.mungeTimesSpec.post enc Try.prog Try.f7 false true false false) := by
  refine returnsInHanded_of_change (C := Try.checked) own started (by kernel_rfl) Try.func7
    (ChangeSpec.witness6 (enc := enc) (C := Try.checked) false ⟨#[], #[.slice none 0 0], []⟩ 8 (by kernel_rfl) (by kernel_rfl) (by kernel_rfl) (by kernel_rfl)) ?_
  intro W base args ds gs before hval0 hW _ _
  have hval : ∀ (j : Nat) t v, Try.f7.params[j]? = some t → args[j]? = some v → Value.okWide Try.prog W .any base t v := hval0
  have hW' := hW
  obtain ⟨p, q, hA0, hV, _, _, _⟩ := hW
  have hA : DataW.TrodAll enc Try.prog W 0 (fun _ => true) true Try.f7.params.toList args.toList ds p := hA0
  rw [Try.params7] at hA hval
  obtain ⟨v0, vs0, d0, ds0, p0, q0, hargs, rfl, _, h0, r0⟩ := trodAll_cons hA
  obtain ⟨rfl, rfl, _⟩ := trodAll_nil r0
  obtain rfl : args = #[v0] := by cases args; simp_all
  obtain ⟨rfl, _⟩ := trodVars_none hV
  refine law_post (s := Rows.mungeTimesSpec) rfl rfl (by rw [Try.params7]; intro t ht; simp at ht; rcases ht with rfl <;> exact ⟨by kernel_rfl, of_decide_eq_true (by kernel_rfl)⟩) rfl hW' ?_
  obtain ⟨A0, c0, l0, rfl, hl0, hr0, hq0⟩ := open_steps (hval 0 48 v0 rfl rfl) h0
  exact walk W A0 c0 l0 hl0 hr0 hq0

theorem over : Rows.mungeTimesRow.holds Try.pinned (OpenSpec.ofChange Rows.mungeTimesSpec) :=
  OpenClaim.holds_of_wide 7 Try.f7 rfl rfl rfl rfl rfl rfl rfl ⟨rfl, rfl, rfl, rfl, rfl⟩ rfl rfl rfl rfl rfl (by kernel_rfl) Try.func7 (by kernel_rfl)
    (of_decide_eq_true (by kernel_rfl)) (by unfold Func.isWrapper; first | (rw [if_pos (by decide +kernel)]; kernel_rfl) | (rw [if_neg (by decide +kernel)]; exact ⟨rfl, rfl⟩))
    (fun os started H enc _ => lifted os started H enc)

/-- The statement. -/
theorem mungeTimes_holds : Rows.MungeTimesSaid := over

end Go.Proofs.Ytpemikncbolkbaa.UTimes
