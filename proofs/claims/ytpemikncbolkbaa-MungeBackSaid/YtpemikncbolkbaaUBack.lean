/-
  Proved: MungeBack returns true for every state whose highest number is within 2^40 of 0, and every packet (else there is nothing to show): what is taken from a packet's numbers, and what is told of them, come to the packet's, but for a time that would go back. Conditions: none.
-/
import Derived.Test.YtpemikncbolkbaaMuD
import Derived.Test.YtpemikncbolkbaaMuX
import Derived.Test.YtpemikncbolkbaaMuO
import Derived.Test.YtpemikncbolkbaaMuP
import Derived.Deep.CutBlock
namespace Go.Proofs.Ytpemikncbolkbaa.UBack
open Go.ChangeShapes Go.WideShapes Go.ChangeAt Go.RowKit
set_option linter.unusedSimpArgs false
set_option linter.unusedVariables false

set_option maxRecDepth 1000000 in
set_option maxHeartbeats 12800000 in
theorem walk (w : World) (s : Mst) (hs : s.Parts) (x : Mn) (hx : x.Fit) :
    Calls Try.prog 8 #[.agg s.cells, .agg x.cells] w fun e w' => e = .returned (.bool true) ∧ Below w.heap.size w w' := by
  have CA := Lib.hid (fun w => awake_any w)
  have CE := fun (h : s.Fit 1000000000000000) w => msend_any s x h hx w
  have CW := fun w => mswitch_any s x 9 hs hx (by decide) w
  have FA := Mn.less_add x (s.begins x 9) hx
  have FT := @Mst.told_back s x hx
  have FN := @Mst.not_told s x
  have HP := hs
  obtain ⟨b, hb⟩ : ∃ b, s.tells x = b := ⟨_, rfl⟩
  obtain ⟨n, hn⟩ : ∃ n, s.told x = n := ⟨_, rfl⟩
  obtain ⟨t, ht⟩ : ∃ t, s.sendS x = t := ⟨_, rfl⟩
  obtain ⟨m, hm⟩ : ∃ m, s.begins x 9 = m := ⟨_, rfl⟩
  have hu : s.switchS x 9 = ⟨true, x.seq, x.seq, x.less m, m⟩ := by unfold Mst.switchS; rw [hm]
  obtain ⟨l, hl⟩ : ∃ l, x.less m = l := ⟨_, rfl⟩
  rw [hl] at hu
  rw [hb, hn, ht] at CE
  rw [hu, hm] at CW
  rw [hm, hl] at FA
  rw [hb, hn, ht] at FT
  rw [hb, hn, ht] at FN
  clear hb hn ht hm hl hu hx hs
  have EM := fun w => eql_mst w s
  have EN := fun w => eql_nums w Mn.zero
  have EF := fun w => eql_nums w s.off
  have EU := fun w => neq_nums w m
  obtain ⟨son, sh, sc, ⟨soq, sot, sop, sol⟩, ⟨suq, sut, sup, sul⟩⟩ := s
  obtain ⟨xq, xt, xp, xl⟩ := x
  obtain ⟨nq, nt, np, nl⟩ := n
  obtain ⟨ton, th, tc, ⟨toq, tot, top, tol⟩, ⟨tuq, tut, tup, tul⟩⟩ := t
  obtain ⟨mq, mt, mp, ml⟩ := m
  obtain ⟨lq, lt, lp, ll⟩ := l
  dsimp only [Mst.cells, Mn.cells, Mn.zero] at *
  replace CE := Lib.hid CE
  replace CW := Lib.hid CW
  replace FA := Lib.hid FA
  replace FT := Lib.hid FT
  replace FN := Lib.hid FN
  replace HP := Lib.hid HP
  replace EM := Lib.hid EM
  replace EN := Lib.hid EN
  replace EF := Lib.hid EF
  replace EU := Lib.hid EU
  go_enter Try.func8, Try.ntmps8
  go_wp2_with fail
  refine (CA.out _).mono ?_
  rintro e w1 ⟨rfl, b1⟩
  have Ns : Whole (w.alloc (.cells #[.bool son, .int .i64 sh, .int .i64 sc, .int .u16 soq, .int .u32 sot, .int .u16 sop, .int .u8 sol, .int .u16 suq, .int .u32 sut, .int .u16 sup, .int .u8 sul] 27)) (w.heap.size) 27 #[.bool son, .int .i64 sh, .int .i64 sc, .int .u16 soq, .int .u32 sot, .int .u16 sop, .int .u8 sol, .int .u16 suq, .int .u32 sut, .int .u16 sup, .int .u8 sul] := by have := Whole.new w 27 #[.bool son, .int .i64 sh, .int .i64 sc, .int .u16 soq, .int .u32 sot, .int .u16 sop, .int .u8 sol, .int .u16 suq, .int .u32 sut, .int .u16 sup, .int .u8 sul]; first | with_reducible exact this | simpa using this
  have Nx : Whole ((w.alloc (.cells #[.bool son, .int .i64 sh, .int .i64 sc, .int .u16 soq, .int .u32 sot, .int .u16 sop, .int .u8 sol, .int .u16 suq, .int .u32 sut, .int .u16 sup, .int .u8 sul] 27)).alloc (.cells #[.int .u16 xq, .int .u32 xt, .int .u16 xp, .int .u8 xl] 25)) (w.heap.size + 1) 25 #[.int .u16 xq, .int .u32 xt, .int .u16 xp, .int .u8 xl] := by have := Whole.new (w.alloc (.cells #[.bool son, .int .i64 sh, .int .i64 sc, .int .u16 soq, .int .u32 sot, .int .u16 sop, .int .u8 sol, .int .u16 suq, .int .u32 sut, .int .u16 sup, .int .u8 sul] 27)) 25 #[.int .u16 xq, .int .u32 xt, .int .u16 xp, .int .u8 xl]; first | with_reducible exact this | simpa using this
  have Ss1 := ((Ns.alloc (.cells #[.int .u16 xq, .int .u32 xt, .int .u16 xp, .int .u8 xl] 25))).below b1 (by have := ((Ns.alloc (.cells #[.int .u16 xq, .int .u32 xt, .int .u16 xp, .int .u8 xl] 25))).lt; first | with_reducible exact this | simpa using this)
  have Sx1 := (Nx).below b1 (by have := (Nx).lt; first | with_reducible exact this | simpa using this)
  have HB1 := Lib.hid (((((Below.refl w.heap.size w).alloc ((Below.refl w.heap.size w)).size (.cells #[.bool son, .int .i64 sh, .int .i64 sc, .int .u16 soq, .int .u32 sot, .int .u16 sop, .int .u8 sol, .int .u16 suq, .int .u32 sut, .int .u16 sup, .int .u8 sul] 27)).alloc (((Below.refl w.heap.size w).alloc ((Below.refl w.heap.size w)).size (.cells #[.bool son, .int .i64 sh, .int .i64 sc, .int .u16 soq, .int .u32 sot, .int .u16 sop, .int .u8 sol, .int .u16 suq, .int .u32 sut, .int .u16 sup, .int .u8 sul] 27))).size (.cells #[.int .u16 xq, .int .u32 xt, .int .u16 xp, .int .u8 xl] 25))).trans (b1.mono ((((Below.refl w.heap.size w).alloc ((Below.refl w.heap.size w)).size (.cells #[.bool son, .int .i64 sh, .int .i64 sc, .int .u16 soq, .int .u32 sot, .int .u16 sop, .int .u8 sol, .int .u16 suq, .int .u32 sut, .int .u16 sup, .int .u8 sul] 27)).alloc (((Below.refl w.heap.size w).alloc ((Below.refl w.heap.size w)).size (.cells #[.bool son, .int .i64 sh, .int .i64 sc, .int .u16 soq, .int .u32 sot, .int .u16 sop, .int .u8 sol, .int .u16 suq, .int .u32 sut, .int .u16 sup, .int .u8 sul] 27))).size (.cells #[.int .u16 xq, .int .u32 xt, .int .u16 xp, .int .u8 xl] 25))).size))
  have ls1 := Ss1.lt
  have lx1 := Sx1.lt
  clear b1 Ns Nx CA
  have s1_0 := Ss1.cell 0
  have fs1_0 := Ss1.free 0
  have s1_1 := Ss1.cell 1
  have fs1_1 := Ss1.free 1
  have s1_2 := Ss1.cell 2
  have fs1_2 := Ss1.free 2
  have s1_3 := Ss1.cell 3
  have fs1_3 := Ss1.free 3
  have s1_4 := Ss1.cell 4
  have fs1_4 := Ss1.free 4
  have s1_5 := Ss1.cell 5
  have fs1_5 := Ss1.free 5
  have s1_6 := Ss1.cell 6
  have fs1_6 := Ss1.free 6
  have s1_7 := Ss1.cell 7
  have fs1_7 := Ss1.free 7
  have s1_8 := Ss1.cell 8
  have fs1_8 := Ss1.free 8
  have s1_9 := Ss1.cell 9
  have fs1_9 := Ss1.free 9
  have s1_10 := Ss1.cell 10
  have fs1_10 := Ss1.free 10
  have x1_0 := Sx1.cell 0
  have fx1_0 := Sx1.free 0
  have x1_1 := Sx1.cell 1
  have fx1_1 := Sx1.free 1
  have x1_2 := Sx1.cell 2
  have fx1_2 := Sx1.free 2
  have x1_3 := Sx1.cell 3
  have fx1_3 := Sx1.free 3
  replace Ss1 := Lib.hid Ss1
  replace Sx1 := Lib.hid Sx1
  by_cases h1 : 1099511627776 < sh
  · go_wp2
    go_ret
    exact ⟨rfl, HB1.out⟩
  by_cases h2 : sh < -1099511627776
  · go_wp2
    go_ret
    exact ⟨rfl, HB1.out⟩
  have HF : Mst.Fit 1000000000000000 ⟨son, sh, sc, ⟨soq, sot, sop, sol⟩, ⟨suq, sut, sup, sul⟩⟩ := ⟨by dsimp only; omega, HP.out.2.1, HP.out.2.2⟩
  replace CE := Lib.hid (CE.out HF)
  clear HF HP
  go_wp2_with fail
  refine (CE.out _).mono ?_
  rintro e w2 ⟨rfl, b2⟩
  have Ss2 := (Ss1.out).below b2 (by have := (Ss1.out).lt; first | with_reducible exact this | simpa using this)
  have Sx2 := (Sx1.out).below b2 (by have := (Sx1.out).lt; first | with_reducible exact this | simpa using this)
  have HB2 := Lib.hid ((HB1.out).trans (b2.mono (HB1.out).size))
  have ls2 := Ss2.lt
  have lx2 := Sx2.lt
  clear b2 s1_0 fs1_0 s1_1 fs1_1 s1_2 fs1_2 s1_3 fs1_3 s1_4 fs1_4 s1_5 fs1_5 s1_6 fs1_6 s1_7 fs1_7 s1_8 fs1_8 s1_9 fs1_9 s1_10 fs1_10 x1_0 fx1_0 x1_1 fx1_1 x1_2 fx1_2 x1_3 fx1_3 Ss1 Sx1 HB1 CE ls1 lx1
  have s2_0 := Ss2.cell 0
  have fs2_0 := Ss2.free 0
  have s2_1 := Ss2.cell 1
  have fs2_1 := Ss2.free 1
  have s2_2 := Ss2.cell 2
  have fs2_2 := Ss2.free 2
  have s2_3 := Ss2.cell 3
  have fs2_3 := Ss2.free 3
  have s2_4 := Ss2.cell 4
  have fs2_4 := Ss2.free 4
  have s2_5 := Ss2.cell 5
  have fs2_5 := Ss2.free 5
  have s2_6 := Ss2.cell 6
  have fs2_6 := Ss2.free 6
  have s2_7 := Ss2.cell 7
  have fs2_7 := Ss2.free 7
  have s2_8 := Ss2.cell 8
  have fs2_8 := Ss2.free 8
  have s2_9 := Ss2.cell 9
  have fs2_9 := Ss2.free 9
  have s2_10 := Ss2.cell 10
  have fs2_10 := Ss2.free 10
  have x2_0 := Sx2.cell 0
  have fx2_0 := Sx2.free 0
  have x2_1 := Sx2.cell 1
  have fx2_1 := Sx2.free 1
  have x2_2 := Sx2.cell 2
  have fx2_2 := Sx2.free 2
  have x2_3 := Sx2.cell 3
  have fx2_3 := Sx2.free 3
  replace Ss2 := Lib.hid Ss2
  replace Sx2 := Lib.hid Sx2
  go_wp2_with fail
  refine (CW.out _).mono ?_
  rintro e w3 ⟨rfl, b3⟩
  have Nt : Whole (w2.alloc (.cells #[.bool ton, .int .i64 th, .int .i64 tc, .int .u16 toq, .int .u32 tot, .int .u16 top, .int .u8 tol, .int .u16 tuq, .int .u32 tut, .int .u16 tup, .int .u8 tul] 27)) (w2.heap.size) 27 #[.bool ton, .int .i64 th, .int .i64 tc, .int .u16 toq, .int .u32 tot, .int .u16 top, .int .u8 tol, .int .u16 tuq, .int .u32 tut, .int .u16 tup, .int .u8 tul] := by have := Whole.new w2 27 #[.bool ton, .int .i64 th, .int .i64 tc, .int .u16 toq, .int .u32 tot, .int .u16 top, .int .u8 tol, .int .u16 tuq, .int .u32 tut, .int .u16 tup, .int .u8 tul]; first | with_reducible exact this | simpa using this
  have Nn : Whole ((w2.alloc (.cells #[.bool ton, .int .i64 th, .int .i64 tc, .int .u16 toq, .int .u32 tot, .int .u16 top, .int .u8 tol, .int .u16 tuq, .int .u32 tut, .int .u16 tup, .int .u8 tul] 27)).alloc (.cells #[.int .u16 nq, .int .u32 nt, .int .u16 np, .int .u8 nl] 25)) (w2.heap.size + 1) 25 #[.int .u16 nq, .int .u32 nt, .int .u16 np, .int .u8 nl] := by have := Whole.new (w2.alloc (.cells #[.bool ton, .int .i64 th, .int .i64 tc, .int .u16 toq, .int .u32 tot, .int .u16 top, .int .u8 tol, .int .u16 tuq, .int .u32 tut, .int .u16 tup, .int .u8 tul] 27)) 25 #[.int .u16 nq, .int .u32 nt, .int .u16 np, .int .u8 nl]; first | with_reducible exact this | simpa using this
  have Ss3 := (((Ss2.out.alloc (.cells #[.bool ton, .int .i64 th, .int .i64 tc, .int .u16 toq, .int .u32 tot, .int .u16 top, .int .u8 tol, .int .u16 tuq, .int .u32 tut, .int .u16 tup, .int .u8 tul] 27)).alloc (.cells #[.int .u16 nq, .int .u32 nt, .int .u16 np, .int .u8 nl] 25))).below b3 (by have := (((Ss2.out.alloc (.cells #[.bool ton, .int .i64 th, .int .i64 tc, .int .u16 toq, .int .u32 tot, .int .u16 top, .int .u8 tol, .int .u16 tuq, .int .u32 tut, .int .u16 tup, .int .u8 tul] 27)).alloc (.cells #[.int .u16 nq, .int .u32 nt, .int .u16 np, .int .u8 nl] 25))).lt; first | with_reducible exact this | simpa using this)
  have Sx3 := (((Sx2.out.alloc (.cells #[.bool ton, .int .i64 th, .int .i64 tc, .int .u16 toq, .int .u32 tot, .int .u16 top, .int .u8 tol, .int .u16 tuq, .int .u32 tut, .int .u16 tup, .int .u8 tul] 27)).alloc (.cells #[.int .u16 nq, .int .u32 nt, .int .u16 np, .int .u8 nl] 25))).below b3 (by have := (((Sx2.out.alloc (.cells #[.bool ton, .int .i64 th, .int .i64 tc, .int .u16 toq, .int .u32 tot, .int .u16 top, .int .u8 tol, .int .u16 tuq, .int .u32 tut, .int .u16 tup, .int .u8 tul] 27)).alloc (.cells #[.int .u16 nq, .int .u32 nt, .int .u16 np, .int .u8 nl] 25))).lt; first | with_reducible exact this | simpa using this)
  have St3 := ((Nt.alloc (.cells #[.int .u16 nq, .int .u32 nt, .int .u16 np, .int .u8 nl] 25))).below b3 (by have := ((Nt.alloc (.cells #[.int .u16 nq, .int .u32 nt, .int .u16 np, .int .u8 nl] 25))).lt; first | with_reducible exact this | simpa using this)
  have Sn3 := (Nn).below b3 (by have := (Nn).lt; first | with_reducible exact this | simpa using this)
  have HB3 := Lib.hid ((((HB2.out.alloc (HB2.out).size (.cells #[.bool ton, .int .i64 th, .int .i64 tc, .int .u16 toq, .int .u32 tot, .int .u16 top, .int .u8 tol, .int .u16 tuq, .int .u32 tut, .int .u16 tup, .int .u8 tul] 27)).alloc ((HB2.out.alloc (HB2.out).size (.cells #[.bool ton, .int .i64 th, .int .i64 tc, .int .u16 toq, .int .u32 tot, .int .u16 top, .int .u8 tol, .int .u16 tuq, .int .u32 tut, .int .u16 tup, .int .u8 tul] 27))).size (.cells #[.int .u16 nq, .int .u32 nt, .int .u16 np, .int .u8 nl] 25))).trans (b3.mono (((HB2.out.alloc (HB2.out).size (.cells #[.bool ton, .int .i64 th, .int .i64 tc, .int .u16 toq, .int .u32 tot, .int .u16 top, .int .u8 tol, .int .u16 tuq, .int .u32 tut, .int .u16 tup, .int .u8 tul] 27)).alloc ((HB2.out.alloc (HB2.out).size (.cells #[.bool ton, .int .i64 th, .int .i64 tc, .int .u16 toq, .int .u32 tot, .int .u16 top, .int .u8 tol, .int .u16 tuq, .int .u32 tut, .int .u16 tup, .int .u8 tul] 27))).size (.cells #[.int .u16 nq, .int .u32 nt, .int .u16 np, .int .u8 nl] 25))).size))
  have ls3 := Ss3.lt
  have lx3 := Sx3.lt
  have lt3 := St3.lt
  have ln3 := Sn3.lt
  clear b3 s2_0 fs2_0 s2_1 fs2_1 s2_2 fs2_2 s2_3 fs2_3 s2_4 fs2_4 s2_5 fs2_5 s2_6 fs2_6 s2_7 fs2_7 s2_8 fs2_8 s2_9 fs2_9 s2_10 fs2_10 x2_0 fx2_0 x2_1 fx2_1 x2_2 fx2_2 x2_3 fx2_3 Ss2 Sx2 Nt Nn HB2 CW
  have s3_0 := Ss3.cell 0
  have s3_1 := Ss3.cell 1
  have s3_2 := Ss3.cell 2
  have s3_3 := Ss3.cell 3
  have s3_4 := Ss3.cell 4
  have s3_5 := Ss3.cell 5
  have s3_6 := Ss3.cell 6
  have s3_7 := Ss3.cell 7
  have s3_8 := Ss3.cell 8
  have s3_9 := Ss3.cell 9
  have s3_10 := Ss3.cell 10
  have x3_0 := Sx3.cell 0
  have x3_1 := Sx3.cell 1
  have x3_2 := Sx3.cell 2
  have x3_3 := Sx3.cell 3
  have t3_0 := St3.cell 0
  have t3_1 := St3.cell 1
  have t3_2 := St3.cell 2
  have t3_3 := St3.cell 3
  have t3_4 := St3.cell 4
  have t3_5 := St3.cell 5
  have t3_6 := St3.cell 6
  have t3_7 := St3.cell 7
  have t3_8 := St3.cell 8
  have t3_9 := St3.cell 9
  have t3_10 := St3.cell 10
  have n3_0 := Sn3.cell 0
  have n3_1 := Sn3.cell 1
  have n3_2 := Sn3.cell 2
  have n3_3 := Sn3.cell 3
  replace Ss3 := Lib.hid Ss3
  replace Sx3 := Lib.hid Sx3
  replace St3 := Lib.hid St3
  replace Sn3 := Lib.hid Sn3
  cases b with
  | false =>
    have h := FN.out (by simp)
    simp only [Mst.mk.injEq, Mn.mk.injEq] at h
    obtain ⟨⟨rfl, rfl, rfl, ⟨rfl, rfl, rfl, rfl⟩, ⟨rfl, rfl, rfl, rfl⟩⟩, ⟨rfl, rfl, rfl, rfl⟩⟩ := h
    obtain ⟨fa1, fa2, fa3, fa4⟩ := FA.out
    have EU := EU.out
    have EM := EM.out
    have EN := EN.out
    clear FA FT FN
    go_wp2
    go_ret
    exact ⟨ret_bool rfl, ((HB3.out.alloc (HB3.out).size (.cells #[.bool true, .int .i64 xq, .int .i64 xq, .int .u16 lq, .int .u32 lt, .int .u16 lp, .int .u8 ll, .int .u16 mq, .int .u32 mt, .int .u16 mp, .int .u8 ml] 27)).alloc ((HB3.out.alloc (HB3.out).size (.cells #[.bool true, .int .i64 xq, .int .i64 xq, .int .u16 lq, .int .u32 lt, .int .u16 lp, .int .u8 ll, .int .u16 mq, .int .u32 mt, .int .u16 mp, .int .u8 ml] 27))).size (.cells #[.int .u16 mq, .int .u32 mt, .int .u16 mp, .int .u8 ml] 25))⟩
  | true =>
    obtain ⟨ho, g1, g2, g3, hor⟩ := FT.out (by simp)
    simp only [Mn.mk.injEq] at ho
    obtain ⟨rfl, rfl, rfl, rfl⟩ := ho
    obtain ⟨fa1, fa2, fa3, fa4⟩ := FA.out
    have EU := EU.out
    have EF := EF.out
    clear FA FT FN EM EN
    rcases hor with hor | rfl
    · go_wp2
      go_ret
      exact ⟨ret_bool rfl, ((HB3.out.alloc (HB3.out).size (.cells #[.bool true, .int .i64 xq, .int .i64 xq, .int .u16 lq, .int .u32 lt, .int .u16 lp, .int .u8 ll, .int .u16 mq, .int .u32 mt, .int .u16 mp, .int .u8 ml] 27)).alloc ((HB3.out.alloc (HB3.out).size (.cells #[.bool true, .int .i64 xq, .int .i64 xq, .int .u16 lq, .int .u32 lt, .int .u16 lp, .int .u8 ll, .int .u16 mq, .int .u32 mt, .int .u16 mp, .int .u8 ml] 27))).size (.cells #[.int .u16 mq, .int .u32 mt, .int .u16 mp, .int .u8 ml] 25))⟩
    · by_cases hz : (nt + tot) % 4294967296 = xt
      · go_wp2
        go_ret
        exact ⟨ret_bool rfl, ((HB3.out.alloc (HB3.out).size (.cells #[.bool true, .int .i64 xq, .int .i64 xq, .int .u16 lq, .int .u32 lt, .int .u16 lp, .int .u8 ll, .int .u16 mq, .int .u32 mt, .int .u16 mp, .int .u8 ml] 27)).alloc ((HB3.out.alloc (HB3.out).size (.cells #[.bool true, .int .i64 xq, .int .i64 xq, .int .u16 lq, .int .u32 lt, .int .u16 lp, .int .u8 ll, .int .u16 mq, .int .u32 mt, .int .u16 mp, .int .u8 ml] 27))).size (.cells #[.int .u16 mq, .int .u32 mt, .int .u16 mp, .int .u8 ml] 25))⟩
      · go_wp2
        go_ret
        exact ⟨ret_bool rfl, ((HB3.out.alloc (HB3.out).size (.cells #[.bool true, .int .i64 xq, .int .i64 xq, .int .u16 lq, .int .u32 lt, .int .u16 lp, .int .u8 ll, .int .u16 mq, .int .u32 mt, .int .u16 mp, .int .u8 ml] 27)).alloc ((HB3.out.alloc (HB3.out).size (.cells #[.bool true, .int .i64 xq, .int .i64 xq, .int .u16 lq, .int .u32 lt, .int .u16 lp, .int .u8 ll, .int .u16 mq, .int .u32 mt, .int .u16 mp, .int .u8 ml] 27))).size (.cells #[.int .u16 mq, .int .u32 mt, .int .u16 mp, .int .u8 ml] 25))⟩

set_option maxRecDepth 100000 in
theorem lifted (os : Os) (started : os.Started) (H : Type) (enc : TypeId × Value → H) :
    ReturnsInHanded {} Try.checked os 8 .any (Rows.mungeBackSpec.pre6 enc Try.prog Try.f8 Rows.mungeBackRow.domain false) (Rows.mungeBackSpec.post enc Try.prog Try.f8 false true false false) := by
  refine returnsInHanded_of_change (C := Try.checked) own started (by kernel_rfl) Try.func8
    (ChangeSpec.witness6 (enc := enc) (C := Try.checked) false ⟨#[], #[.agg #[.bool false, .int .i64 0, .int .i64 0, .int .u16 0, .int .u32 0, .int .u16 0, .int .u8 0, .int .u16 0, .int .u32 0, .int .u16 0, .int .u8 0], .agg #[.int .u16 0, .int .u32 0, .int .u16 0, .int .u8 0]], []⟩ 8 (by kernel_rfl) (by kernel_rfl) (by kernel_rfl) (by kernel_rfl)) ?_
  intro W base args ds gs before hval0 hW _ _
  have hval : ∀ (j : Nat) t v, Try.f8.params[j]? = some t → args[j]? = some v → Value.okWide Try.prog W .any base t v := hval0
  have hW' := hW
  obtain ⟨p, q, hA0, hV, _, _, _⟩ := hW
  have hA : DataW.TrodAll enc Try.prog W 0 (fun _ => true) true Try.f8.params.toList args.toList ds p := hA0
  rw [Try.params8] at hA hval
  obtain ⟨v0, vs0, d0, ds0, p0, q0, hargs, rfl, _, h0, r0⟩ := trodAll_cons hA
  obtain ⟨v1, vs1, d1, ds1, p1, q1, rfl, rfl, _, h1, r1⟩ := trodAll_cons r0
  obtain ⟨rfl, rfl, _⟩ := trodAll_nil r1
  obtain rfl : args = #[v0, v1] := by cases args; simp_all
  obtain ⟨rfl, _⟩ := trodVars_none hV
  refine law_post (s := Rows.mungeBackSpec) rfl rfl (by rw [Try.params8]; intro t ht; simp at ht; rcases ht with rfl | rfl <;> exact ⟨by kernel_rfl, of_decide_eq_true (by kernel_rfl)⟩) rfl hW' ?_
  obtain ⟨s0, rfl, hs0⟩ := open_state (hval 0 27 v0 rfl rfl) h0
  obtain ⟨x1, rfl, hx1⟩ := open_mn (hval 1 25 v1 rfl rfl) h1
  exact walk W s0 hs0 x1 hx1

theorem over : Rows.mungeBackRow.holds Try.pinned (OpenSpec.ofChange Rows.mungeBackSpec) :=
  OpenClaim.holds_of_wide 8 Try.f8 rfl rfl rfl rfl rfl rfl rfl ⟨rfl, rfl, rfl, rfl, rfl⟩ rfl rfl rfl rfl rfl (by kernel_rfl) Try.func8 (by kernel_rfl)
    (of_decide_eq_true (by kernel_rfl)) (by unfold Func.isWrapper; first | (rw [if_pos (by decide +kernel)]; kernel_rfl) | (rw [if_neg (by decide +kernel)]; exact ⟨rfl, rfl⟩))
    (fun os started H enc _ => lifted os started H enc)

/-- The statement. -/
theorem mungeBack_holds : Rows.MungeBackSaid := over

end Go.Proofs.Ytpemikncbolkbaa.UBack
