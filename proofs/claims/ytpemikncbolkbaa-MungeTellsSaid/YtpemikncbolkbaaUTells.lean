/-
  Proved: MungeTells returns true for every state whose highest number is within 2^40 of 0, and every step (else there is nothing to show): the state behind it, and the numbers, are the document's. Conditions: none.
-/
import Derived.Test.YtpemikncbolkbaaMuD
import Derived.Test.YtpemikncbolkbaaMuO
import Derived.Test.YtpemikncbolkbaaMuP
import Derived.Test.YtpemikncbolkbaaMuX
import Derived.Test.YtpemikncbolkbaaMuV
import Derived.Test.YtpemikncbolkbaaMuW
import Derived.Test.YtpemikncbolkbaaInv
import Derived.Deep.CutBlock
import Derived.Deep.RegionHeld3
namespace Go.Proofs.Ytpemikncbolkbaa.UTells
open Go.ChangeShapes Go.WideShapes Go.ChangeAt Go.RowKit
set_option linter.unusedSimpArgs false
set_option linter.unusedVariables false

set_option maxRecDepth 1000000 in
set_option maxHeartbeats 100000000 in
theorem walk (w : World) (s : Mst) (hs : s.Parts) (k : Mk) (hk : k.Fit) :
    Calls Try.prog 3 #[.agg s.cells, .agg k.cells] w fun e w' => e = .returned (.bool true) ∧ Below w.heap.size w w' := by
  obtain ⟨ki, x, kt, kb⟩ := k
  obtain ⟨hx, hkt⟩ := hk
  dsimp only at hx hkt
  have CA := Lib.hid (fun w => awake_any w)
  have CW := fun w => mswitch_any s x kt hs hx hkt w
  have CE := fun (h : s.Fit 1000000000000000) w => msend_any s x h hx w
  have CD := fun (h : s.Fit 1000000000000000) w => mdrop_any s x kb h hx w
  have RW := fun (h : s.Fit 1000000000000000) w => refSwitch_any s x kt h hx hkt w
  have RE := fun (h : s.Fit 1000000000000000) w => refSend_any s x h hx w
  have RD := fun (h : s.Fit 1000000000000000) w => refDrop_any s x kb h hx w
  have O1 := fun w => mof_any s hs.2.1 hs.2.2 w
  have O2 := fun w => nums_any x hx w
  have hsf := fun (h : s.Fit 1000000000000000) => Mst.send_fit h x
  have hdf := fun (h : s.Fit 1000000000000000) => Mst.drop_fit h x kb
  have htf := fun (h : s.Fit 1000000000000000) => Mst.told_fit h x
  have hwf := Mst.switch_fit (s := s) (c := 65536) hx kt (by decide)
  have hbf := Mst.begins_fit (s := s) hx kt
  have HP := hs
  obtain ⟨b, hb⟩ : ∃ b, s.tells x = b := ⟨_, rfl⟩
  obtain ⟨n, hn⟩ : ∃ n, s.told x = n := ⟨_, rfl⟩
  obtain ⟨t, ht⟩ : ∃ t, s.sendS x = t := ⟨_, rfl⟩
  obtain ⟨d, hd⟩ : ∃ d, s.dropS x kb = d := ⟨_, rfl⟩
  obtain ⟨m, hm⟩ : ∃ m, s.begins x kt = m := ⟨_, rfl⟩
  obtain ⟨u, hu⟩ : ∃ u, s.switchS x kt = u := ⟨_, rfl⟩
  rw [hb, hn, ht] at CE RE
  rw [hd] at CD RD hdf
  rw [hu, hm] at CW RW
  rw [hu] at hwf
  rw [hm] at hbf
  rw [ht] at hsf
  rw [hn] at htf
  clear hb hn ht hd hm hu hs hx
  have RX : ∀ (h : s.Fit 1000000000000000) w, Calls Try.prog 12 #[.agg s.plain, .agg x.plain, .int .i64 (IntKind.i64.wrap kt)] w fun e w' => e = .returned (.tuple #[.agg u.plain, .agg m.plain]) ∧ Below w.heap.size w w' := by
    have e : IntKind.i64.wrap kt = kt := by simp only [IntKind.wrap, IntKind.bits, IntKind.signed]; simp; omega
    rw [e]
    exact RW
  replace RW := RX
  clear RX
  have U1 := fun w => mof_any u hwf.off hwf.out w
  have U2 := fun w => nums_any m hbf w
  have T1 := fun (h : s.Fit 1000000000000000) w => mof_any t (hsf h).off (hsf h).out w
  have T2 := fun (h : s.Fit 1000000000000000) w => nums_any n (htf h) w
  have D1 := fun (h : s.Fit 1000000000000000) w => mof_any d (hdf h).off (hdf h).out w
  clear hwf hbf hsf hdf htf hkt
  have E1 := fun w => eql_mstp w u
  have E2 := fun w => eql_numsp w m
  have E3 := fun w => eql_mstp w t
  have E4 := fun w => eql_numsp w n
  have E5 := fun w => eql_mstp w d
  obtain ⟨son, sh, sc, ⟨soq, sot, sop, sol⟩, ⟨suq, sut, sup, sul⟩⟩ := s
  obtain ⟨xq, xt, xp, xl⟩ := x
  obtain ⟨nq, nt, np, nl⟩ := n
  obtain ⟨mq, mt, mp, ml⟩ := m
  obtain ⟨ton, th, tc, ⟨toq, tot, top, tol⟩, ⟨tuq, tut, tup, tul⟩⟩ := t
  obtain ⟨uon, uh, uc, ⟨uoq, uot, uop, uol⟩, ⟨uuq, uut, uup, uul⟩⟩ := u
  obtain ⟨don, dh, dc, ⟨doq, dot, dop, dol⟩, ⟨duq, dut, dup, dul⟩⟩ := d
  dsimp only [Mst.cells, Mn.cells, Mst.plain, Mn.plain, Mk.cells] at *
  replace CW := Lib.hid CW
  replace CE := Lib.hid CE
  replace CD := Lib.hid CD
  replace RW := Lib.hid RW
  replace RE := Lib.hid RE
  replace RD := Lib.hid RD
  replace O1 := Lib.hid O1
  replace O2 := Lib.hid O2
  replace U1 := Lib.hid U1
  replace U2 := Lib.hid U2
  replace T1 := Lib.hid T1
  replace T2 := Lib.hid T2
  replace D1 := Lib.hid D1
  replace E1 := Lib.hid E1
  replace E2 := Lib.hid E2
  replace E3 := Lib.hid E3
  replace E4 := Lib.hid E4
  replace E5 := Lib.hid E5
  replace HP := Lib.hid HP
  go_enter Try.func3, Try.ntmps3
  go_wp2_with fail
  refine (CA.out _).mono ?_
  rintro e w1 ⟨rfl, b1⟩
  have Ns : Whole (w.alloc (.cells #[.bool son, .int .i64 sh, .int .i64 sc, .int .u16 soq, .int .u32 sot, .int .u16 sop, .int .u8 sol, .int .u16 suq, .int .u32 sut, .int .u16 sup, .int .u8 sul] 27)) (w.heap.size) 27 #[.bool son, .int .i64 sh, .int .i64 sc, .int .u16 soq, .int .u32 sot, .int .u16 sop, .int .u8 sol, .int .u16 suq, .int .u32 sut, .int .u16 sup, .int .u8 sul] := by have := Whole.new w 27 #[.bool son, .int .i64 sh, .int .i64 sc, .int .u16 soq, .int .u32 sot, .int .u16 sop, .int .u8 sol, .int .u16 suq, .int .u32 sut, .int .u16 sup, .int .u8 sul]; first | with_reducible exact this | simpa using this
  have Nx : Whole ((w.alloc (.cells #[.bool son, .int .i64 sh, .int .i64 sc, .int .u16 soq, .int .u32 sot, .int .u16 sop, .int .u8 sol, .int .u16 suq, .int .u32 sut, .int .u16 sup, .int .u8 sul] 27)).alloc (.cells #[.int .i64 ki, .int .u16 xq, .int .u32 xt, .int .u16 xp, .int .u8 xl, .int .u32 kt, .bool kb] 29)) (w.heap.size + 1) 29 #[.int .i64 ki, .int .u16 xq, .int .u32 xt, .int .u16 xp, .int .u8 xl, .int .u32 kt, .bool kb] := by have := Whole.new (w.alloc (.cells #[.bool son, .int .i64 sh, .int .i64 sc, .int .u16 soq, .int .u32 sot, .int .u16 sop, .int .u8 sol, .int .u16 suq, .int .u32 sut, .int .u16 sup, .int .u8 sul] 27)) 29 #[.int .i64 ki, .int .u16 xq, .int .u32 xt, .int .u16 xp, .int .u8 xl, .int .u32 kt, .bool kb]; first | with_reducible exact this | simpa using this
  have Ss1 := ((Ns.alloc (.cells #[.int .i64 ki, .int .u16 xq, .int .u32 xt, .int .u16 xp, .int .u8 xl, .int .u32 kt, .bool kb] 29))).below b1 (by have := ((Ns.alloc (.cells #[.int .i64 ki, .int .u16 xq, .int .u32 xt, .int .u16 xp, .int .u8 xl, .int .u32 kt, .bool kb] 29))).lt; first | with_reducible exact this | simpa using this)
  have Sx1 := (Nx).below b1 (by have := (Nx).lt; first | with_reducible exact this | simpa using this)
  have HB1 := Lib.hid (((((Below.refl w.heap.size w).alloc ((Below.refl w.heap.size w)).size (.cells #[.bool son, .int .i64 sh, .int .i64 sc, .int .u16 soq, .int .u32 sot, .int .u16 sop, .int .u8 sol, .int .u16 suq, .int .u32 sut, .int .u16 sup, .int .u8 sul] 27)).alloc (((Below.refl w.heap.size w).alloc ((Below.refl w.heap.size w)).size (.cells #[.bool son, .int .i64 sh, .int .i64 sc, .int .u16 soq, .int .u32 sot, .int .u16 sop, .int .u8 sol, .int .u16 suq, .int .u32 sut, .int .u16 sup, .int .u8 sul] 27))).size (.cells #[.int .i64 ki, .int .u16 xq, .int .u32 xt, .int .u16 xp, .int .u8 xl, .int .u32 kt, .bool kb] 29))).trans (b1.mono ((((Below.refl w.heap.size w).alloc ((Below.refl w.heap.size w)).size (.cells #[.bool son, .int .i64 sh, .int .i64 sc, .int .u16 soq, .int .u32 sot, .int .u16 sop, .int .u8 sol, .int .u16 suq, .int .u32 sut, .int .u16 sup, .int .u8 sul] 27)).alloc (((Below.refl w.heap.size w).alloc ((Below.refl w.heap.size w)).size (.cells #[.bool son, .int .i64 sh, .int .i64 sc, .int .u16 soq, .int .u32 sot, .int .u16 sop, .int .u8 sol, .int .u16 suq, .int .u32 sut, .int .u16 sup, .int .u8 sul] 27))).size (.cells #[.int .i64 ki, .int .u16 xq, .int .u32 xt, .int .u16 xp, .int .u8 xl, .int .u32 kt, .bool kb] 29))).size))
  have ls1 := Ss1.lt
  have lx1 := Sx1.lt
  clear b1 Ns Nx CA
  have s1_0 := Ss1.cell 0
  have fs1_0 := Ss1.free 0
  have s1_1 := Ss1.cell 1
  have fs1_1 := Ss1.free 1
  have s1_2 := Ss1.cell 2
  have fs1_2 := Ss1.free 2
  have s1_3 := Ss1.cell 3
  have fs1_3 := Ss1.free 3
  have s1_4 := Ss1.cell 4
  have fs1_4 := Ss1.free 4
  have s1_5 := Ss1.cell 5
  have fs1_5 := Ss1.free 5
  have s1_6 := Ss1.cell 6
  have fs1_6 := Ss1.free 6
  have s1_7 := Ss1.cell 7
  have fs1_7 := Ss1.free 7
  have s1_8 := Ss1.cell 8
  have fs1_8 := Ss1.free 8
  have s1_9 := Ss1.cell 9
  have fs1_9 := Ss1.free 9
  have s1_10 := Ss1.cell 10
  have fs1_10 := Ss1.free 10
  have x1_0 := Sx1.cell 0
  have fx1_0 := Sx1.free 0
  have x1_1 := Sx1.cell 1
  have fx1_1 := Sx1.free 1
  have x1_2 := Sx1.cell 2
  have fx1_2 := Sx1.free 2
  have x1_3 := Sx1.cell 3
  have fx1_3 := Sx1.free 3
  have x1_4 := Sx1.cell 4
  have fx1_4 := Sx1.free 4
  have x1_5 := Sx1.cell 5
  have fx1_5 := Sx1.free 5
  have x1_6 := Sx1.cell 6
  have fx1_6 := Sx1.free 6
  replace Ss1 := Lib.hid Ss1
  replace Sx1 := Lib.hid Sx1
  by_cases h1 : 1099511627776 < sh
  · go_wp2
    go_ret
    exact ⟨rfl, HB1.out⟩
  by_cases h2 : sh < -1099511627776
  · go_wp2
    go_ret
    exact ⟨rfl, HB1.out⟩
  have HF : Mst.Fit 1000000000000000 ⟨son, sh, sc, ⟨soq, sot, sop, sol⟩, ⟨suq, sut, sup, sul⟩⟩ := ⟨by dsimp only; omega, HP.out.2.1, HP.out.2.2⟩
  replace CE := Lib.hid (CE.out HF)
  replace CD := Lib.hid (CD.out HF)
  replace RW := Lib.hid (RW.out HF)
  replace RE := Lib.hid (RE.out HF)
  replace RD := Lib.hid (RD.out HF)
  replace T1 := Lib.hid (T1.out HF)
  replace T2 := Lib.hid (T2.out HF)
  replace D1 := Lib.hid (D1.out HF)
  clear HF HP
  go_wp2_with fail
  refine (CW.out _).mono ?_
  rintro e w2 ⟨rfl, b2⟩
  have Ss2 := (Ss1.out).below b2 (by have := (Ss1.out).lt; first | with_reducible exact this | simpa using this)
  have Sx2 := (Sx1.out).below b2 (by have := (Sx1.out).lt; first | with_reducible exact this | simpa using this)
  have HB2 := Lib.hid ((HB1.out).trans (b2.mono (HB1.out).size))
  have ls2 := Ss2.lt
  have lx2 := Sx2.lt
  clear b2 s1_0 fs1_0 s1_1 fs1_1 s1_2 fs1_2 s1_3 fs1_3 s1_4 fs1_4 s1_5 fs1_5 s1_6 fs1_6 s1_7 fs1_7 s1_8 fs1_8 s1_9 fs1_9 s1_10 fs1_10 x1_0 fx1_0 x1_1 fx1_1 x1_2 fx1_2 x1_3 fx1_3 x1_4 fx1_4 x1_5 fx1_5 x1_6 fx1_6 Ss1 Sx1 HB1 CW ls1 lx1
  have s2_0 := Ss2.cell 0
  have fs2_0 := Ss2.free 0
  have s2_1 := Ss2.cell 1
  have fs2_1 := Ss2.free 1
  have s2_2 := Ss2.cell 2
  have fs2_2 := Ss2.free 2
  have s2_3 := Ss2.cell 3
  have fs2_3 := Ss2.free 3
  have s2_4 := Ss2.cell 4
  have fs2_4 := Ss2.free 4
  have s2_5 := Ss2.cell 5
  have fs2_5 := Ss2.free 5
  have s2_6 := Ss2.cell 6
  have fs2_6 := Ss2.free 6
  have s2_7 := Ss2.cell 7
  have fs2_7 := Ss2.free 7
  have s2_8 := Ss2.cell 8
  have fs2_8 := Ss2.free 8
  have s2_9 := Ss2.cell 9
  have fs2_9 := Ss2.free 9
  have s2_10 := Ss2.cell 10
  have fs2_10 := Ss2.free 10
  have x2_0 := Sx2.cell 0
  have fx2_0 := Sx2.free 0
  have x2_1 := Sx2.cell 1
  have fx2_1 := Sx2.free 1
  have x2_2 := Sx2.cell 2
  have fx2_2 := Sx2.free 2
  have x2_3 := Sx2.cell 3
  have fx2_3 := Sx2.free 3
  have x2_4 := Sx2.cell 4
  have fx2_4 := Sx2.free 4
  have x2_5 := Sx2.cell 5
  have fx2_5 := Sx2.free 5
  have x2_6 := Sx2.cell 6
  have fx2_6 := Sx2.free 6
  replace Ss2 := Lib.hid Ss2
  replace Sx2 := Lib.hid Sx2
  go_upto_region 7 with fail
  obtain ⟨wo, hwo⟩ : ∃ wo, wo = ((w2.alloc (.cells #[.bool uon, .int .i64 uh, .int .i64 uc, .int .u16 uoq, .int .u32 uot, .int .u16 uop, .int .u8 uol, .int .u16 uuq, .int .u32 uut, .int .u16 uup, .int .u8 uul] 27)).alloc (.cells #[.int .u16 mq, .int .u32 mt, .int .u16 mp, .int .u8 ml] 25)) := ⟨_, rfl⟩
  have Nu : Whole (w2.alloc (.cells #[.bool uon, .int .i64 uh, .int .i64 uc, .int .u16 uoq, .int .u32 uot, .int .u16 uop, .int .u8 uol, .int .u16 uuq, .int .u32 uut, .int .u16 uup, .int .u8 uul] 27)) (w2.heap.size) 27 #[.bool uon, .int .i64 uh, .int .i64 uc, .int .u16 uoq, .int .u32 uot, .int .u16 uop, .int .u8 uol, .int .u16 uuq, .int .u32 uut, .int .u16 uup, .int .u8 uul] := by have := Whole.new w2 27 #[.bool uon, .int .i64 uh, .int .i64 uc, .int .u16 uoq, .int .u32 uot, .int .u16 uop, .int .u8 uol, .int .u16 uuq, .int .u32 uut, .int .u16 uup, .int .u8 uul]; first | with_reducible exact this | simpa using this
  have Nm : Whole ((w2.alloc (.cells #[.bool uon, .int .i64 uh, .int .i64 uc, .int .u16 uoq, .int .u32 uot, .int .u16 uop, .int .u8 uol, .int .u16 uuq, .int .u32 uut, .int .u16 uup, .int .u8 uul] 27)).alloc (.cells #[.int .u16 mq, .int .u32 mt, .int .u16 mp, .int .u8 ml] 25)) (w2.heap.size + 1) 25 #[.int .u16 mq, .int .u32 mt, .int .u16 mp, .int .u8 ml] := by have := Whole.new (w2.alloc (.cells #[.bool uon, .int .i64 uh, .int .i64 uc, .int .u16 uoq, .int .u32 uot, .int .u16 uop, .int .u8 uol, .int .u16 uuq, .int .u32 uut, .int .u16 uup, .int .u8 uul] 27)) 25 #[.int .u16 mq, .int .u32 mt, .int .u16 mp, .int .u8 ml]; first | with_reducible exact this | simpa using this
  have Ps := ((Ss2.out.alloc (.cells #[.bool uon, .int .i64 uh, .int .i64 uc, .int .u16 uoq, .int .u32 uot, .int .u16 uop, .int .u8 uol, .int .u16 uuq, .int .u32 uut, .int .u16 uup, .int .u8 uul] 27)).alloc (.cells #[.int .u16 mq, .int .u32 mt, .int .u16 mp, .int .u8 ml] 25))
  have Px := ((Sx2.out.alloc (.cells #[.bool uon, .int .i64 uh, .int .i64 uc, .int .u16 uoq, .int .u32 uot, .int .u16 uop, .int .u8 uol, .int .u16 uuq, .int .u32 uut, .int .u16 uup, .int .u8 uul] 27)).alloc (.cells #[.int .u16 mq, .int .u32 mt, .int .u16 mp, .int .u8 ml] 25))
  have Pu := (Nu.alloc (.cells #[.int .u16 mq, .int .u32 mt, .int .u16 mp, .int .u8 ml] 25))
  have Pm := Nm
  have PB := ((HB2.out.alloc (HB2.out).size (.cells #[.bool uon, .int .i64 uh, .int .i64 uc, .int .u16 uoq, .int .u32 uot, .int .u16 uop, .int .u8 uol, .int .u16 uuq, .int .u32 uut, .int .u16 uup, .int .u8 uul] 27)).alloc ((HB2.out.alloc (HB2.out).size (.cells #[.bool uon, .int .i64 uh, .int .i64 uc, .int .u16 uoq, .int .u32 uot, .int .u16 uop, .int .u8 uol, .int .u16 uuq, .int .u32 uut, .int .u16 uup, .int .u8 uul] 27))).size (.cells #[.int .u16 mq, .int .u32 mt, .int .u16 mp, .int .u8 ml] 25))
  rw [← hwo] at Ps Px Pu Pm PB ⊢
  clear hwo
  clear s2_0 fs2_0 s2_1 fs2_1 s2_2 fs2_2 s2_3 fs2_3 s2_4 fs2_4 s2_5 fs2_5 s2_6 fs2_6 s2_7 fs2_7 s2_8 fs2_8 s2_9 fs2_9 s2_10 fs2_10 x2_0 fx2_0 x2_1 fx2_1 x2_2 fx2_2 x2_3 fx2_3 x2_4 fx2_4 x2_5 fx2_5 x2_6 fx2_6 Ss2 Sx2 Nu Nm HB2
  have ps1 := Ps.lt
  have px1 := Px.lt
  have pu1 := Pu.lt
  have pm1 := Pm.lt
  replace Ps := Lib.hid Ps
  replace Px := Lib.hid Px
  replace Pu := Lib.hid Pu
  replace Pm := Lib.hid Pm
  replace PB := Lib.hid PB
  have K6 := Lib.hid (fun w' (b' : Below wo.heap.size wo w') => show (fun w' => w'.cell? ⟨w.heap.size, 0, none⟩ = some (.bool son) ∧ w'.cell? ⟨w.heap.size, 1, none⟩ = some (.int .i64 sh) ∧ w'.cell? ⟨w.heap.size, 2, none⟩ = some (.int .i64 sc) ∧ w'.cell? ⟨w.heap.size, 3, none⟩ = some (.int .u16 soq) ∧ w'.cell? ⟨w.heap.size, 4, none⟩ = some (.int .u32 sot) ∧ w'.cell? ⟨w.heap.size, 5, none⟩ = some (.int .u16 sop) ∧ w'.cell? ⟨w.heap.size, 6, none⟩ = some (.int .u8 sol) ∧ w'.cell? ⟨w.heap.size, 7, none⟩ = some (.int .u16 suq) ∧ w'.cell? ⟨w.heap.size, 8, none⟩ = some (.int .u32 sut) ∧ w'.cell? ⟨w.heap.size, 9, none⟩ = some (.int .u16 sup) ∧ w'.cell? ⟨w.heap.size, 10, none⟩ = some (.int .u8 sul) ∧ w'.cell? ⟨w.heap.size + 1, 0, none⟩ = some (.int .i64 ki) ∧ w'.cell? ⟨w.heap.size + 1, 1, none⟩ = some (.int .u16 xq) ∧ w'.cell? ⟨w.heap.size + 1, 2, none⟩ = some (.int .u32 xt) ∧ w'.cell? ⟨w.heap.size + 1, 3, none⟩ = some (.int .u16 xp) ∧ w'.cell? ⟨w.heap.size + 1, 4, none⟩ = some (.int .u8 xl) ∧ w'.cell? ⟨w.heap.size + 1, 5, none⟩ = some (.int .u32 kt) ∧ w'.cell? ⟨w.heap.size + 1, 6, none⟩ = some (.bool kb)) w' from ⟨(Ps.out.below b' Ps.out.lt).cell 0, (Ps.out.below b' Ps.out.lt).cell 1, (Ps.out.below b' Ps.out.lt).cell 2, (Ps.out.below b' Ps.out.lt).cell 3, (Ps.out.below b' Ps.out.lt).cell 4, (Ps.out.below b' Ps.out.lt).cell 5, (Ps.out.below b' Ps.out.lt).cell 6, (Ps.out.below b' Ps.out.lt).cell 7, (Ps.out.below b' Ps.out.lt).cell 8, (Ps.out.below b' Ps.out.lt).cell 9, (Ps.out.below b' Ps.out.lt).cell 10, (Px.out.below b' Px.out.lt).cell 0, (Px.out.below b' Px.out.lt).cell 1, (Px.out.below b' Px.out.lt).cell 2, (Px.out.below b' Px.out.lt).cell 3, (Px.out.below b' Px.out.lt).cell 4, (Px.out.below b' Px.out.lt).cell 5, (Px.out.below b' Px.out.lt).cell 6⟩)
  go_cut [8, 9] (fun p1 p2 wx => ∃ g1 g2 : Nat, p1 = .pointer (some ⟨g1, 0, none⟩) ∧ p2 = .pointer (some ⟨g2, 0, none⟩) ∧ wo.heap.size ≤ g1 ∧ wo.heap.size ≤ g2 ∧ g1 ≠ g2 ∧ Whole wx g1 36 #[.bool uon, .int .i64 uh, .int .i64 uc, .int .i64 uoq, .int .i64 uot, .int .i64 uop, .int .i64 uol, .int .i64 uuq, .int .i64 uut, .int .i64 uup, .int .i64 uul] ∧ Whole wx g2 34 #[.int .i64 mq, .int .i64 mt, .int .i64 mp, .int .i64 ml] ∧ Below wo.heap.size wo wx)
  case first =>
    refine wp_region_X (S := fun w' => w'.cell? ⟨w.heap.size, 0, none⟩ = some (.bool son) ∧ w'.cell? ⟨w.heap.size, 1, none⟩ = some (.int .i64 sh) ∧ w'.cell? ⟨w.heap.size, 2, none⟩ = some (.int .i64 sc) ∧ w'.cell? ⟨w.heap.size, 3, none⟩ = some (.int .u16 soq) ∧ w'.cell? ⟨w.heap.size, 4, none⟩ = some (.int .u32 sot) ∧ w'.cell? ⟨w.heap.size, 5, none⟩ = some (.int .u16 sop) ∧ w'.cell? ⟨w.heap.size, 6, none⟩ = some (.int .u8 sol) ∧ w'.cell? ⟨w.heap.size, 7, none⟩ = some (.int .u16 suq) ∧ w'.cell? ⟨w.heap.size, 8, none⟩ = some (.int .u32 sut) ∧ w'.cell? ⟨w.heap.size, 9, none⟩ = some (.int .u16 sup) ∧ w'.cell? ⟨w.heap.size, 10, none⟩ = some (.int .u8 sul) ∧ w'.cell? ⟨w.heap.size + 1, 0, none⟩ = some (.int .i64 ki) ∧ w'.cell? ⟨w.heap.size + 1, 1, none⟩ = some (.int .u16 xq) ∧ w'.cell? ⟨w.heap.size + 1, 2, none⟩ = some (.int .u32 xt) ∧ w'.cell? ⟨w.heap.size + 1, 3, none⟩ = some (.int .u16 xp) ∧ w'.cell? ⟨w.heap.size + 1, 4, none⟩ = some (.int .u8 xl) ∧ w'.cell? ⟨w.heap.size + 1, 5, none⟩ = some (.int .u32 kt) ∧ w'.cell? ⟨w.heap.size + 1, 6, none⟩ = some (.bool kb)) [] (by kernel_rfl) (K6.out _ (Below.refl _ _).drew) (fun hHeld0 => ?_)
    refine wpAnyX_take (i := 0) [] (v := ?_) rfl (by kernel_rfl) (by kernel_rfl) (by kernel_rfl) (by kernel_rfl) (fun _ _ _ h => h) (Or.inl ⟨by kernel_rfl, ?_⟩) (by assumption) ?_
    rotate_left 1
    · (intro w hSw; obtain ⟨m0, m1, m2, m3, m4, m5, m6, m7, m8, m9, m10, m11, m12, m13, m14, m15, m16, m17⟩ := hSw; go_simp; try (with_reducible rfl))
    (try simp only [Act.put, List.getElem_toArray, List.getElem_cons_succ, List.getElem_cons_zero, List.setIfInBounds_toArray, List.set_cons_zero, List.set_cons_succ])
    refine wpAnyX_take (i := 2) [] (v := ?_) rfl (by kernel_rfl) (by kernel_rfl) (by kernel_rfl) (by kernel_rfl) (fun _ _ _ h => h) (Or.inl ⟨by kernel_rfl, ?_⟩) (by assumption) ?_
    rotate_left 1
    · (intro w hSw; obtain ⟨m0, m1, m2, m3, m4, m5, m6, m7, m8, m9, m10, m11, m12, m13, m14, m15, m16, m17⟩ := hSw; go_simp; try (with_reducible rfl))
    (try simp only [Act.put, List.getElem_toArray, List.getElem_cons_succ, List.getElem_cons_zero, List.setIfInBounds_toArray, List.set_cons_zero, List.set_cons_succ])
    refine wpAnyX_take (i := 3) [] (v := ?_) rfl (by kernel_rfl) (by kernel_rfl) (by kernel_rfl) (by kernel_rfl) (fun _ _ _ h => h) (Or.inl ⟨by kernel_rfl, ?_⟩) (by assumption) ?_
    rotate_left 1
    · (intro w hSw; obtain ⟨m0, m1, m2, m3, m4, m5, m6, m7, m8, m9, m10, m11, m12, m13, m14, m15, m16, m17⟩ := hSw; go_simp; try (with_reducible rfl))
    (try simp only [Act.put, List.getElem_toArray, List.getElem_cons_succ, List.getElem_cons_zero, List.setIfInBounds_toArray, List.set_cons_zero, List.set_cons_succ])
    refine wpAnyX_take (i := 5) [] (v := ?_) rfl (by kernel_rfl) (by kernel_rfl) (by kernel_rfl) (by kernel_rfl) (fun _ _ _ h => h) (Or.inl ⟨by kernel_rfl, ?_⟩) (by assumption) ?_
    rotate_left 1
    · (intro w hSw; obtain ⟨m0, m1, m2, m3, m4, m5, m6, m7, m8, m9, m10, m11, m12, m13, m14, m15, m16, m17⟩ := hSw; go_simp; try (with_reducible rfl))
    (try simp only [Act.put, List.getElem_toArray, List.getElem_cons_succ, List.getElem_cons_zero, List.setIfInBounds_toArray, List.set_cons_zero, List.set_cons_succ])
    refine wpAnyX_take (i := 6) [] (v := ?_) rfl (by kernel_rfl) (by kernel_rfl) (by kernel_rfl) (by kernel_rfl) (fun _ _ _ h => h) (Or.inl ⟨by kernel_rfl, ?_⟩) (by assumption) ?_
    rotate_left 1
    · (intro w hSw; obtain ⟨m0, m1, m2, m3, m4, m5, m6, m7, m8, m9, m10, m11, m12, m13, m14, m15, m16, m17⟩ := hSw; go_simp; try (with_reducible rfl))
    (try simp only [Act.put, List.getElem_toArray, List.getElem_cons_succ, List.getElem_cons_zero, List.setIfInBounds_toArray, List.set_cons_zero, List.set_cons_succ])
    refine wpAnyX_take (i := 7) [] (v := ?_) rfl (by kernel_rfl) (by kernel_rfl) (by kernel_rfl) (by kernel_rfl) (fun _ _ _ h => h) (Or.inl ⟨by kernel_rfl, ?_⟩) (by assumption) ?_
    rotate_left 1
    · (intro w hSw; obtain ⟨m0, m1, m2, m3, m4, m5, m6, m7, m8, m9, m10, m11, m12, m13, m14, m15, m16, m17⟩ := hSw; go_simp; try (with_reducible rfl))
    (try simp only [Act.put, List.getElem_toArray, List.getElem_cons_succ, List.getElem_cons_zero, List.setIfInBounds_toArray, List.set_cons_zero, List.set_cons_succ])
    refine wpAnyX_named (fun a0 ha0 => ?_)
    refine wpAnyX_inv (fun l a w' => l.size = 16 ∧ (l.getD 0 false = true ∧ l.getD 2 false = true ∧ l.getD 3 false = true ∧ l.getD 5 false = true ∧ l.getD 6 false = true ∧ l.getD 7 false = true) ∧ Below wo.heap.size wo w' ∧ ∃ t1 t4 t8 t9 t10 t11 t12 t13 : Value, a = ((((((((a0.put (some 40) t1).put (some 43) t4).put (some 47) t8).put (some 38) t9).put (some 48) t10).put (some 49) t11).put (some 8) t12).put (some 9) t13) ∧ (l.getD 1 false = true → t1 = (.agg #[.bool son, .int .i64 sh, .int .i64 sc, .int .i64 soq, .int .i64 sot, .int .i64 sop, .int .i64 sol, .int .i64 suq, .int .i64 sut, .int .i64 sup, .int .i64 sul])) ∧ (l.getD 4 false = true → t4 = (.agg #[.int .i64 xq, .int .i64 xt, .int .i64 xp, .int .i64 xl])) ∧ (l.getD 8 false = true → t8 = (.tuple #[(.agg #[.bool uon, .int .i64 uh, .int .i64 uc, .int .i64 uoq, .int .i64 uot, .int .i64 uop, .int .i64 uol, .int .i64 uuq, .int .i64 uut, .int .i64 uup, .int .i64 uul]), (.agg #[.int .i64 mq, .int .i64 mt, .int .i64 mp, .int .i64 ml])])) ∧ (l.getD 9 false = true → t9 = (.tuple #[(.agg #[.bool uon, .int .i64 uh, .int .i64 uc, .int .i64 uoq, .int .i64 uot, .int .i64 uop, .int .i64 uol, .int .i64 uuq, .int .i64 uut, .int .i64 uup, .int .i64 uul]), (.agg #[.int .i64 mq, .int .i64 mt, .int .i64 mp, .int .i64 ml])])) ∧ (l.getD 10 false = true → t10 = (.agg #[.bool uon, .int .i64 uh, .int .i64 uc, .int .i64 uoq, .int .i64 uot, .int .i64 uop, .int .i64 uol, .int .i64 uuq, .int .i64 uut, .int .i64 uup, .int .i64 uul])) ∧ (l.getD 11 false = true → t11 = (.agg #[.int .i64 mq, .int .i64 mt, .int .i64 mp, .int .i64 ml])) ∧ (l.getD 12 false = true → ∃ g, t12 = .pointer (some ⟨g, 0, none⟩) ∧ wo.heap.size ≤ g ∧ g < w'.heap.size ∧ (l.getD 14 false = false → Whole w' g 36 #[.bool false, .int .i64 0, .int .i64 0, .int .i64 0, .int .i64 0, .int .i64 0, .int .i64 0, .int .i64 0, .int .i64 0, .int .i64 0, .int .i64 0]) ∧ (l.getD 14 false = true → Whole w' g 36 #[.bool uon, .int .i64 uh, .int .i64 uc, .int .i64 uoq, .int .i64 uot, .int .i64 uop, .int .i64 uol, .int .i64 uuq, .int .i64 uut, .int .i64 uup, .int .i64 uul])) ∧ (l.getD 14 false = true → l.getD 12 false = true) ∧ (l.getD 13 false = true → ∃ g, t13 = .pointer (some ⟨g, 0, none⟩) ∧ wo.heap.size ≤ g ∧ g < w'.heap.size ∧ (l.getD 15 false = false → Whole w' g 34 #[.int .i64 0, .int .i64 0, .int .i64 0, .int .i64 0]) ∧ (l.getD 15 false = true → Whole w' g 34 #[.int .i64 mq, .int .i64 mt, .int .i64 mp, .int .i64 ml])) ∧ (l.getD 15 false = true → l.getD 13 false = true) ∧ (l.getD 12 false = true → l.getD 13 false = true → ∀ g g', t12 = .pointer (some ⟨g, 0, none⟩) → t13 = .pointer (some ⟨g', 0, none⟩) → g ≠ g')) (fun l a w hI => K6.out _ hI.2.2.1) ?_ ?_ _ _ _ _ (by decide) ?_
    · intro l a w hI i hi
      obtain ⟨hsz, ⟨k0, k2, k3, k5, k6, k7⟩, hB, t1, t4, t8, t9, t10, t11, t12, t13, rfl, c1, c4, c8, c9, c10, c11, c12, s12, c13, s13, n12_13⟩ := hI
      obtain ⟨hun, hin, hd⟩ := ready_split (n := 16) rfl hi
      clear hi
      rw [show List.range 16 = [0, 1, 2, 3, 4, 5, 6, 7, 8, 9, 10, 11, 12, 13, 14, 15] from rfl] at hin
      simp only [List.mem_cons, List.not_mem_nil, or_false] at hin
      rcases hin with rfl | rfl | rfl | rfl | rfl | rfl | rfl | rfl | rfl | rfl | rfl | rfl | rfl | rfl | rfl | rfl
      · exact absurd (was_listed hun k0) id
      · have hd := waits_as (L := [0]) (by kernel_rfl) hd
        simp only [List.all_cons, List.all_nil, Bool.and_true, Bool.and_eq_true] at hd
        have e0 := hd
        refine inv_op rfl (fun K hK => ?_)
        subst ha0
        (try simp only [Act.put, List.getElem_toArray, List.getElem_cons_succ, List.getElem_cons_zero, List.setIfInBounds_toArray, List.set_cons_zero, List.set_cons_succ])
        go_simp
        go_wp2_with (refine (O1.out _).mono ?_; rintro e v ⟨rfl, b1⟩)
        refine hK.out _ _ ?_
        exact ⟨by simp [hsz], ⟨listed_new k0, listed_new k2, listed_new k3, listed_new k5, listed_new k6, listed_new k7⟩, (hB.trans (b1.mono hB.size)), (.agg #[.bool son, .int .i64 sh, .int .i64 sc, .int .i64 soq, .int .i64 sot, .int .i64 sop, .int .i64 sol, .int .i64 suq, .int .i64 sut, .int .i64 sup, .int .i64 sul]), t4, t8, t9, t10, t11, t12, t13, by kernel_rfl, fun _ => rfl, fun h => c4 (listed_old h (by decide)), fun h => c8 (listed_old h (by decide)), fun h => c9 (listed_old h (by decide)), fun h => c10 (listed_old h (by decide)), fun h => c11 (listed_old h (by decide)), fun h => by obtain ⟨g, hg, h1, h2, h3, h4⟩ := c12 (listed_old h (by decide)); exact ⟨g, hg, h1, Nat.lt_of_lt_of_le h2 b1.size, fun h => (h3 (listed_same h (by decide))).below b1 (h3 (listed_same h (by decide))).lt, fun h => (h4 (listed_same h (by decide))).below b1 (h4 (listed_same h (by decide))).lt⟩, fun h => listed_new (s12 (listed_old h (by decide))), fun h => by obtain ⟨g, hg, h1, h2, h3, h4⟩ := c13 (listed_old h (by decide)); exact ⟨g, hg, h1, Nat.lt_of_lt_of_le h2 b1.size, fun h => (h3 (listed_same h (by decide))).below b1 (h3 (listed_same h (by decide))).lt, fun h => (h4 (listed_same h (by decide))).below b1 (h4 (listed_same h (by decide))).lt⟩, fun h => listed_new (s13 (listed_old h (by decide))), fun h h' => n12_13 (listed_old h (by decide)) (listed_old h' (by decide))⟩
      · exact absurd (was_listed hun k2) id
      · exact absurd (was_listed hun k3) id
      · have hd := waits_as (L := [3, 1]) (by kernel_rfl) hd
        simp only [List.all_cons, List.all_nil, Bool.and_true, Bool.and_eq_true] at hd
        obtain ⟨e0, e1⟩ := hd
        obtain rfl := c1 e1
        refine inv_op rfl (fun K hK => ?_)
        subst ha0
        (try simp only [Act.put, List.getElem_toArray, List.getElem_cons_succ, List.getElem_cons_zero, List.setIfInBounds_toArray, List.set_cons_zero, List.set_cons_succ])
        go_simp
        go_wp2_with (refine (O2.out _).mono ?_; rintro e v ⟨rfl, b1⟩)
        refine hK.out _ _ ?_
        exact ⟨by simp [hsz], ⟨listed_new k0, listed_new k2, listed_new k3, listed_new k5, listed_new k6, listed_new k7⟩, (hB.trans (b1.mono hB.size)), (.agg #[.bool son, .int .i64 sh, .int .i64 sc, .int .i64 soq, .int .i64 sot, .int .i64 sop, .int .i64 sol, .int .i64 suq, .int .i64 sut, .int .i64 sup, .int .i64 sul]), (.agg #[.int .i64 xq, .int .i64 xt, .int .i64 xp, .int .i64 xl]), t8, t9, t10, t11, t12, t13, by kernel_rfl, fun _ => rfl, fun _ => rfl, fun h => c8 (listed_old h (by decide)), fun h => c9 (listed_old h (by decide)), fun h => c10 (listed_old h (by decide)), fun h => c11 (listed_old h (by decide)), fun h => by obtain ⟨g, hg, h1, h2, h3, h4⟩ := c12 (listed_old h (by decide)); exact ⟨g, hg, h1, Nat.lt_of_lt_of_le h2 b1.size, fun h => (h3 (listed_same h (by decide))).below b1 (h3 (listed_same h (by decide))).lt, fun h => (h4 (listed_same h (by decide))).below b1 (h4 (listed_same h (by decide))).lt⟩, fun h => listed_new (s12 (listed_old h (by decide))), fun h => by obtain ⟨g, hg, h1, h2, h3, h4⟩ := c13 (listed_old h (by decide)); exact ⟨g, hg, h1, Nat.lt_of_lt_of_le h2 b1.size, fun h => (h3 (listed_same h (by decide))).below b1 (h3 (listed_same h (by decide))).lt, fun h => (h4 (listed_same h (by decide))).below b1 (h4 (listed_same h (by decide))).lt⟩, fun h => listed_new (s13 (listed_old h (by decide))), fun h h' => n12_13 (listed_old h (by decide)) (listed_old h' (by decide))⟩
      · exact absurd (was_listed hun k5) id
      · exact absurd (was_listed hun k6) id
      · exact absurd (was_listed hun k7) id
      · have hd := waits_as (L := [1, 4, 7, 4]) (by kernel_rfl) hd
        simp only [List.all_cons, List.all_nil, Bool.and_true, Bool.and_eq_true] at hd
        obtain ⟨e0, e1, e2, e3⟩ := hd
        obtain rfl := c1 e0
        obtain rfl := c4 e1
        refine inv_op rfl (fun K hK => ?_)
        subst ha0
        (try simp only [Act.put, List.getElem_toArray, List.getElem_cons_succ, List.getElem_cons_zero, List.setIfInBounds_toArray, List.set_cons_zero, List.set_cons_succ])
        go_simp
        go_wp2_with (refine (RW.out _).mono ?_; rintro e v ⟨rfl, b1⟩)
        refine hK.out _ _ ?_
        exact ⟨by simp [hsz], ⟨listed_new k0, listed_new k2, listed_new k3, listed_new k5, listed_new k6, listed_new k7⟩, (hB.trans (b1.mono hB.size)), (.agg #[.bool son, .int .i64 sh, .int .i64 sc, .int .i64 soq, .int .i64 sot, .int .i64 sop, .int .i64 sol, .int .i64 suq, .int .i64 sut, .int .i64 sup, .int .i64 sul]), (.agg #[.int .i64 xq, .int .i64 xt, .int .i64 xp, .int .i64 xl]), (.tuple #[(.agg #[.bool uon, .int .i64 uh, .int .i64 uc, .int .i64 uoq, .int .i64 uot, .int .i64 uop, .int .i64 uol, .int .i64 uuq, .int .i64 uut, .int .i64 uup, .int .i64 uul]), (.agg #[.int .i64 mq, .int .i64 mt, .int .i64 mp, .int .i64 ml])]), t9, t10, t11, t12, t13, by kernel_rfl, fun _ => rfl, fun _ => rfl, fun _ => rfl, fun h => c9 (listed_old h (by decide)), fun h => c10 (listed_old h (by decide)), fun h => c11 (listed_old h (by decide)), fun h => by obtain ⟨g, hg, h1, h2, h3, h4⟩ := c12 (listed_old h (by decide)); exact ⟨g, hg, h1, Nat.lt_of_lt_of_le h2 b1.size, fun h => (h3 (listed_same h (by decide))).below b1 (h3 (listed_same h (by decide))).lt, fun h => (h4 (listed_same h (by decide))).below b1 (h4 (listed_same h (by decide))).lt⟩, fun h => listed_new (s12 (listed_old h (by decide))), fun h => by obtain ⟨g, hg, h1, h2, h3, h4⟩ := c13 (listed_old h (by decide)); exact ⟨g, hg, h1, Nat.lt_of_lt_of_le h2 b1.size, fun h => (h3 (listed_same h (by decide))).below b1 (h3 (listed_same h (by decide))).lt, fun h => (h4 (listed_same h (by decide))).below b1 (h4 (listed_same h (by decide))).lt⟩, fun h => listed_new (s13 (listed_old h (by decide))), fun h h' => n12_13 (listed_old h (by decide)) (listed_old h' (by decide))⟩
      · have hd := waits_as (L := [8]) (by kernel_rfl) hd
        simp only [List.all_cons, List.all_nil, Bool.and_true, Bool.and_eq_true] at hd
        have e0 := hd
        obtain rfl := c8 e0
        refine inv_op rfl (fun K hK => ?_)
        subst ha0
        (try simp only [Act.put, List.getElem_toArray, List.getElem_cons_succ, List.getElem_cons_zero, List.setIfInBounds_toArray, List.set_cons_zero, List.set_cons_succ])
        go_simp
        refine hK.out _ _ ?_
        exact ⟨by simp [hsz], ⟨listed_new k0, listed_new k2, listed_new k3, listed_new k5, listed_new k6, listed_new k7⟩, hB, t1, t4, (.tuple #[(.agg #[.bool uon, .int .i64 uh, .int .i64 uc, .int .i64 uoq, .int .i64 uot, .int .i64 uop, .int .i64 uol, .int .i64 uuq, .int .i64 uut, .int .i64 uup, .int .i64 uul]), (.agg #[.int .i64 mq, .int .i64 mt, .int .i64 mp, .int .i64 ml])]), (.tuple #[(.agg #[.bool uon, .int .i64 uh, .int .i64 uc, .int .i64 uoq, .int .i64 uot, .int .i64 uop, .int .i64 uol, .int .i64 uuq, .int .i64 uut, .int .i64 uup, .int .i64 uul]), (.agg #[.int .i64 mq, .int .i64 mt, .int .i64 mp, .int .i64 ml])]), t10, t11, t12, t13, by kernel_rfl, fun h => c1 (listed_old h (by decide)), fun h => c4 (listed_old h (by decide)), fun _ => rfl, fun _ => rfl, fun h => c10 (listed_old h (by decide)), fun h => c11 (listed_old h (by decide)), fun h => by obtain ⟨g, hg, h1, h2, h3, h4⟩ := c12 (listed_old h (by decide)); exact ⟨g, hg, h1, h2, fun h => h3 (listed_same h (by decide)), fun h => h4 (listed_same h (by decide))⟩, fun h => listed_new (s12 (listed_old h (by decide))), fun h => by obtain ⟨g, hg, h1, h2, h3, h4⟩ := c13 (listed_old h (by decide)); exact ⟨g, hg, h1, h2, fun h => h3 (listed_same h (by decide)), fun h => h4 (listed_same h (by decide))⟩, fun h => listed_new (s13 (listed_old h (by decide))), fun h h' => n12_13 (listed_old h (by decide)) (listed_old h' (by decide))⟩
      · have hd := waits_as (L := [9]) (by kernel_rfl) hd
        simp only [List.all_cons, List.all_nil, Bool.and_true, Bool.and_eq_true] at hd
        have e0 := hd
        obtain rfl := c9 e0
        refine inv_op rfl (fun K hK => ?_)
        subst ha0
        (try simp only [Act.put, List.getElem_toArray, List.getElem_cons_succ, List.getElem_cons_zero, List.setIfInBounds_toArray, List.set_cons_zero, List.set_cons_succ])
        go_simp
        refine hK.out _ _ ?_
        exact ⟨by simp [hsz], ⟨listed_new k0, listed_new k2, listed_new k3, listed_new k5, listed_new k6, listed_new k7⟩, hB, t1, t4, t8, (.tuple #[(.agg #[.bool uon, .int .i64 uh, .int .i64 uc, .int .i64 uoq, .int .i64 uot, .int .i64 uop, .int .i64 uol, .int .i64 uuq, .int .i64 uut, .int .i64 uup, .int .i64 uul]), (.agg #[.int .i64 mq, .int .i64 mt, .int .i64 mp, .int .i64 ml])]), (.agg #[.bool uon, .int .i64 uh, .int .i64 uc, .int .i64 uoq, .int .i64 uot, .int .i64 uop, .int .i64 uol, .int .i64 uuq, .int .i64 uut, .int .i64 uup, .int .i64 uul]), t11, t12, t13, by kernel_rfl, fun h => c1 (listed_old h (by decide)), fun h => c4 (listed_old h (by decide)), fun h => c8 (listed_old h (by decide)), fun _ => rfl, fun _ => rfl, fun h => c11 (listed_old h (by decide)), fun h => by obtain ⟨g, hg, h1, h2, h3, h4⟩ := c12 (listed_old h (by decide)); exact ⟨g, hg, h1, h2, fun h => h3 (listed_same h (by decide)), fun h => h4 (listed_same h (by decide))⟩, fun h => listed_new (s12 (listed_old h (by decide))), fun h => by obtain ⟨g, hg, h1, h2, h3, h4⟩ := c13 (listed_old h (by decide)); exact ⟨g, hg, h1, h2, fun h => h3 (listed_same h (by decide)), fun h => h4 (listed_same h (by decide))⟩, fun h => listed_new (s13 (listed_old h (by decide))), fun h h' => n12_13 (listed_old h (by decide)) (listed_old h' (by decide))⟩
      · have hd := waits_as (L := [9]) (by kernel_rfl) hd
        simp only [List.all_cons, List.all_nil, Bool.and_true, Bool.and_eq_true] at hd
        have e0 := hd
        obtain rfl := c9 e0
        refine inv_op rfl (fun K hK => ?_)
        subst ha0
        (try simp only [Act.put, List.getElem_toArray, List.getElem_cons_succ, List.getElem_cons_zero, List.setIfInBounds_toArray, List.set_cons_zero, List.set_cons_succ])
        go_simp
        refine hK.out _ _ ?_
        exact ⟨by simp [hsz], ⟨listed_new k0, listed_new k2, listed_new k3, listed_new k5, listed_new k6, listed_new k7⟩, hB, t1, t4, t8, (.tuple #[(.agg #[.bool uon, .int .i64 uh, .int .i64 uc, .int .i64 uoq, .int .i64 uot, .int .i64 uop, .int .i64 uol, .int .i64 uuq, .int .i64 uut, .int .i64 uup, .int .i64 uul]), (.agg #[.int .i64 mq, .int .i64 mt, .int .i64 mp, .int .i64 ml])]), t10, (.agg #[.int .i64 mq, .int .i64 mt, .int .i64 mp, .int .i64 ml]), t12, t13, by kernel_rfl, fun h => c1 (listed_old h (by decide)), fun h => c4 (listed_old h (by decide)), fun h => c8 (listed_old h (by decide)), fun _ => rfl, fun h => c10 (listed_old h (by decide)), fun _ => rfl, fun h => by obtain ⟨g, hg, h1, h2, h3, h4⟩ := c12 (listed_old h (by decide)); exact ⟨g, hg, h1, h2, fun h => h3 (listed_same h (by decide)), fun h => h4 (listed_same h (by decide))⟩, fun h => listed_new (s12 (listed_old h (by decide))), fun h => by obtain ⟨g, hg, h1, h2, h3, h4⟩ := c13 (listed_old h (by decide)); exact ⟨g, hg, h1, h2, fun h => h3 (listed_same h (by decide)), fun h => h4 (listed_same h (by decide))⟩, fun h => listed_new (s13 (listed_old h (by decide))), fun h h' => n12_13 (listed_old h (by decide)) (listed_old h' (by decide))⟩
      · have hd := waits_as (L := []) (by kernel_rfl) hd
        simp only [List.all_cons, List.all_nil, Bool.and_true, Bool.and_eq_true] at hd
        refine inv_op rfl (fun K hK => ?_)
        subst ha0
        (try simp only [Act.put, List.getElem_toArray, List.getElem_cons_succ, List.getElem_cons_zero, List.setIfInBounds_toArray, List.set_cons_zero, List.set_cons_succ])
        go_simp
        refine hK.out _ _ ?_
        exact ⟨by simp [hsz], ⟨listed_new k0, listed_new k2, listed_new k3, listed_new k5, listed_new k6, listed_new k7⟩, (hB.alloc hB.size (.cells #[.bool false, .int .i64 0, .int .i64 0, .int .i64 0, .int .i64 0, .int .i64 0, .int .i64 0, .int .i64 0, .int .i64 0, .int .i64 0, .int .i64 0] 36)), t1, t4, t8, t9, t10, t11, (.pointer (some ⟨w.heap.size, 0, none⟩)), t13, by kernel_rfl, fun h => c1 (listed_old h (by decide)), fun h => c4 (listed_old h (by decide)), fun h => c8 (listed_old h (by decide)), fun h => c9 (listed_old h (by decide)), fun h => c10 (listed_old h (by decide)), fun h => c11 (listed_old h (by decide)), fun _ => ⟨_, rfl, hB.size, by simp, fun _ => Whole.new _ _ _, fun h => absurd (was_listed hun (s12 (listed_old h (by decide)))) id⟩, fun h => listed_new (s12 (listed_old h (by decide))), fun h => by obtain ⟨g, hg, h1, h2, h3, h4⟩ := c13 (listed_old h (by decide)); exact ⟨g, hg, h1, (by have := h2; simp; omega), fun h => (h3 (listed_same h (by decide))).alloc _, fun h => (h4 (listed_same h (by decide))).alloc _⟩, fun h => listed_new (s13 (listed_old h (by decide))), fun _ h g g' hg hg' => by obtain ⟨q1, q2, _, q3, _⟩ := c13 (listed_old h (by decide)); rw [hg'] at q2; cases q2; cases hg; omega⟩
      · have hd := waits_as (L := []) (by kernel_rfl) hd
        simp only [List.all_cons, List.all_nil, Bool.and_true, Bool.and_eq_true] at hd
        refine inv_op rfl (fun K hK => ?_)
        subst ha0
        (try simp only [Act.put, List.getElem_toArray, List.getElem_cons_succ, List.getElem_cons_zero, List.setIfInBounds_toArray, List.set_cons_zero, List.set_cons_succ])
        go_simp
        refine hK.out _ _ ?_
        exact ⟨by simp [hsz], ⟨listed_new k0, listed_new k2, listed_new k3, listed_new k5, listed_new k6, listed_new k7⟩, (hB.alloc hB.size (.cells #[.int .i64 0, .int .i64 0, .int .i64 0, .int .i64 0] 34)), t1, t4, t8, t9, t10, t11, t12, (.pointer (some ⟨w.heap.size, 0, none⟩)), by kernel_rfl, fun h => c1 (listed_old h (by decide)), fun h => c4 (listed_old h (by decide)), fun h => c8 (listed_old h (by decide)), fun h => c9 (listed_old h (by decide)), fun h => c10 (listed_old h (by decide)), fun h => c11 (listed_old h (by decide)), fun h => by obtain ⟨g, hg, h1, h2, h3, h4⟩ := c12 (listed_old h (by decide)); exact ⟨g, hg, h1, (by have := h2; simp; omega), fun h => (h3 (listed_same h (by decide))).alloc _, fun h => (h4 (listed_same h (by decide))).alloc _⟩, fun h => listed_new (s12 (listed_old h (by decide))), fun _ => ⟨_, rfl, hB.size, by simp, fun _ => Whole.new _ _ _, fun h => absurd (was_listed hun (s13 (listed_old h (by decide)))) id⟩, fun h => listed_new (s13 (listed_old h (by decide))), fun h _ g g' hg hg' => by obtain ⟨q1, q2, _, q3, _⟩ := c12 (listed_old h (by decide)); rw [hg] at q2; cases q2; cases hg'; omega⟩
      · have hd := waits_as (L := [12, 10, 8, 0, 1, 2, 3, 4, 5, 6, 7, 8, 9, 10, 12, 13]) (by kernel_rfl) hd
        simp only [List.all_cons, List.all_nil, Bool.and_true, Bool.and_eq_true] at hd
        obtain ⟨e0, e1, e2, e3, e4, e5, e6, e7, e8, e9, e10, e11, e12, e13, e14, e15⟩ := hd
        obtain ⟨g12, rfl, lo12, lt12, z12, y12⟩ := c12 e0
        obtain rfl := c10 e1
        obtain rfl := c8 e2
        obtain rfl := c1 e4
        obtain rfl := c4 e7
        obtain rfl := c9 e12
        obtain ⟨g13, rfl, lo13, lt13, z13, y13⟩ := c13 e15
        refine inv_op rfl (fun K hK => ?_)
        subst ha0
        (try simp only [Act.put, List.getElem_toArray, List.getElem_cons_succ, List.getElem_cons_zero, List.setIfInBounds_toArray, List.set_cons_zero, List.set_cons_succ])
        have q := z12 (unlisted_false hun)
        have zz0 := q.cell 0
        have zz1 := q.cell 1
        have zz2 := q.cell 2
        have zz3 := q.cell 3
        have zz4 := q.cell 4
        have zz5 := q.cell 5
        have zz6 := q.cell 6
        have zz7 := q.cell 7
        have zz8 := q.cell 8
        have zz9 := q.cell 9
        have zz10 := q.cell 10
        have yy0 := q.free 0
        have yy1 := q.free 1
        have yy2 := q.free 2
        have yy3 := q.free 3
        have yy4 := q.free 4
        have yy5 := q.free 5
        have yy6 := q.free 6
        have yy7 := q.free 7
        have yy8 := q.free 8
        have yy9 := q.free 9
        have yy10 := q.free 10
        go_simp
        refine hK.out _ _ ?_
        exact ⟨by simp [hsz], ⟨listed_new k0, listed_new k2, listed_new k3, listed_new k5, listed_new k6, listed_new k7⟩, (eleven_set hB lo12 (.bool uon) (.int .i64 uh) (.int .i64 uc) (.int .i64 uoq) (.int .i64 uot) (.int .i64 uop) (.int .i64 uol) (.int .i64 uuq) (.int .i64 uut) (.int .i64 uup) (.int .i64 uul)), (.agg #[.bool son, .int .i64 sh, .int .i64 sc, .int .i64 soq, .int .i64 sot, .int .i64 sop, .int .i64 sol, .int .i64 suq, .int .i64 sut, .int .i64 sup, .int .i64 sul]), (.agg #[.int .i64 xq, .int .i64 xt, .int .i64 xp, .int .i64 xl]), (.tuple #[(.agg #[.bool uon, .int .i64 uh, .int .i64 uc, .int .i64 uoq, .int .i64 uot, .int .i64 uop, .int .i64 uol, .int .i64 uuq, .int .i64 uut, .int .i64 uup, .int .i64 uul]), (.agg #[.int .i64 mq, .int .i64 mt, .int .i64 mp, .int .i64 ml])]), (.tuple #[(.agg #[.bool uon, .int .i64 uh, .int .i64 uc, .int .i64 uoq, .int .i64 uot, .int .i64 uop, .int .i64 uol, .int .i64 uuq, .int .i64 uut, .int .i64 uup, .int .i64 uul]), (.agg #[.int .i64 mq, .int .i64 mt, .int .i64 mp, .int .i64 ml])]), (.agg #[.bool uon, .int .i64 uh, .int .i64 uc, .int .i64 uoq, .int .i64 uot, .int .i64 uop, .int .i64 uol, .int .i64 uuq, .int .i64 uut, .int .i64 uup, .int .i64 uul]), t11, (.pointer (some ⟨g12, 0, none⟩)), (.pointer (some ⟨g13, 0, none⟩)), by kernel_rfl, fun _ => rfl, fun _ => rfl, fun _ => rfl, fun _ => rfl, fun _ => rfl, fun h => c11 (listed_old h (by decide)), fun _ => ⟨g12, rfl, lo12, (by simpa using lt12), fun h => absurd ((listed_now hun).symm.trans h) (by decide), fun _ => (Whole.eleven q (.bool uon) (.int .i64 uh) (.int .i64 uc) (.int .i64 uoq) (.int .i64 uot) (.int .i64 uop) (.int .i64 uol) (.int .i64 uuq) (.int .i64 uut) (.int .i64 uup) (.int .i64 uul))⟩, fun _ => listed_new e0, fun _ => ⟨g13, rfl, lo13, (by simpa using lt13), fun h => Whole.eleven_far (z13 (listed_same h (by decide))) ((Ne.symm (n12_13 e0 e15 _ _ rfl rfl))) (.bool uon) (.int .i64 uh) (.int .i64 uc) (.int .i64 uoq) (.int .i64 uot) (.int .i64 uop) (.int .i64 uol) (.int .i64 uuq) (.int .i64 uut) (.int .i64 uup) (.int .i64 uul), fun h => Whole.eleven_far (y13 (listed_same h (by decide))) ((Ne.symm (n12_13 e0 e15 _ _ rfl rfl))) (.bool uon) (.int .i64 uh) (.int .i64 uc) (.int .i64 uoq) (.int .i64 uot) (.int .i64 uop) (.int .i64 uol) (.int .i64 uuq) (.int .i64 uut) (.int .i64 uup) (.int .i64 uul)⟩, fun h => listed_new (s13 (listed_old h (by decide))), fun h h' => n12_13 (listed_old h (by decide)) (listed_old h' (by decide))⟩
      · have hd := waits_as (L := [13, 11, 14, 0, 1, 2, 3, 4, 5, 6, 7, 8, 9, 10, 11, 12, 13, 14]) (by kernel_rfl) hd
        simp only [List.all_cons, List.all_nil, Bool.and_true, Bool.and_eq_true] at hd
        obtain ⟨e0, e1, e2, e3, e4, e5, e6, e7, e8, e9, e10, e11, e12, e13, e14, e15, e16, e17⟩ := hd
        obtain ⟨g13, rfl, lo13, lt13, z13, y13⟩ := c13 e0
        obtain rfl := c11 e1
        obtain rfl := c1 e4
        obtain rfl := c4 e7
        obtain rfl := c8 e11
        obtain rfl := c9 e12
        obtain rfl := c10 e13
        obtain ⟨g12, rfl, lo12, lt12, z12, y12⟩ := c12 e15
        refine inv_op rfl (fun K hK => ?_)
        subst ha0
        (try simp only [Act.put, List.getElem_toArray, List.getElem_cons_succ, List.getElem_cons_zero, List.setIfInBounds_toArray, List.set_cons_zero, List.set_cons_succ])
        have q := z13 (unlisted_false hun)
        have zz0 := q.cell 0
        have zz1 := q.cell 1
        have zz2 := q.cell 2
        have zz3 := q.cell 3
        have yy0 := q.free 0
        have yy1 := q.free 1
        have yy2 := q.free 2
        have yy3 := q.free 3
        go_simp
        refine hK.out _ _ ?_
        exact ⟨by simp [hsz], ⟨listed_new k0, listed_new k2, listed_new k3, listed_new k5, listed_new k6, listed_new k7⟩, (four_set hB lo13 (.int .i64 mq) (.int .i64 mt) (.int .i64 mp) (.int .i64 ml)), (.agg #[.bool son, .int .i64 sh, .int .i64 sc, .int .i64 soq, .int .i64 sot, .int .i64 sop, .int .i64 sol, .int .i64 suq, .int .i64 sut, .int .i64 sup, .int .i64 sul]), (.agg #[.int .i64 xq, .int .i64 xt, .int .i64 xp, .int .i64 xl]), (.tuple #[(.agg #[.bool uon, .int .i64 uh, .int .i64 uc, .int .i64 uoq, .int .i64 uot, .int .i64 uop, .int .i64 uol, .int .i64 uuq, .int .i64 uut, .int .i64 uup, .int .i64 uul]), (.agg #[.int .i64 mq, .int .i64 mt, .int .i64 mp, .int .i64 ml])]), (.tuple #[(.agg #[.bool uon, .int .i64 uh, .int .i64 uc, .int .i64 uoq, .int .i64 uot, .int .i64 uop, .int .i64 uol, .int .i64 uuq, .int .i64 uut, .int .i64 uup, .int .i64 uul]), (.agg #[.int .i64 mq, .int .i64 mt, .int .i64 mp, .int .i64 ml])]), (.agg #[.bool uon, .int .i64 uh, .int .i64 uc, .int .i64 uoq, .int .i64 uot, .int .i64 uop, .int .i64 uol, .int .i64 uuq, .int .i64 uut, .int .i64 uup, .int .i64 uul]), (.agg #[.int .i64 mq, .int .i64 mt, .int .i64 mp, .int .i64 ml]), (.pointer (some ⟨g12, 0, none⟩)), (.pointer (some ⟨g13, 0, none⟩)), by kernel_rfl, fun _ => rfl, fun _ => rfl, fun _ => rfl, fun _ => rfl, fun _ => rfl, fun _ => rfl, fun _ => ⟨g12, rfl, lo12, (by simpa using lt12), fun h => Whole.four_far (z12 (listed_same h (by decide))) ((n12_13 e15 e0 _ _ rfl rfl)) (.int .i64 mq) (.int .i64 mt) (.int .i64 mp) (.int .i64 ml), fun h => Whole.four_far (y12 (listed_same h (by decide))) ((n12_13 e15 e0 _ _ rfl rfl)) (.int .i64 mq) (.int .i64 mt) (.int .i64 mp) (.int .i64 ml)⟩, fun h => listed_new (s12 (listed_old h (by decide))), fun _ => ⟨g13, rfl, lo13, (by simpa using lt13), fun h => absurd ((listed_now hun).symm.trans h) (by decide), fun _ => (Whole.four q (.int .i64 mq) (.int .i64 mt) (.int .i64 mp) (.int .i64 ml))⟩, fun _ => listed_new e0, fun h h' => n12_13 (listed_old h (by decide)) (listed_old h' (by decide))⟩
    · intro l a w hI hr
      obtain ⟨hsz, ⟨k0, k2, k3, k5, k6, k7⟩, hB, t1, t4, t8, t9, t10, t11, t12, t13, rfl, c1, c4, c8, c9, c10, c11, c12, s12, c13, s13, n12_13⟩ := hI
      have k1 := done_listed (i := 1) (n := 16) hsz (by decide) rfl hr (by rw [show waitsFor _ _ 1 = [0] from by kernel_rfl]; simp only [List.all_cons, List.all_nil, Bool.and_true, Bool.and_eq_true]; exact k0)
      have k4 := done_listed (i := 4) (n := 16) hsz (by decide) rfl hr (by rw [show waitsFor _ _ 4 = [3, 1] from by kernel_rfl]; simp only [List.all_cons, List.all_nil, Bool.and_true, Bool.and_eq_true]; exact ⟨k3, k1⟩)
      have k8 := done_listed (i := 8) (n := 16) hsz (by decide) rfl hr (by rw [show waitsFor _ _ 8 = [1, 4, 7, 4] from by kernel_rfl]; simp only [List.all_cons, List.all_nil, Bool.and_true, Bool.and_eq_true]; exact ⟨k1, k4, k7, k4⟩)
      have k9 := done_listed (i := 9) (n := 16) hsz (by decide) rfl hr (by rw [show waitsFor _ _ 9 = [8] from by kernel_rfl]; simp only [List.all_cons, List.all_nil, Bool.and_true, Bool.and_eq_true]; exact k8)
      have k10 := done_listed (i := 10) (n := 16) hsz (by decide) rfl hr (by rw [show waitsFor _ _ 10 = [9] from by kernel_rfl]; simp only [List.all_cons, List.all_nil, Bool.and_true, Bool.and_eq_true]; exact k9)
      have k11 := done_listed (i := 11) (n := 16) hsz (by decide) rfl hr (by rw [show waitsFor _ _ 11 = [9] from by kernel_rfl]; simp only [List.all_cons, List.all_nil, Bool.and_true, Bool.and_eq_true]; exact k9)
      have k12 := done_listed (i := 12) (n := 16) hsz (by decide) rfl hr (by rw [show waitsFor _ _ 12 = [] from by kernel_rfl]; rfl)
      have k13 := done_listed (i := 13) (n := 16) hsz (by decide) rfl hr (by rw [show waitsFor _ _ 13 = [] from by kernel_rfl]; rfl)
      have k14 := done_listed (i := 14) (n := 16) hsz (by decide) rfl hr (by rw [show waitsFor _ _ 14 = [12, 10, 8, 0, 1, 2, 3, 4, 5, 6, 7, 8, 9, 10, 12, 13] from by kernel_rfl]; simp only [List.all_cons, List.all_nil, Bool.and_true, Bool.and_eq_true]; exact ⟨k12, k10, k8, k0, k1, k2, k3, k4, k5, k6, k7, k8, k9, k10, k12, k13⟩)
      have k15 := done_listed (i := 15) (n := 16) hsz (by decide) rfl hr (by rw [show waitsFor _ _ 15 = [13, 11, 14, 0, 1, 2, 3, 4, 5, 6, 7, 8, 9, 10, 11, 12, 13, 14] from by kernel_rfl]; simp only [List.all_cons, List.all_nil, Bool.and_true, Bool.and_eq_true]; exact ⟨k13, k11, k14, k0, k1, k2, k3, k4, k5, k6, k7, k8, k9, k10, k11, k12, k13, k14⟩)
      obtain rfl := c1 k1
      obtain rfl := c4 k4
      obtain rfl := c8 k8
      obtain rfl := c9 k9
      obtain rfl := c10 k10
      obtain rfl := c11 k11
      obtain ⟨gv, rfl, lov, _, _, Wv⟩ := c12 k12
      replace Wv := Wv k14
      obtain ⟨gq, rfl, loq, _, _, Wq⟩ := c13 k13
      replace Wq := Wq k15
      have nevq := n12_13 k12 k13 _ _ rfl rfl
      clear hr k0 k1 k2 k3 k4 k5 k6 k7 k8 k9 k10 k11 k12 k13 k14 k15 s12 s13 n12_13 c1 c4 c8 c9 c10 c11 c12 c13
      subst ha0
      (try simp only [Act.put, List.getElem_toArray, List.getElem_cons_succ, List.getElem_cons_zero, List.setIfInBounds_toArray, List.set_cons_zero, List.set_cons_succ])
      go_wp2_with fail
      go_meet
      exact ⟨_, _, rfl, rfl, lov, loq, nevq, Wv, Wq, hB⟩
    · refine ⟨rfl, ⟨rfl, rfl, rfl, rfl, rfl, rfl⟩, (Below.refl _ _).drew, a0.tmps.getD 40 undef, a0.tmps.getD 43 undef, a0.tmps.getD 47 undef, a0.tmps.getD 38 undef, a0.tmps.getD 48 undef, a0.tmps.getD 49 undef, a0.tmps.getD 8 undef, a0.tmps.getD 9 undef, ?_, fun h => absurd h (by decide), fun h => absurd h (by decide), fun h => absurd h (by decide), fun h => absurd h (by decide), fun h => absurd h (by decide), fun h => absurd h (by decide), fun h => absurd h (by decide), fun h => absurd h (by decide), fun h => absurd h (by decide), fun h => absurd h (by decide), fun h => absurd h (by decide)⟩
      subst ha0
      kernel_rfl
  case rest =>
    obtain ⟨g1_1, g2_1, rfl, rfl, lov1, loq1, nevq, Tv, Tq, bq⟩ := hcut
    obtain ⟨wc1, rfl⟩ : ∃ wd : World, wd = wc := ⟨_, rfl⟩
    have Ssc1 := (Ps.out).below bq Ps.out.lt
    have Sxc1 := (Px.out).below bq Px.out.lt
    have Suc1 := (Pu.out).below bq Pu.out.lt
    have Smc1 := (Pm.out).below bq Pm.out.lt
    have Svc1 := Tv
    have Sqc1 := Tq
    have HBc1 := Lib.hid (PB.out.trans (bq.mono PB.out.size))
    clear K6 bq Ps Px Pu Pm Tv Tq PB
    have lsc1 := Ssc1.lt
    have lxc1 := Sxc1.lt
    have luc1 := Suc1.lt
    have lmc1 := Smc1.lt
    have lvc1 := Svc1.lt
    have lqc1 := Sqc1.lt
    have sc1_0 := Ssc1.cell 0
    have sc1_1 := Ssc1.cell 1
    have sc1_2 := Ssc1.cell 2
    have sc1_3 := Ssc1.cell 3
    have sc1_4 := Ssc1.cell 4
    have sc1_5 := Ssc1.cell 5
    have sc1_6 := Ssc1.cell 6
    have sc1_7 := Ssc1.cell 7
    have sc1_8 := Ssc1.cell 8
    have sc1_9 := Ssc1.cell 9
    have sc1_10 := Ssc1.cell 10
    have xc1_0 := Sxc1.cell 0
    have xc1_1 := Sxc1.cell 1
    have xc1_2 := Sxc1.cell 2
    have xc1_3 := Sxc1.cell 3
    have xc1_4 := Sxc1.cell 4
    have xc1_5 := Sxc1.cell 5
    have xc1_6 := Sxc1.cell 6
    replace Ssc1 := Lib.hid Ssc1
    replace Sxc1 := Lib.hid Sxc1
    replace Suc1 := Lib.hid Suc1
    replace Smc1 := Lib.hid Smc1
    replace Svc1 := Lib.hid Svc1
    replace Sqc1 := Lib.hid Sqc1
    clear RW
    go_wp2_with fail
    refine (CE.out _).mono ?_
    rintro e w11 ⟨rfl, b11⟩
    have Ss11 := (Ssc1.out).below b11 (by have := (Ssc1.out).lt; first | with_reducible exact this | simpa using this)
    have Sx11 := (Sxc1.out).below b11 (by have := (Sxc1.out).lt; first | with_reducible exact this | simpa using this)
    have Su11 := (Suc1.out).below b11 (by have := (Suc1.out).lt; first | with_reducible exact this | simpa using this)
    have Sm11 := (Smc1.out).below b11 (by have := (Smc1.out).lt; first | with_reducible exact this | simpa using this)
    have Sv11 := (Svc1.out).below b11 (by have := (Svc1.out).lt; first | with_reducible exact this | simpa using this)
    have Sq11 := (Sqc1.out).below b11 (by have := (Sqc1.out).lt; first | with_reducible exact this | simpa using this)
    have HB11 := Lib.hid ((HBc1.out).trans (b11.mono (HBc1.out).size))
    have ls11 := Ss11.lt
    have lx11 := Sx11.lt
    have lu11 := Su11.lt
    have lm11 := Sm11.lt
    have lv11 := Sv11.lt
    have lq11 := Sq11.lt
    clear b11 sc1_0 sc1_1 sc1_2 sc1_3 sc1_4 sc1_5 sc1_6 sc1_7 sc1_8 sc1_9 sc1_10 xc1_0 xc1_1 xc1_2 xc1_3 xc1_4 xc1_5 xc1_6 Ssc1 Sxc1 Suc1 Smc1 Svc1 Sqc1 HBc1 CE
    have s11_0 := Ss11.cell 0
    have s11_1 := Ss11.cell 1
    have s11_2 := Ss11.cell 2
    have s11_3 := Ss11.cell 3
    have s11_4 := Ss11.cell 4
    have s11_5 := Ss11.cell 5
    have s11_6 := Ss11.cell 6
    have s11_7 := Ss11.cell 7
    have s11_8 := Ss11.cell 8
    have s11_9 := Ss11.cell 9
    have s11_10 := Ss11.cell 10
    have x11_0 := Sx11.cell 0
    have x11_1 := Sx11.cell 1
    have x11_2 := Sx11.cell 2
    have x11_3 := Sx11.cell 3
    have x11_4 := Sx11.cell 4
    have x11_5 := Sx11.cell 5
    have x11_6 := Sx11.cell 6
    replace Ss11 := Lib.hid Ss11
    replace Sx11 := Lib.hid Sx11
    replace Su11 := Lib.hid Su11
    replace Sm11 := Lib.hid Sm11
    replace Sv11 := Lib.hid Sv11
    replace Sq11 := Lib.hid Sq11
    go_upto_region 9 with fail
    obtain ⟨wo, hwo⟩ : ∃ wo, wo = ((w11.alloc (.cells #[.bool ton, .int .i64 th, .int .i64 tc, .int .u16 toq, .int .u32 tot, .int .u16 top, .int .u8 tol, .int .u16 tuq, .int .u32 tut, .int .u16 tup, .int .u8 tul] 27)).alloc (.cells #[.int .u16 nq, .int .u32 nt, .int .u16 np, .int .u8 nl] 25)) := ⟨_, rfl⟩
    have Nt : Whole (w11.alloc (.cells #[.bool ton, .int .i64 th, .int .i64 tc, .int .u16 toq, .int .u32 tot, .int .u16 top, .int .u8 tol, .int .u16 tuq, .int .u32 tut, .int .u16 tup, .int .u8 tul] 27)) (w11.heap.size) 27 #[.bool ton, .int .i64 th, .int .i64 tc, .int .u16 toq, .int .u32 tot, .int .u16 top, .int .u8 tol, .int .u16 tuq, .int .u32 tut, .int .u16 tup, .int .u8 tul] := by have := Whole.new w11 27 #[.bool ton, .int .i64 th, .int .i64 tc, .int .u16 toq, .int .u32 tot, .int .u16 top, .int .u8 tol, .int .u16 tuq, .int .u32 tut, .int .u16 tup, .int .u8 tul]; first | with_reducible exact this | simpa using this
    have Nn : Whole ((w11.alloc (.cells #[.bool ton, .int .i64 th, .int .i64 tc, .int .u16 toq, .int .u32 tot, .int .u16 top, .int .u8 tol, .int .u16 tuq, .int .u32 tut, .int .u16 tup, .int .u8 tul] 27)).alloc (.cells #[.int .u16 nq, .int .u32 nt, .int .u16 np, .int .u8 nl] 25)) (w11.heap.size + 1) 25 #[.int .u16 nq, .int .u32 nt, .int .u16 np, .int .u8 nl] := by have := Whole.new (w11.alloc (.cells #[.bool ton, .int .i64 th, .int .i64 tc, .int .u16 toq, .int .u32 tot, .int .u16 top, .int .u8 tol, .int .u16 tuq, .int .u32 tut, .int .u16 tup, .int .u8 tul] 27)) 25 #[.int .u16 nq, .int .u32 nt, .int .u16 np, .int .u8 nl]; first | with_reducible exact this | simpa using this
    have Ps := ((Ss11.out.alloc (.cells #[.bool ton, .int .i64 th, .int .i64 tc, .int .u16 toq, .int .u32 tot, .int .u16 top, .int .u8 tol, .int .u16 tuq, .int .u32 tut, .int .u16 tup, .int .u8 tul] 27)).alloc (.cells #[.int .u16 nq, .int .u32 nt, .int .u16 np, .int .u8 nl] 25))
    have Px := ((Sx11.out.alloc (.cells #[.bool ton, .int .i64 th, .int .i64 tc, .int .u16 toq, .int .u32 tot, .int .u16 top, .int .u8 tol, .int .u16 tuq, .int .u32 tut, .int .u16 tup, .int .u8 tul] 27)).alloc (.cells #[.int .u16 nq, .int .u32 nt, .int .u16 np, .int .u8 nl] 25))
    have Pu := ((Su11.out.alloc (.cells #[.bool ton, .int .i64 th, .int .i64 tc, .int .u16 toq, .int .u32 tot, .int .u16 top, .int .u8 tol, .int .u16 tuq, .int .u32 tut, .int .u16 tup, .int .u8 tul] 27)).alloc (.cells #[.int .u16 nq, .int .u32 nt, .int .u16 np, .int .u8 nl] 25))
    have Pm := ((Sm11.out.alloc (.cells #[.bool ton, .int .i64 th, .int .i64 tc, .int .u16 toq, .int .u32 tot, .int .u16 top, .int .u8 tol, .int .u16 tuq, .int .u32 tut, .int .u16 tup, .int .u8 tul] 27)).alloc (.cells #[.int .u16 nq, .int .u32 nt, .int .u16 np, .int .u8 nl] 25))
    have Pv := ((Sv11.out.alloc (.cells #[.bool ton, .int .i64 th, .int .i64 tc, .int .u16 toq, .int .u32 tot, .int .u16 top, .int .u8 tol, .int .u16 tuq, .int .u32 tut, .int .u16 tup, .int .u8 tul] 27)).alloc (.cells #[.int .u16 nq, .int .u32 nt, .int .u16 np, .int .u8 nl] 25))
    have Pq := ((Sq11.out.alloc (.cells #[.bool ton, .int .i64 th, .int .i64 tc, .int .u16 toq, .int .u32 tot, .int .u16 top, .int .u8 tol, .int .u16 tuq, .int .u32 tut, .int .u16 tup, .int .u8 tul] 27)).alloc (.cells #[.int .u16 nq, .int .u32 nt, .int .u16 np, .int .u8 nl] 25))
    have Pt := (Nt.alloc (.cells #[.int .u16 nq, .int .u32 nt, .int .u16 np, .int .u8 nl] 25))
    have Pn := Nn
    have PB := ((HB11.out.alloc (HB11.out).size (.cells #[.bool ton, .int .i64 th, .int .i64 tc, .int .u16 toq, .int .u32 tot, .int .u16 top, .int .u8 tol, .int .u16 tuq, .int .u32 tut, .int .u16 tup, .int .u8 tul] 27)).alloc ((HB11.out.alloc (HB11.out).size (.cells #[.bool ton, .int .i64 th, .int .i64 tc, .int .u16 toq, .int .u32 tot, .int .u16 top, .int .u8 tol, .int .u16 tuq, .int .u32 tut, .int .u16 tup, .int .u8 tul] 27))).size (.cells #[.int .u16 nq, .int .u32 nt, .int .u16 np, .int .u8 nl] 25))
    rw [← hwo] at Ps Px Pu Pm Pv Pq Pt Pn PB ⊢
    clear hwo
    clear s11_0 s11_1 s11_2 s11_3 s11_4 s11_5 s11_6 s11_7 s11_8 s11_9 s11_10 x11_0 x11_1 x11_2 x11_3 x11_4 x11_5 x11_6 Ss11 Sx11 Su11 Sm11 Sv11 Sq11 Nt Nn HB11
    have ps2 := Ps.lt
    have px2 := Px.lt
    have pu2 := Pu.lt
    have pm2 := Pm.lt
    have pv2 := Pv.lt
    have pq2 := Pq.lt
    have pt2 := Pt.lt
    have pn2 := Pn.lt
    replace Ps := Lib.hid Ps
    replace Px := Lib.hid Px
    replace Pu := Lib.hid Pu
    replace Pm := Lib.hid Pm
    replace Pv := Lib.hid Pv
    replace Pq := Lib.hid Pq
    replace Pt := Lib.hid Pt
    replace Pn := Lib.hid Pn
    replace PB := Lib.hid PB
    have K6 := Lib.hid (fun w' (b' : Below wo.heap.size wo w') => show (fun w' => w'.cell? ⟨w.heap.size, 0, none⟩ = some (.bool son) ∧ w'.cell? ⟨w.heap.size, 1, none⟩ = some (.int .i64 sh) ∧ w'.cell? ⟨w.heap.size, 2, none⟩ = some (.int .i64 sc) ∧ w'.cell? ⟨w.heap.size, 3, none⟩ = some (.int .u16 soq) ∧ w'.cell? ⟨w.heap.size, 4, none⟩ = some (.int .u32 sot) ∧ w'.cell? ⟨w.heap.size, 5, none⟩ = some (.int .u16 sop) ∧ w'.cell? ⟨w.heap.size, 6, none⟩ = some (.int .u8 sol) ∧ w'.cell? ⟨w.heap.size, 7, none⟩ = some (.int .u16 suq) ∧ w'.cell? ⟨w.heap.size, 8, none⟩ = some (.int .u32 sut) ∧ w'.cell? ⟨w.heap.size, 9, none⟩ = some (.int .u16 sup) ∧ w'.cell? ⟨w.heap.size, 10, none⟩ = some (.int .u8 sul) ∧ w'.cell? ⟨w.heap.size + 1, 0, none⟩ = some (.int .i64 ki) ∧ w'.cell? ⟨w.heap.size + 1, 1, none⟩ = some (.int .u16 xq) ∧ w'.cell? ⟨w.heap.size + 1, 2, none⟩ = some (.int .u32 xt) ∧ w'.cell? ⟨w.heap.size + 1, 3, none⟩ = some (.int .u16 xp) ∧ w'.cell? ⟨w.heap.size + 1, 4, none⟩ = some (.int .u8 xl) ∧ w'.cell? ⟨w.heap.size + 1, 5, none⟩ = some (.int .u32 kt) ∧ w'.cell? ⟨w.heap.size + 1, 6, none⟩ = some (.bool kb)) w' from ⟨(Ps.out.below b' Ps.out.lt).cell 0, (Ps.out.below b' Ps.out.lt).cell 1, (Ps.out.below b' Ps.out.lt).cell 2, (Ps.out.below b' Ps.out.lt).cell 3, (Ps.out.below b' Ps.out.lt).cell 4, (Ps.out.below b' Ps.out.lt).cell 5, (Ps.out.below b' Ps.out.lt).cell 6, (Ps.out.below b' Ps.out.lt).cell 7, (Ps.out.below b' Ps.out.lt).cell 8, (Ps.out.below b' Ps.out.lt).cell 9, (Ps.out.below b' Ps.out.lt).cell 10, (Px.out.below b' Px.out.lt).cell 0, (Px.out.below b' Px.out.lt).cell 1, (Px.out.below b' Px.out.lt).cell 2, (Px.out.below b' Px.out.lt).cell 3, (Px.out.below b' Px.out.lt).cell 4, (Px.out.below b' Px.out.lt).cell 5, (Px.out.below b' Px.out.lt).cell 6⟩)
    go_cut [13, 14, 15] (fun p1 p2 x15 wx => x15 = (.bool b) ∧ ∃ g1 g2 : Nat, p1 = .pointer (some ⟨g1, 0, none⟩) ∧ p2 = .pointer (some ⟨g2, 0, none⟩) ∧ wo.heap.size ≤ g1 ∧ wo.heap.size ≤ g2 ∧ g1 ≠ g2 ∧ Whole wx g1 36 #[.bool ton, .int .i64 th, .int .i64 tc, .int .i64 toq, .int .i64 tot, .int .i64 top, .int .i64 tol, .int .i64 tuq, .int .i64 tut, .int .i64 tup, .int .i64 tul] ∧ Whole wx g2 34 #[.int .i64 nq, .int .i64 nt, .int .i64 np, .int .i64 nl] ∧ Below wo.heap.size wo wx)
    case first =>
      refine wp_region_X (S := fun w' => w'.cell? ⟨w.heap.size, 0, none⟩ = some (.bool son) ∧ w'.cell? ⟨w.heap.size, 1, none⟩ = some (.int .i64 sh) ∧ w'.cell? ⟨w.heap.size, 2, none⟩ = some (.int .i64 sc) ∧ w'.cell? ⟨w.heap.size, 3, none⟩ = some (.int .u16 soq) ∧ w'.cell? ⟨w.heap.size, 4, none⟩ = some (.int .u32 sot) ∧ w'.cell? ⟨w.heap.size, 5, none⟩ = some (.int .u16 sop) ∧ w'.cell? ⟨w.heap.size, 6, none⟩ = some (.int .u8 sol) ∧ w'.cell? ⟨w.heap.size, 7, none⟩ = some (.int .u16 suq) ∧ w'.cell? ⟨w.heap.size, 8, none⟩ = some (.int .u32 sut) ∧ w'.cell? ⟨w.heap.size, 9, none⟩ = some (.int .u16 sup) ∧ w'.cell? ⟨w.heap.size, 10, none⟩ = some (.int .u8 sul) ∧ w'.cell? ⟨w.heap.size + 1, 0, none⟩ = some (.int .i64 ki) ∧ w'.cell? ⟨w.heap.size + 1, 1, none⟩ = some (.int .u16 xq) ∧ w'.cell? ⟨w.heap.size + 1, 2, none⟩ = some (.int .u32 xt) ∧ w'.cell? ⟨w.heap.size + 1, 3, none⟩ = some (.int .u16 xp) ∧ w'.cell? ⟨w.heap.size + 1, 4, none⟩ = some (.int .u8 xl) ∧ w'.cell? ⟨w.heap.size + 1, 5, none⟩ = some (.int .u32 kt) ∧ w'.cell? ⟨w.heap.size + 1, 6, none⟩ = some (.bool kb)) [] (by kernel_rfl) (K6.out _ (Below.refl _ _).drew) (fun hHeld0 => ?_)
      refine wpAnyX_take (i := 0) [] (v := ?_) rfl (by kernel_rfl) (by kernel_rfl) (by kernel_rfl) (by kernel_rfl) (fun _ _ _ h => h) (Or.inl ⟨by kernel_rfl, ?_⟩) (by assumption) ?_
      rotate_left 1
      · (intro w hSw; obtain ⟨m0, m1, m2, m3, m4, m5, m6, m7, m8, m9, m10, m11, m12, m13, m14, m15, m16, m17⟩ := hSw; go_simp; try (with_reducible rfl))
      (try simp only [Act.put, List.getElem_toArray, List.getElem_cons_succ, List.getElem_cons_zero, List.setIfInBounds_toArray, List.set_cons_zero, List.set_cons_succ])
      refine wpAnyX_take (i := 2) [] (v := ?_) rfl (by kernel_rfl) (by kernel_rfl) (by kernel_rfl) (by kernel_rfl) (fun _ _ _ h => h) (Or.inl ⟨by kernel_rfl, ?_⟩) (by assumption) ?_
      rotate_left 1
      · (intro w hSw; obtain ⟨m0, m1, m2, m3, m4, m5, m6, m7, m8, m9, m10, m11, m12, m13, m14, m15, m16, m17⟩ := hSw; go_simp; try (with_reducible rfl))
      (try simp only [Act.put, List.getElem_toArray, List.getElem_cons_succ, List.getElem_cons_zero, List.setIfInBounds_toArray, List.set_cons_zero, List.set_cons_succ])
      refine wpAnyX_take (i := 3) [] (v := ?_) rfl (by kernel_rfl) (by kernel_rfl) (by kernel_rfl) (by kernel_rfl) (fun _ _ _ h => h) (Or.inl ⟨by kernel_rfl, ?_⟩) (by assumption) ?_
      rotate_left 1
      · (intro w hSw; obtain ⟨m0, m1, m2, m3, m4, m5, m6, m7, m8, m9, m10, m11, m12, m13, m14, m15, m16, m17⟩ := hSw; go_simp; try (with_reducible rfl))
      (try simp only [Act.put, List.getElem_toArray, List.getElem_cons_succ, List.getElem_cons_zero, List.setIfInBounds_toArray, List.set_cons_zero, List.set_cons_succ])
      refine wpAnyX_named (fun a0 ha0 => ?_)
      refine wpAnyX_inv (fun l a w' => l.size = 15 ∧ (l.getD 0 false = true ∧ l.getD 2 false = true ∧ l.getD 3 false = true) ∧ Below wo.heap.size wo w' ∧ ∃ t1 t4 t5 t6 t7 t8 t9 t10 t11 t14 : Value, a = ((((((((((a0.put (some 60) t1).put (some 63) t4).put (some 64) t5).put (some 58) t6).put (some 65) t7).put (some 66) t8).put (some 67) t9).put (some 13) t10).put (some 14) t11).put (some 15) t14) ∧ (l.getD 1 false = true → t1 = (.agg #[.bool son, .int .i64 sh, .int .i64 sc, .int .i64 soq, .int .i64 sot, .int .i64 sop, .int .i64 sol, .int .i64 suq, .int .i64 sut, .int .i64 sup, .int .i64 sul])) ∧ (l.getD 4 false = true → t4 = (.agg #[.int .i64 xq, .int .i64 xt, .int .i64 xp, .int .i64 xl])) ∧ (l.getD 5 false = true → t5 = (.tuple #[(.agg #[.bool ton, .int .i64 th, .int .i64 tc, .int .i64 toq, .int .i64 tot, .int .i64 top, .int .i64 tol, .int .i64 tuq, .int .i64 tut, .int .i64 tup, .int .i64 tul]), (.agg #[.int .i64 nq, .int .i64 nt, .int .i64 np, .int .i64 nl]), (.bool b)])) ∧ (l.getD 6 false = true → t6 = (.tuple #[(.agg #[.bool ton, .int .i64 th, .int .i64 tc, .int .i64 toq, .int .i64 tot, .int .i64 top, .int .i64 tol, .int .i64 tuq, .int .i64 tut, .int .i64 tup, .int .i64 tul]), (.agg #[.int .i64 nq, .int .i64 nt, .int .i64 np, .int .i64 nl]), (.bool b)])) ∧ (l.getD 7 false = true → t7 = (.agg #[.bool ton, .int .i64 th, .int .i64 tc, .int .i64 toq, .int .i64 tot, .int .i64 top, .int .i64 tol, .int .i64 tuq, .int .i64 tut, .int .i64 tup, .int .i64 tul])) ∧ (l.getD 8 false = true → t8 = (.agg #[.int .i64 nq, .int .i64 nt, .int .i64 np, .int .i64 nl])) ∧ (l.getD 9 false = true → t9 = (.bool b)) ∧ (l.getD 10 false = true → ∃ g, t10 = .pointer (some ⟨g, 0, none⟩) ∧ wo.heap.size ≤ g ∧ g < w'.heap.size ∧ (l.getD 12 false = false → Whole w' g 36 #[.bool false, .int .i64 0, .int .i64 0, .int .i64 0, .int .i64 0, .int .i64 0, .int .i64 0, .int .i64 0, .int .i64 0, .int .i64 0, .int .i64 0]) ∧ (l.getD 12 false = true → Whole w' g 36 #[.bool ton, .int .i64 th, .int .i64 tc, .int .i64 toq, .int .i64 tot, .int .i64 top, .int .i64 tol, .int .i64 tuq, .int .i64 tut, .int .i64 tup, .int .i64 tul])) ∧ (l.getD 12 false = true → l.getD 10 false = true) ∧ (l.getD 11 false = true → ∃ g, t11 = .pointer (some ⟨g, 0, none⟩) ∧ wo.heap.size ≤ g ∧ g < w'.heap.size ∧ (l.getD 13 false = false → Whole w' g 34 #[.int .i64 0, .int .i64 0, .int .i64 0, .int .i64 0]) ∧ (l.getD 13 false = true → Whole w' g 34 #[.int .i64 nq, .int .i64 nt, .int .i64 np, .int .i64 nl])) ∧ (l.getD 13 false = true → l.getD 11 false = true) ∧ (l.getD 14 false = true → t14 = (.bool b)) ∧ (l.getD 10 false = true → l.getD 11 false = true → ∀ g g', t10 = .pointer (some ⟨g, 0, none⟩) → t11 = .pointer (some ⟨g', 0, none⟩) → g ≠ g')) (fun l a w hI => K6.out _ hI.2.2.1) ?_ ?_ _ _ _ _ (by decide) ?_
      · intro l a w hI i hi
        obtain ⟨hsz, ⟨k0, k2, k3⟩, hB, t1, t4, t5, t6, t7, t8, t9, t10, t11, t14, rfl, c1, c4, c5, c6, c7, c8, c9, c10, s10, c11, s11, c14, n10_11⟩ := hI
        obtain ⟨hun, hin, hd⟩ := ready_split (n := 15) rfl hi
        clear hi
        rw [show List.range 15 = [0, 1, 2, 3, 4, 5, 6, 7, 8, 9, 10, 11, 12, 13, 14] from rfl] at hin
        simp only [List.mem_cons, List.not_mem_nil, or_false] at hin
        rcases hin with rfl | rfl | rfl | rfl | rfl | rfl | rfl | rfl | rfl | rfl | rfl | rfl | rfl | rfl | rfl
        · exact absurd (was_listed hun k0) id
        · have hd := waits_as (L := [0]) (by kernel_rfl) hd
          simp only [List.all_cons, List.all_nil, Bool.and_true, Bool.and_eq_true] at hd
          have e0 := hd
          refine inv_op rfl (fun K hK => ?_)
          subst ha0
          (try simp only [Act.put, List.getElem_toArray, List.getElem_cons_succ, List.getElem_cons_zero, List.setIfInBounds_toArray, List.set_cons_zero, List.set_cons_succ])
          go_simp
          go_wp2_with (refine (O1.out _).mono ?_; rintro e v ⟨rfl, b1⟩)
          refine hK.out _ _ ?_
          exact ⟨by simp [hsz], ⟨listed_new k0, listed_new k2, listed_new k3⟩, (hB.trans (b1.mono hB.size)), (.agg #[.bool son, .int .i64 sh, .int .i64 sc, .int .i64 soq, .int .i64 sot, .int .i64 sop, .int .i64 sol, .int .i64 suq, .int .i64 sut, .int .i64 sup, .int .i64 sul]), t4, t5, t6, t7, t8, t9, t10, t11, t14, by kernel_rfl, fun _ => rfl, fun h => c4 (listed_old h (by decide)), fun h => c5 (listed_old h (by decide)), fun h => c6 (listed_old h (by decide)), fun h => c7 (listed_old h (by decide)), fun h => c8 (listed_old h (by decide)), fun h => c9 (listed_old h (by decide)), fun h => by obtain ⟨g, hg, h1, h2, h3, h4⟩ := c10 (listed_old h (by decide)); exact ⟨g, hg, h1, Nat.lt_of_lt_of_le h2 b1.size, fun h => (h3 (listed_same h (by decide))).below b1 (h3 (listed_same h (by decide))).lt, fun h => (h4 (listed_same h (by decide))).below b1 (h4 (listed_same h (by decide))).lt⟩, fun h => listed_new (s10 (listed_old h (by decide))), fun h => by obtain ⟨g, hg, h1, h2, h3, h4⟩ := c11 (listed_old h (by decide)); exact ⟨g, hg, h1, Nat.lt_of_lt_of_le h2 b1.size, fun h => (h3 (listed_same h (by decide))).below b1 (h3 (listed_same h (by decide))).lt, fun h => (h4 (listed_same h (by decide))).below b1 (h4 (listed_same h (by decide))).lt⟩, fun h => listed_new (s11 (listed_old h (by decide))), fun h => c14 (listed_old h (by decide)), fun h h' => n10_11 (listed_old h (by decide)) (listed_old h' (by decide))⟩
        · exact absurd (was_listed hun k2) id
        · exact absurd (was_listed hun k3) id
        · have hd := waits_as (L := [3, 1]) (by kernel_rfl) hd
          simp only [List.all_cons, List.all_nil, Bool.and_true, Bool.and_eq_true] at hd
          obtain ⟨e0, e1⟩ := hd
          obtain rfl := c1 e1
          refine inv_op rfl (fun K hK => ?_)
          subst ha0
          (try simp only [Act.put, List.getElem_toArray, List.getElem_cons_succ, List.getElem_cons_zero, List.setIfInBounds_toArray, List.set_cons_zero, List.set_cons_succ])
          go_simp
          go_wp2_with (refine (O2.out _).mono ?_; rintro e v ⟨rfl, b1⟩)
          refine hK.out _ _ ?_
          exact ⟨by simp [hsz], ⟨listed_new k0, listed_new k2, listed_new k3⟩, (hB.trans (b1.mono hB.size)), (.agg #[.bool son, .int .i64 sh, .int .i64 sc, .int .i64 soq, .int .i64 sot, .int .i64 sop, .int .i64 sol, .int .i64 suq, .int .i64 sut, .int .i64 sup, .int .i64 sul]), (.agg #[.int .i64 xq, .int .i64 xt, .int .i64 xp, .int .i64 xl]), t5, t6, t7, t8, t9, t10, t11, t14, by kernel_rfl, fun _ => rfl, fun _ => rfl, fun h => c5 (listed_old h (by decide)), fun h => c6 (listed_old h (by decide)), fun h => c7 (listed_old h (by decide)), fun h => c8 (listed_old h (by decide)), fun h => c9 (listed_old h (by decide)), fun h => by obtain ⟨g, hg, h1, h2, h3, h4⟩ := c10 (listed_old h (by decide)); exact ⟨g, hg, h1, Nat.lt_of_lt_of_le h2 b1.size, fun h => (h3 (listed_same h (by decide))).below b1 (h3 (listed_same h (by decide))).lt, fun h => (h4 (listed_same h (by decide))).below b1 (h4 (listed_same h (by decide))).lt⟩, fun h => listed_new (s10 (listed_old h (by decide))), fun h => by obtain ⟨g, hg, h1, h2, h3, h4⟩ := c11 (listed_old h (by decide)); exact ⟨g, hg, h1, Nat.lt_of_lt_of_le h2 b1.size, fun h => (h3 (listed_same h (by decide))).below b1 (h3 (listed_same h (by decide))).lt, fun h => (h4 (listed_same h (by decide))).below b1 (h4 (listed_same h (by decide))).lt⟩, fun h => listed_new (s11 (listed_old h (by decide))), fun h => c14 (listed_old h (by decide)), fun h h' => n10_11 (listed_old h (by decide)) (listed_old h' (by decide))⟩
        · have hd := waits_as (L := [1, 4, 4]) (by kernel_rfl) hd
          simp only [List.all_cons, List.all_nil, Bool.and_true, Bool.and_eq_true] at hd
          obtain ⟨e0, e1, e2⟩ := hd
          obtain rfl := c1 e0
          obtain rfl := c4 e1
          refine inv_op rfl (fun K hK => ?_)
          subst ha0
          (try simp only [Act.put, List.getElem_toArray, List.getElem_cons_succ, List.getElem_cons_zero, List.setIfInBounds_toArray, List.set_cons_zero, List.set_cons_succ])
          go_simp
          go_wp2_with (refine (RE.out _).mono ?_; rintro e v ⟨rfl, b1⟩)
          refine hK.out _ _ ?_
          exact ⟨by simp [hsz], ⟨listed_new k0, listed_new k2, listed_new k3⟩, (hB.trans (b1.mono hB.size)), (.agg #[.bool son, .int .i64 sh, .int .i64 sc, .int .i64 soq, .int .i64 sot, .int .i64 sop, .int .i64 sol, .int .i64 suq, .int .i64 sut, .int .i64 sup, .int .i64 sul]), (.agg #[.int .i64 xq, .int .i64 xt, .int .i64 xp, .int .i64 xl]), (.tuple #[(.agg #[.bool ton, .int .i64 th, .int .i64 tc, .int .i64 toq, .int .i64 tot, .int .i64 top, .int .i64 tol, .int .i64 tuq, .int .i64 tut, .int .i64 tup, .int .i64 tul]), (.agg #[.int .i64 nq, .int .i64 nt, .int .i64 np, .int .i64 nl]), (.bool b)]), t6, t7, t8, t9, t10, t11, t14, by kernel_rfl, fun _ => rfl, fun _ => rfl, fun _ => rfl, fun h => c6 (listed_old h (by decide)), fun h => c7 (listed_old h (by decide)), fun h => c8 (listed_old h (by decide)), fun h => c9 (listed_old h (by decide)), fun h => by obtain ⟨g, hg, h1, h2, h3, h4⟩ := c10 (listed_old h (by decide)); exact ⟨g, hg, h1, Nat.lt_of_lt_of_le h2 b1.size, fun h => (h3 (listed_same h (by decide))).below b1 (h3 (listed_same h (by decide))).lt, fun h => (h4 (listed_same h (by decide))).below b1 (h4 (listed_same h (by decide))).lt⟩, fun h => listed_new (s10 (listed_old h (by decide))), fun h => by obtain ⟨g, hg, h1, h2, h3, h4⟩ := c11 (listed_old h (by decide)); exact ⟨g, hg, h1, Nat.lt_of_lt_of_le h2 b1.size, fun h => (h3 (listed_same h (by decide))).below b1 (h3 (listed_same h (by decide))).lt, fun h => (h4 (listed_same h (by decide))).below b1 (h4 (listed_same h (by decide))).lt⟩, fun h => listed_new (s11 (listed_old h (by decide))), fun h => c14 (listed_old h (by decide)), fun h h' => n10_11 (listed_old h (by decide)) (listed_old h' (by decide))⟩
        · have hd := waits_as (L := [5]) (by kernel_rfl) hd
          simp only [List.all_cons, List.all_nil, Bool.and_true, Bool.and_eq_true] at hd
          have e0 := hd
          obtain rfl := c5 e0
          refine inv_op rfl (fun K hK => ?_)
          subst ha0
          (try simp only [Act.put, List.getElem_toArray, List.getElem_cons_succ, List.getElem_cons_zero, List.setIfInBounds_toArray, List.set_cons_zero, List.set_cons_succ])
          go_simp
          refine hK.out _ _ ?_
          exact ⟨by simp [hsz], ⟨listed_new k0, listed_new k2, listed_new k3⟩, hB, t1, t4, (.tuple #[(.agg #[.bool ton, .int .i64 th, .int .i64 tc, .int .i64 toq, .int .i64 tot, .int .i64 top, .int .i64 tol, .int .i64 tuq, .int .i64 tut, .int .i64 tup, .int .i64 tul]), (.agg #[.int .i64 nq, .int .i64 nt, .int .i64 np, .int .i64 nl]), (.bool b)]), (.tuple #[(.agg #[.bool ton, .int .i64 th, .int .i64 tc, .int .i64 toq, .int .i64 tot, .int .i64 top, .int .i64 tol, .int .i64 tuq, .int .i64 tut, .int .i64 tup, .int .i64 tul]), (.agg #[.int .i64 nq, .int .i64 nt, .int .i64 np, .int .i64 nl]), (.bool b)]), t7, t8, t9, t10, t11, t14, by kernel_rfl, fun h => c1 (listed_old h (by decide)), fun h => c4 (listed_old h (by decide)), fun _ => rfl, fun _ => rfl, fun h => c7 (listed_old h (by decide)), fun h => c8 (listed_old h (by decide)), fun h => c9 (listed_old h (by decide)), fun h => by obtain ⟨g, hg, h1, h2, h3, h4⟩ := c10 (listed_old h (by decide)); exact ⟨g, hg, h1, h2, fun h => h3 (listed_same h (by decide)), fun h => h4 (listed_same h (by decide))⟩, fun h => listed_new (s10 (listed_old h (by decide))), fun h => by obtain ⟨g, hg, h1, h2, h3, h4⟩ := c11 (listed_old h (by decide)); exact ⟨g, hg, h1, h2, fun h => h3 (listed_same h (by decide)), fun h => h4 (listed_same h (by decide))⟩, fun h => listed_new (s11 (listed_old h (by decide))), fun h => c14 (listed_old h (by decide)), fun h h' => n10_11 (listed_old h (by decide)) (listed_old h' (by decide))⟩
        · have hd := waits_as (L := [6]) (by kernel_rfl) hd
          simp only [List.all_cons, List.all_nil, Bool.and_true, Bool.and_eq_true] at hd
          have e0 := hd
          obtain rfl := c6 e0
          refine inv_op rfl (fun K hK => ?_)
          subst ha0
          (try simp only [Act.put, List.getElem_toArray, List.getElem_cons_succ, List.getElem_cons_zero, List.setIfInBounds_toArray, List.set_cons_zero, List.set_cons_succ])
          go_simp
          refine hK.out _ _ ?_
          exact ⟨by simp [hsz], ⟨listed_new k0, listed_new k2, listed_new k3⟩, hB, t1, t4, t5, (.tuple #[(.agg #[.bool ton, .int .i64 th, .int .i64 tc, .int .i64 toq, .int .i64 tot, .int .i64 top, .int .i64 tol, .int .i64 tuq, .int .i64 tut, .int .i64 tup, .int .i64 tul]), (.agg #[.int .i64 nq, .int .i64 nt, .int .i64 np, .int .i64 nl]), (.bool b)]), (.agg #[.bool ton, .int .i64 th, .int .i64 tc, .int .i64 toq, .int .i64 tot, .int .i64 top, .int .i64 tol, .int .i64 tuq, .int .i64 tut, .int .i64 tup, .int .i64 tul]), t8, t9, t10, t11, t14, by kernel_rfl, fun h => c1 (listed_old h (by decide)), fun h => c4 (listed_old h (by decide)), fun h => c5 (listed_old h (by decide)), fun _ => rfl, fun _ => rfl, fun h => c8 (listed_old h (by decide)), fun h => c9 (listed_old h (by decide)), fun h => by obtain ⟨g, hg, h1, h2, h3, h4⟩ := c10 (listed_old h (by decide)); exact ⟨g, hg, h1, h2, fun h => h3 (listed_same h (by decide)), fun h => h4 (listed_same h (by decide))⟩, fun h => listed_new (s10 (listed_old h (by decide))), fun h => by obtain ⟨g, hg, h1, h2, h3, h4⟩ := c11 (listed_old h (by decide)); exact ⟨g, hg, h1, h2, fun h => h3 (listed_same h (by decide)), fun h => h4 (listed_same h (by decide))⟩, fun h => listed_new (s11 (listed_old h (by decide))), fun h => c14 (listed_old h (by decide)), fun h h' => n10_11 (listed_old h (by decide)) (listed_old h' (by decide))⟩
        · have hd := waits_as (L := [6]) (by kernel_rfl) hd
          simp only [List.all_cons, List.all_nil, Bool.and_true, Bool.and_eq_true] at hd
          have e0 := hd
          obtain rfl := c6 e0
          refine inv_op rfl (fun K hK => ?_)
          subst ha0
          (try simp only [Act.put, List.getElem_toArray, List.getElem_cons_succ, List.getElem_cons_zero, List.setIfInBounds_toArray, List.set_cons_zero, List.set_cons_succ])
          go_simp
          refine hK.out _ _ ?_
          exact ⟨by simp [hsz], ⟨listed_new k0, listed_new k2, listed_new k3⟩, hB, t1, t4, t5, (.tuple #[(.agg #[.bool ton, .int .i64 th, .int .i64 tc, .int .i64 toq, .int .i64 tot, .int .i64 top, .int .i64 tol, .int .i64 tuq, .int .i64 tut, .int .i64 tup, .int .i64 tul]), (.agg #[.int .i64 nq, .int .i64 nt, .int .i64 np, .int .i64 nl]), (.bool b)]), t7, (.agg #[.int .i64 nq, .int .i64 nt, .int .i64 np, .int .i64 nl]), t9, t10, t11, t14, by kernel_rfl, fun h => c1 (listed_old h (by decide)), fun h => c4 (listed_old h (by decide)), fun h => c5 (listed_old h (by decide)), fun _ => rfl, fun h => c7 (listed_old h (by decide)), fun _ => rfl, fun h => c9 (listed_old h (by decide)), fun h => by obtain ⟨g, hg, h1, h2, h3, h4⟩ := c10 (listed_old h (by decide)); exact ⟨g, hg, h1, h2, fun h => h3 (listed_same h (by decide)), fun h => h4 (listed_same h (by decide))⟩, fun h => listed_new (s10 (listed_old h (by decide))), fun h => by obtain ⟨g, hg, h1, h2, h3, h4⟩ := c11 (listed_old h (by decide)); exact ⟨g, hg, h1, h2, fun h => h3 (listed_same h (by decide)), fun h => h4 (listed_same h (by decide))⟩, fun h => listed_new (s11 (listed_old h (by decide))), fun h => c14 (listed_old h (by decide)), fun h h' => n10_11 (listed_old h (by decide)) (listed_old h' (by decide))⟩
        · have hd := waits_as (L := [6]) (by kernel_rfl) hd
          simp only [List.all_cons, List.all_nil, Bool.and_true, Bool.and_eq_true] at hd
          have e0 := hd
          obtain rfl := c6 e0
          refine inv_op rfl (fun K hK => ?_)
          subst ha0
          (try simp only [Act.put, List.getElem_toArray, List.getElem_cons_succ, List.getElem_cons_zero, List.setIfInBounds_toArray, List.set_cons_zero, List.set_cons_succ])
          go_simp
          refine hK.out _ _ ?_
          exact ⟨by simp [hsz], ⟨listed_new k0, listed_new k2, listed_new k3⟩, hB, t1, t4, t5, (.tuple #[(.agg #[.bool ton, .int .i64 th, .int .i64 tc, .int .i64 toq, .int .i64 tot, .int .i64 top, .int .i64 tol, .int .i64 tuq, .int .i64 tut, .int .i64 tup, .int .i64 tul]), (.agg #[.int .i64 nq, .int .i64 nt, .int .i64 np, .int .i64 nl]), (.bool b)]), t7, t8, (.bool b), t10, t11, t14, by kernel_rfl, fun h => c1 (listed_old h (by decide)), fun h => c4 (listed_old h (by decide)), fun h => c5 (listed_old h (by decide)), fun _ => rfl, fun h => c7 (listed_old h (by decide)), fun h => c8 (listed_old h (by decide)), fun _ => rfl, fun h => by obtain ⟨g, hg, h1, h2, h3, h4⟩ := c10 (listed_old h (by decide)); exact ⟨g, hg, h1, h2, fun h => h3 (listed_same h (by decide)), fun h => h4 (listed_same h (by decide))⟩, fun h => listed_new (s10 (listed_old h (by decide))), fun h => by obtain ⟨g, hg, h1, h2, h3, h4⟩ := c11 (listed_old h (by decide)); exact ⟨g, hg, h1, h2, fun h => h3 (listed_same h (by decide)), fun h => h4 (listed_same h (by decide))⟩, fun h => listed_new (s11 (listed_old h (by decide))), fun h => c14 (listed_old h (by decide)), fun h h' => n10_11 (listed_old h (by decide)) (listed_old h' (by decide))⟩
        · have hd := waits_as (L := []) (by kernel_rfl) hd
          simp only [List.all_cons, List.all_nil, Bool.and_true, Bool.and_eq_true] at hd
          refine inv_op rfl (fun K hK => ?_)
          subst ha0
          (try simp only [Act.put, List.getElem_toArray, List.getElem_cons_succ, List.getElem_cons_zero, List.setIfInBounds_toArray, List.set_cons_zero, List.set_cons_succ])
          go_simp
          refine hK.out _ _ ?_
          exact ⟨by simp [hsz], ⟨listed_new k0, listed_new k2, listed_new k3⟩, (hB.alloc hB.size (.cells #[.bool false, .int .i64 0, .int .i64 0, .int .i64 0, .int .i64 0, .int .i64 0, .int .i64 0, .int .i64 0, .int .i64 0, .int .i64 0, .int .i64 0] 36)), t1, t4, t5, t6, t7, t8, t9, (.pointer (some ⟨w.heap.size, 0, none⟩)), t11, t14, by kernel_rfl, fun h => c1 (listed_old h (by decide)), fun h => c4 (listed_old h (by decide)), fun h => c5 (listed_old h (by decide)), fun h => c6 (listed_old h (by decide)), fun h => c7 (listed_old h (by decide)), fun h => c8 (listed_old h (by decide)), fun h => c9 (listed_old h (by decide)), fun _ => ⟨_, rfl, hB.size, by simp, fun _ => Whole.new _ _ _, fun h => absurd (was_listed hun (s10 (listed_old h (by decide)))) id⟩, fun h => listed_new (s10 (listed_old h (by decide))), fun h => by obtain ⟨g, hg, h1, h2, h3, h4⟩ := c11 (listed_old h (by decide)); exact ⟨g, hg, h1, (by have := h2; simp; omega), fun h => (h3 (listed_same h (by decide))).alloc _, fun h => (h4 (listed_same h (by decide))).alloc _⟩, fun h => listed_new (s11 (listed_old h (by decide))), fun h => c14 (listed_old h (by decide)), fun _ h g g' hg hg' => by obtain ⟨q1, q2, _, q3, _⟩ := c11 (listed_old h (by decide)); rw [hg'] at q2; cases q2; cases hg; omega⟩
        · have hd := waits_as (L := []) (by kernel_rfl) hd
          simp only [List.all_cons, List.all_nil, Bool.and_true, Bool.and_eq_true] at hd
          refine inv_op rfl (fun K hK => ?_)
          subst ha0
          (try simp only [Act.put, List.getElem_toArray, List.getElem_cons_succ, List.getElem_cons_zero, List.setIfInBounds_toArray, List.set_cons_zero, List.set_cons_succ])
          go_simp
          refine hK.out _ _ ?_
          exact ⟨by simp [hsz], ⟨listed_new k0, listed_new k2, listed_new k3⟩, (hB.alloc hB.size (.cells #[.int .i64 0, .int .i64 0, .int .i64 0, .int .i64 0] 34)), t1, t4, t5, t6, t7, t8, t9, t10, (.pointer (some ⟨w.heap.size, 0, none⟩)), t14, by kernel_rfl, fun h => c1 (listed_old h (by decide)), fun h => c4 (listed_old h (by decide)), fun h => c5 (listed_old h (by decide)), fun h => c6 (listed_old h (by decide)), fun h => c7 (listed_old h (by decide)), fun h => c8 (listed_old h (by decide)), fun h => c9 (listed_old h (by decide)), fun h => by obtain ⟨g, hg, h1, h2, h3, h4⟩ := c10 (listed_old h (by decide)); exact ⟨g, hg, h1, (by have := h2; simp; omega), fun h => (h3 (listed_same h (by decide))).alloc _, fun h => (h4 (listed_same h (by decide))).alloc _⟩, fun h => listed_new (s10 (listed_old h (by decide))), fun _ => ⟨_, rfl, hB.size, by simp, fun _ => Whole.new _ _ _, fun h => absurd (was_listed hun (s11 (listed_old h (by decide)))) id⟩, fun h => listed_new (s11 (listed_old h (by decide))), fun h => c14 (listed_old h (by decide)), fun h _ g g' hg hg' => by obtain ⟨q1, q2, _, q3, _⟩ := c10 (listed_old h (by decide)); rw [hg] at q2; cases q2; cases hg'; omega⟩
        · have hd := waits_as (L := [10, 7, 5, 0, 1, 2, 3, 4, 5, 6, 7, 10, 11]) (by kernel_rfl) hd
          simp only [List.all_cons, List.all_nil, Bool.and_true, Bool.and_eq_true] at hd
          obtain ⟨e0, e1, e2, e3, e4, e5, e6, e7, e8, e9, e10, e11, e12⟩ := hd
          obtain ⟨g10, rfl, lo10, lt10, z10, y10⟩ := c10 e0
          obtain rfl := c7 e1
          obtain rfl := c5 e2
          obtain rfl := c1 e4
          obtain rfl := c4 e7
          obtain rfl := c6 e9
          obtain ⟨g11, rfl, lo11, lt11, z11, y11⟩ := c11 e12
          refine inv_op rfl (fun K hK => ?_)
          subst ha0
          (try simp only [Act.put, List.getElem_toArray, List.getElem_cons_succ, List.getElem_cons_zero, List.setIfInBounds_toArray, List.set_cons_zero, List.set_cons_succ])
          have q := z10 (unlisted_false hun)
          have zz0 := q.cell 0
          have zz1 := q.cell 1
          have zz2 := q.cell 2
          have zz3 := q.cell 3
          have zz4 := q.cell 4
          have zz5 := q.cell 5
          have zz6 := q.cell 6
          have zz7 := q.cell 7
          have zz8 := q.cell 8
          have zz9 := q.cell 9
          have zz10 := q.cell 10
          have yy0 := q.free 0
          have yy1 := q.free 1
          have yy2 := q.free 2
          have yy3 := q.free 3
          have yy4 := q.free 4
          have yy5 := q.free 5
          have yy6 := q.free 6
          have yy7 := q.free 7
          have yy8 := q.free 8
          have yy9 := q.free 9
          have yy10 := q.free 10
          go_simp
          refine hK.out _ _ ?_
          exact ⟨by simp [hsz], ⟨listed_new k0, listed_new k2, listed_new k3⟩, (eleven_set hB lo10 (.bool ton) (.int .i64 th) (.int .i64 tc) (.int .i64 toq) (.int .i64 tot) (.int .i64 top) (.int .i64 tol) (.int .i64 tuq) (.int .i64 tut) (.int .i64 tup) (.int .i64 tul)), (.agg #[.bool son, .int .i64 sh, .int .i64 sc, .int .i64 soq, .int .i64 sot, .int .i64 sop, .int .i64 sol, .int .i64 suq, .int .i64 sut, .int .i64 sup, .int .i64 sul]), (.agg #[.int .i64 xq, .int .i64 xt, .int .i64 xp, .int .i64 xl]), (.tuple #[(.agg #[.bool ton, .int .i64 th, .int .i64 tc, .int .i64 toq, .int .i64 tot, .int .i64 top, .int .i64 tol, .int .i64 tuq, .int .i64 tut, .int .i64 tup, .int .i64 tul]), (.agg #[.int .i64 nq, .int .i64 nt, .int .i64 np, .int .i64 nl]), (.bool b)]), (.tuple #[(.agg #[.bool ton, .int .i64 th, .int .i64 tc, .int .i64 toq, .int .i64 tot, .int .i64 top, .int .i64 tol, .int .i64 tuq, .int .i64 tut, .int .i64 tup, .int .i64 tul]), (.agg #[.int .i64 nq, .int .i64 nt, .int .i64 np, .int .i64 nl]), (.bool b)]), (.agg #[.bool ton, .int .i64 th, .int .i64 tc, .int .i64 toq, .int .i64 tot, .int .i64 top, .int .i64 tol, .int .i64 tuq, .int .i64 tut, .int .i64 tup, .int .i64 tul]), t8, t9, (.pointer (some ⟨g10, 0, none⟩)), (.pointer (some ⟨g11, 0, none⟩)), t14, by kernel_rfl, fun _ => rfl, fun _ => rfl, fun _ => rfl, fun _ => rfl, fun _ => rfl, fun h => c8 (listed_old h (by decide)), fun h => c9 (listed_old h (by decide)), fun _ => ⟨g10, rfl, lo10, (by simpa using lt10), fun h => absurd ((listed_now hun).symm.trans h) (by decide), fun _ => (Whole.eleven q (.bool ton) (.int .i64 th) (.int .i64 tc) (.int .i64 toq) (.int .i64 tot) (.int .i64 top) (.int .i64 tol) (.int .i64 tuq) (.int .i64 tut) (.int .i64 tup) (.int .i64 tul))⟩, fun _ => listed_new e0, fun _ => ⟨g11, rfl, lo11, (by simpa using lt11), fun h => Whole.eleven_far (z11 (listed_same h (by decide))) ((Ne.symm (n10_11 e0 e12 _ _ rfl rfl))) (.bool ton) (.int .i64 th) (.int .i64 tc) (.int .i64 toq) (.int .i64 tot) (.int .i64 top) (.int .i64 tol) (.int .i64 tuq) (.int .i64 tut) (.int .i64 tup) (.int .i64 tul), fun h => Whole.eleven_far (y11 (listed_same h (by decide))) ((Ne.symm (n10_11 e0 e12 _ _ rfl rfl))) (.bool ton) (.int .i64 th) (.int .i64 tc) (.int .i64 toq) (.int .i64 tot) (.int .i64 top) (.int .i64 tol) (.int .i64 tuq) (.int .i64 tut) (.int .i64 tup) (.int .i64 tul)⟩, fun h => listed_new (s11 (listed_old h (by decide))), fun h => c14 (listed_old h (by decide)), fun h h' => n10_11 (listed_old h (by decide)) (listed_old h' (by decide))⟩
        · have hd := waits_as (L := [11, 8, 12, 0, 1, 2, 3, 4, 5, 6, 7, 8, 10, 11, 12]) (by kernel_rfl) hd
          simp only [List.all_cons, List.all_nil, Bool.and_true, Bool.and_eq_true] at hd
          obtain ⟨e0, e1, e2, e3, e4, e5, e6, e7, e8, e9, e10, e11, e12, e13, e14⟩ := hd
          obtain ⟨g11, rfl, lo11, lt11, z11, y11⟩ := c11 e0
          obtain rfl := c8 e1
          obtain rfl := c1 e4
          obtain rfl := c4 e7
          obtain rfl := c5 e8
          obtain rfl := c6 e9
          obtain rfl := c7 e10
          obtain ⟨g10, rfl, lo10, lt10, z10, y10⟩ := c10 e12
          refine inv_op rfl (fun K hK => ?_)
          subst ha0
          (try simp only [Act.put, List.getElem_toArray, List.getElem_cons_succ, List.getElem_cons_zero, List.setIfInBounds_toArray, List.set_cons_zero, List.set_cons_succ])
          have q := z11 (unlisted_false hun)
          have zz0 := q.cell 0
          have zz1 := q.cell 1
          have zz2 := q.cell 2
          have zz3 := q.cell 3
          have yy0 := q.free 0
          have yy1 := q.free 1
          have yy2 := q.free 2
          have yy3 := q.free 3
          go_simp
          refine hK.out _ _ ?_
          exact ⟨by simp [hsz], ⟨listed_new k0, listed_new k2, listed_new k3⟩, (four_set hB lo11 (.int .i64 nq) (.int .i64 nt) (.int .i64 np) (.int .i64 nl)), (.agg #[.bool son, .int .i64 sh, .int .i64 sc, .int .i64 soq, .int .i64 sot, .int .i64 sop, .int .i64 sol, .int .i64 suq, .int .i64 sut, .int .i64 sup, .int .i64 sul]), (.agg #[.int .i64 xq, .int .i64 xt, .int .i64 xp, .int .i64 xl]), (.tuple #[(.agg #[.bool ton, .int .i64 th, .int .i64 tc, .int .i64 toq, .int .i64 tot, .int .i64 top, .int .i64 tol, .int .i64 tuq, .int .i64 tut, .int .i64 tup, .int .i64 tul]), (.agg #[.int .i64 nq, .int .i64 nt, .int .i64 np, .int .i64 nl]), (.bool b)]), (.tuple #[(.agg #[.bool ton, .int .i64 th, .int .i64 tc, .int .i64 toq, .int .i64 tot, .int .i64 top, .int .i64 tol, .int .i64 tuq, .int .i64 tut, .int .i64 tup, .int .i64 tul]), (.agg #[.int .i64 nq, .int .i64 nt, .int .i64 np, .int .i64 nl]), (.bool b)]), (.agg #[.bool ton, .int .i64 th, .int .i64 tc, .int .i64 toq, .int .i64 tot, .int .i64 top, .int .i64 tol, .int .i64 tuq, .int .i64 tut, .int .i64 tup, .int .i64 tul]), (.agg #[.int .i64 nq, .int .i64 nt, .int .i64 np, .int .i64 nl]), t9, (.pointer (some ⟨g10, 0, none⟩)), (.pointer (some ⟨g11, 0, none⟩)), t14, by kernel_rfl, fun _ => rfl, fun _ => rfl, fun _ => rfl, fun _ => rfl, fun _ => rfl, fun _ => rfl, fun h => c9 (listed_old h (by decide)), fun _ => ⟨g10, rfl, lo10, (by simpa using lt10), fun h => Whole.four_far (z10 (listed_same h (by decide))) ((n10_11 e12 e0 _ _ rfl rfl)) (.int .i64 nq) (.int .i64 nt) (.int .i64 np) (.int .i64 nl), fun h => Whole.four_far (y10 (listed_same h (by decide))) ((n10_11 e12 e0 _ _ rfl rfl)) (.int .i64 nq) (.int .i64 nt) (.int .i64 np) (.int .i64 nl)⟩, fun h => listed_new (s10 (listed_old h (by decide))), fun _ => ⟨g11, rfl, lo11, (by simpa using lt11), fun h => absurd ((listed_now hun).symm.trans h) (by decide), fun _ => (Whole.four q (.int .i64 nq) (.int .i64 nt) (.int .i64 np) (.int .i64 nl))⟩, fun _ => listed_new e0, fun h => c14 (listed_old h (by decide)), fun h h' => n10_11 (listed_old h (by decide)) (listed_old h' (by decide))⟩
        · have hd := waits_as (L := [9, 13, 0, 1, 2, 3, 4, 5, 6, 7, 8, 9, 10, 11, 12, 13]) (by kernel_rfl) hd
          simp only [List.all_cons, List.all_nil, Bool.and_true, Bool.and_eq_true] at hd
          obtain ⟨e0, e1, e2, e3, e4, e5, e6, e7, e8, e9, e10, e11, e12, e13, e14, e15⟩ := hd
          obtain rfl := c9 e0
          obtain rfl := c1 e3
          obtain rfl := c4 e6
          obtain rfl := c5 e7
          obtain rfl := c6 e8
          obtain rfl := c7 e9
          obtain rfl := c8 e10
          obtain ⟨g10, rfl, lo10, lt10, z10, y10⟩ := c10 e12
          obtain ⟨g11, rfl, lo11, lt11, z11, y11⟩ := c11 e13
          refine inv_op rfl (fun K hK => ?_)
          subst ha0
          (try simp only [Act.put, List.getElem_toArray, List.getElem_cons_succ, List.getElem_cons_zero, List.setIfInBounds_toArray, List.set_cons_zero, List.set_cons_succ])
          go_simp
          refine hK.out _ _ ?_
          exact ⟨by simp [hsz], ⟨listed_new k0, listed_new k2, listed_new k3⟩, hB, (.agg #[.bool son, .int .i64 sh, .int .i64 sc, .int .i64 soq, .int .i64 sot, .int .i64 sop, .int .i64 sol, .int .i64 suq, .int .i64 sut, .int .i64 sup, .int .i64 sul]), (.agg #[.int .i64 xq, .int .i64 xt, .int .i64 xp, .int .i64 xl]), (.tuple #[(.agg #[.bool ton, .int .i64 th, .int .i64 tc, .int .i64 toq, .int .i64 tot, .int .i64 top, .int .i64 tol, .int .i64 tuq, .int .i64 tut, .int .i64 tup, .int .i64 tul]), (.agg #[.int .i64 nq, .int .i64 nt, .int .i64 np, .int .i64 nl]), (.bool b)]), (.tuple #[(.agg #[.bool ton, .int .i64 th, .int .i64 tc, .int .i64 toq, .int .i64 tot, .int .i64 top, .int .i64 tol, .int .i64 tuq, .int .i64 tut, .int .i64 tup, .int .i64 tul]), (.agg #[.int .i64 nq, .int .i64 nt, .int .i64 np, .int .i64 nl]), (.bool b)]), (.agg #[.bool ton, .int .i64 th, .int .i64 tc, .int .i64 toq, .int .i64 tot, .int .i64 top, .int .i64 tol, .int .i64 tuq, .int .i64 tut, .int .i64 tup, .int .i64 tul]), (.agg #[.int .i64 nq, .int .i64 nt, .int .i64 np, .int .i64 nl]), (.bool b), (.pointer (some ⟨g10, 0, none⟩)), (.pointer (some ⟨g11, 0, none⟩)), (.bool b), by kernel_rfl, fun _ => rfl, fun _ => rfl, fun _ => rfl, fun _ => rfl, fun _ => rfl, fun _ => rfl, fun _ => rfl, fun _ => ⟨g10, rfl, lo10, lt10, fun h => z10 (listed_same h (by decide)), fun h => y10 (listed_same h (by decide))⟩, fun h => listed_new (s10 (listed_old h (by decide))), fun _ => ⟨g11, rfl, lo11, lt11, fun h => z11 (listed_same h (by decide)), fun h => y11 (listed_same h (by decide))⟩, fun h => listed_new (s11 (listed_old h (by decide))), fun _ => rfl, fun h h' => n10_11 (listed_old h (by decide)) (listed_old h' (by decide))⟩
      · intro l a w hI hr
        obtain ⟨hsz, ⟨k0, k2, k3⟩, hB, t1, t4, t5, t6, t7, t8, t9, t10, t11, t14, rfl, c1, c4, c5, c6, c7, c8, c9, c10, s10, c11, s11, c14, n10_11⟩ := hI
        have k1 := done_listed (i := 1) (n := 15) hsz (by decide) rfl hr (by rw [show waitsFor _ _ 1 = [0] from by kernel_rfl]; simp only [List.all_cons, List.all_nil, Bool.and_true, Bool.and_eq_true]; exact k0)
        have k4 := done_listed (i := 4) (n := 15) hsz (by decide) rfl hr (by rw [show waitsFor _ _ 4 = [3, 1] from by kernel_rfl]; simp only [List.all_cons, List.all_nil, Bool.and_true, Bool.and_eq_true]; exact ⟨k3, k1⟩)
        have k5 := done_listed (i := 5) (n := 15) hsz (by decide) rfl hr (by rw [show waitsFor _ _ 5 = [1, 4, 4] from by kernel_rfl]; simp only [List.all_cons, List.all_nil, Bool.and_true, Bool.and_eq_true]; exact ⟨k1, k4, k4⟩)
        have k6 := done_listed (i := 6) (n := 15) hsz (by decide) rfl hr (by rw [show waitsFor _ _ 6 = [5] from by kernel_rfl]; simp only [List.all_cons, List.all_nil, Bool.and_true, Bool.and_eq_true]; exact k5)
        have k7 := done_listed (i := 7) (n := 15) hsz (by decide) rfl hr (by rw [show waitsFor _ _ 7 = [6] from by kernel_rfl]; simp only [List.all_cons, List.all_nil, Bool.and_true, Bool.and_eq_true]; exact k6)
        have k8 := done_listed (i := 8) (n := 15) hsz (by decide) rfl hr (by rw [show waitsFor _ _ 8 = [6] from by kernel_rfl]; simp only [List.all_cons, List.all_nil, Bool.and_true, Bool.and_eq_true]; exact k6)
        have k9 := done_listed (i := 9) (n := 15) hsz (by decide) rfl hr (by rw [show waitsFor _ _ 9 = [6] from by kernel_rfl]; simp only [List.all_cons, List.all_nil, Bool.and_true, Bool.and_eq_true]; exact k6)
        have k10 := done_listed (i := 10) (n := 15) hsz (by decide) rfl hr (by rw [show waitsFor _ _ 10 = [] from by kernel_rfl]; rfl)
        have k11 := done_listed (i := 11) (n := 15) hsz (by decide) rfl hr (by rw [show waitsFor _ _ 11 = [] from by kernel_rfl]; rfl)
        have k12 := done_listed (i := 12) (n := 15) hsz (by decide) rfl hr (by rw [show waitsFor _ _ 12 = [10, 7, 5, 0, 1, 2, 3, 4, 5, 6, 7, 10, 11] from by kernel_rfl]; simp only [List.all_cons, List.all_nil, Bool.and_true, Bool.and_eq_true]; exact ⟨k10, k7, k5, k0, k1, k2, k3, k4, k5, k6, k7, k10, k11⟩)
        have k13 := done_listed (i := 13) (n := 15) hsz (by decide) rfl hr (by rw [show waitsFor _ _ 13 = [11, 8, 12, 0, 1, 2, 3, 4, 5, 6, 7, 8, 10, 11, 12] from by kernel_rfl]; simp only [List.all_cons, List.all_nil, Bool.and_true, Bool.and_eq_true]; exact ⟨k11, k8, k12, k0, k1, k2, k3, k4, k5, k6, k7, k8, k10, k11, k12⟩)
        have k14 := done_listed (i := 14) (n := 15) hsz (by decide) rfl hr (by rw [show waitsFor _ _ 14 = [9, 13, 0, 1, 2, 3, 4, 5, 6, 7, 8, 9, 10, 11, 12, 13] from by kernel_rfl]; simp only [List.all_cons, List.all_nil, Bool.and_true, Bool.and_eq_true]; exact ⟨k9, k13, k0, k1, k2, k3, k4, k5, k6, k7, k8, k9, k10, k11, k12, k13⟩)
        obtain rfl := c1 k1
        obtain rfl := c4 k4
        obtain rfl := c5 k5
        obtain rfl := c6 k6
        obtain rfl := c7 k7
        obtain rfl := c8 k8
        obtain rfl := c9 k9
        obtain rfl := c14 k14
        obtain ⟨gy, rfl, loy, _, _, Wy⟩ := c10 k10
        replace Wy := Wy k12
        obtain ⟨gz, rfl, loz, _, _, Wz⟩ := c11 k11
        replace Wz := Wz k13
        have neyz := n10_11 k10 k11 _ _ rfl rfl
        clear hr k0 k1 k2 k3 k4 k5 k6 k7 k8 k9 k10 k11 k12 k13 k14 s10 s11 n10_11 c1 c4 c5 c6 c7 c8 c9 c10 c11 c14
        subst ha0
        (try simp only [Act.put, List.getElem_toArray, List.getElem_cons_succ, List.getElem_cons_zero, List.setIfInBounds_toArray, List.set_cons_zero, List.set_cons_succ])
        go_wp2_with fail
        go_meet
        exact ⟨rfl, _, _, rfl, rfl, loy, loz, neyz, Wy, Wz, hB⟩
      · refine ⟨rfl, ⟨rfl, rfl, rfl⟩, (Below.refl _ _).drew, a0.tmps.getD 60 undef, a0.tmps.getD 63 undef, a0.tmps.getD 64 undef, a0.tmps.getD 58 undef, a0.tmps.getD 65 undef, a0.tmps.getD 66 undef, a0.tmps.getD 67 undef, a0.tmps.getD 13 undef, a0.tmps.getD 14 undef, a0.tmps.getD 15 undef, ?_, fun h => absurd h (by decide), fun h => absurd h (by decide), fun h => absurd h (by decide), fun h => absurd h (by decide), fun h => absurd h (by decide), fun h => absurd h (by decide), fun h => absurd h (by decide), fun h => absurd h (by decide), fun h => absurd h (by decide), fun h => absurd h (by decide), fun h => absurd h (by decide), fun h => absurd h (by decide), fun h => absurd h (by decide)⟩
        subst ha0
        kernel_rfl
    case rest =>
      obtain ⟨rfl, g1_2, g2_2, rfl, rfl, loy2, loz2, neyz, Ty, Tz, bq⟩ := hcut
      obtain ⟨wc2, rfl⟩ : ∃ wd : World, wd = wc := ⟨_, rfl⟩
      have Ssc2 := (Ps.out).below bq Ps.out.lt
      have Sxc2 := (Px.out).below bq Px.out.lt
      have Suc2 := (Pu.out).below bq Pu.out.lt
      have Smc2 := (Pm.out).below bq Pm.out.lt
      have Svc2 := (Pv.out).below bq Pv.out.lt
      have Sqc2 := (Pq.out).below bq Pq.out.lt
      have Stc2 := (Pt.out).below bq Pt.out.lt
      have Snc2 := (Pn.out).below bq Pn.out.lt
      have Syc2 := Ty
      have Szc2 := Tz
      have HBc2 := Lib.hid (PB.out.trans (bq.mono PB.out.size))
      clear K6 bq Ps Px Pu Pm Pv Pq Pt Pn Ty Tz PB
      have lsc2 := Ssc2.lt
      have lxc2 := Sxc2.lt
      have luc2 := Suc2.lt
      have lmc2 := Smc2.lt
      have lvc2 := Svc2.lt
      have lqc2 := Sqc2.lt
      have ltc2 := Stc2.lt
      have lnc2 := Snc2.lt
      have lyc2 := Syc2.lt
      have lzc2 := Szc2.lt
      have sc2_0 := Ssc2.cell 0
      have sc2_1 := Ssc2.cell 1
      have sc2_2 := Ssc2.cell 2
      have sc2_3 := Ssc2.cell 3
      have sc2_4 := Ssc2.cell 4
      have sc2_5 := Ssc2.cell 5
      have sc2_6 := Ssc2.cell 6
      have sc2_7 := Ssc2.cell 7
      have sc2_8 := Ssc2.cell 8
      have sc2_9 := Ssc2.cell 9
      have sc2_10 := Ssc2.cell 10
      have xc2_0 := Sxc2.cell 0
      have xc2_1 := Sxc2.cell 1
      have xc2_2 := Sxc2.cell 2
      have xc2_3 := Sxc2.cell 3
      have xc2_4 := Sxc2.cell 4
      have xc2_5 := Sxc2.cell 5
      have xc2_6 := Sxc2.cell 6
      replace Ssc2 := Lib.hid Ssc2
      replace Sxc2 := Lib.hid Sxc2
      replace Suc2 := Lib.hid Suc2
      replace Smc2 := Lib.hid Smc2
      replace Svc2 := Lib.hid Svc2
      replace Sqc2 := Lib.hid Sqc2
      replace Stc2 := Lib.hid Stc2
      replace Snc2 := Lib.hid Snc2
      replace Syc2 := Lib.hid Syc2
      replace Szc2 := Lib.hid Szc2
      clear RE
      go_wp2_with fail
      refine (CD.out _).mono ?_
      rintro e w21 ⟨rfl, b21⟩
      have Ss21 := (Ssc2.out).below b21 (by have := (Ssc2.out).lt; first | with_reducible exact this | simpa using this)
      have Sx21 := (Sxc2.out).below b21 (by have := (Sxc2.out).lt; first | with_reducible exact this | simpa using this)
      have Su21 := (Suc2.out).below b21 (by have := (Suc2.out).lt; first | with_reducible exact this | simpa using this)
      have Sm21 := (Smc2.out).below b21 (by have := (Smc2.out).lt; first | with_reducible exact this | simpa using this)
      have Sv21 := (Svc2.out).below b21 (by have := (Svc2.out).lt; first | with_reducible exact this | simpa using this)
      have Sq21 := (Sqc2.out).below b21 (by have := (Sqc2.out).lt; first | with_reducible exact this | simpa using this)
      have St21 := (Stc2.out).below b21 (by have := (Stc2.out).lt; first | with_reducible exact this | simpa using this)
      have Sn21 := (Snc2.out).below b21 (by have := (Snc2.out).lt; first | with_reducible exact this | simpa using this)
      have Sy21 := (Syc2.out).below b21 (by have := (Syc2.out).lt; first | with_reducible exact this | simpa using this)
      have Sz21 := (Szc2.out).below b21 (by have := (Szc2.out).lt; first | with_reducible exact this | simpa using this)
      have HB21 := Lib.hid ((HBc2.out).trans (b21.mono (HBc2.out).size))
      have ls21 := Ss21.lt
      have lx21 := Sx21.lt
      have lu21 := Su21.lt
      have lm21 := Sm21.lt
      have lv21 := Sv21.lt
      have lq21 := Sq21.lt
      have lt21 := St21.lt
      have ln21 := Sn21.lt
      have ly21 := Sy21.lt
      have lz21 := Sz21.lt
      clear b21 sc2_0 sc2_1 sc2_2 sc2_3 sc2_4 sc2_5 sc2_6 sc2_7 sc2_8 sc2_9 sc2_10 xc2_0 xc2_1 xc2_2 xc2_3 xc2_4 xc2_5 xc2_6 Ssc2 Sxc2 Suc2 Smc2 Svc2 Sqc2 Stc2 Snc2 Syc2 Szc2 HBc2 CD
      have s21_0 := Ss21.cell 0
      have s21_1 := Ss21.cell 1
      have s21_2 := Ss21.cell 2
      have s21_3 := Ss21.cell 3
      have s21_4 := Ss21.cell 4
      have s21_5 := Ss21.cell 5
      have s21_6 := Ss21.cell 6
      have s21_7 := Ss21.cell 7
      have s21_8 := Ss21.cell 8
      have s21_9 := Ss21.cell 9
      have s21_10 := Ss21.cell 10
      have x21_0 := Sx21.cell 0
      have x21_1 := Sx21.cell 1
      have x21_2 := Sx21.cell 2
      have x21_3 := Sx21.cell 3
      have x21_4 := Sx21.cell 4
      have x21_5 := Sx21.cell 5
      have x21_6 := Sx21.cell 6
      replace Ss21 := Lib.hid Ss21
      replace Sx21 := Lib.hid Sx21
      replace Su21 := Lib.hid Su21
      replace Sm21 := Lib.hid Sm21
      replace Sv21 := Lib.hid Sv21
      replace Sq21 := Lib.hid Sq21
      replace St21 := Lib.hid St21
      replace Sn21 := Lib.hid Sn21
      replace Sy21 := Lib.hid Sy21
      replace Sz21 := Lib.hid Sz21
      go_upto_region 11 with fail
      obtain ⟨wo, hwo⟩ : ∃ wo, wo = (w21.alloc (.cells #[.bool don, .int .i64 dh, .int .i64 dc, .int .u16 doq, .int .u32 dot, .int .u16 dop, .int .u8 dol, .int .u16 duq, .int .u32 dut, .int .u16 dup, .int .u8 dul] 27)) := ⟨_, rfl⟩
      have Nd : Whole (w21.alloc (.cells #[.bool don, .int .i64 dh, .int .i64 dc, .int .u16 doq, .int .u32 dot, .int .u16 dop, .int .u8 dol, .int .u16 duq, .int .u32 dut, .int .u16 dup, .int .u8 dul] 27)) (w21.heap.size) 27 #[.bool don, .int .i64 dh, .int .i64 dc, .int .u16 doq, .int .u32 dot, .int .u16 dop, .int .u8 dol, .int .u16 duq, .int .u32 dut, .int .u16 dup, .int .u8 dul] := by have := Whole.new w21 27 #[.bool don, .int .i64 dh, .int .i64 dc, .int .u16 doq, .int .u32 dot, .int .u16 dop, .int .u8 dol, .int .u16 duq, .int .u32 dut, .int .u16 dup, .int .u8 dul]; first | with_reducible exact this | simpa using this
      have Ps := (Ss21.out.alloc (.cells #[.bool don, .int .i64 dh, .int .i64 dc, .int .u16 doq, .int .u32 dot, .int .u16 dop, .int .u8 dol, .int .u16 duq, .int .u32 dut, .int .u16 dup, .int .u8 dul] 27))
      have Px := (Sx21.out.alloc (.cells #[.bool don, .int .i64 dh, .int .i64 dc, .int .u16 doq, .int .u32 dot, .int .u16 dop, .int .u8 dol, .int .u16 duq, .int .u32 dut, .int .u16 dup, .int .u8 dul] 27))
      have Pu := (Su21.out.alloc (.cells #[.bool don, .int .i64 dh, .int .i64 dc, .int .u16 doq, .int .u32 dot, .int .u16 dop, .int .u8 dol, .int .u16 duq, .int .u32 dut, .int .u16 dup, .int .u8 dul] 27))
      have Pm := (Sm21.out.alloc (.cells #[.bool don, .int .i64 dh, .int .i64 dc, .int .u16 doq, .int .u32 dot, .int .u16 dop, .int .u8 dol, .int .u16 duq, .int .u32 dut, .int .u16 dup, .int .u8 dul] 27))
      have Pv := (Sv21.out.alloc (.cells #[.bool don, .int .i64 dh, .int .i64 dc, .int .u16 doq, .int .u32 dot, .int .u16 dop, .int .u8 dol, .int .u16 duq, .int .u32 dut, .int .u16 dup, .int .u8 dul] 27))
      have Pq := (Sq21.out.alloc (.cells #[.bool don, .int .i64 dh, .int .i64 dc, .int .u16 doq, .int .u32 dot, .int .u16 dop, .int .u8 dol, .int .u16 duq, .int .u32 dut, .int .u16 dup, .int .u8 dul] 27))
      have Pt := (St21.out.alloc (.cells #[.bool don, .int .i64 dh, .int .i64 dc, .int .u16 doq, .int .u32 dot, .int .u16 dop, .int .u8 dol, .int .u16 duq, .int .u32 dut, .int .u16 dup, .int .u8 dul] 27))
      have Pn := (Sn21.out.alloc (.cells #[.bool don, .int .i64 dh, .int .i64 dc, .int .u16 doq, .int .u32 dot, .int .u16 dop, .int .u8 dol, .int .u16 duq, .int .u32 dut, .int .u16 dup, .int .u8 dul] 27))
      have Py := (Sy21.out.alloc (.cells #[.bool don, .int .i64 dh, .int .i64 dc, .int .u16 doq, .int .u32 dot, .int .u16 dop, .int .u8 dol, .int .u16 duq, .int .u32 dut, .int .u16 dup, .int .u8 dul] 27))
      have Pz := (Sz21.out.alloc (.cells #[.bool don, .int .i64 dh, .int .i64 dc, .int .u16 doq, .int .u32 dot, .int .u16 dop, .int .u8 dol, .int .u16 duq, .int .u32 dut, .int .u16 dup, .int .u8 dul] 27))
      have Pd := Nd
      have PB := (HB21.out.alloc (HB21.out).size (.cells #[.bool don, .int .i64 dh, .int .i64 dc, .int .u16 doq, .int .u32 dot, .int .u16 dop, .int .u8 dol, .int .u16 duq, .int .u32 dut, .int .u16 dup, .int .u8 dul] 27))
      rw [← hwo] at Ps Px Pu Pm Pv Pq Pt Pn Py Pz Pd PB ⊢
      clear hwo
      clear s21_0 s21_1 s21_2 s21_3 s21_4 s21_5 s21_6 s21_7 s21_8 s21_9 s21_10 x21_0 x21_1 x21_2 x21_3 x21_4 x21_5 x21_6 Ss21 Sx21 Su21 Sm21 Sv21 Sq21 St21 Sn21 Sy21 Sz21 Nd HB21
      have ps3 := Ps.lt
      have px3 := Px.lt
      have pu3 := Pu.lt
      have pm3 := Pm.lt
      have pv3 := Pv.lt
      have pq3 := Pq.lt
      have pt3 := Pt.lt
      have pn3 := Pn.lt
      have py3 := Py.lt
      have pz3 := Pz.lt
      have pd3 := Pd.lt
      replace Ps := Lib.hid Ps
      replace Px := Lib.hid Px
      replace Pu := Lib.hid Pu
      replace Pm := Lib.hid Pm
      replace Pv := Lib.hid Pv
      replace Pq := Lib.hid Pq
      replace Pt := Lib.hid Pt
      replace Pn := Lib.hid Pn
      replace Py := Lib.hid Py
      replace Pz := Lib.hid Pz
      replace Pd := Lib.hid Pd
      replace PB := Lib.hid PB
      have K6 := Lib.hid (fun w' (b' : Below wo.heap.size wo w') => show (fun w' => w'.cell? ⟨w.heap.size, 0, none⟩ = some (.bool son) ∧ w'.cell? ⟨w.heap.size, 1, none⟩ = some (.int .i64 sh) ∧ w'.cell? ⟨w.heap.size, 2, none⟩ = some (.int .i64 sc) ∧ w'.cell? ⟨w.heap.size, 3, none⟩ = some (.int .u16 soq) ∧ w'.cell? ⟨w.heap.size, 4, none⟩ = some (.int .u32 sot) ∧ w'.cell? ⟨w.heap.size, 5, none⟩ = some (.int .u16 sop) ∧ w'.cell? ⟨w.heap.size, 6, none⟩ = some (.int .u8 sol) ∧ w'.cell? ⟨w.heap.size, 7, none⟩ = some (.int .u16 suq) ∧ w'.cell? ⟨w.heap.size, 8, none⟩ = some (.int .u32 sut) ∧ w'.cell? ⟨w.heap.size, 9, none⟩ = some (.int .u16 sup) ∧ w'.cell? ⟨w.heap.size, 10, none⟩ = some (.int .u8 sul) ∧ w'.cell? ⟨w.heap.size + 1, 0, none⟩ = some (.int .i64 ki) ∧ w'.cell? ⟨w.heap.size + 1, 1, none⟩ = some (.int .u16 xq) ∧ w'.cell? ⟨w.heap.size + 1, 2, none⟩ = some (.int .u32 xt) ∧ w'.cell? ⟨w.heap.size + 1, 3, none⟩ = some (.int .u16 xp) ∧ w'.cell? ⟨w.heap.size + 1, 4, none⟩ = some (.int .u8 xl) ∧ w'.cell? ⟨w.heap.size + 1, 5, none⟩ = some (.int .u32 kt) ∧ w'.cell? ⟨w.heap.size + 1, 6, none⟩ = some (.bool kb)) w' from ⟨(Ps.out.below b' Ps.out.lt).cell 0, (Ps.out.below b' Ps.out.lt).cell 1, (Ps.out.below b' Ps.out.lt).cell 2, (Ps.out.below b' Ps.out.lt).cell 3, (Ps.out.below b' Ps.out.lt).cell 4, (Ps.out.below b' Ps.out.lt).cell 5, (Ps.out.below b' Ps.out.lt).cell 6, (Ps.out.below b' Ps.out.lt).cell 7, (Ps.out.below b' Ps.out.lt).cell 8, (Ps.out.below b' Ps.out.lt).cell 9, (Ps.out.below b' Ps.out.lt).cell 10, (Px.out.below b' Px.out.lt).cell 0, (Px.out.below b' Px.out.lt).cell 1, (Px.out.below b' Px.out.lt).cell 2, (Px.out.below b' Px.out.lt).cell 3, (Px.out.below b' Px.out.lt).cell 4, (Px.out.below b' Px.out.lt).cell 5, (Px.out.below b' Px.out.lt).cell 6⟩)
      go_cut [17] (fun p1 wx => ∃ g1 : Nat, p1 = .pointer (some ⟨g1, 0, none⟩) ∧ wo.heap.size ≤ g1 ∧ Whole wx g1 36 #[.bool don, .int .i64 dh, .int .i64 dc, .int .i64 doq, .int .i64 dot, .int .i64 dop, .int .i64 dol, .int .i64 duq, .int .i64 dut, .int .i64 dup, .int .i64 dul] ∧ Below wo.heap.size wo wx)
      case first =>
        refine wp_region_X (S := fun w' => w'.cell? ⟨w.heap.size, 0, none⟩ = some (.bool son) ∧ w'.cell? ⟨w.heap.size, 1, none⟩ = some (.int .i64 sh) ∧ w'.cell? ⟨w.heap.size, 2, none⟩ = some (.int .i64 sc) ∧ w'.cell? ⟨w.heap.size, 3, none⟩ = some (.int .u16 soq) ∧ w'.cell? ⟨w.heap.size, 4, none⟩ = some (.int .u32 sot) ∧ w'.cell? ⟨w.heap.size, 5, none⟩ = some (.int .u16 sop) ∧ w'.cell? ⟨w.heap.size, 6, none⟩ = some (.int .u8 sol) ∧ w'.cell? ⟨w.heap.size, 7, none⟩ = some (.int .u16 suq) ∧ w'.cell? ⟨w.heap.size, 8, none⟩ = some (.int .u32 sut) ∧ w'.cell? ⟨w.heap.size, 9, none⟩ = some (.int .u16 sup) ∧ w'.cell? ⟨w.heap.size, 10, none⟩ = some (.int .u8 sul) ∧ w'.cell? ⟨w.heap.size + 1, 0, none⟩ = some (.int .i64 ki) ∧ w'.cell? ⟨w.heap.size + 1, 1, none⟩ = some (.int .u16 xq) ∧ w'.cell? ⟨w.heap.size + 1, 2, none⟩ = some (.int .u32 xt) ∧ w'.cell? ⟨w.heap.size + 1, 3, none⟩ = some (.int .u16 xp) ∧ w'.cell? ⟨w.heap.size + 1, 4, none⟩ = some (.int .u8 xl) ∧ w'.cell? ⟨w.heap.size + 1, 5, none⟩ = some (.int .u32 kt) ∧ w'.cell? ⟨w.heap.size + 1, 6, none⟩ = some (.bool kb)) [] (by kernel_rfl) (K6.out _ (Below.refl _ _).drew) (fun hHeld0 => ?_)
        refine wpAnyX_take (i := 0) [] (v := ?_) rfl (by kernel_rfl) (by kernel_rfl) (by kernel_rfl) (by kernel_rfl) (fun _ _ _ h => h) (Or.inl ⟨by kernel_rfl, ?_⟩) (by assumption) ?_
        rotate_left 1
        · (intro w hSw; obtain ⟨m0, m1, m2, m3, m4, m5, m6, m7, m8, m9, m10, m11, m12, m13, m14, m15, m16, m17⟩ := hSw; go_simp; try (with_reducible rfl))
        (try simp only [Act.put, List.getElem_toArray, List.getElem_cons_succ, List.getElem_cons_zero, List.setIfInBounds_toArray, List.set_cons_zero, List.set_cons_succ])
        refine wpAnyX_take (i := 2) [] (v := ?_) rfl (by kernel_rfl) (by kernel_rfl) (by kernel_rfl) (by kernel_rfl) (fun _ _ _ h => h) (Or.inl ⟨by kernel_rfl, ?_⟩) (by assumption) ?_
        rotate_left 1
        · (intro w hSw; obtain ⟨m0, m1, m2, m3, m4, m5, m6, m7, m8, m9, m10, m11, m12, m13, m14, m15, m16, m17⟩ := hSw; go_simp; try (with_reducible rfl))
        (try simp only [Act.put, List.getElem_toArray, List.getElem_cons_succ, List.getElem_cons_zero, List.setIfInBounds_toArray, List.set_cons_zero, List.set_cons_succ])
        refine wpAnyX_take (i := 3) [] (v := ?_) rfl (by kernel_rfl) (by kernel_rfl) (by kernel_rfl) (by kernel_rfl) (fun _ _ _ h => h) (Or.inl ⟨by kernel_rfl, ?_⟩) (by assumption) ?_
        rotate_left 1
        · (intro w hSw; obtain ⟨m0, m1, m2, m3, m4, m5, m6, m7, m8, m9, m10, m11, m12, m13, m14, m15, m16, m17⟩ := hSw; go_simp; try (with_reducible rfl))
        (try simp only [Act.put, List.getElem_toArray, List.getElem_cons_succ, List.getElem_cons_zero, List.setIfInBounds_toArray, List.set_cons_zero, List.set_cons_succ])
        refine wpAnyX_take (i := 5) [] (v := ?_) rfl (by kernel_rfl) (by kernel_rfl) (by kernel_rfl) (by kernel_rfl) (fun _ _ _ h => h) (Or.inl ⟨by kernel_rfl, ?_⟩) (by assumption) ?_
        rotate_left 1
        · (intro w hSw; obtain ⟨m0, m1, m2, m3, m4, m5, m6, m7, m8, m9, m10, m11, m12, m13, m14, m15, m16, m17⟩ := hSw; go_simp; try (with_reducible rfl))
        (try simp only [Act.put, List.getElem_toArray, List.getElem_cons_succ, List.getElem_cons_zero, List.setIfInBounds_toArray, List.set_cons_zero, List.set_cons_succ])
        refine wpAnyX_take (i := 6) [] (v := ?_) rfl (by kernel_rfl) (by kernel_rfl) (by kernel_rfl) (by kernel_rfl) (fun _ _ _ h => h) (Or.inl ⟨by kernel_rfl, ?_⟩) (by assumption) ?_
        rotate_left 1
        · (intro w hSw; obtain ⟨m0, m1, m2, m3, m4, m5, m6, m7, m8, m9, m10, m11, m12, m13, m14, m15, m16, m17⟩ := hSw; go_simp; try (with_reducible rfl))
        (try simp only [Act.put, List.getElem_toArray, List.getElem_cons_succ, List.getElem_cons_zero, List.setIfInBounds_toArray, List.set_cons_zero, List.set_cons_succ])
        refine wpAnyX_named (fun a0 ha0 => ?_)
        refine wpAnyX_inv (fun l a w' => l.size = 10 ∧ (l.getD 0 false = true ∧ l.getD 2 false = true ∧ l.getD 3 false = true ∧ l.getD 5 false = true ∧ l.getD 6 false = true) ∧ Below wo.heap.size wo w' ∧ ∃ t1 t4 t7 t8 : Value, a = ((((a0.put (some 75) t1).put (some 78) t4).put (some 81) t7).put (some 17) t8) ∧ (l.getD 1 false = true → t1 = (.agg #[.bool son, .int .i64 sh, .int .i64 sc, .int .i64 soq, .int .i64 sot, .int .i64 sop, .int .i64 sol, .int .i64 suq, .int .i64 sut, .int .i64 sup, .int .i64 sul])) ∧ (l.getD 4 false = true → t4 = (.agg #[.int .i64 xq, .int .i64 xt, .int .i64 xp, .int .i64 xl])) ∧ (l.getD 7 false = true → t7 = (.agg #[.bool don, .int .i64 dh, .int .i64 dc, .int .i64 doq, .int .i64 dot, .int .i64 dop, .int .i64 dol, .int .i64 duq, .int .i64 dut, .int .i64 dup, .int .i64 dul])) ∧ (l.getD 8 false = true → ∃ g, t8 = .pointer (some ⟨g, 0, none⟩) ∧ wo.heap.size ≤ g ∧ g < w'.heap.size ∧ (l.getD 9 false = false → Whole w' g 36 #[.bool false, .int .i64 0, .int .i64 0, .int .i64 0, .int .i64 0, .int .i64 0, .int .i64 0, .int .i64 0, .int .i64 0, .int .i64 0, .int .i64 0]) ∧ (l.getD 9 false = true → Whole w' g 36 #[.bool don, .int .i64 dh, .int .i64 dc, .int .i64 doq, .int .i64 dot, .int .i64 dop, .int .i64 dol, .int .i64 duq, .int .i64 dut, .int .i64 dup, .int .i64 dul])) ∧ (l.getD 9 false = true → l.getD 8 false = true)) (fun l a w hI => K6.out _ hI.2.2.1) ?_ ?_ _ _ _ _ (by decide) ?_
        · intro l a w hI i hi
          obtain ⟨hsz, ⟨k0, k2, k3, k5, k6⟩, hB, t1, t4, t7, t8, rfl, c1, c4, c7, c8, s8⟩ := hI
          obtain ⟨hun, hin, hd⟩ := ready_split (n := 10) rfl hi
          clear hi
          rw [show List.range 10 = [0, 1, 2, 3, 4, 5, 6, 7, 8, 9] from rfl] at hin
          simp only [List.mem_cons, List.not_mem_nil, or_false] at hin
          rcases hin with rfl | rfl | rfl | rfl | rfl | rfl | rfl | rfl | rfl | rfl
          · exact absurd (was_listed hun k0) id
          · have hd := waits_as (L := [0]) (by kernel_rfl) hd
            simp only [List.all_cons, List.all_nil, Bool.and_true, Bool.and_eq_true] at hd
            have e0 := hd
            refine inv_op rfl (fun K hK => ?_)
            subst ha0
            (try simp only [Act.put, List.getElem_toArray, List.getElem_cons_succ, List.getElem_cons_zero, List.setIfInBounds_toArray, List.set_cons_zero, List.set_cons_succ])
            go_simp
            go_wp2_with (refine (O1.out _).mono ?_; rintro e v ⟨rfl, b1⟩)
            refine hK.out _ _ ?_
            exact ⟨by simp [hsz], ⟨listed_new k0, listed_new k2, listed_new k3, listed_new k5, listed_new k6⟩, (hB.trans (b1.mono hB.size)), (.agg #[.bool son, .int .i64 sh, .int .i64 sc, .int .i64 soq, .int .i64 sot, .int .i64 sop, .int .i64 sol, .int .i64 suq, .int .i64 sut, .int .i64 sup, .int .i64 sul]), t4, t7, t8, by kernel_rfl, fun _ => rfl, fun h => c4 (listed_old h (by decide)), fun h => c7 (listed_old h (by decide)), fun h => by obtain ⟨g, hg, h1, h2, h3, h4⟩ := c8 (listed_old h (by decide)); exact ⟨g, hg, h1, Nat.lt_of_lt_of_le h2 b1.size, fun h => (h3 (listed_same h (by decide))).below b1 (h3 (listed_same h (by decide))).lt, fun h => (h4 (listed_same h (by decide))).below b1 (h4 (listed_same h (by decide))).lt⟩, fun h => listed_new (s8 (listed_old h (by decide)))⟩
          · exact absurd (was_listed hun k2) id
          · exact absurd (was_listed hun k3) id
          · have hd := waits_as (L := [3, 1]) (by kernel_rfl) hd
            simp only [List.all_cons, List.all_nil, Bool.and_true, Bool.and_eq_true] at hd
            obtain ⟨e0, e1⟩ := hd
            obtain rfl := c1 e1
            refine inv_op rfl (fun K hK => ?_)
            subst ha0
            (try simp only [Act.put, List.getElem_toArray, List.getElem_cons_succ, List.getElem_cons_zero, List.setIfInBounds_toArray, List.set_cons_zero, List.set_cons_succ])
            go_simp
            go_wp2_with (refine (O2.out _).mono ?_; rintro e v ⟨rfl, b1⟩)
            refine hK.out _ _ ?_
            exact ⟨by simp [hsz], ⟨listed_new k0, listed_new k2, listed_new k3, listed_new k5, listed_new k6⟩, (hB.trans (b1.mono hB.size)), (.agg #[.bool son, .int .i64 sh, .int .i64 sc, .int .i64 soq, .int .i64 sot, .int .i64 sop, .int .i64 sol, .int .i64 suq, .int .i64 sut, .int .i64 sup, .int .i64 sul]), (.agg #[.int .i64 xq, .int .i64 xt, .int .i64 xp, .int .i64 xl]), t7, t8, by kernel_rfl, fun _ => rfl, fun _ => rfl, fun h => c7 (listed_old h (by decide)), fun h => by obtain ⟨g, hg, h1, h2, h3, h4⟩ := c8 (listed_old h (by decide)); exact ⟨g, hg, h1, Nat.lt_of_lt_of_le h2 b1.size, fun h => (h3 (listed_same h (by decide))).below b1 (h3 (listed_same h (by decide))).lt, fun h => (h4 (listed_same h (by decide))).below b1 (h4 (listed_same h (by decide))).lt⟩, fun h => listed_new (s8 (listed_old h (by decide)))⟩
          · exact absurd (was_listed hun k5) id
          · exact absurd (was_listed hun k6) id
          · have hd := waits_as (L := [1, 4, 6, 4]) (by kernel_rfl) hd
            simp only [List.all_cons, List.all_nil, Bool.and_true, Bool.and_eq_true] at hd
            obtain ⟨e0, e1, e2, e3⟩ := hd
            obtain rfl := c1 e0
            obtain rfl := c4 e1
            refine inv_op rfl (fun K hK => ?_)
            subst ha0
            (try simp only [Act.put, List.getElem_toArray, List.getElem_cons_succ, List.getElem_cons_zero, List.setIfInBounds_toArray, List.set_cons_zero, List.set_cons_succ])
            go_simp
            go_wp2_with (refine (RD.out _).mono ?_; rintro e v ⟨rfl, b1⟩)
            refine hK.out _ _ ?_
            exact ⟨by simp [hsz], ⟨listed_new k0, listed_new k2, listed_new k3, listed_new k5, listed_new k6⟩, (hB.trans (b1.mono hB.size)), (.agg #[.bool son, .int .i64 sh, .int .i64 sc, .int .i64 soq, .int .i64 sot, .int .i64 sop, .int .i64 sol, .int .i64 suq, .int .i64 sut, .int .i64 sup, .int .i64 sul]), (.agg #[.int .i64 xq, .int .i64 xt, .int .i64 xp, .int .i64 xl]), (.agg #[.bool don, .int .i64 dh, .int .i64 dc, .int .i64 doq, .int .i64 dot, .int .i64 dop, .int .i64 dol, .int .i64 duq, .int .i64 dut, .int .i64 dup, .int .i64 dul]), t8, by kernel_rfl, fun _ => rfl, fun _ => rfl, fun _ => rfl, fun h => by obtain ⟨g, hg, h1, h2, h3, h4⟩ := c8 (listed_old h (by decide)); exact ⟨g, hg, h1, Nat.lt_of_lt_of_le h2 b1.size, fun h => (h3 (listed_same h (by decide))).below b1 (h3 (listed_same h (by decide))).lt, fun h => (h4 (listed_same h (by decide))).below b1 (h4 (listed_same h (by decide))).lt⟩, fun h => listed_new (s8 (listed_old h (by decide)))⟩
          · have hd := waits_as (L := []) (by kernel_rfl) hd
            simp only [List.all_cons, List.all_nil, Bool.and_true, Bool.and_eq_true] at hd
            refine inv_op rfl (fun K hK => ?_)
            subst ha0
            (try simp only [Act.put, List.getElem_toArray, List.getElem_cons_succ, List.getElem_cons_zero, List.setIfInBounds_toArray, List.set_cons_zero, List.set_cons_succ])
            go_simp
            refine hK.out _ _ ?_
            exact ⟨by simp [hsz], ⟨listed_new k0, listed_new k2, listed_new k3, listed_new k5, listed_new k6⟩, (hB.alloc hB.size (.cells #[.bool false, .int .i64 0, .int .i64 0, .int .i64 0, .int .i64 0, .int .i64 0, .int .i64 0, .int .i64 0, .int .i64 0, .int .i64 0, .int .i64 0] 36)), t1, t4, t7, (.pointer (some ⟨w.heap.size, 0, none⟩)), by kernel_rfl, fun h => c1 (listed_old h (by decide)), fun h => c4 (listed_old h (by decide)), fun h => c7 (listed_old h (by decide)), fun _ => ⟨_, rfl, hB.size, by simp, fun _ => Whole.new _ _ _, fun h => absurd (was_listed hun (s8 (listed_old h (by decide)))) id⟩, fun h => listed_new (s8 (listed_old h (by decide)))⟩
          · have hd := waits_as (L := [8, 7, 7, 0, 1, 2, 3, 4, 5, 6, 7, 8]) (by kernel_rfl) hd
            simp only [List.all_cons, List.all_nil, Bool.and_true, Bool.and_eq_true] at hd
            obtain ⟨e0, e1, e2, e3, e4, e5, e6, e7, e8, e9, e10, e11⟩ := hd
            obtain ⟨g8, rfl, lo8, lt8, z8, y8⟩ := c8 e0
            obtain rfl := c7 e1
            obtain rfl := c1 e4
            obtain rfl := c4 e7
            refine inv_op rfl (fun K hK => ?_)
            subst ha0
            (try simp only [Act.put, List.getElem_toArray, List.getElem_cons_succ, List.getElem_cons_zero, List.setIfInBounds_toArray, List.set_cons_zero, List.set_cons_succ])
            have q := z8 (unlisted_false hun)
            have zz0 := q.cell 0
            have zz1 := q.cell 1
            have zz2 := q.cell 2
            have zz3 := q.cell 3
            have zz4 := q.cell 4
            have zz5 := q.cell 5
            have zz6 := q.cell 6
            have zz7 := q.cell 7
            have zz8 := q.cell 8
            have zz9 := q.cell 9
            have zz10 := q.cell 10
            have yy0 := q.free 0
            have yy1 := q.free 1
            have yy2 := q.free 2
            have yy3 := q.free 3
            have yy4 := q.free 4
            have yy5 := q.free 5
            have yy6 := q.free 6
            have yy7 := q.free 7
            have yy8 := q.free 8
            have yy9 := q.free 9
            have yy10 := q.free 10
            go_simp
            refine hK.out _ _ ?_
            exact ⟨by simp [hsz], ⟨listed_new k0, listed_new k2, listed_new k3, listed_new k5, listed_new k6⟩, (eleven_set hB lo8 (.bool don) (.int .i64 dh) (.int .i64 dc) (.int .i64 doq) (.int .i64 dot) (.int .i64 dop) (.int .i64 dol) (.int .i64 duq) (.int .i64 dut) (.int .i64 dup) (.int .i64 dul)), (.agg #[.bool son, .int .i64 sh, .int .i64 sc, .int .i64 soq, .int .i64 sot, .int .i64 sop, .int .i64 sol, .int .i64 suq, .int .i64 sut, .int .i64 sup, .int .i64 sul]), (.agg #[.int .i64 xq, .int .i64 xt, .int .i64 xp, .int .i64 xl]), (.agg #[.bool don, .int .i64 dh, .int .i64 dc, .int .i64 doq, .int .i64 dot, .int .i64 dop, .int .i64 dol, .int .i64 duq, .int .i64 dut, .int .i64 dup, .int .i64 dul]), (.pointer (some ⟨g8, 0, none⟩)), by kernel_rfl, fun _ => rfl, fun _ => rfl, fun _ => rfl, fun _ => ⟨g8, rfl, lo8, (by simpa using lt8), fun h => absurd ((listed_now hun).symm.trans h) (by decide), fun _ => (Whole.eleven q (.bool don) (.int .i64 dh) (.int .i64 dc) (.int .i64 doq) (.int .i64 dot) (.int .i64 dop) (.int .i64 dol) (.int .i64 duq) (.int .i64 dut) (.int .i64 dup) (.int .i64 dul))⟩, fun _ => listed_new e0⟩
        · intro l a w hI hr
          obtain ⟨hsz, ⟨k0, k2, k3, k5, k6⟩, hB, t1, t4, t7, t8, rfl, c1, c4, c7, c8, s8⟩ := hI
          have k1 := done_listed (i := 1) (n := 10) hsz (by decide) rfl hr (by rw [show waitsFor _ _ 1 = [0] from by kernel_rfl]; simp only [List.all_cons, List.all_nil, Bool.and_true, Bool.and_eq_true]; exact k0)
          have k4 := done_listed (i := 4) (n := 10) hsz (by decide) rfl hr (by rw [show waitsFor _ _ 4 = [3, 1] from by kernel_rfl]; simp only [List.all_cons, List.all_nil, Bool.and_true, Bool.and_eq_true]; exact ⟨k3, k1⟩)
          have k7 := done_listed (i := 7) (n := 10) hsz (by decide) rfl hr (by rw [show waitsFor _ _ 7 = [1, 4, 6, 4] from by kernel_rfl]; simp only [List.all_cons, List.all_nil, Bool.and_true, Bool.and_eq_true]; exact ⟨k1, k4, k6, k4⟩)
          have k8 := done_listed (i := 8) (n := 10) hsz (by decide) rfl hr (by rw [show waitsFor _ _ 8 = [] from by kernel_rfl]; rfl)
          have k9 := done_listed (i := 9) (n := 10) hsz (by decide) rfl hr (by rw [show waitsFor _ _ 9 = [8, 7, 7, 0, 1, 2, 3, 4, 5, 6, 7, 8] from by kernel_rfl]; simp only [List.all_cons, List.all_nil, Bool.and_true, Bool.and_eq_true]; exact ⟨k8, k7, k7, k0, k1, k2, k3, k4, k5, k6, k7, k8⟩)
          obtain rfl := c1 k1
          obtain rfl := c4 k4
          obtain rfl := c7 k7
          obtain ⟨ge, rfl, loe, _, _, We⟩ := c8 k8
          replace We := We k9
          clear hr k0 k1 k2 k3 k4 k5 k6 k7 k8 k9 s8 c1 c4 c7 c8
          subst ha0
          (try simp only [Act.put, List.getElem_toArray, List.getElem_cons_succ, List.getElem_cons_zero, List.setIfInBounds_toArray, List.set_cons_zero, List.set_cons_succ])
          go_wp2_with fail
          go_meet
          exact ⟨_, rfl, loe, We, hB⟩
        · refine ⟨rfl, ⟨rfl, rfl, rfl, rfl, rfl⟩, (Below.refl _ _).drew, a0.tmps.getD 75 undef, a0.tmps.getD 78 undef, a0.tmps.getD 81 undef, a0.tmps.getD 17 undef, ?_, fun h => absurd h (by decide), fun h => absurd h (by decide), fun h => absurd h (by decide), fun h => absurd h (by decide), fun h => absurd h (by decide)⟩
          subst ha0
          kernel_rfl
      case rest =>
        obtain ⟨g1_3, rfl, loe3, Te, bq⟩ := hcut
        obtain ⟨wc3, rfl⟩ : ∃ wd : World, wd = wc := ⟨_, rfl⟩
        have Ssc3 := (Ps.out).below bq Ps.out.lt
        have Sxc3 := (Px.out).below bq Px.out.lt
        have Suc3 := (Pu.out).below bq Pu.out.lt
        have Smc3 := (Pm.out).below bq Pm.out.lt
        have Svc3 := (Pv.out).below bq Pv.out.lt
        have Sqc3 := (Pq.out).below bq Pq.out.lt
        have Stc3 := (Pt.out).below bq Pt.out.lt
        have Snc3 := (Pn.out).below bq Pn.out.lt
        have Syc3 := (Py.out).below bq Py.out.lt
        have Szc3 := (Pz.out).below bq Pz.out.lt
        have Sdc3 := (Pd.out).below bq Pd.out.lt
        have Sec3 := Te
        have HBc3 := Lib.hid (PB.out.trans (bq.mono PB.out.size))
        clear K6 bq Ps Px Pu Pm Pv Pq Pt Pn Py Pz Pd Te PB
        have lsc3 := Ssc3.lt
        have lxc3 := Sxc3.lt
        have luc3 := Suc3.lt
        have lmc3 := Smc3.lt
        have lvc3 := Svc3.lt
        have lqc3 := Sqc3.lt
        have ltc3 := Stc3.lt
        have lnc3 := Snc3.lt
        have lyc3 := Syc3.lt
        have lzc3 := Szc3.lt
        have ldc3 := Sdc3.lt
        have lec3 := Sec3.lt
        replace Ssc3 := Lib.hid Ssc3
        replace Sxc3 := Lib.hid Sxc3
        replace Suc3 := Lib.hid Suc3
        replace Smc3 := Lib.hid Smc3
        replace Svc3 := Lib.hid Svc3
        replace Sqc3 := Lib.hid Sqc3
        replace Stc3 := Lib.hid Stc3
        replace Snc3 := Lib.hid Snc3
        replace Syc3 := Lib.hid Syc3
        replace Szc3 := Lib.hid Szc3
        replace Sdc3 := Lib.hid Sdc3
        replace Sec3 := Lib.hid Sec3
        clear RD O1 O2
        obtain ⟨wc, rfl⟩ : ∃ wd : World, wd = wc3 := ⟨_, rfl⟩
        have KS := Lib.hid (fun w' (b' : Below wc.heap.size wc w') => show (fun w' => w'.cell? ⟨w2.heap.size, 0, none⟩ = some (.bool uon) ∧ w'.cell? ⟨w2.heap.size, 1, none⟩ = some (.int .i64 uh) ∧ w'.cell? ⟨w2.heap.size, 2, none⟩ = some (.int .i64 uc) ∧ w'.cell? ⟨w2.heap.size, 3, none⟩ = some (.int .u16 uoq) ∧ w'.cell? ⟨w2.heap.size, 4, none⟩ = some (.int .u32 uot) ∧ w'.cell? ⟨w2.heap.size, 5, none⟩ = some (.int .u16 uop) ∧ w'.cell? ⟨w2.heap.size, 6, none⟩ = some (.int .u8 uol) ∧ w'.cell? ⟨w2.heap.size, 7, none⟩ = some (.int .u16 uuq) ∧ w'.cell? ⟨w2.heap.size, 8, none⟩ = some (.int .u32 uut) ∧ w'.cell? ⟨w2.heap.size, 9, none⟩ = some (.int .u16 uup) ∧ w'.cell? ⟨w2.heap.size, 10, none⟩ = some (.int .u8 uul) ∧ w'.cell? ⟨g1_1, 0, none⟩ = some (.bool uon) ∧ w'.cell? ⟨g1_1, 1, none⟩ = some (.int .i64 uh) ∧ w'.cell? ⟨g1_1, 2, none⟩ = some (.int .i64 uc) ∧ w'.cell? ⟨g1_1, 3, none⟩ = some (.int .i64 uoq) ∧ w'.cell? ⟨g1_1, 4, none⟩ = some (.int .i64 uot) ∧ w'.cell? ⟨g1_1, 5, none⟩ = some (.int .i64 uop) ∧ w'.cell? ⟨g1_1, 6, none⟩ = some (.int .i64 uol) ∧ w'.cell? ⟨g1_1, 7, none⟩ = some (.int .i64 uuq) ∧ w'.cell? ⟨g1_1, 8, none⟩ = some (.int .i64 uut) ∧ w'.cell? ⟨g1_1, 9, none⟩ = some (.int .i64 uup) ∧ w'.cell? ⟨g1_1, 10, none⟩ = some (.int .i64 uul) ∧ w'.cell? ⟨w2.heap.size + 1, 0, none⟩ = some (.int .u16 mq) ∧ w'.cell? ⟨w2.heap.size + 1, 1, none⟩ = some (.int .u32 mt) ∧ w'.cell? ⟨w2.heap.size + 1, 2, none⟩ = some (.int .u16 mp) ∧ w'.cell? ⟨w2.heap.size + 1, 3, none⟩ = some (.int .u8 ml) ∧ w'.cell? ⟨g2_1, 0, none⟩ = some (.int .i64 mq) ∧ w'.cell? ⟨g2_1, 1, none⟩ = some (.int .i64 mt) ∧ w'.cell? ⟨g2_1, 2, none⟩ = some (.int .i64 mp) ∧ w'.cell? ⟨g2_1, 3, none⟩ = some (.int .i64 ml) ∧ w'.cell? ⟨w11.heap.size, 0, none⟩ = some (.bool ton) ∧ w'.cell? ⟨w11.heap.size, 1, none⟩ = some (.int .i64 th) ∧ w'.cell? ⟨w11.heap.size, 2, none⟩ = some (.int .i64 tc) ∧ w'.cell? ⟨w11.heap.size, 3, none⟩ = some (.int .u16 toq) ∧ w'.cell? ⟨w11.heap.size, 4, none⟩ = some (.int .u32 tot) ∧ w'.cell? ⟨w11.heap.size, 5, none⟩ = some (.int .u16 top) ∧ w'.cell? ⟨w11.heap.size, 6, none⟩ = some (.int .u8 tol) ∧ w'.cell? ⟨w11.heap.size, 7, none⟩ = some (.int .u16 tuq) ∧ w'.cell? ⟨w11.heap.size, 8, none⟩ = some (.int .u32 tut) ∧ w'.cell? ⟨w11.heap.size, 9, none⟩ = some (.int .u16 tup) ∧ w'.cell? ⟨w11.heap.size, 10, none⟩ = some (.int .u8 tul) ∧ w'.cell? ⟨g1_2, 0, none⟩ = some (.bool ton) ∧ w'.cell? ⟨g1_2, 1, none⟩ = some (.int .i64 th) ∧ w'.cell? ⟨g1_2, 2, none⟩ = some (.int .i64 tc) ∧ w'.cell? ⟨g1_2, 3, none⟩ = some (.int .i64 toq) ∧ w'.cell? ⟨g1_2, 4, none⟩ = some (.int .i64 tot) ∧ w'.cell? ⟨g1_2, 5, none⟩ = some (.int .i64 top) ∧ w'.cell? ⟨g1_2, 6, none⟩ = some (.int .i64 tol) ∧ w'.cell? ⟨g1_2, 7, none⟩ = some (.int .i64 tuq) ∧ w'.cell? ⟨g1_2, 8, none⟩ = some (.int .i64 tut) ∧ w'.cell? ⟨g1_2, 9, none⟩ = some (.int .i64 tup) ∧ w'.cell? ⟨g1_2, 10, none⟩ = some (.int .i64 tul) ∧ w'.cell? ⟨w11.heap.size + 1, 0, none⟩ = some (.int .u16 nq) ∧ w'.cell? ⟨w11.heap.size + 1, 1, none⟩ = some (.int .u32 nt) ∧ w'.cell? ⟨w11.heap.size + 1, 2, none⟩ = some (.int .u16 np) ∧ w'.cell? ⟨w11.heap.size + 1, 3, none⟩ = some (.int .u8 nl) ∧ w'.cell? ⟨g2_2, 0, none⟩ = some (.int .i64 nq) ∧ w'.cell? ⟨g2_2, 1, none⟩ = some (.int .i64 nt) ∧ w'.cell? ⟨g2_2, 2, none⟩ = some (.int .i64 np) ∧ w'.cell? ⟨g2_2, 3, none⟩ = some (.int .i64 nl) ∧ w'.cell? ⟨w21.heap.size, 0, none⟩ = some (.bool don) ∧ w'.cell? ⟨w21.heap.size, 1, none⟩ = some (.int .i64 dh) ∧ w'.cell? ⟨w21.heap.size, 2, none⟩ = some (.int .i64 dc) ∧ w'.cell? ⟨w21.heap.size, 3, none⟩ = some (.int .u16 doq) ∧ w'.cell? ⟨w21.heap.size, 4, none⟩ = some (.int .u32 dot) ∧ w'.cell? ⟨w21.heap.size, 5, none⟩ = some (.int .u16 dop) ∧ w'.cell? ⟨w21.heap.size, 6, none⟩ = some (.int .u8 dol) ∧ w'.cell? ⟨w21.heap.size, 7, none⟩ = some (.int .u16 duq) ∧ w'.cell? ⟨w21.heap.size, 8, none⟩ = some (.int .u32 dut) ∧ w'.cell? ⟨w21.heap.size, 9, none⟩ = some (.int .u16 dup) ∧ w'.cell? ⟨w21.heap.size, 10, none⟩ = some (.int .u8 dul) ∧ w'.cell? ⟨g1_3, 0, none⟩ = some (.bool don) ∧ w'.cell? ⟨g1_3, 1, none⟩ = some (.int .i64 dh) ∧ w'.cell? ⟨g1_3, 2, none⟩ = some (.int .i64 dc) ∧ w'.cell? ⟨g1_3, 3, none⟩ = some (.int .i64 doq) ∧ w'.cell? ⟨g1_3, 4, none⟩ = some (.int .i64 dot) ∧ w'.cell? ⟨g1_3, 5, none⟩ = some (.int .i64 dop) ∧ w'.cell? ⟨g1_3, 6, none⟩ = some (.int .i64 dol) ∧ w'.cell? ⟨g1_3, 7, none⟩ = some (.int .i64 duq) ∧ w'.cell? ⟨g1_3, 8, none⟩ = some (.int .i64 dut) ∧ w'.cell? ⟨g1_3, 9, none⟩ = some (.int .i64 dup) ∧ w'.cell? ⟨g1_3, 10, none⟩ = some (.int .i64 dul)) w' from ⟨(Suc3.out.below b' Suc3.out.lt).cell 0, (Suc3.out.below b' Suc3.out.lt).cell 1, (Suc3.out.below b' Suc3.out.lt).cell 2, (Suc3.out.below b' Suc3.out.lt).cell 3, (Suc3.out.below b' Suc3.out.lt).cell 4, (Suc3.out.below b' Suc3.out.lt).cell 5, (Suc3.out.below b' Suc3.out.lt).cell 6, (Suc3.out.below b' Suc3.out.lt).cell 7, (Suc3.out.below b' Suc3.out.lt).cell 8, (Suc3.out.below b' Suc3.out.lt).cell 9, (Suc3.out.below b' Suc3.out.lt).cell 10, (Svc3.out.below b' Svc3.out.lt).cell 0, (Svc3.out.below b' Svc3.out.lt).cell 1, (Svc3.out.below b' Svc3.out.lt).cell 2, (Svc3.out.below b' Svc3.out.lt).cell 3, (Svc3.out.below b' Svc3.out.lt).cell 4, (Svc3.out.below b' Svc3.out.lt).cell 5, (Svc3.out.below b' Svc3.out.lt).cell 6, (Svc3.out.below b' Svc3.out.lt).cell 7, (Svc3.out.below b' Svc3.out.lt).cell 8, (Svc3.out.below b' Svc3.out.lt).cell 9, (Svc3.out.below b' Svc3.out.lt).cell 10, (Smc3.out.below b' Smc3.out.lt).cell 0, (Smc3.out.below b' Smc3.out.lt).cell 1, (Smc3.out.below b' Smc3.out.lt).cell 2, (Smc3.out.below b' Smc3.out.lt).cell 3, (Sqc3.out.below b' Sqc3.out.lt).cell 0, (Sqc3.out.below b' Sqc3.out.lt).cell 1, (Sqc3.out.below b' Sqc3.out.lt).cell 2, (Sqc3.out.below b' Sqc3.out.lt).cell 3, (Stc3.out.below b' Stc3.out.lt).cell 0, (Stc3.out.below b' Stc3.out.lt).cell 1, (Stc3.out.below b' Stc3.out.lt).cell 2, (Stc3.out.below b' Stc3.out.lt).cell 3, (Stc3.out.below b' Stc3.out.lt).cell 4, (Stc3.out.below b' Stc3.out.lt).cell 5, (Stc3.out.below b' Stc3.out.lt).cell 6, (Stc3.out.below b' Stc3.out.lt).cell 7, (Stc3.out.below b' Stc3.out.lt).cell 8, (Stc3.out.below b' Stc3.out.lt).cell 9, (Stc3.out.below b' Stc3.out.lt).cell 10, (Syc3.out.below b' Syc3.out.lt).cell 0, (Syc3.out.below b' Syc3.out.lt).cell 1, (Syc3.out.below b' Syc3.out.lt).cell 2, (Syc3.out.below b' Syc3.out.lt).cell 3, (Syc3.out.below b' Syc3.out.lt).cell 4, (Syc3.out.below b' Syc3.out.lt).cell 5, (Syc3.out.below b' Syc3.out.lt).cell 6, (Syc3.out.below b' Syc3.out.lt).cell 7, (Syc3.out.below b' Syc3.out.lt).cell 8, (Syc3.out.below b' Syc3.out.lt).cell 9, (Syc3.out.below b' Syc3.out.lt).cell 10, (Snc3.out.below b' Snc3.out.lt).cell 0, (Snc3.out.below b' Snc3.out.lt).cell 1, (Snc3.out.below b' Snc3.out.lt).cell 2, (Snc3.out.below b' Snc3.out.lt).cell 3, (Szc3.out.below b' Szc3.out.lt).cell 0, (Szc3.out.below b' Szc3.out.lt).cell 1, (Szc3.out.below b' Szc3.out.lt).cell 2, (Szc3.out.below b' Szc3.out.lt).cell 3, (Sdc3.out.below b' Sdc3.out.lt).cell 0, (Sdc3.out.below b' Sdc3.out.lt).cell 1, (Sdc3.out.below b' Sdc3.out.lt).cell 2, (Sdc3.out.below b' Sdc3.out.lt).cell 3, (Sdc3.out.below b' Sdc3.out.lt).cell 4, (Sdc3.out.below b' Sdc3.out.lt).cell 5, (Sdc3.out.below b' Sdc3.out.lt).cell 6, (Sdc3.out.below b' Sdc3.out.lt).cell 7, (Sdc3.out.below b' Sdc3.out.lt).cell 8, (Sdc3.out.below b' Sdc3.out.lt).cell 9, (Sdc3.out.below b' Sdc3.out.lt).cell 10, (Sec3.out.below b' Sec3.out.lt).cell 0, (Sec3.out.below b' Sec3.out.lt).cell 1, (Sec3.out.below b' Sec3.out.lt).cell 2, (Sec3.out.below b' Sec3.out.lt).cell 3, (Sec3.out.below b' Sec3.out.lt).cell 4, (Sec3.out.below b' Sec3.out.lt).cell 5, (Sec3.out.below b' Sec3.out.lt).cell 6, (Sec3.out.below b' Sec3.out.lt).cell 7, (Sec3.out.below b' Sec3.out.lt).cell 8, (Sec3.out.below b' Sec3.out.lt).cell 9, (Sec3.out.below b' Sec3.out.lt).cell 10⟩)
        have E1 := E1.out
        have E2 := E2.out
        have E3 := E3.out
        have E4 := E4.out
        have E5 := E5.out
        have h3 := HBc3.out
        replace h3 := Lib.hid h3
        clear Ssc3 Sxc3 Suc3 Smc3 Svc3 Sqc3 Stc3 Snc3 Syc3 Szc3 Sdc3 Sec3 HBc3
        cases b
        · go_upto_region 12 with fail
          have hK0 := KS.out wc (Below.refl _ _)
          go_region_held3 (fun w' => w'.cell? ⟨w2.heap.size, 0, none⟩ = some (.bool uon) ∧ w'.cell? ⟨w2.heap.size, 1, none⟩ = some (.int .i64 uh) ∧ w'.cell? ⟨w2.heap.size, 2, none⟩ = some (.int .i64 uc) ∧ w'.cell? ⟨w2.heap.size, 3, none⟩ = some (.int .u16 uoq) ∧ w'.cell? ⟨w2.heap.size, 4, none⟩ = some (.int .u32 uot) ∧ w'.cell? ⟨w2.heap.size, 5, none⟩ = some (.int .u16 uop) ∧ w'.cell? ⟨w2.heap.size, 6, none⟩ = some (.int .u8 uol) ∧ w'.cell? ⟨w2.heap.size, 7, none⟩ = some (.int .u16 uuq) ∧ w'.cell? ⟨w2.heap.size, 8, none⟩ = some (.int .u32 uut) ∧ w'.cell? ⟨w2.heap.size, 9, none⟩ = some (.int .u16 uup) ∧ w'.cell? ⟨w2.heap.size, 10, none⟩ = some (.int .u8 uul) ∧ w'.cell? ⟨g1_1, 0, none⟩ = some (.bool uon) ∧ w'.cell? ⟨g1_1, 1, none⟩ = some (.int .i64 uh) ∧ w'.cell? ⟨g1_1, 2, none⟩ = some (.int .i64 uc) ∧ w'.cell? ⟨g1_1, 3, none⟩ = some (.int .i64 uoq) ∧ w'.cell? ⟨g1_1, 4, none⟩ = some (.int .i64 uot) ∧ w'.cell? ⟨g1_1, 5, none⟩ = some (.int .i64 uop) ∧ w'.cell? ⟨g1_1, 6, none⟩ = some (.int .i64 uol) ∧ w'.cell? ⟨g1_1, 7, none⟩ = some (.int .i64 uuq) ∧ w'.cell? ⟨g1_1, 8, none⟩ = some (.int .i64 uut) ∧ w'.cell? ⟨g1_1, 9, none⟩ = some (.int .i64 uup) ∧ w'.cell? ⟨g1_1, 10, none⟩ = some (.int .i64 uul) ∧ w'.cell? ⟨w2.heap.size + 1, 0, none⟩ = some (.int .u16 mq) ∧ w'.cell? ⟨w2.heap.size + 1, 1, none⟩ = some (.int .u32 mt) ∧ w'.cell? ⟨w2.heap.size + 1, 2, none⟩ = some (.int .u16 mp) ∧ w'.cell? ⟨w2.heap.size + 1, 3, none⟩ = some (.int .u8 ml) ∧ w'.cell? ⟨g2_1, 0, none⟩ = some (.int .i64 mq) ∧ w'.cell? ⟨g2_1, 1, none⟩ = some (.int .i64 mt) ∧ w'.cell? ⟨g2_1, 2, none⟩ = some (.int .i64 mp) ∧ w'.cell? ⟨g2_1, 3, none⟩ = some (.int .i64 ml) ∧ w'.cell? ⟨w11.heap.size, 0, none⟩ = some (.bool ton) ∧ w'.cell? ⟨w11.heap.size, 1, none⟩ = some (.int .i64 th) ∧ w'.cell? ⟨w11.heap.size, 2, none⟩ = some (.int .i64 tc) ∧ w'.cell? ⟨w11.heap.size, 3, none⟩ = some (.int .u16 toq) ∧ w'.cell? ⟨w11.heap.size, 4, none⟩ = some (.int .u32 tot) ∧ w'.cell? ⟨w11.heap.size, 5, none⟩ = some (.int .u16 top) ∧ w'.cell? ⟨w11.heap.size, 6, none⟩ = some (.int .u8 tol) ∧ w'.cell? ⟨w11.heap.size, 7, none⟩ = some (.int .u16 tuq) ∧ w'.cell? ⟨w11.heap.size, 8, none⟩ = some (.int .u32 tut) ∧ w'.cell? ⟨w11.heap.size, 9, none⟩ = some (.int .u16 tup) ∧ w'.cell? ⟨w11.heap.size, 10, none⟩ = some (.int .u8 tul) ∧ w'.cell? ⟨g1_2, 0, none⟩ = some (.bool ton) ∧ w'.cell? ⟨g1_2, 1, none⟩ = some (.int .i64 th) ∧ w'.cell? ⟨g1_2, 2, none⟩ = some (.int .i64 tc) ∧ w'.cell? ⟨g1_2, 3, none⟩ = some (.int .i64 toq) ∧ w'.cell? ⟨g1_2, 4, none⟩ = some (.int .i64 tot) ∧ w'.cell? ⟨g1_2, 5, none⟩ = some (.int .i64 top) ∧ w'.cell? ⟨g1_2, 6, none⟩ = some (.int .i64 tol) ∧ w'.cell? ⟨g1_2, 7, none⟩ = some (.int .i64 tuq) ∧ w'.cell? ⟨g1_2, 8, none⟩ = some (.int .i64 tut) ∧ w'.cell? ⟨g1_2, 9, none⟩ = some (.int .i64 tup) ∧ w'.cell? ⟨g1_2, 10, none⟩ = some (.int .i64 tul) ∧ w'.cell? ⟨w11.heap.size + 1, 0, none⟩ = some (.int .u16 nq) ∧ w'.cell? ⟨w11.heap.size + 1, 1, none⟩ = some (.int .u32 nt) ∧ w'.cell? ⟨w11.heap.size + 1, 2, none⟩ = some (.int .u16 np) ∧ w'.cell? ⟨w11.heap.size + 1, 3, none⟩ = some (.int .u8 nl) ∧ w'.cell? ⟨g2_2, 0, none⟩ = some (.int .i64 nq) ∧ w'.cell? ⟨g2_2, 1, none⟩ = some (.int .i64 nt) ∧ w'.cell? ⟨g2_2, 2, none⟩ = some (.int .i64 np) ∧ w'.cell? ⟨g2_2, 3, none⟩ = some (.int .i64 nl) ∧ w'.cell? ⟨w21.heap.size, 0, none⟩ = some (.bool don) ∧ w'.cell? ⟨w21.heap.size, 1, none⟩ = some (.int .i64 dh) ∧ w'.cell? ⟨w21.heap.size, 2, none⟩ = some (.int .i64 dc) ∧ w'.cell? ⟨w21.heap.size, 3, none⟩ = some (.int .u16 doq) ∧ w'.cell? ⟨w21.heap.size, 4, none⟩ = some (.int .u32 dot) ∧ w'.cell? ⟨w21.heap.size, 5, none⟩ = some (.int .u16 dop) ∧ w'.cell? ⟨w21.heap.size, 6, none⟩ = some (.int .u8 dol) ∧ w'.cell? ⟨w21.heap.size, 7, none⟩ = some (.int .u16 duq) ∧ w'.cell? ⟨w21.heap.size, 8, none⟩ = some (.int .u32 dut) ∧ w'.cell? ⟨w21.heap.size, 9, none⟩ = some (.int .u16 dup) ∧ w'.cell? ⟨w21.heap.size, 10, none⟩ = some (.int .u8 dul) ∧ w'.cell? ⟨g1_3, 0, none⟩ = some (.bool don) ∧ w'.cell? ⟨g1_3, 1, none⟩ = some (.int .i64 dh) ∧ w'.cell? ⟨g1_3, 2, none⟩ = some (.int .i64 dc) ∧ w'.cell? ⟨g1_3, 3, none⟩ = some (.int .i64 doq) ∧ w'.cell? ⟨g1_3, 4, none⟩ = some (.int .i64 dot) ∧ w'.cell? ⟨g1_3, 5, none⟩ = some (.int .i64 dop) ∧ w'.cell? ⟨g1_3, 6, none⟩ = some (.int .i64 dol) ∧ w'.cell? ⟨g1_3, 7, none⟩ = some (.int .i64 duq) ∧ w'.cell? ⟨g1_3, 8, none⟩ = some (.int .i64 dut) ∧ w'.cell? ⟨g1_3, 9, none⟩ = some (.int .i64 dup) ∧ w'.cell? ⟨g1_3, 10, none⟩ = some (.int .i64 dul))
            (first | exact hK0 | exact KS.out _ B5 | exact KS.out _ B4 | exact KS.out _ B3 | exact KS.out _ B2 | exact KS.out _ B1 | exact KS.out _ (Below.refl _ _).drew)
            (first | (go_at_call 13; with_reducible refine (D1.out _).mono ?_; rintro e v5 ⟨rfl, b5⟩; have B5 := (B4).trans (b5.mono (B4).size)) | (go_at_call 14; with_reducible refine (T2.out _).mono ?_; rintro e v4 ⟨rfl, b4⟩; have B4 := (B3).trans (b4.mono (B3).size)) | (go_at_call 13; with_reducible refine (T1.out _).mono ?_; rintro e v3 ⟨rfl, b3⟩; have B3 := (B2).trans (b3.mono (B2).size)) | (go_at_call 14; with_reducible refine (U2.out _).mono ?_; rintro e v2 ⟨rfl, b2⟩; have B2 := (B1).trans (b2.mono (B1).size)) | (go_at_call 13; with_reducible refine (U1.out _).mono ?_; rintro e v1 ⟨rfl, b1⟩; have B1 := ((Below.refl wc.heap.size wc).drew).trans (b1.mono ((Below.refl wc.heap.size wc).drew).size)))
          have HF := Lib.hid (h3.out.trans (B5.mono h3.out.size))
          clear b1 b2 b3 b4 b5 B1 B2 B3 B4 B5 hK0 KS
          go_wp2
          go_ret
          exact ⟨rfl, HF.out⟩
        · go_upto_region 12 with fail
          have hK0 := KS.out wc (Below.refl _ _)
          go_region_held3 (fun w' => w'.cell? ⟨w2.heap.size, 0, none⟩ = some (.bool uon) ∧ w'.cell? ⟨w2.heap.size, 1, none⟩ = some (.int .i64 uh) ∧ w'.cell? ⟨w2.heap.size, 2, none⟩ = some (.int .i64 uc) ∧ w'.cell? ⟨w2.heap.size, 3, none⟩ = some (.int .u16 uoq) ∧ w'.cell? ⟨w2.heap.size, 4, none⟩ = some (.int .u32 uot) ∧ w'.cell? ⟨w2.heap.size, 5, none⟩ = some (.int .u16 uop) ∧ w'.cell? ⟨w2.heap.size, 6, none⟩ = some (.int .u8 uol) ∧ w'.cell? ⟨w2.heap.size, 7, none⟩ = some (.int .u16 uuq) ∧ w'.cell? ⟨w2.heap.size, 8, none⟩ = some (.int .u32 uut) ∧ w'.cell? ⟨w2.heap.size, 9, none⟩ = some (.int .u16 uup) ∧ w'.cell? ⟨w2.heap.size, 10, none⟩ = some (.int .u8 uul) ∧ w'.cell? ⟨g1_1, 0, none⟩ = some (.bool uon) ∧ w'.cell? ⟨g1_1, 1, none⟩ = some (.int .i64 uh) ∧ w'.cell? ⟨g1_1, 2, none⟩ = some (.int .i64 uc) ∧ w'.cell? ⟨g1_1, 3, none⟩ = some (.int .i64 uoq) ∧ w'.cell? ⟨g1_1, 4, none⟩ = some (.int .i64 uot) ∧ w'.cell? ⟨g1_1, 5, none⟩ = some (.int .i64 uop) ∧ w'.cell? ⟨g1_1, 6, none⟩ = some (.int .i64 uol) ∧ w'.cell? ⟨g1_1, 7, none⟩ = some (.int .i64 uuq) ∧ w'.cell? ⟨g1_1, 8, none⟩ = some (.int .i64 uut) ∧ w'.cell? ⟨g1_1, 9, none⟩ = some (.int .i64 uup) ∧ w'.cell? ⟨g1_1, 10, none⟩ = some (.int .i64 uul) ∧ w'.cell? ⟨w2.heap.size + 1, 0, none⟩ = some (.int .u16 mq) ∧ w'.cell? ⟨w2.heap.size + 1, 1, none⟩ = some (.int .u32 mt) ∧ w'.cell? ⟨w2.heap.size + 1, 2, none⟩ = some (.int .u16 mp) ∧ w'.cell? ⟨w2.heap.size + 1, 3, none⟩ = some (.int .u8 ml) ∧ w'.cell? ⟨g2_1, 0, none⟩ = some (.int .i64 mq) ∧ w'.cell? ⟨g2_1, 1, none⟩ = some (.int .i64 mt) ∧ w'.cell? ⟨g2_1, 2, none⟩ = some (.int .i64 mp) ∧ w'.cell? ⟨g2_1, 3, none⟩ = some (.int .i64 ml) ∧ w'.cell? ⟨w11.heap.size, 0, none⟩ = some (.bool ton) ∧ w'.cell? ⟨w11.heap.size, 1, none⟩ = some (.int .i64 th) ∧ w'.cell? ⟨w11.heap.size, 2, none⟩ = some (.int .i64 tc) ∧ w'.cell? ⟨w11.heap.size, 3, none⟩ = some (.int .u16 toq) ∧ w'.cell? ⟨w11.heap.size, 4, none⟩ = some (.int .u32 tot) ∧ w'.cell? ⟨w11.heap.size, 5, none⟩ = some (.int .u16 top) ∧ w'.cell? ⟨w11.heap.size, 6, none⟩ = some (.int .u8 tol) ∧ w'.cell? ⟨w11.heap.size, 7, none⟩ = some (.int .u16 tuq) ∧ w'.cell? ⟨w11.heap.size, 8, none⟩ = some (.int .u32 tut) ∧ w'.cell? ⟨w11.heap.size, 9, none⟩ = some (.int .u16 tup) ∧ w'.cell? ⟨w11.heap.size, 10, none⟩ = some (.int .u8 tul) ∧ w'.cell? ⟨g1_2, 0, none⟩ = some (.bool ton) ∧ w'.cell? ⟨g1_2, 1, none⟩ = some (.int .i64 th) ∧ w'.cell? ⟨g1_2, 2, none⟩ = some (.int .i64 tc) ∧ w'.cell? ⟨g1_2, 3, none⟩ = some (.int .i64 toq) ∧ w'.cell? ⟨g1_2, 4, none⟩ = some (.int .i64 tot) ∧ w'.cell? ⟨g1_2, 5, none⟩ = some (.int .i64 top) ∧ w'.cell? ⟨g1_2, 6, none⟩ = some (.int .i64 tol) ∧ w'.cell? ⟨g1_2, 7, none⟩ = some (.int .i64 tuq) ∧ w'.cell? ⟨g1_2, 8, none⟩ = some (.int .i64 tut) ∧ w'.cell? ⟨g1_2, 9, none⟩ = some (.int .i64 tup) ∧ w'.cell? ⟨g1_2, 10, none⟩ = some (.int .i64 tul) ∧ w'.cell? ⟨w11.heap.size + 1, 0, none⟩ = some (.int .u16 nq) ∧ w'.cell? ⟨w11.heap.size + 1, 1, none⟩ = some (.int .u32 nt) ∧ w'.cell? ⟨w11.heap.size + 1, 2, none⟩ = some (.int .u16 np) ∧ w'.cell? ⟨w11.heap.size + 1, 3, none⟩ = some (.int .u8 nl) ∧ w'.cell? ⟨g2_2, 0, none⟩ = some (.int .i64 nq) ∧ w'.cell? ⟨g2_2, 1, none⟩ = some (.int .i64 nt) ∧ w'.cell? ⟨g2_2, 2, none⟩ = some (.int .i64 np) ∧ w'.cell? ⟨g2_2, 3, none⟩ = some (.int .i64 nl) ∧ w'.cell? ⟨w21.heap.size, 0, none⟩ = some (.bool don) ∧ w'.cell? ⟨w21.heap.size, 1, none⟩ = some (.int .i64 dh) ∧ w'.cell? ⟨w21.heap.size, 2, none⟩ = some (.int .i64 dc) ∧ w'.cell? ⟨w21.heap.size, 3, none⟩ = some (.int .u16 doq) ∧ w'.cell? ⟨w21.heap.size, 4, none⟩ = some (.int .u32 dot) ∧ w'.cell? ⟨w21.heap.size, 5, none⟩ = some (.int .u16 dop) ∧ w'.cell? ⟨w21.heap.size, 6, none⟩ = some (.int .u8 dol) ∧ w'.cell? ⟨w21.heap.size, 7, none⟩ = some (.int .u16 duq) ∧ w'.cell? ⟨w21.heap.size, 8, none⟩ = some (.int .u32 dut) ∧ w'.cell? ⟨w21.heap.size, 9, none⟩ = some (.int .u16 dup) ∧ w'.cell? ⟨w21.heap.size, 10, none⟩ = some (.int .u8 dul) ∧ w'.cell? ⟨g1_3, 0, none⟩ = some (.bool don) ∧ w'.cell? ⟨g1_3, 1, none⟩ = some (.int .i64 dh) ∧ w'.cell? ⟨g1_3, 2, none⟩ = some (.int .i64 dc) ∧ w'.cell? ⟨g1_3, 3, none⟩ = some (.int .i64 doq) ∧ w'.cell? ⟨g1_3, 4, none⟩ = some (.int .i64 dot) ∧ w'.cell? ⟨g1_3, 5, none⟩ = some (.int .i64 dop) ∧ w'.cell? ⟨g1_3, 6, none⟩ = some (.int .i64 dol) ∧ w'.cell? ⟨g1_3, 7, none⟩ = some (.int .i64 duq) ∧ w'.cell? ⟨g1_3, 8, none⟩ = some (.int .i64 dut) ∧ w'.cell? ⟨g1_3, 9, none⟩ = some (.int .i64 dup) ∧ w'.cell? ⟨g1_3, 10, none⟩ = some (.int .i64 dul))
            (first | exact hK0 | exact KS.out _ B5 | exact KS.out _ B4 | exact KS.out _ B3 | exact KS.out _ B2 | exact KS.out _ B1 | exact KS.out _ (Below.refl _ _).drew)
            (first | (go_at_call 13; with_reducible refine (D1.out _).mono ?_; rintro e v5 ⟨rfl, b5⟩; have B5 := (B4).trans (b5.mono (B4).size)) | (go_at_call 14; with_reducible refine (T2.out _).mono ?_; rintro e v4 ⟨rfl, b4⟩; have B4 := (B3).trans (b4.mono (B3).size)) | (go_at_call 13; with_reducible refine (T1.out _).mono ?_; rintro e v3 ⟨rfl, b3⟩; have B3 := (B2).trans (b3.mono (B2).size)) | (go_at_call 14; with_reducible refine (U2.out _).mono ?_; rintro e v2 ⟨rfl, b2⟩; have B2 := (B1).trans (b2.mono (B1).size)) | (go_at_call 13; with_reducible refine (U1.out _).mono ?_; rintro e v1 ⟨rfl, b1⟩; have B1 := ((Below.refl wc.heap.size wc).drew).trans (b1.mono ((Below.refl wc.heap.size wc).drew).size)))
          have HF := Lib.hid (h3.out.trans (B5.mono h3.out.size))
          clear b1 b2 b3 b4 b5 B1 B2 B3 B4 B5 hK0 KS
          go_wp2
          go_ret
          exact ⟨rfl, HF.out⟩

set_option maxRecDepth 100000 in
theorem lifted (os : Os) (started : os.Started) (H : Type) (enc : TypeId × Value → H) :
    ReturnsInHanded {} Try.checked os 3 .any (Rows.mungeTellsSpec.pre6 enc Try.prog Try.f3 Rows.mungeTellsRow.domain false) (Rows.mungeTellsSpec.post enc Try.prog Try.f3 false true false false) := by
  refine returnsInHanded_of_change (C := Try.checked) own started (by kernel_rfl) Try.func3
    (ChangeSpec.witness6 (enc := enc) (C := Try.checked) false ⟨#[], #[.agg #[.bool false, .int .i64 0, .int .i64 0, .int .u16 0, .int .u32 0, .int .u16 0, .int .u8 0, .int .u16 0, .int .u32 0, .int .u16 0, .int .u8 0], .agg #[.int .i64 0, .int .u16 0, .int .u32 0, .int .u16 0, .int .u8 0, .int .u32 0, .bool false]], []⟩ 8 (by kernel_rfl) (by kernel_rfl) (by kernel_rfl) (by kernel_rfl)) ?_
  intro W base args ds gs before hval0 hW _ _
  have hval : ∀ (j : Nat) t v, Try.f3.params[j]? = some t → args[j]? = some v → Value.okWide Try.prog W .any base t v := hval0
  have hW' := hW
  obtain ⟨p, q, hA0, hV, _, _, _⟩ := hW
  have hA : DataW.TrodAll enc Try.prog W 0 (fun _ => true) true Try.f3.params.toList args.toList ds p := hA0
  rw [Try.params3] at hA hval
  obtain ⟨v0, vs0, d0, ds0, p0, q0, hargs, rfl, _, h0, r0⟩ := trodAll_cons hA
  obtain ⟨v1, vs1, d1, ds1, p1, q1, rfl, rfl, _, h1, r1⟩ := trodAll_cons r0
  obtain ⟨rfl, rfl, _⟩ := trodAll_nil r1
  obtain rfl : args = #[v0, v1] := by cases args; simp_all
  obtain ⟨rfl, _⟩ := trodVars_none hV
  refine law_post (s := Rows.mungeTellsSpec) rfl rfl (by rw [Try.params3]; intro t ht; simp at ht; rcases ht with rfl | rfl <;> exact ⟨by kernel_rfl, of_decide_eq_true (by kernel_rfl)⟩) rfl hW' ?_
  obtain ⟨s0, rfl, hs0⟩ := open_state (hval 0 27 v0 rfl rfl) h0
  obtain ⟨k1, rfl, hk1⟩ := open_step (hval 1 29 v1 rfl rfl) h1
  exact walk W s0 hs0 k1 hk1

theorem over : Rows.mungeTellsRow.holds Try.pinned (OpenSpec.ofChange Rows.mungeTellsSpec) :=
  OpenClaim.holds_of_wide 3 Try.f3 rfl rfl rfl rfl rfl rfl rfl ⟨rfl, rfl, rfl, rfl, rfl⟩ rfl rfl rfl rfl rfl (by kernel_rfl) Try.func3 (by kernel_rfl)
    (of_decide_eq_true (by kernel_rfl)) (by unfold Func.isWrapper; first | (rw [if_pos (by decide +kernel)]; kernel_rfl) | (rw [if_neg (by decide +kernel)]; exact ⟨rfl, rfl⟩))
    (fun os started H enc _ => lifted os started H enc)

/-- The statement. -/
theorem mungeTells_holds : Rows.MungeTellsSaid := over

end Go.Proofs.Ytpemikncbolkbaa.UTells
