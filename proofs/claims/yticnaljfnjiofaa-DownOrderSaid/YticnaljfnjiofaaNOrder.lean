/-
  Proved: DownOrder returns true for every number and time to begin with, and every row of packets. Conditions: none.
-/
import Derived.Test.YticnaljfnjiofaaDnA
import Derived.Test.YticnaljfnjiofaaDnF
import Derived.Test.YticnaljfnjiofaaGli
import Derived.Deep.CutBlock
import Derived.Deep.DeepCutAuto
import Derived.Test.YticnaljfnjiofaaGdn
import Derived.Test.YticnaljfnjiofaaVpJ
namespace Go.Proofs.Yticnaljfnjiofaa.NOrder
open Go.ChangeShapes Go.WideShapes Go.ChangeAt Go.RowKit
set_option linter.unusedSimpArgs false
set_option linter.unusedVariables false
set_option maxRecDepth 100000

theorem parse_short_len {b : List UInt8} {q : Mp} (h : parseP b = (q, 0)) : b.length ≤ 140737488355328 := by
  by_cases hb : 1500 < b.length
  · unfold parseP at h
    rw [if_pos hb] at h
    exact absurd (show (13 : Int) = 0 from congrArg Prod.snd h) (by decide)
  · omega
set_option maxHeartbeats 6400000 in
theorem walk (w : World) (fri : Int) (hw1 : (Lit.int .u16 fri).wf = true) (tmi : Int) (hw2 : (Lit.int .u32 tmi).wf = true) (A : Option Addr) (c : Nat) (l : List Sa) (hl : l.length ≤ maxLen) (hr : Row w w.heap.size 15 A l.length (rowC Sa.cells l)) (ho : ∀ a ∈ l, a.q.Ok w) :
    Calls Try.prog 4 #[.int .u16 fri, .int .u32 tmi, .slice A l.length c] w fun e w' => e = .returned (.bool true) ∧ Below w.heap.size w w' := by
  have hf1 := wf_u16 hw1
  have hf2 := wf_u32 hw2
  clear hw1 hw2
  obtain ⟨fr, rfl⟩ : ∃ x : Nat, fri = (x : Int) := ⟨fri.toNat, by omega⟩
  obtain ⟨tm, rfl⟩ : ∃ x : Nat, tmi = (x : Int) := ⟨tmi.toNat, by omega⟩
  obtain ⟨n, hn⟩ : ∃ n, l.length = n := ⟨_, rfl⟩
  have CF := fun w' hb => few_any A c l w w' hb hl hr ho
  rw [hn] at hr CF ⊢
  have HR := Lib.hid (fun (h0 : 0 < n) => row_at Sa.cells_length hr h0)
  have HO := Lib.hid ho
  have HN := Lib.hid hn
  have hl63 : n ≤ 9223372036854775807 := by rw [← hn]; exact hl
  have CF := Lib.hid CF
  clear hr ho hn hl
  have CN := Lib.hid (fun w => dnew_any 5 200 (by decide) (by decide) (by decide) w)
  go_enter Try.func4, Try.ntmps4
  go_wp2_with fail
  refine (awake_any w).mono ?_
  rintro e wa ⟨rfl, ba⟩
  have HBA := Lib.hid ba
  clear ba
  go_wp2_with fail
  refine (CF.out wa HBA.out).mono ?_
  rintro e wb ⟨rfl, bb⟩
  have HB0 := Lib.hid (HBA.out.trans (bb.mono HBA.out.size))
  clear bb HBA CF
  by_cases hfew : fewS l = false
  · rw [hfew]
    clear hfew
    go_wp2_with fail
    go_ret
    exact ⟨rfl, HB0.out⟩
  have hfew : fewS l = true := by simpa using hfew
  rw [hfew]
  have hfw := hfew
  unfold fewS at hfw
  rw [Bool.and_eq_true] at hfw
  have hn120 : n ≤ 120 := by have := hfw.2; rw [HN.out] at this; simpa using this
  have HFS : Hid (∀ a ∈ l, a.q.pay.length ≤ 200 ∧ a.q.h.csrc.length ≤ 20 ∧ a.q.h.ps.length ≤ 20) := Lib.hid (fun a ha => by have h := List.all_eq_true.1 hfw.1 a ha; unfold Sa.small at h; simp at h; omega)
  clear hfw hfew
  go_wp2_with fail
  refine (CN.out wb).mono ?_
  rintro e w1 ⟨g, S0, rfl, d1, hs1, b1⟩
  have HD1 := Lib.hid d1
  have HSG1 := Lib.hid (fun k h => Nat.le_trans HB0.out.size (hs1 k h))
  have HB1 := Lib.hid (HB0.out.trans (b1.mono HB0.out.size))
  clear d1 hs1 b1 CN HB0
  go_wp2_with fail
  go_loopw [10, 11, 12, 13, 14] (fun an pa sq la i wr => ∃ k : Nat, k ≤ n ∧ i = .int .i64 (k : Int) ∧ ∃ (av pv : Bool) (sv lv : Int), an = .bool av ∧ pa = .bool pv ∧ sq = .int .u16 sv ∧ la = .int .u32 lv ∧ ((Dn.new 5 200).run (ordL fr tm 0 (l.take k))).Row fr k av pv sv lv ∧ ∃ S, DnAt wr g S ((Dn.new 5 200).run (ordL fr tm 0 (l.take k))) ∧ (∀ k, S k → w.heap.size ≤ k) ∧ Below w.heap.size w wr) (fun _ _ _ _ i _ => n - (intOf i).toNat)
  case atStart => exact ⟨0, Nat.zero_le _, rfl, false, true, 0, 0, rfl, rfl, rfl, rfl, Dn.Row.start, S0, HD1.out, HSG1.out, HB1.out⟩
  case round =>
    obtain ⟨k, hk, rfl, av, pv, se, la, rfl, rfl, rfl, rfl, hrow, S, hd, hsg, hb⟩ := hrel
    have HB := Lib.hid hb
    clear hb HD1 HSG1 HB1
    by_cases hlt : k < n
    · obtain ⟨g0, o, rfl, hg, hc⟩ := HR.out (by omega)
      obtain ⟨a, ha⟩ : ∃ a, l[k]? = some a := ⟨l[k]'(by rw [HN.out]; exact hlt), by simp⟩
      have e := fun j v hj => hc wr HB.out k a j v ha hj
      have r0 := e 0 _ rfl
      have r1 := e 1 _ rfl
      have r2 := e 2 _ rfl
      have r3 := e 3 _ rfl
      have r4 := e 4 _ rfl
      have r5 := e 5 _ rfl
      have r6 := e 6 _ rfl
      have r7 := e 7 _ rfl
      have r8 := e 8 _ rfl
      have r9 := e 9 _ rfl
      have r10 := e 10 _ rfl
      have r11 := e 11 _ rfl
      have r12 := e 12 _ rfl
      have r13 := e 13 _ rfl
      have r14 := e 14 _ rfl
      rw [Nat.add_zero] at r0
      have i1 : (0 : Int) ≤ (k : Int) := by omega
      have i2 : (k : Int) < (n : Int) := by omega
      clear e hc
      have HAM := Lib.hid (List.mem_of_getElem? ha)
      have HAT := Lib.hid ha
      clear ha
      obtain ⟨D, hD⟩ : ∃ D, (Dn.new 5 200).run (ordL fr tm 0 (l.take k)) = D := ⟨_, rfl⟩
      rw [hD] at hd hrow
      have hok' : ∀ b ∈ l.take k, b.q.Ok w := fun b hb => HO.out b (List.mem_of_mem_take hb)
      have hfit := ordL_fit fr tm (l.take k) hok' 0
      have hlen : (ordL fr tm 0 (l.take k)).length = k := by rw [ordL_length, List.length_take, HN.out]; omega
      have hok := Dn.run_ok (ssrc := 5) (room := 200) (by decide) _ hfit (by omega)
      have hfw := (Dn.run_few (ssrc := 5) (room := 200) _ hfit).2.2.2
      rw [hD] at hok hfw
      have HFEW := Lib.hid hok
      have HFIT := Lib.hid hfw
      have hnx : (Dn.new 5 200).run (ordL fr tm 0 (l.take (k + 1))) = D.next (ordA fr tm k a).x := by rw [ordL_step HAT.out, Dn.run_append, hD]; rfl
      have HOA := Lib.hid (ordA_fit (fr := fr) (tm := tm) (i := k) (HO.out a HAM.out))
      have hqu := Lib.hid (fun h => hrow.quiet (fr := fr) (tm := tm) (a := a) h)
      have hse := Lib.hid (fun h => hrow.sends (fr := fr) (tm := tm) (a := a) h (Pq.fit HOA.out) HFIT.out HFEW.out.2.1)
      have HD := Lib.hid hd
      have HSG := Lib.hid hsg
      have HNX := Lib.hid hnx
      have HROW := Lib.hid hrow
      have hlt1 := HD.out.lt
      have HLT := Lib.hid hlt1
      clear hd hsg hnx hfit hlen hok hlt1 hrow hok' hfw hD
      obtain ⟨sq, hsq⟩ : ∃ x, (((fr + k) % 65536 : Nat) : Int) = x := ⟨_, rfl⟩
      obtain ⟨tq, htq⟩ : ∃ x, (((tm + k / 2 * 900) % 4294967296 : Nat) : Int) = x := ⟨_, rfl⟩
      have es : IntKind.u16.wrap ((fr : Int) + (k : Int)) = sq := by rw [← hsq, wrap_u16]; omega
      have et : ((tm : Int) + (k : Int) / 2 * 900) % 4294967296 = tq := by rw [← htq]; omega
      go_wp2_with fail
      obtain ⟨wz, hwz⟩ : ∃ z, z = wr.alloc (.cells #[.bool a.q.h.mark, .int .u8 (a.q.h.typ : Int), .int .u16 sq, .int .u32 tq, .int .u32 (a.q.h.ssrc : Int), .slice a.q.h.A1 a.q.h.csrc.length a.q.h.c1, .slice a.q.h.A2 a.q.h.ps.length a.q.h.c2, .slice a.q.A3 a.q.pay.length a.q.c3, .int .i64 a.q.pad, .int .i64 a.src, .int .i64 a.lay, .int .i64 a.want.src, .int .i64 a.want.lay, .int .i64 a.want.tid, .bool a.muted] 39) := ⟨_, rfl⟩
      have HX := Lib.hid (show Whole wz wr.heap.size 39 #[.bool a.q.h.mark, .int .u8 (a.q.h.typ : Int), .int .u16 sq, .int .u32 tq, .int .u32 (a.q.h.ssrc : Int), .slice a.q.h.A1 a.q.h.csrc.length a.q.h.c1, .slice a.q.h.A2 a.q.h.ps.length a.q.h.c2, .slice a.q.A3 a.q.pay.length a.q.c3, .int .i64 a.q.pad, .int .i64 a.src, .int .i64 a.lay, .int .i64 a.want.src, .int .i64 a.want.lay, .int .i64 a.want.tid, .bool a.muted] from by rw [hwz]; exact Whole.new wr _ _)
      have bz : Below wr.heap.size wr wz := by rw [hwz]; exact (Below.refl _ _).alloc (Nat.le_refl _) _
      have HBZ := Lib.hid (HB.out.trans (bz.mono HB.out.size))
      (try rw [es])
      rw [← hwz]
      clear hwz es et r0 r1 r2 r3 r4 r5 r6 r7 r8 r9 r10 r11 r12 r13 r14
      have CT : Calls Try.prog 12 #[.pointer (some ⟨g, 0, none⟩), .agg #[.bool a.q.h.mark, .int .u8 (a.q.h.typ : Int), .int .u16 sq, .int .u32 tq, .int .u32 (a.q.h.ssrc : Int), .slice a.q.h.A1 a.q.h.csrc.length a.q.h.c1, .slice a.q.h.A2 a.q.h.ps.length a.q.h.c2, .slice a.q.A3 a.q.pay.length a.q.c3, .int .i64 a.q.pad], .int .i64 0, .int .i64 0, .agg #[.int .i64 a.want.src, .int .i64 a.want.lay, .int .i64 a.want.tid], .bool a.muted] wz (DTold D (ordA fr tm k a).x g S wz) := by rw [← hsq, ← htq]; exact dtake_any D (ordA fr tm k a) g S wz (HD.out.next bz) HFEW.out (Pq.Ok.at HOA.out HBZ.out HSG.out (show a.q.pay.length ≤ 100000 from by have := (HFS.out a HAM.out).1; omega))
      unfold DTold at CT
      obtain ⟨D', hD'⟩ : ∃ x, D.next (ordA fr tm k a).x = x := ⟨_, rfl⟩
      obtain ⟨tb, htb⟩ : ∃ x, D.told (ordA fr tm k a).x = x := ⟨_, rfl⟩
      obtain ⟨ib, hib⟩ : ∃ x, D.is (ordA fr tm k a).x = x := ⟨_, rfl⟩
      obtain ⟨kb, hkb⟩ : ∃ x, D.asks (ordA fr tm k a).x = x := ⟨_, rfl⟩
      rw [hD', htb, hib, hkb] at CT
      rw [hD'] at HNX hqu hse
      rw [hib] at hqu hse
      rw [htb] at hse
      clear hD' htb hib hkb bz hsq htq
      have CT := Lib.hid CT
      refine CT.out.mono ?_
      rintro e w2 ⟨A2, c2, S2, rfl, d2, r2, q2, q2', k2, n2⟩
      have HD2 := Lib.hid d2
      have HR2 := Lib.hid r2
      have HB2 := Lib.hid (HBZ.out.trans (k2.below HBZ.out.size (fun k hk h => Nat.not_lt_of_le (HSG.out k h) hk)))
      have HX2 := Lib.hid (HX.out.but k2 (fun h => Nat.lt_irrefl _ (HLT.out _ h)))
      have HSG2 : Hid (∀ k, S2 k → w.heap.size ≤ k) := Lib.hid (fun j h => (Nat.lt_or_ge j wz.heap.size).elim (fun hj => HSG.out j (n2 j hj h)) (fun hj => Nat.le_trans HBZ.out.size hj))
      have hql : tb.length ≤ c2 := q2
      have HC2 := Lib.hid q2'
      have HC1 := Lib.hid q2
      clear d2 r2 k2 n2 q2 q2' CT HD HX HBZ HSG HLT HFEW hql
      have x7 := HX2.out.cell 7
      have x14 := HX2.out.cell 14
      cases ib with
      | false =>
        have hq := hqu.out rfl
        obtain ⟨ms, hms⟩ : ∃ m, a.muted = m := ⟨_, rfl⟩
        rw [hms] at x14 hq
        have HQ1 := Lib.hid hq
        clear hq hqu hse
        cases ms with
        | true =>
          go_wp2_with fail
          go_roundw
          case rel => exact ⟨k + 1, by omega, by go_num, av, true, se, la, rfl, rfl, rfl, rfl, by rw [HNX.out]; exact (by have h := HQ1.out; rw [Bool.or_true] at h; exact h), S2, by rw [HNX.out]; exact HD2.out, HSG2.out, HB2.out⟩
          case measure => simp [intOf]; omega
        | false =>
          go_wp2_with fail
          go_roundw
          case rel => exact ⟨k + 1, by omega, by go_num, av, pv, se, la, rfl, rfl, rfl, rfl, by rw [HNX.out]; exact (by have h := HQ1.out; rw [Bool.or_false] at h; exact h), S2, by rw [HNX.out]; exact HD2.out, HSG2.out, HB2.out⟩
          case measure => simp [intOf]; omega
      | true =>
        obtain ⟨q, hp, qs, qt, hmu, h1, h2, hrw⟩ := hse.out rfl
        rw [hmu] at x14
        have HRW := Lib.hid hrw
        have CP := rparse_any A2 c2 tb w2 HR2.out HC1.out HC2.out (parse_short_len hp)
        rw [hp] at CP
        unfold RParsed at CP
        obtain ⟨ys, hys⟩ : ∃ y, (q.seq : Int) = y := ⟨_, rfl⟩
        obtain ⟨yt, hyt⟩ : ∃ y, (q.time : Int) = y := ⟨_, rfl⟩
        rw [hys] at h1
        rw [hyt] at h1
        rw [hys, hyt] at HRW
        have hyb : 0 ≤ ys ∧ ys < 65536 := by omega
        have hytb : 0 ≤ yt ∧ yt < 4294967296 := by omega
        have HYS := Lib.hid hys
        have HYT := Lib.hid hyt
        have CP := Lib.hid CP
        have CW := fun w' (b : Below w.heap.size w w') => whole_any a.q.A3 a.q.c3 a.q.pay w' (((HO.out a HAM.out).row.below b (Nat.le_refl _)).more b.size) (show a.q.pay.length ≤ 100000 from by have := (HFS.out a HAM.out).1; omega)
        unfold WholeTold at CW
        have CW := Lib.hid CW
        have H2 := Lib.hid h2
        clear hp qs qt hmu h2 hrw hqu hse hys hyt
        go_wp2_with fail
        refine CP.out.mono ?_
        rintro e w3 ⟨A1, c1, B2, d2, A3, c3, ps, rfl, _, _, _, _, b3⟩
        dsimp only [Mp.cells]
        rw [HYS.out, HYT.out]
        have HD3 := Lib.hid (HD2.out.next b3)
        have HB3 := Lib.hid (HB2.out.trans (b3.mono HB2.out.size))
        have HX3 := Lib.hid (HX2.out.below b3 HX2.out.lt)
        clear b3 CP HD2 HB2 HX2 HR2 x7 x14
        obtain ⟨Q9, hQ9⟩ : ∃ z, (#[.bool q.mark, .int .u8 (q.typ : Int), .int .u16 ys, .int .u32 yt, .int .u32 (q.ssrc : Int), .slice A1 q.csrc.length c1, .slice B2 q.exts.length d2, .slice A3 q.pay.length c3, .int .i64 q.pad] : Array Value) = z := ⟨_, rfl⟩
        have HD4 := Lib.hid (fun (o : Obj) => HD3.out.next ((Below.refl w3.heap.size w3).alloc (Nat.le_refl _) o))
        have HB4 := Lib.hid (fun (o : Obj) => HB3.out.alloc HB3.out.size o)
        have HX4 := Lib.hid (fun (o : Obj) => HX3.out.alloc o)
        clear hQ9
        obtain ⟨w4, hw4⟩ : ∃ z, z = w3.alloc (.cells #[.bool q.mark, .int .u8 (q.typ : Int), .int .u16 ys, .int .u32 yt, .int .u32 (q.ssrc : Int), .slice A1 q.csrc.length c1, .slice B2 q.exts.length d2, .slice A3 q.pay.length c3, .int .i64 q.pad] 35) := ⟨_, rfl⟩
        have HD5 := Lib.hid (show DnAt w4 g S2 D' from by rw [hw4]; exact HD4.out _)
        have HB5 := Lib.hid (show Below w.heap.size w w4 from by rw [hw4]; exact HB4.out _)
        have HX5 := Lib.hid (by rw [hw4]; exact HX4.out _ : Whole w4 wr.heap.size 39 #[.bool a.q.h.mark, .int .u8 (a.q.h.typ : Int), .int .u16 sq, .int .u32 tq, .int .u32 (a.q.h.ssrc : Int), .slice a.q.h.A1 a.q.h.csrc.length a.q.h.c1, .slice a.q.h.A2 a.q.h.ps.length a.q.h.c2, .slice a.q.A3 a.q.pay.length a.q.c3, .int .i64 a.q.pad, .int .i64 a.src, .int .i64 a.lay, .int .i64 a.want.src, .int .i64 a.want.lay, .int .i64 a.want.tid, .bool a.muted])
        have HP5 := Lib.hid (show Whole w4 w3.heap.size 35 _ from by rw [hw4]; exact Whole.new w3 _ _)
        go_upto_region 23 with fail
        rw [← hw4]
        clear hw4 HD3 HB3 HX3 HD4 HB4 HX4
        have y2 := HP5.out.cell 2
        have y3 := HP5.out.cell 3
        have z7 := HX5.out.cell 7
        cases av with
        | true =>
          obtain ⟨g1, g2⟩ := h1 rfl
          have CL := Lib.hid (less32_any yt la w4)
          rw [g2] at CL
          have e1 : (ys != IntKind.u16.wrap (se + 1)) = false := by rw [wrap_u16, ← g1]; simp
          have e2 : (ys != (se + 1) % 65536) = false := by rw [← g1]; simp
          clear h1 g1 g2
          go_wp2_with fail
          refine CL.out.mono ?_
          rintro e w6 ⟨rfl, b6⟩
          have HD6 := Lib.hid (HD5.out.next b6)
          have HB6 := Lib.hid (HB5.out.trans (b6.mono HB5.out.size))
          have HX6 := Lib.hid (HX5.out.below b6 HX5.out.lt)
          have HP6 := Lib.hid (HP5.out.below b6 HP5.out.lt)
          clear b6 HD5 HB5 HX5 HP5 y2 y3 z7
          have y2 := HP6.out.cell 2
          have y3 := HP6.out.cell 3
          have z7 := HX6.out.cell 7
          cases pv with
          | true =>
            have CW2 := CW.out _ HB6.out
            rw [H2.out rfl] at CW2
            have CW2 := Lib.hid CW2
            clear CW H2
            go_wp2_with fail
            refine CW2.out.mono ?_
            rintro e w7 ⟨rfl, b7⟩
            have HD7 := Lib.hid (HD6.out.next b7)
            have HB7 := Lib.hid (HB6.out.trans (b7.mono HB6.out.size))
            have HX7 := Lib.hid (HX6.out.below b7 HX6.out.lt)
            have HP7 := Lib.hid (HP6.out.below b7 HP6.out.lt)
            clear b7 HD6 HB6 HX6 HP6 y2 y3 z7
            have y2 := HP7.out.cell 2
            have y3 := HP7.out.cell 3
            have z7 := HX7.out.cell 7
            go_wp2_with fail
            go_roundw
            case rel => exact ⟨k + 1, by omega, by go_num, true, false, ys, yt, rfl, rfl, rfl, rfl, by rw [HNX.out]; exact HRW.out, S2, by rw [HNX.out]; exact HD7.out, HSG2.out, HB7.out⟩
            case measure => simp [intOf]; omega
          | false =>
            clear CW H2
            go_wp2_with fail
            go_roundw
            case rel => exact ⟨k + 1, by omega, by go_num, true, false, ys, yt, rfl, rfl, rfl, rfl, by rw [HNX.out]; exact HRW.out, S2, by rw [HNX.out]; exact HD6.out, HSG2.out, HB6.out⟩
            case measure => simp [intOf]; omega
        | false =>
          clear h1
          cases pv with
          | true =>
            have CW2 := CW.out _ HB5.out
            rw [H2.out rfl] at CW2
            have CW2 := Lib.hid CW2
            clear CW H2
            go_wp2_with fail
            refine CW2.out.mono ?_
            rintro e w6 ⟨rfl, b6⟩
            have HD6 := Lib.hid (HD5.out.next b6)
            have HB6 := Lib.hid (HB5.out.trans (b6.mono HB5.out.size))
            have HX6 := Lib.hid (HX5.out.below b6 HX5.out.lt)
            have HP6 := Lib.hid (HP5.out.below b6 HP5.out.lt)
            clear b6 HD5 HB5 HX5 HP5 y2 y3 z7
            have y2 := HP6.out.cell 2
            have y3 := HP6.out.cell 3
            have z7 := HX6.out.cell 7
            go_wp2_with fail
            go_roundw
            case rel => exact ⟨k + 1, by omega, by go_num, true, false, ys, yt, rfl, rfl, rfl, rfl, by rw [HNX.out]; exact HRW.out, S2, by rw [HNX.out]; exact HD6.out, HSG2.out, HB6.out⟩
            case measure => simp [intOf]; omega
          | false =>
            clear CW H2
            go_wp2_with fail
            go_roundw
            case rel => exact ⟨k + 1, by omega, by go_num, true, false, ys, yt, rfl, rfl, rfl, rfl, by rw [HNX.out]; exact HRW.out, S2, by rw [HNX.out]; exact HD5.out, HSG2.out, HB5.out⟩
            case measure => simp [intOf]; omega
    · obtain rfl : k = n := by omega
      go_wp2_with fail
      go_ret
      exact ⟨rfl, HB.out⟩

set_option maxRecDepth 100000 in
theorem lifted (os : Os) (started : os.Started) (H : Type) (enc : TypeId × Value → H) :
    ReturnsInHanded {} Try.checked os 4 .any (Rows.downOrderSpec.pre6 enc Try.prog Try.f4 Rows.downOrderRow.domain false) (Rows.downOrderSpec.post enc Try.prog Try.f4 false true false false) := by
  refine returnsInHanded_of_change (C := Try.checked) own started (by kernel_rfl) Try.func4
    (ChangeSpec.witness6 (enc := enc) (C := Try.checked) false ⟨#[], #[.int .u16 0, .int .u32 0, .slice none 0 0], []⟩ 8 (by kernel_rfl) (by kernel_rfl) (by kernel_rfl) (by kernel_rfl)) ?_
  intro W base args ds gs before hval0 hW _ _
  have hval : ∀ (j : Nat) t v, Try.f4.params[j]? = some t → args[j]? = some v → Value.okWide Try.prog W .any base t v := hval0
  have hW' := hW
  obtain ⟨p, q, hA0, hV, _, _, _⟩ := hW
  have hA : DataW.TrodAll enc Try.prog W 0 (fun _ => true) true Try.f4.params.toList args.toList ds p := hA0
  rw [Try.params4] at hA hval
  obtain ⟨v0, vs0, d0, ds0, p0, q0, hargs, rfl, _, h0, r0⟩ := trodAll_cons hA
  obtain ⟨v1, vs1, d1, ds1, p1, q1, rfl, rfl, _, h1, r1⟩ := trodAll_cons r0
  obtain ⟨v2, vs2, d2, ds2, p2, q2, rfl, rfl, _, h2, r2⟩ := trodAll_cons r1
  obtain ⟨rfl, rfl, _⟩ := trodAll_nil r2
  obtain rfl : args = #[v0, v1, v2] := by cases args; simp_all
  obtain ⟨rfl, _⟩ := trodVars_none hV
  refine law_post (s := Rows.downOrderSpec) rfl rfl (by rw [Try.params4]; intro t ht; simp at ht; rcases ht with rfl | rfl | rfl <;> exact ⟨by kernel_rfl, of_decide_eq_true (by kernel_rfl)⟩) rfl hW' ?_
  obtain ⟨a0, rfl, _, _, w0⟩ := open_int Try.underlying28 (hval 0 28 v0 rfl rfl) h0
  obtain ⟨a1, rfl, _, _, w1⟩ := open_int Try.underlying22 (hval 1 22 v1 rfl rfl) h1
  obtain ⟨A2, c2, l2, rfl, hl2, hr2, ho2⟩ := open_steps (hval 2 23 v2 rfl rfl) h2
  exact walk W a0 w0 a1 w1 A2 c2 l2 hl2 hr2 ho2

theorem over : Rows.downOrderRow.holds Try.pinned (OpenSpec.ofChange Rows.downOrderSpec) :=
  OpenClaim.holds_of_wide 4 Try.f4 rfl rfl rfl rfl rfl rfl rfl ⟨rfl, rfl, rfl, rfl, rfl⟩ rfl rfl rfl rfl rfl (by kernel_rfl) Try.func4 (by kernel_rfl)
    (of_decide_eq_true (by kernel_rfl)) (by unfold Func.isWrapper; first | (rw [if_pos (by decide +kernel)]; kernel_rfl) | (rw [if_neg (by decide +kernel)]; exact ⟨rfl, rfl⟩))
    (fun os started H enc _ => lifted os started H enc)

/-- The statement. -/
theorem downOrder_holds : Rows.DownOrderSaid := over

end Go.Proofs.Yticnaljfnjiofaa.NOrder
