/-
  Proved: DownSame returns true for every SSRC, and every row of packets. Conditions: none.
-/
import Derived.Test.YticnaljfnjiofaaDnA
import Derived.Test.YticnaljfnjiofaaDnF
import Derived.Test.YticnaljfnjiofaaGli
import Derived.Deep.CutBlock
import Derived.Deep.DeepCutAuto
import Derived.Test.YticnaljfnjiofaaGdn
import Derived.Test.YticnaljfnjiofaaDnP
import Derived.Test.YticnaljfnjiofaaDnS
import Derived.Test.YticnaljfnjiofaaGvi
import Derived.Test.YticnaljfnjiofaaGvk
import Derived.Deep.QuietTactic
import Derived.BigQuiet
namespace Go.Proofs.Yticnaljfnjiofaa.NSame
open Go.ChangeShapes Go.WideShapes Go.ChangeAt Go.RowKit
set_option linter.unusedSimpArgs false
set_option linter.unusedVariables false
set_option maxRecDepth 100000

set_option maxHeartbeats 6400000 in
theorem walk (w : World) (ssi : Int) (hw : (Lit.int .u32 ssi).wf = true) (A : Option Addr) (c : Nat) (l : List Sa) (hl : l.length ≤ maxLen) (hr : Row w w.heap.size 15 A l.length (rowC Sa.cells l)) (ho : ∀ a ∈ l, a.q.Ok w) :
    Calls Try.prog 3 #[.int .u32 ssi, .slice A l.length c] w fun e w' => e = .returned (.bool true) ∧ Below w.heap.size w w' := by
  have hf := wf_u32 hw
  clear hw
  obtain ⟨ss, rfl⟩ : ∃ x : Nat, ssi = (x : Int) := ⟨ssi.toNat, by omega⟩
  have hss : ss < 4294967296 := by omega
  obtain ⟨n, hn⟩ : ∃ n, l.length = n := ⟨_, rfl⟩
  have CF := fun w' hb => few_any A c l w w' hb hl hr ho
  rw [hn] at hr CF ⊢
  have HR := Lib.hid (fun (h0 : 0 < n) => row_at Sa.cells_length hr h0)
  have HO := Lib.hid ho
  have HN := Lib.hid hn
  have hl63 : n ≤ 9223372036854775807 := by rw [← hn]; exact hl
  have CF := Lib.hid CF
  clear hr ho hn hl
  have CN := Lib.hid (fun w => dnew_any ss 200 hss (by decide) (by decide) w)
  go_enter Try.func3, Try.ntmps3
  go_wp2_with fail
  refine (awake_any w).mono ?_
  rintro e wa ⟨rfl, ba⟩
  have HBA := Lib.hid ba
  clear ba
  go_wp2_with fail
  refine (CF.out wa HBA.out).mono ?_
  rintro e wb ⟨rfl, bb⟩
  have HB0 := Lib.hid (HBA.out.trans (bb.mono HBA.out.size))
  clear bb HBA CF
  by_cases hfew : fewS l = false
  · rw [hfew]
    clear hfew
    go_wp2_with fail
    go_ret
    exact ⟨rfl, HB0.out⟩
  have hfew : fewS l = true := by simpa using hfew
  rw [hfew]
  have hfw := hfew
  unfold fewS at hfw
  rw [Bool.and_eq_true] at hfw
  have hn120 : n ≤ 120 := by have := hfw.2; rw [HN.out] at this; simpa using this
  have HFS : Hid (∀ a ∈ l, a.q.pay.length ≤ 200 ∧ a.q.h.csrc.length ≤ 20 ∧ a.q.h.ps.length ≤ 20) := Lib.hid (fun a ha => by have h := List.all_eq_true.1 hfw.1 a ha; unfold Sa.small at h; simp at h; omega)
  clear hfw hfew
  go_wp2_with fail
  refine (CN.out wb).mono ?_
  rintro e w1 ⟨g, S0, rfl, d1, hs1, b1⟩
  have HD1 := Lib.hid d1
  have HSG1 := Lib.hid (fun k h => Nat.le_trans HB0.out.size (hs1 k h))
  have HB1 := Lib.hid (HB0.out.trans (b1.mono HB0.out.size))
  clear d1 hs1 b1 CN HB0
  go_wp2_with fail
  go_loopw [8] (fun i wr => ∃ k : Nat, k ≤ n ∧ i = .int .i64 (k : Int) ∧ ∃ S, DnAt wr g S ((Dn.new ss 200).run ((l.take k).map Sa.x)) ∧ (∀ k, S k → w.heap.size ≤ k) ∧ Below w.heap.size w wr) (fun i _ => n - (intOf i).toNat)
  case atStart => exact ⟨0, Nat.zero_le _, rfl, S0, HD1.out, HSG1.out, HB1.out⟩
  case round =>
    obtain ⟨k, hk, rfl, S, hd, hsg, hb⟩ := hrel
    have HB := Lib.hid hb
    clear hb HD1 HSG1 HB1
    by_cases hlt : k < n
    · obtain ⟨g0, o, rfl, hg, hc⟩ := HR.out (by omega)
      obtain ⟨a, ha⟩ : ∃ a, l[k]? = some a := ⟨l[k]'(by rw [HN.out]; exact hlt), by simp⟩
      have e := fun j v hj => hc wr HB.out k a j v ha hj
      have r0 := e 0 _ rfl
      have r1 := e 1 _ rfl
      have r2 := e 2 _ rfl
      have r3 := e 3 _ rfl
      have r4 := e 4 _ rfl
      have r5 := e 5 _ rfl
      have r6 := e 6 _ rfl
      have r7 := e 7 _ rfl
      have r8 := e 8 _ rfl
      have r9 := e 9 _ rfl
      have r10 := e 10 _ rfl
      have r11 := e 11 _ rfl
      have r12 := e 12 _ rfl
      have r13 := e 13 _ rfl
      have r14 := e 14 _ rfl
      rw [Nat.add_zero] at r0
      have i1 : (0 : Int) ≤ (k : Int) := by omega
      have i2 : (k : Int) < (n : Int) := by omega
      clear e hc
      have HAM := Lib.hid (List.mem_of_getElem? ha)
      have HAT := Lib.hid ha
      clear ha
      obtain ⟨D, hD⟩ : ∃ D, ((Dn.new ss 200).run ((l.take k).map Sa.x)) = D := ⟨_, rfl⟩
      rw [hD] at hd
      have hfit : ∀ y ∈ (l.take k).map Sa.x, y.p.Fit := by intro y hy; obtain ⟨z, hz, rfl⟩ := List.mem_map.1 hy; exact Pq.fit (HO.out z (List.mem_of_mem_take hz))
      have hlen : ((l.take k).map Sa.x).length = k := by rw [List.length_map, List.length_take, HN.out]; omega
      have hok := Dn.run_ok (ssrc := ss) (room := 200) hss _ hfit (by omega)
      have hrf := Dn.run_few (ssrc := ss) (room := 200) _ hfit
      rw [hD] at hok hrf
      have HFEW := Lib.hid hok
      have HSS := Lib.hid hrf.2.1
      have hnx : (Dn.new ss 200).run ((l.take (k + 1)).map Sa.x) = D.next a.x := by rw [List.take_add_one, HAT.out, Option.toList_some, List.map_append, Dn.run_append, hD]; rfl
      have HSAME := Lib.hid (fun h => Dn.sent_same (d := D) (x := a.x) h (Pq.fit (HO.out a HAM.out)) hrf.2.2.2 (by rw [hrf.2.1]; exact hss))
      have HNO := Lib.hid (show D.is a.x = false → D.told a.x = [] from fun h => by unfold Dn.is at h; unfold Dn.told; cases hc : (D.take a.x).2 with | none => rfl | some b => rw [hc] at h; cases h)
      have HD := Lib.hid hd
      have HSG := Lib.hid hsg
      have HNX := Lib.hid hnx
      have hlt1 := HD.out.lt
      have HLT := Lib.hid hlt1
      clear hd hsg hnx hfit hlen hok hlt1 hrf hD
      go_wp2_with fail
      obtain ⟨wz, hwz⟩ : ∃ z, z = wr.alloc (.cells #[.bool a.q.h.mark, .int .u8 (a.q.h.typ : Int), .int .u16 (a.q.h.seq : Int), .int .u32 (a.q.h.time : Int), .int .u32 (a.q.h.ssrc : Int), .slice a.q.h.A1 a.q.h.csrc.length a.q.h.c1, .slice a.q.h.A2 a.q.h.ps.length a.q.h.c2, .slice a.q.A3 a.q.pay.length a.q.c3, .int .i64 a.q.pad, .int .i64 a.src, .int .i64 a.lay, .int .i64 a.want.src, .int .i64 a.want.lay, .int .i64 a.want.tid, .bool a.muted] 39) := ⟨_, rfl⟩
      have HX := Lib.hid (show Whole wz wr.heap.size 39 #[.bool a.q.h.mark, .int .u8 (a.q.h.typ : Int), .int .u16 (a.q.h.seq : Int), .int .u32 (a.q.h.time : Int), .int .u32 (a.q.h.ssrc : Int), .slice a.q.h.A1 a.q.h.csrc.length a.q.h.c1, .slice a.q.h.A2 a.q.h.ps.length a.q.h.c2, .slice a.q.A3 a.q.pay.length a.q.c3, .int .i64 a.q.pad, .int .i64 a.src, .int .i64 a.lay, .int .i64 a.want.src, .int .i64 a.want.lay, .int .i64 a.want.tid, .bool a.muted] from by rw [hwz]; exact Whole.new wr _ _)
      have bz : Below wr.heap.size wr wz := by rw [hwz]; exact (Below.refl _ _).alloc (Nat.le_refl _) _
      have HBZ := Lib.hid (HB.out.trans (bz.mono HB.out.size))
      rw [← hwz]
      clear hwz r0 r1 r2 r3 r4 r5 r6 r7 r8 r9 r10 r11 r12 r13 r14
      have CT : Calls Try.prog 12 #[.pointer (some ⟨g, 0, none⟩), .agg #[.bool a.q.h.mark, .int .u8 (a.q.h.typ : Int), .int .u16 (a.q.h.seq : Int), .int .u32 (a.q.h.time : Int), .int .u32 (a.q.h.ssrc : Int), .slice a.q.h.A1 a.q.h.csrc.length a.q.h.c1, .slice a.q.h.A2 a.q.h.ps.length a.q.h.c2, .slice a.q.A3 a.q.pay.length a.q.c3, .int .i64 a.q.pad], .int .i64 a.src, .int .i64 a.lay, .agg #[.int .i64 a.want.src, .int .i64 a.want.lay, .int .i64 a.want.tid], .bool a.muted] wz (DTold D a.x g S wz) := dtake_any D a g S wz (HD.out.next bz) HFEW.out (Pq.Ok.at (HO.out a HAM.out) HBZ.out HSG.out (show a.q.pay.length ≤ 100000 from by have := (HFS.out a HAM.out).1; omega))
      unfold DTold at CT
      obtain ⟨D', hD'⟩ : ∃ x, D.next a.x = x := ⟨_, rfl⟩
      obtain ⟨tb, htb⟩ : ∃ x, D.told a.x = x := ⟨_, rfl⟩
      obtain ⟨ib, hib⟩ : ∃ x, D.is a.x = x := ⟨_, rfl⟩
      obtain ⟨kb, hkb⟩ : ∃ x, D.asks a.x = x := ⟨_, rfl⟩
      rw [hD', htb, hib, hkb] at CT
      rw [hD'] at HNX
      rw [hib, htb] at HSAME HNO
      rw [HSS.out] at HSAME
      clear hD' htb hib hkb bz
      have CT := Lib.hid CT
      refine CT.out.mono ?_
      rintro e w2 ⟨A2, c2, S2, rfl, d2, r2, q2, q2', k2, n2⟩
      have HD2 := Lib.hid d2
      have HR2 := Lib.hid r2
      have HB2 := Lib.hid (HBZ.out.trans (k2.below HBZ.out.size (fun k hk h => Nat.not_lt_of_le (HSG.out k h) hk)))
      have HX2 := Lib.hid (HX.out.but k2 (fun h => Nat.lt_irrefl _ (HLT.out _ h)))
      have HSG2 : Hid (∀ k, S2 k → w.heap.size ≤ k) := Lib.hid (fun j h => (Nat.lt_or_ge j wz.heap.size).elim (fun hj => HSG.out j (n2 j hj h)) (fun hj => Nat.le_trans HBZ.out.size hj))
      have HC1 := Lib.hid q2
      have HC2 := Lib.hid q2'
      have hzz := HBZ.out.size
      have hkz := k2.size
      have hwz0 := HB.out.size
      have hxl := HX2.out.lt
      clear d2 r2 k2 n2 q2 q2' CT HD HX HBZ HSG HLT HFEW HSS
      cases ib with
      | false =>
        have ht := HNO.out rfl
        subst ht
        rw [List.length_nil]
        clear HSAME HNO
        go_wp2_with fail
        go_roundw
        case rel => exact ⟨k + 1, by omega, by go_num, S2, by rw [HNX.out]; exact HD2.out, HSG2.out, HB2.out⟩
        case measure => simp [intOf]; omega
      | true =>
        obtain ⟨q, ds, de, r, hp, hqs, hmu, hp1, hp2, hpl, hback, hm, ht, hcs, hex, hpd, hqf⟩ := HSAME.out rfl
        have CP := rparse_cap A2 c2 tb w2 HR2.out HC1.out HC2.out (by by_cases hb : 1500 < tb.length; (unfold parseP at hp; rw [if_pos hb] at hp; exact absurd (show (13 : Int) = 0 from congrArg Prod.snd hp) (by decide)); omega)
        rw [hp] at CP
        have hmu' : a.muted = false := hmu
        have g1 := parse_rest hp1
        have g2 := parse_rest hp2
        have HL1 := Lib.hid (show a.q.pay.length ≤ 100000 from by have := (HFS.out a HAM.out).1; omega)
        have hpl' : q.pay.length = a.q.pay.length := hpl
        have CV1 := fun w' (b : Below w.heap.size w w') => (vparse_any a.q.A3 a.q.c3 a.q.pay w' (((HO.out a HAM.out).row.below b (Nat.le_refl _)).more b.size) HL1.out).mono fun _ _ h => told_eq h
        rw [pT_some (show parseS a.q.pay = some (ds, r) from hp1)] at CV1
        have CV2 := fun A c w' (h : Row w' w'.heap.size 1 A q.pay.length (u8s q.pay)) => (vparse_any A c q.pay w' h (by rw [hpl']; exact HL1.out)).mono fun _ _ h => told_eq h
        rw [pT_some hp2] at CV2
        obtain ⟨N1, hN1⟩ : ∃ x, a.q.pay.length - r.length = x := ⟨_, rfl⟩
        have hNN1 : (a.q.pay.length : Int) - (r.length : Int) = (N1 : Int) := by have := g1.1; have : a.x.p.pay.length = a.q.pay.length := rfl; omega
        have hNN2 : (q.pay.length : Int) - (r.length : Int) = (N1 : Int) := by rw [hpl']; exact hNN1
        rw [hNN1] at CV1
        rw [hNN2, hpl'] at CV2
        have HD1 := Lib.hid (show a.q.pay.drop N1 = r from by rw [← hN1]; exact g1.2)
        have HD2' := Lib.hid (show q.pay.drop N1 = r from by have := g2.2; rw [hpl'] at this; rw [← hN1]; exact this)
        have hle1 : N1 ≤ a.q.pay.length := by omega
        have HBK := Lib.hid hback
        have HHM := Lib.hid (show q.mark = a.q.h.mark from hm)
        have HHT := Lib.hid (show q.typ = a.q.h.typ from ht)
        have HHC := Lib.hid (show q.csrc = a.q.h.csrc from hcs)
        have HHE := Lib.hid (show q.exts = a.q.h.ps.map Ip.it from hex)
        have HHP := Lib.hid (show q.pad = a.q.pad from hpd)
        have CP := Lib.hid CP
        have CV1 := Lib.hid CV1
        have CV2 := Lib.hid CV2
        have HQS := Lib.hid hqs
        have HPL := Lib.hid hpl'
        have x14 := HX2.out.cell 14
        have x7 := HX2.out.cell 7
        clear hp hqs hmu hp1 hp2 hpl hpl' hback hm ht hcs hex hpd hqf g1 g2 hN1 hNN1 hNN2 HSAME HNO HC1 HC2
        go_wp2_with fail
        refine (CP.out).mono ?_
        rintro e w3 ⟨A1, c1, B1, d1, A3, c3, ps, rfl, hrc, hits, hpsq, hrp, b3, hcap⟩
        dsimp only [Mp.cells]
        rw [HPL.out] at hrp hcap
        rw [HHC.out] at hrc
        rw [HHE.out] at hpsq
        rw [HQS.out, HPL.out, HHM.out, HHT.out, HHC.out, HHE.out, HHP.out, List.length_map]
        have HCQ := Lib.hid hcap
        clear hcap
        have HRC3 := Lib.hid hrc
        have HIT3 := Lib.hid hits
        have HRP3 := Lib.hid hrp
        have HPS := Lib.hid hpsq
        have HDA := Lib.hid (HD2.out.next b3)
        clear hrc hits hpsq hrp
        have SX3 := (HX2.out).below b3 (by have := (HX2.out).lt; first | with_reducible exact this | simpa using this)
        have HB3 := Lib.hid ((HB2.out).trans (b3.mono (HB2.out).size))
        have lX3 := SX3.lt
        clear b3 x14 x7 HX2 HB2 CP
        have X3_0 := SX3.cell 0
        have X3_1 := SX3.cell 1
        have X3_2 := SX3.cell 2
        have X3_3 := SX3.cell 3
        have X3_4 := SX3.cell 4
        have X3_5 := SX3.cell 5
        have X3_6 := SX3.cell 6
        have X3_7 := SX3.cell 7
        have X3_8 := SX3.cell 8
        have X3_9 := SX3.cell 9
        have X3_10 := SX3.cell 10
        have X3_11 := SX3.cell 11
        have X3_12 := SX3.cell 12
        have X3_13 := SX3.cell 13
        have X3_14 := SX3.cell 14
        replace SX3 := Lib.hid SX3
        rw [hmu'] at X3_14
        go_wp2_with fail
        refine (CV1.out _ ((HB3.out.alloc (HB3.out).size (.cells #[.bool a.q.h.mark, .int .u8 (a.q.h.typ : Int), .int .u16 (q.seq : Int), .int .u32 (q.time : Int), .int .u32 (ss : Int), .slice A1 a.q.h.csrc.length c1, .slice B1 a.q.h.ps.length d1, .slice A3 a.q.pay.length c3, .int .i64 a.q.pad] 35)))).mono ?_
        rintro e w4 ⟨rfl, b4⟩
        dsimp only [Dsc.cells]
        have HG4 := Lib.hid ((((Below.refl w3.heap.size w3).alloc ((Below.refl w3.heap.size w3)).size (.cells #[.bool a.q.h.mark, .int .u8 (a.q.h.typ : Int), .int .u16 (q.seq : Int), .int .u32 (q.time : Int), .int .u32 (ss : Int), .slice A1 a.q.h.csrc.length c1, .slice B1 a.q.h.ps.length d1, .slice A3 a.q.pay.length c3, .int .i64 a.q.pad] 35))).trans (b4.mono (((Below.refl w3.heap.size w3).alloc ((Below.refl w3.heap.size w3)).size (.cells #[.bool a.q.h.mark, .int .u8 (a.q.h.typ : Int), .int .u16 (q.seq : Int), .int .u32 (q.time : Int), .int .u32 (ss : Int), .slice A1 a.q.h.csrc.length c1, .slice B1 a.q.h.ps.length d1, .slice A3 a.q.pay.length c3, .int .i64 a.q.pad] 35))).size))
        have NQ : Whole (w3.alloc (.cells #[.bool a.q.h.mark, .int .u8 (a.q.h.typ : Int), .int .u16 (q.seq : Int), .int .u32 (q.time : Int), .int .u32 (ss : Int), .slice A1 a.q.h.csrc.length c1, .slice B1 a.q.h.ps.length d1, .slice A3 a.q.pay.length c3, .int .i64 a.q.pad] 35)) (w3.heap.size) 35 #[.bool a.q.h.mark, .int .u8 (a.q.h.typ : Int), .int .u16 (q.seq : Int), .int .u32 (q.time : Int), .int .u32 (ss : Int), .slice A1 a.q.h.csrc.length c1, .slice B1 a.q.h.ps.length d1, .slice A3 a.q.pay.length c3, .int .i64 a.q.pad] := by have := Whole.new w3 35 #[.bool a.q.h.mark, .int .u8 (a.q.h.typ : Int), .int .u16 (q.seq : Int), .int .u32 (q.time : Int), .int .u32 (ss : Int), .slice A1 a.q.h.csrc.length c1, .slice B1 a.q.h.ps.length d1, .slice A3 a.q.pay.length c3, .int .i64 a.q.pad]; first | with_reducible exact this | simpa using this
        have SX4 := ((SX3.out.alloc (.cells #[.bool a.q.h.mark, .int .u8 (a.q.h.typ : Int), .int .u16 (q.seq : Int), .int .u32 (q.time : Int), .int .u32 (ss : Int), .slice A1 a.q.h.csrc.length c1, .slice B1 a.q.h.ps.length d1, .slice A3 a.q.pay.length c3, .int .i64 a.q.pad] 35))).below b4 (by have := ((SX3.out.alloc (.cells #[.bool a.q.h.mark, .int .u8 (a.q.h.typ : Int), .int .u16 (q.seq : Int), .int .u32 (q.time : Int), .int .u32 (ss : Int), .slice A1 a.q.h.csrc.length c1, .slice B1 a.q.h.ps.length d1, .slice A3 a.q.pay.length c3, .int .i64 a.q.pad] 35))).lt; first | with_reducible exact this | simpa using this)
        have SQ4 := (NQ).below b4 (by have := (NQ).lt; first | with_reducible exact this | simpa using this)
        have HB4 := Lib.hid (((HB3.out.alloc (HB3.out).size (.cells #[.bool a.q.h.mark, .int .u8 (a.q.h.typ : Int), .int .u16 (q.seq : Int), .int .u32 (q.time : Int), .int .u32 (ss : Int), .slice A1 a.q.h.csrc.length c1, .slice B1 a.q.h.ps.length d1, .slice A3 a.q.pay.length c3, .int .i64 a.q.pad] 35))).trans (b4.mono ((HB3.out.alloc (HB3.out).size (.cells #[.bool a.q.h.mark, .int .u8 (a.q.h.typ : Int), .int .u16 (q.seq : Int), .int .u32 (q.time : Int), .int .u32 (ss : Int), .slice A1 a.q.h.csrc.length c1, .slice B1 a.q.h.ps.length d1, .slice A3 a.q.pay.length c3, .int .i64 a.q.pad] 35))).size))
        have lX4 := SX4.lt
        have lQ4 := SQ4.lt
        clear b4 X3_0 X3_1 X3_2 X3_3 X3_4 X3_5 X3_6 X3_7 X3_8 X3_9 X3_10 X3_11 X3_12 X3_13 X3_14 SX3 NQ HB3 CV1
        have X4_0 := SX4.cell 0
        have X4_1 := SX4.cell 1
        have X4_2 := SX4.cell 2
        have X4_3 := SX4.cell 3
        have X4_4 := SX4.cell 4
        have X4_5 := SX4.cell 5
        have X4_6 := SX4.cell 6
        have X4_7 := SX4.cell 7
        have X4_8 := SX4.cell 8
        have X4_9 := SX4.cell 9
        have X4_10 := SX4.cell 10
        have X4_11 := SX4.cell 11
        have X4_12 := SX4.cell 12
        have X4_13 := SX4.cell 13
        have X4_14 := SX4.cell 14
        have Q4_0 := SQ4.cell 0
        have Q4_1 := SQ4.cell 1
        have Q4_2 := SQ4.cell 2
        have Q4_3 := SQ4.cell 3
        have Q4_4 := SQ4.cell 4
        have Q4_5 := SQ4.cell 5
        have Q4_6 := SQ4.cell 6
        have Q4_7 := SQ4.cell 7
        have Q4_8 := SQ4.cell 8
        replace SX4 := Lib.hid SX4
        replace SQ4 := Lib.hid SQ4
        go_wp2_with fail
        refine (CV2.out A3 c3 _ ((HRP3.out.below ((HG4.out.alloc (HG4.out).size (.cells #[.bool ds.more, .bool ds.lone, .bool ds.start, .int .u8 (ds.part : Int), .bool ds.hasPic, .bool ds.wide, .int .u16 (ds.pic : Int), .bool ds.hasTl0, .int .u8 (ds.tl0 : Int), .bool ds.hasTid, .int .u8 (ds.tid : Int), .bool ds.sync, .bool ds.hasKey, .int .u8 (ds.key : Int)] 46))) (Nat.le_refl _)).more ((HG4.out.alloc (HG4.out).size (.cells #[.bool ds.more, .bool ds.lone, .bool ds.start, .int .u8 (ds.part : Int), .bool ds.hasPic, .bool ds.wide, .int .u16 (ds.pic : Int), .bool ds.hasTl0, .int .u8 (ds.tl0 : Int), .bool ds.hasTid, .int .u8 (ds.tid : Int), .bool ds.sync, .bool ds.hasKey, .int .u8 (ds.key : Int)] 46))).size)).mono ?_
        rintro e w5 ⟨rfl, b5⟩
        dsimp only [Dsc.cells]
        rw [show de.more = ds.more from by have h := congrArg Dsc.more HBK.out; exact h, show de.lone = ds.lone from by have h := congrArg Dsc.lone HBK.out; exact h, show de.start = ds.start from by have h := congrArg Dsc.start HBK.out; exact h, show de.part = ds.part from by have h := congrArg Dsc.part HBK.out; exact h, show de.hasPic = ds.hasPic from by have h := congrArg Dsc.hasPic HBK.out; exact h, show de.wide = ds.wide from by have h := congrArg Dsc.wide HBK.out; exact h, show de.hasTl0 = ds.hasTl0 from by have h := congrArg Dsc.hasTl0 HBK.out; exact h, show de.hasTid = ds.hasTid from by have h := congrArg Dsc.hasTid HBK.out; exact h, show de.tid = ds.tid from by have h := congrArg Dsc.tid HBK.out; exact h, show de.sync = ds.sync from by have h := congrArg Dsc.sync HBK.out; exact h, show de.hasKey = ds.hasKey from by have h := congrArg Dsc.hasKey HBK.out; exact h, show de.key = ds.key from by have h := congrArg Dsc.key HBK.out; exact h]
        have HG5 := Lib.hid (((HG4.out.alloc (HG4.out).size (.cells #[.bool ds.more, .bool ds.lone, .bool ds.start, .int .u8 (ds.part : Int), .bool ds.hasPic, .bool ds.wide, .int .u16 (ds.pic : Int), .bool ds.hasTl0, .int .u8 (ds.tl0 : Int), .bool ds.hasTid, .int .u8 (ds.tid : Int), .bool ds.sync, .bool ds.hasKey, .int .u8 (ds.key : Int)] 46))).trans (b5.mono ((HG4.out.alloc (HG4.out).size (.cells #[.bool ds.more, .bool ds.lone, .bool ds.start, .int .u8 (ds.part : Int), .bool ds.hasPic, .bool ds.wide, .int .u16 (ds.pic : Int), .bool ds.hasTl0, .int .u8 (ds.tl0 : Int), .bool ds.hasTid, .int .u8 (ds.tid : Int), .bool ds.sync, .bool ds.hasKey, .int .u8 (ds.key : Int)] 46))).size))
        have NA : Whole (w4.alloc (.cells #[.bool ds.more, .bool ds.lone, .bool ds.start, .int .u8 (ds.part : Int), .bool ds.hasPic, .bool ds.wide, .int .u16 (ds.pic : Int), .bool ds.hasTl0, .int .u8 (ds.tl0 : Int), .bool ds.hasTid, .int .u8 (ds.tid : Int), .bool ds.sync, .bool ds.hasKey, .int .u8 (ds.key : Int)] 46)) (w4.heap.size) 46 #[.bool ds.more, .bool ds.lone, .bool ds.start, .int .u8 (ds.part : Int), .bool ds.hasPic, .bool ds.wide, .int .u16 (ds.pic : Int), .bool ds.hasTl0, .int .u8 (ds.tl0 : Int), .bool ds.hasTid, .int .u8 (ds.tid : Int), .bool ds.sync, .bool ds.hasKey, .int .u8 (ds.key : Int)] := by have := Whole.new w4 46 #[.bool ds.more, .bool ds.lone, .bool ds.start, .int .u8 (ds.part : Int), .bool ds.hasPic, .bool ds.wide, .int .u16 (ds.pic : Int), .bool ds.hasTl0, .int .u8 (ds.tl0 : Int), .bool ds.hasTid, .int .u8 (ds.tid : Int), .bool ds.sync, .bool ds.hasKey, .int .u8 (ds.key : Int)]; first | with_reducible exact this | simpa using this
        have SX5 := ((SX4.out.alloc (.cells #[.bool ds.more, .bool ds.lone, .bool ds.start, .int .u8 (ds.part : Int), .bool ds.hasPic, .bool ds.wide, .int .u16 (ds.pic : Int), .bool ds.hasTl0, .int .u8 (ds.tl0 : Int), .bool ds.hasTid, .int .u8 (ds.tid : Int), .bool ds.sync, .bool ds.hasKey, .int .u8 (ds.key : Int)] 46))).below b5 (by have := ((SX4.out.alloc (.cells #[.bool ds.more, .bool ds.lone, .bool ds.start, .int .u8 (ds.part : Int), .bool ds.hasPic, .bool ds.wide, .int .u16 (ds.pic : Int), .bool ds.hasTl0, .int .u8 (ds.tl0 : Int), .bool ds.hasTid, .int .u8 (ds.tid : Int), .bool ds.sync, .bool ds.hasKey, .int .u8 (ds.key : Int)] 46))).lt; first | with_reducible exact this | simpa using this)
        have SQ5 := ((SQ4.out.alloc (.cells #[.bool ds.more, .bool ds.lone, .bool ds.start, .int .u8 (ds.part : Int), .bool ds.hasPic, .bool ds.wide, .int .u16 (ds.pic : Int), .bool ds.hasTl0, .int .u8 (ds.tl0 : Int), .bool ds.hasTid, .int .u8 (ds.tid : Int), .bool ds.sync, .bool ds.hasKey, .int .u8 (ds.key : Int)] 46))).below b5 (by have := ((SQ4.out.alloc (.cells #[.bool ds.more, .bool ds.lone, .bool ds.start, .int .u8 (ds.part : Int), .bool ds.hasPic, .bool ds.wide, .int .u16 (ds.pic : Int), .bool ds.hasTl0, .int .u8 (ds.tl0 : Int), .bool ds.hasTid, .int .u8 (ds.tid : Int), .bool ds.sync, .bool ds.hasKey, .int .u8 (ds.key : Int)] 46))).lt; first | with_reducible exact this | simpa using this)
        have SA5 := (NA).below b5 (by have := (NA).lt; first | with_reducible exact this | simpa using this)
        have HB5 := Lib.hid (((HB4.out.alloc (HB4.out).size (.cells #[.bool ds.more, .bool ds.lone, .bool ds.start, .int .u8 (ds.part : Int), .bool ds.hasPic, .bool ds.wide, .int .u16 (ds.pic : Int), .bool ds.hasTl0, .int .u8 (ds.tl0 : Int), .bool ds.hasTid, .int .u8 (ds.tid : Int), .bool ds.sync, .bool ds.hasKey, .int .u8 (ds.key : Int)] 46))).trans (b5.mono ((HB4.out.alloc (HB4.out).size (.cells #[.bool ds.more, .bool ds.lone, .bool ds.start, .int .u8 (ds.part : Int), .bool ds.hasPic, .bool ds.wide, .int .u16 (ds.pic : Int), .bool ds.hasTl0, .int .u8 (ds.tl0 : Int), .bool ds.hasTid, .int .u8 (ds.tid : Int), .bool ds.sync, .bool ds.hasKey, .int .u8 (ds.key : Int)] 46))).size))
        have lX5 := SX5.lt
        have lQ5 := SQ5.lt
        have lA5 := SA5.lt
        clear b5 X4_0 X4_1 X4_2 X4_3 X4_4 X4_5 X4_6 X4_7 X4_8 X4_9 X4_10 X4_11 X4_12 X4_13 X4_14 Q4_0 Q4_1 Q4_2 Q4_3 Q4_4 Q4_5 Q4_6 Q4_7 Q4_8 SX4 SQ4 NA HB4 CV2
        have X5_0 := SX5.cell 0
        have X5_1 := SX5.cell 1
        have X5_2 := SX5.cell 2
        have X5_3 := SX5.cell 3
        have X5_4 := SX5.cell 4
        have X5_5 := SX5.cell 5
        have X5_6 := SX5.cell 6
        have X5_7 := SX5.cell 7
        have X5_8 := SX5.cell 8
        have X5_9 := SX5.cell 9
        have X5_10 := SX5.cell 10
        have X5_11 := SX5.cell 11
        have X5_12 := SX5.cell 12
        have X5_13 := SX5.cell 13
        have X5_14 := SX5.cell 14
        have Q5_0 := SQ5.cell 0
        have Q5_1 := SQ5.cell 1
        have Q5_2 := SQ5.cell 2
        have Q5_3 := SQ5.cell 3
        have Q5_4 := SQ5.cell 4
        have Q5_5 := SQ5.cell 5
        have Q5_6 := SQ5.cell 6
        have Q5_7 := SQ5.cell 7
        have Q5_8 := SQ5.cell 8
        have A5_0 := SA5.cell 0
        have A5_1 := SA5.cell 1
        have A5_2 := SA5.cell 2
        have A5_3 := SA5.cell 3
        have A5_4 := SA5.cell 4
        have A5_5 := SA5.cell 5
        have A5_6 := SA5.cell 6
        have A5_7 := SA5.cell 7
        have A5_8 := SA5.cell 8
        have A5_9 := SA5.cell 9
        have A5_10 := SA5.cell 10
        have A5_11 := SA5.cell 11
        have A5_12 := SA5.cell 12
        have A5_13 := SA5.cell 13
        replace SX5 := Lib.hid SX5
        replace SQ5 := Lib.hid SQ5
        replace SA5 := Lib.hid SA5
        go_upto_region 21 with fail
        obtain ⟨wf6, hwf⟩ : ∃ z, z = (w5.alloc (.cells #[.bool ds.more, .bool ds.lone, .bool ds.start, .int .u8 (ds.part : Int), .bool ds.hasPic, .bool ds.wide, .int .u16 (de.pic : Int), .bool ds.hasTl0, .int .u8 (de.tl0 : Int), .bool ds.hasTid, .int .u8 (ds.tid : Int), .bool ds.sync, .bool ds.hasKey, .int .u8 (ds.key : Int)] 46)) := ⟨_, rfl⟩
        have NC : Whole (w5.alloc (.cells #[.bool ds.more, .bool ds.lone, .bool ds.start, .int .u8 (ds.part : Int), .bool ds.hasPic, .bool ds.wide, .int .u16 (de.pic : Int), .bool ds.hasTl0, .int .u8 (de.tl0 : Int), .bool ds.hasTid, .int .u8 (ds.tid : Int), .bool ds.sync, .bool ds.hasKey, .int .u8 (ds.key : Int)] 46)) (w5.heap.size) 46 #[.bool ds.more, .bool ds.lone, .bool ds.start, .int .u8 (ds.part : Int), .bool ds.hasPic, .bool ds.wide, .int .u16 (de.pic : Int), .bool ds.hasTl0, .int .u8 (de.tl0 : Int), .bool ds.hasTid, .int .u8 (ds.tid : Int), .bool ds.sync, .bool ds.hasKey, .int .u8 (ds.key : Int)] := by have := Whole.new w5 46 #[.bool ds.more, .bool ds.lone, .bool ds.start, .int .u8 (ds.part : Int), .bool ds.hasPic, .bool ds.wide, .int .u16 (de.pic : Int), .bool ds.hasTl0, .int .u8 (de.tl0 : Int), .bool ds.hasTid, .int .u8 (ds.tid : Int), .bool ds.sync, .bool ds.hasKey, .int .u8 (ds.key : Int)]; first | with_reducible exact this | simpa using this
        have SXf6 := (SX5.out.alloc (.cells #[.bool ds.more, .bool ds.lone, .bool ds.start, .int .u8 (ds.part : Int), .bool ds.hasPic, .bool ds.wide, .int .u16 (de.pic : Int), .bool ds.hasTl0, .int .u8 (de.tl0 : Int), .bool ds.hasTid, .int .u8 (ds.tid : Int), .bool ds.sync, .bool ds.hasKey, .int .u8 (ds.key : Int)] 46))
        have SQf6 := (SQ5.out.alloc (.cells #[.bool ds.more, .bool ds.lone, .bool ds.start, .int .u8 (ds.part : Int), .bool ds.hasPic, .bool ds.wide, .int .u16 (de.pic : Int), .bool ds.hasTl0, .int .u8 (de.tl0 : Int), .bool ds.hasTid, .int .u8 (ds.tid : Int), .bool ds.sync, .bool ds.hasKey, .int .u8 (ds.key : Int)] 46))
        have SAf6 := (SA5.out.alloc (.cells #[.bool ds.more, .bool ds.lone, .bool ds.start, .int .u8 (ds.part : Int), .bool ds.hasPic, .bool ds.wide, .int .u16 (de.pic : Int), .bool ds.hasTl0, .int .u8 (de.tl0 : Int), .bool ds.hasTid, .int .u8 (ds.tid : Int), .bool ds.sync, .bool ds.hasKey, .int .u8 (ds.key : Int)] 46))
        have SCf6 := NC
        have HBf6 := (HB5.out.alloc (HB5.out).size (.cells #[.bool ds.more, .bool ds.lone, .bool ds.start, .int .u8 (ds.part : Int), .bool ds.hasPic, .bool ds.wide, .int .u16 (de.pic : Int), .bool ds.hasTl0, .int .u8 (de.tl0 : Int), .bool ds.hasTid, .int .u8 (ds.tid : Int), .bool ds.sync, .bool ds.hasKey, .int .u8 (ds.key : Int)] 46))
        have HGf6 := (HG5.out.alloc (HG5.out).size (.cells #[.bool ds.more, .bool ds.lone, .bool ds.start, .int .u8 (ds.part : Int), .bool ds.hasPic, .bool ds.wide, .int .u16 (de.pic : Int), .bool ds.hasTl0, .int .u8 (de.tl0 : Int), .bool ds.hasTid, .int .u8 (ds.tid : Int), .bool ds.sync, .bool ds.hasKey, .int .u8 (ds.key : Int)] 46))
        rw [← hwf] at SXf6 SQf6 SAf6 SCf6 HBf6 HGf6 ⊢
        clear hwf
        clear X5_0 X5_1 X5_2 X5_3 X5_4 X5_5 X5_6 X5_7 X5_8 X5_9 X5_10 X5_11 X5_12 X5_13 X5_14 Q5_0 Q5_1 Q5_2 Q5_3 Q5_4 Q5_5 Q5_6 Q5_7 Q5_8 A5_0 A5_1 A5_2 A5_3 A5_4 A5_5 A5_6 A5_7 A5_8 A5_9 A5_10 A5_11 A5_12 A5_13 SX5 SQ5 SA5 NC HB5
        have lXf6 := SXf6.lt
        have lQf6 := SQf6.lt
        have lAf6 := SAf6.lt
        have lCf6 := SCf6.lt
        replace HBf6 := Lib.hid HBf6
        replace SXf6 := Lib.hid SXf6
        replace SQf6 := Lib.hid SQf6
        replace SAf6 := Lib.hid SAf6
        replace SCf6 := Lib.hid SCf6
        replace HGf6 := Lib.hid HGf6
        clear HG5
        have HCX := Lib.hid (HO.out a HAM.out).cap
        have hRQ := (HRP3.out.below HGf6.out (Nat.le_refl _))
        have hRX := ((HO.out a HAM.out).row.below HBf6.out (Nat.le_refl _))
        obtain ⟨A6, hA6⟩ : ∃ A6, A6 = if c3 = N1 then A3 else A3.map fun x => x.add N1 := ⟨_, rfl⟩
        obtain ⟨A7, hA7⟩ : ∃ A7, A7 = if a.q.c3 = N1 then a.q.A3 else a.q.A3.map fun x => x.add N1 := ⟨_, rfl⟩
        have s1 := fun wx => run_from A3 a.q.pay.length c3 N1 hle1 wx
        have s2 := fun wx => run_from a.q.A3 a.q.pay.length a.q.c3 N1 hle1 wx
        rw [← hA6] at s1
        rw [← hA7] at s2
        have hd1 := Row.drop hRQ hle1 HCQ.out hA6
        have hd2 := Row.drop hRX hle1 HCX.out hA7
        rw [← u8s_drop, HD2'.out] at hd1
        rw [← u8s_drop, HD1.out] at hd2
        have hrl : r.length = a.q.pay.length - N1 := by rw [← HD1.out, List.length_drop]
        obtain ⟨K, hK⟩ : ∃ K, K = a.q.pay.length - N1 := ⟨_, rfl⟩
        obtain ⟨K3, hK3⟩ : ∃ K3, K3 = c3 - N1 := ⟨_, rfl⟩
        obtain ⟨K4, hK4⟩ : ∃ K4, K4 = a.q.c3 - N1 := ⟨_, rfl⟩
        rw [← hK, ← hK3] at s1
        rw [← hK, ← hK4] at s2
        have t1 := fun i => run_text (P := Try.prog) (wf6.drewN i) 33 5 9 Try.underlying33 Try.underlying5 Try.underlying9 _ _ _ K3 r (show Row (wf6.drewN i) _ 1 A6 r.length (u8s r) from by rw [hrl]; exact hd1)
        have t2 := fun i => run_text (P := Try.prog) (wf6.drewN i) 33 5 9 Try.underlying33 Try.underlying5 Try.underlying9 _ _ _ K4 r (show Row (wf6.drewN i) _ 1 A7 r.length (u8s r) from by rw [hrl]; exact hd2)
        rw [hrl, ← hK] at t1 t2
        have hNn : (N1 : Int) ≤ (a.q.pay.length : Int) := by omega
        clear hA6 hA7 hd1 hd2 hrl hK hK3 hK4 hRQ hRX
        have c7 := SQf6.out.cell 7
        have c8 := SXf6.out.cell 7
        go_quiet (fail)
        obtain ⟨w6, hw6⟩ : ∃ w6, w6 = wf6.drewN nq := ⟨_, rfl⟩
        rw [← hw6]
        clear c7 c8 s1 s2 t1 t2 hNn
        have HG6 := Lib.hid (show Below w3.heap.size w3 w6 from by rw [hw6]; exact bdrewN HGf6.out nq)
        have bb := (show Below wf6.heap.size wf6 w6 from by rw [hw6]; exact bdrewN (Below.refl _ _) nq)
        have SXg6 := (SXf6.out).below bb (SXf6.out).lt
        have SQg6 := (SQf6.out).below bb (SQf6.out).lt
        have SAg6 := (SAf6.out).below bb (SAf6.out).lt
        have SCg6 := (SCf6.out).below bb (SCf6.out).lt
        have HBg6 := Lib.hid ((HBf6.out).trans (bb.mono (HBf6.out).size))
        clear bb SXf6 SQf6 SAf6 SCf6 HBf6
        have lXg6 := SXg6.lt
        have lQg6 := SQg6.lt
        have lAg6 := SAg6.lt
        have lCg6 := SCg6.lt
        clear hw6 HGf6
        have Xc6_0 := SXg6.cell 0
        have Xc6_1 := SXg6.cell 1
        have Xc6_2 := SXg6.cell 2
        have Xc6_3 := SXg6.cell 3
        have Xc6_4 := SXg6.cell 4
        have Xc6_5 := SXg6.cell 5
        have Xc6_6 := SXg6.cell 6
        have Xc6_7 := SXg6.cell 7
        have Xc6_8 := SXg6.cell 8
        have Xc6_9 := SXg6.cell 9
        have Xc6_10 := SXg6.cell 10
        have Xc6_11 := SXg6.cell 11
        have Xc6_12 := SXg6.cell 12
        have Xc6_13 := SXg6.cell 13
        have Xc6_14 := SXg6.cell 14
        have Qc6_0 := SQg6.cell 0
        have Qc6_1 := SQg6.cell 1
        have Qc6_2 := SQg6.cell 2
        have Qc6_3 := SQg6.cell 3
        have Qc6_4 := SQg6.cell 4
        have Qc6_5 := SQg6.cell 5
        have Qc6_6 := SQg6.cell 6
        have Qc6_7 := SQg6.cell 7
        have Qc6_8 := SQg6.cell 8
        have Ac6_0 := SAg6.cell 0
        have Ac6_1 := SAg6.cell 1
        have Ac6_2 := SAg6.cell 2
        have Ac6_3 := SAg6.cell 3
        have Ac6_4 := SAg6.cell 4
        have Ac6_5 := SAg6.cell 5
        have Ac6_6 := SAg6.cell 6
        have Ac6_7 := SAg6.cell 7
        have Ac6_8 := SAg6.cell 8
        have Ac6_9 := SAg6.cell 9
        have Ac6_10 := SAg6.cell 10
        have Ac6_11 := SAg6.cell 11
        have Ac6_12 := SAg6.cell 12
        have Ac6_13 := SAg6.cell 13
        have Cc6_0 := SCg6.cell 0
        have fCc6_0 := SCg6.free 0
        have Cc6_1 := SCg6.cell 1
        have fCc6_1 := SCg6.free 1
        have Cc6_2 := SCg6.cell 2
        have fCc6_2 := SCg6.free 2
        have Cc6_3 := SCg6.cell 3
        have fCc6_3 := SCg6.free 3
        have Cc6_4 := SCg6.cell 4
        have fCc6_4 := SCg6.free 4
        have Cc6_5 := SCg6.cell 5
        have fCc6_5 := SCg6.free 5
        have Cc6_6 := SCg6.cell 6
        have fCc6_6 := SCg6.free 6
        have Cc6_7 := SCg6.cell 7
        have fCc6_7 := SCg6.free 7
        have Cc6_8 := SCg6.cell 8
        have fCc6_8 := SCg6.free 8
        have Cc6_9 := SCg6.cell 9
        have fCc6_9 := SCg6.free 9
        have Cc6_10 := SCg6.cell 10
        have fCc6_10 := SCg6.free 10
        have Cc6_11 := SCg6.cell 11
        have fCc6_11 := SCg6.free 11
        have Cc6_12 := SCg6.cell 12
        have fCc6_12 := SCg6.free 12
        have Cc6_13 := SCg6.cell 13
        have fCc6_13 := SCg6.free 13
        replace SXg6 := Lib.hid SXg6
        replace SQg6 := Lib.hid SQg6
        replace SAg6 := Lib.hid SAg6
        replace SCg6 := Lib.hid SCg6
        have COF : Hid (∀ w', Below w3.heap.size w3 w' → Calls Try.prog 15 #[.agg #[.bool a.q.h.mark, .int .u8 (a.q.h.typ : Int), .int .u16 (q.seq : Int), .int .u32 (q.time : Int), .int .u32 (ss : Int), .slice A1 a.q.h.csrc.length c1, .slice B1 a.q.h.ps.length d1, .slice A3 a.q.pay.length c3, .int .i64 a.q.pad]] w' fun e w'' => ∃ A4 c4, e = .returned (.agg #[.bool a.q.h.mark, .int .u8 (a.q.h.typ : Int), .int .u16 (q.seq : Int), .int .u32 (q.time : Int), .int .u32 (ss : Int), .slice A1 a.q.h.csrc.length c1, .slice A4 a.q.h.ps.length c4, .string (str q.pay), .int .i64 a.q.pad]) ∧ Row w'' w''.heap.size 2 A4 a.q.h.ps.length (itC (a.q.h.ps.map Ip.it)) ∧ Below w'.heap.size w' w'') := Lib.hid (fun w' b => by
          have hp2 : ps.length = a.q.h.ps.length := by have := congrArg List.length HPS.out; simpa using this
          have h := of14_any a.q.h.mark (a.q.h.typ : Int) (q.seq : Int) (q.time : Int) (ss : Int) a.q.pad A1 B1 A3 a.q.h.csrc.length c1 d1 c3 ps q.pay w' (HIT3.out.next b) (by rw [hp2]; exact (HFS.out a HAM.out).2.2) (by rw [HPL.out]; exact (HRP3.out.below b (Nat.le_refl _)).more b.size)
          rw [HPS.out, hp2, HPL.out] at h
          exact h)
        have COX : Hid (∀ w', Below w.heap.size w w' → Calls Try.prog 15 #[.agg #[.bool a.q.h.mark, .int .u8 (a.q.h.typ : Int), .int .u16 (a.q.h.seq : Int), .int .u32 (a.q.h.time : Int), .int .u32 (a.q.h.ssrc : Int), .slice a.q.h.A1 a.q.h.csrc.length a.q.h.c1, .slice a.q.h.A2 a.q.h.ps.length a.q.h.c2, .slice a.q.A3 a.q.pay.length a.q.c3, .int .i64 a.q.pad]] w' fun e w'' => ∃ A4 c4, e = .returned (.agg #[.bool a.q.h.mark, .int .u8 (a.q.h.typ : Int), .int .u16 (a.q.h.seq : Int), .int .u32 (a.q.h.time : Int), .int .u32 (a.q.h.ssrc : Int), .slice a.q.h.A1 a.q.h.csrc.length a.q.h.c1, .slice A4 a.q.h.ps.length c4, .string (str a.q.pay), .int .i64 a.q.pad]) ∧ Row w'' w''.heap.size 2 A4 a.q.h.ps.length (itC (a.q.h.ps.map Ip.it)) ∧ Below w'.heap.size w' w'') := Lib.hid (fun w' b => of14_any _ _ _ _ _ _ _ _ _ _ _ _ _ a.q.h.ps a.q.pay w' ((HO.out a HAM.out).h.its.next b) (HFS.out a HAM.out).2.2 (((HO.out a HAM.out).row.below b (Nat.le_refl _)).more b.size))
        go_wp2_with fail
        refine (COX.out _ (((((HBg6.out).setCell (p := ⟨w5.heap.size, 6, none⟩) (show w.heap.size ≤ w5.heap.size from by omega) (.int .u16 (ds.pic : Int)))).setCell (p := ⟨w5.heap.size, 8, none⟩) (show w.heap.size ≤ w5.heap.size from by omega) (.int .u8 (ds.tl0 : Int))))).mono ?_
        rintro e w7 ⟨A8, c8, rfl, hrx, b7⟩
        have HG7 := Lib.hid ((((((HG6.out).setCell (p := ⟨w5.heap.size, 6, none⟩) (show w3.heap.size ≤ w5.heap.size from by omega) (.int .u16 (ds.pic : Int)))).setCell (p := ⟨w5.heap.size, 8, none⟩) (show w3.heap.size ≤ w5.heap.size from by omega) (.int .u8 (ds.tl0 : Int)))).trans (b7.mono (((((HG6.out).setCell (p := ⟨w5.heap.size, 6, none⟩) (show w3.heap.size ≤ w5.heap.size from by omega) (.int .u16 (ds.pic : Int)))).setCell (p := ⟨w5.heap.size, 8, none⟩) (show w3.heap.size ≤ w5.heap.size from by omega) (.int .u8 (ds.tl0 : Int)))).size))
        have HRX7 := Lib.hid hrx
        clear hrx
        have SX7 := (((((SXg6.out).far (p := ⟨w5.heap.size, 6, none⟩) (show wr.heap.size ≠ w5.heap.size from by omega) (.int .u16 (ds.pic : Int)))).far (p := ⟨w5.heap.size, 8, none⟩) (show wr.heap.size ≠ w5.heap.size from by omega) (.int .u8 (ds.tl0 : Int)))).below b7 (by have := (((((SXg6.out).far (p := ⟨w5.heap.size, 6, none⟩) (show wr.heap.size ≠ w5.heap.size from by omega) (.int .u16 (ds.pic : Int)))).far (p := ⟨w5.heap.size, 8, none⟩) (show wr.heap.size ≠ w5.heap.size from by omega) (.int .u8 (ds.tl0 : Int)))).lt; first | with_reducible exact this | simpa using this)
        have SQ7 := (((((SQg6.out).far (p := ⟨w5.heap.size, 6, none⟩) (show w3.heap.size ≠ w5.heap.size from by omega) (.int .u16 (ds.pic : Int)))).far (p := ⟨w5.heap.size, 8, none⟩) (show w3.heap.size ≠ w5.heap.size from by omega) (.int .u8 (ds.tl0 : Int)))).below b7 (by have := (((((SQg6.out).far (p := ⟨w5.heap.size, 6, none⟩) (show w3.heap.size ≠ w5.heap.size from by omega) (.int .u16 (ds.pic : Int)))).far (p := ⟨w5.heap.size, 8, none⟩) (show w3.heap.size ≠ w5.heap.size from by omega) (.int .u8 (ds.tl0 : Int)))).lt; first | with_reducible exact this | simpa using this)
        have SA7 := (((((SAg6.out).far (p := ⟨w5.heap.size, 6, none⟩) (show w4.heap.size ≠ w5.heap.size from by omega) (.int .u16 (ds.pic : Int)))).far (p := ⟨w5.heap.size, 8, none⟩) (show w4.heap.size ≠ w5.heap.size from by omega) (.int .u8 (ds.tl0 : Int)))).below b7 (by have := (((((SAg6.out).far (p := ⟨w5.heap.size, 6, none⟩) (show w4.heap.size ≠ w5.heap.size from by omega) (.int .u16 (ds.pic : Int)))).far (p := ⟨w5.heap.size, 8, none⟩) (show w4.heap.size ≠ w5.heap.size from by omega) (.int .u8 (ds.tl0 : Int)))).lt; first | with_reducible exact this | simpa using this)
        have SC7 := ((show Whole _ _ _ #[.bool ds.more, .bool ds.lone, .bool ds.start, .int .u8 (ds.part : Int), .bool ds.hasPic, .bool ds.wide, .int .u16 (ds.pic : Int), .bool ds.hasTl0, .int .u8 (ds.tl0 : Int), .bool ds.hasTid, .int .u8 (ds.tid : Int), .bool ds.sync, .bool ds.hasKey, .int .u8 (ds.key : Int)] from ((show Whole _ _ _ #[.bool ds.more, .bool ds.lone, .bool ds.start, .int .u8 (ds.part : Int), .bool ds.hasPic, .bool ds.wide, .int .u16 (ds.pic : Int), .bool ds.hasTl0, .int .u8 (de.tl0 : Int), .bool ds.hasTid, .int .u8 (ds.tid : Int), .bool ds.sync, .bool ds.hasKey, .int .u8 (ds.key : Int)] from (SCg6.out).set 6 (.int .u16 (ds.pic : Int)))).set 8 (.int .u8 (ds.tl0 : Int)))).below b7 (by have := ((show Whole _ _ _ #[.bool ds.more, .bool ds.lone, .bool ds.start, .int .u8 (ds.part : Int), .bool ds.hasPic, .bool ds.wide, .int .u16 (ds.pic : Int), .bool ds.hasTl0, .int .u8 (ds.tl0 : Int), .bool ds.hasTid, .int .u8 (ds.tid : Int), .bool ds.sync, .bool ds.hasKey, .int .u8 (ds.key : Int)] from ((show Whole _ _ _ #[.bool ds.more, .bool ds.lone, .bool ds.start, .int .u8 (ds.part : Int), .bool ds.hasPic, .bool ds.wide, .int .u16 (ds.pic : Int), .bool ds.hasTl0, .int .u8 (de.tl0 : Int), .bool ds.hasTid, .int .u8 (ds.tid : Int), .bool ds.sync, .bool ds.hasKey, .int .u8 (ds.key : Int)] from (SCg6.out).set 6 (.int .u16 (ds.pic : Int)))).set 8 (.int .u8 (ds.tl0 : Int)))).lt; first | with_reducible exact this | simpa using this)
        have HB7 := Lib.hid ((((((HBg6.out).setCell (p := ⟨w5.heap.size, 6, none⟩) (show w.heap.size ≤ w5.heap.size from by omega) (.int .u16 (ds.pic : Int)))).setCell (p := ⟨w5.heap.size, 8, none⟩) (show w.heap.size ≤ w5.heap.size from by omega) (.int .u8 (ds.tl0 : Int)))).trans (b7.mono (((((HBg6.out).setCell (p := ⟨w5.heap.size, 6, none⟩) (show w.heap.size ≤ w5.heap.size from by omega) (.int .u16 (ds.pic : Int)))).setCell (p := ⟨w5.heap.size, 8, none⟩) (show w.heap.size ≤ w5.heap.size from by omega) (.int .u8 (ds.tl0 : Int)))).size))
        have lX7 := SX7.lt
        have lQ7 := SQ7.lt
        have lA7 := SA7.lt
        have lC7 := SC7.lt
        clear b7 Xc6_0 Xc6_1 Xc6_2 Xc6_3 Xc6_4 Xc6_5 Xc6_6 Xc6_7 Xc6_8 Xc6_9 Xc6_10 Xc6_11 Xc6_12 Xc6_13 Xc6_14 Qc6_0 Qc6_1 Qc6_2 Qc6_3 Qc6_4 Qc6_5 Qc6_6 Qc6_7 Qc6_8 Ac6_0 Ac6_1 Ac6_2 Ac6_3 Ac6_4 Ac6_5 Ac6_6 Ac6_7 Ac6_8 Ac6_9 Ac6_10 Ac6_11 Ac6_12 Ac6_13 Cc6_0 fCc6_0 Cc6_1 fCc6_1 Cc6_2 fCc6_2 Cc6_3 fCc6_3 Cc6_4 fCc6_4 Cc6_5 fCc6_5 Cc6_6 fCc6_6 Cc6_7 fCc6_7 Cc6_8 fCc6_8 Cc6_9 fCc6_9 Cc6_10 fCc6_10 Cc6_11 fCc6_11 Cc6_12 fCc6_12 Cc6_13 fCc6_13 SXg6 SQg6 SAg6 SCg6 HBg6 COX
        have Q7_0 := SQ7.cell 0
        have Q7_1 := SQ7.cell 1
        have Q7_2 := SQ7.cell 2
        have Q7_3 := SQ7.cell 3
        have Q7_4 := SQ7.cell 4
        have Q7_5 := SQ7.cell 5
        have Q7_6 := SQ7.cell 6
        have Q7_7 := SQ7.cell 7
        have Q7_8 := SQ7.cell 8
        replace SX7 := Lib.hid SX7
        replace SQ7 := Lib.hid SQ7
        replace SA7 := Lib.hid SA7
        replace SC7 := Lib.hid SC7
        go_wp2_with fail
        refine (COF.out _ ((HG7.out.alloc (HG7.out).size (.cells #[.bool a.q.h.mark, .int .u8 (a.q.h.typ : Int), .int .u16 (a.q.h.seq : Int), .int .u32 (a.q.h.time : Int), .int .u32 (a.q.h.ssrc : Int), .slice a.q.h.A1 a.q.h.csrc.length a.q.h.c1, .slice A8 a.q.h.ps.length c8, .string (str a.q.pay), .int .i64 a.q.pad] 51)))).mono ?_
        rintro e w8 ⟨A9, c9, rfl, hrx, b8⟩
        have HG8 := Lib.hid (((HG7.out.alloc (HG7.out).size (.cells #[.bool a.q.h.mark, .int .u8 (a.q.h.typ : Int), .int .u16 (a.q.h.seq : Int), .int .u32 (a.q.h.time : Int), .int .u32 (a.q.h.ssrc : Int), .slice a.q.h.A1 a.q.h.csrc.length a.q.h.c1, .slice A8 a.q.h.ps.length c8, .string (str a.q.pay), .int .i64 a.q.pad] 51))).trans (b8.mono ((HG7.out.alloc (HG7.out).size (.cells #[.bool a.q.h.mark, .int .u8 (a.q.h.typ : Int), .int .u16 (a.q.h.seq : Int), .int .u32 (a.q.h.time : Int), .int .u32 (a.q.h.ssrc : Int), .slice a.q.h.A1 a.q.h.csrc.length a.q.h.c1, .slice A8 a.q.h.ps.length c8, .string (str a.q.pay), .int .i64 a.q.pad] 51))).size))
        have HRQ8 := Lib.hid hrx
        have HRX8 := Lib.hid (((HRX7.out.below ((Below.refl w7.heap.size w7).alloc (Nat.le_refl _) _) (Nat.le_refl _)).below b8 (by simp)))
        have hz78 : w7.heap.size ≤ w8.heap.size := by have := b8.size; simp at this; omega
        clear hrx HRX7
        have NP : Whole (w7.alloc (.cells #[.bool a.q.h.mark, .int .u8 (a.q.h.typ : Int), .int .u16 (a.q.h.seq : Int), .int .u32 (a.q.h.time : Int), .int .u32 (a.q.h.ssrc : Int), .slice a.q.h.A1 a.q.h.csrc.length a.q.h.c1, .slice A8 a.q.h.ps.length c8, .string (str a.q.pay), .int .i64 a.q.pad] 51)) (w7.heap.size) 51 #[.bool a.q.h.mark, .int .u8 (a.q.h.typ : Int), .int .u16 (a.q.h.seq : Int), .int .u32 (a.q.h.time : Int), .int .u32 (a.q.h.ssrc : Int), .slice a.q.h.A1 a.q.h.csrc.length a.q.h.c1, .slice A8 a.q.h.ps.length c8, .string (str a.q.pay), .int .i64 a.q.pad] := by have := Whole.new w7 51 #[.bool a.q.h.mark, .int .u8 (a.q.h.typ : Int), .int .u16 (a.q.h.seq : Int), .int .u32 (a.q.h.time : Int), .int .u32 (a.q.h.ssrc : Int), .slice a.q.h.A1 a.q.h.csrc.length a.q.h.c1, .slice A8 a.q.h.ps.length c8, .string (str a.q.pay), .int .i64 a.q.pad]; first | with_reducible exact this | simpa using this
        have SX8 := ((SX7.out.alloc (.cells #[.bool a.q.h.mark, .int .u8 (a.q.h.typ : Int), .int .u16 (a.q.h.seq : Int), .int .u32 (a.q.h.time : Int), .int .u32 (a.q.h.ssrc : Int), .slice a.q.h.A1 a.q.h.csrc.length a.q.h.c1, .slice A8 a.q.h.ps.length c8, .string (str a.q.pay), .int .i64 a.q.pad] 51))).below b8 (by have := ((SX7.out.alloc (.cells #[.bool a.q.h.mark, .int .u8 (a.q.h.typ : Int), .int .u16 (a.q.h.seq : Int), .int .u32 (a.q.h.time : Int), .int .u32 (a.q.h.ssrc : Int), .slice a.q.h.A1 a.q.h.csrc.length a.q.h.c1, .slice A8 a.q.h.ps.length c8, .string (str a.q.pay), .int .i64 a.q.pad] 51))).lt; first | with_reducible exact this | simpa using this)
        have SQ8 := ((SQ7.out.alloc (.cells #[.bool a.q.h.mark, .int .u8 (a.q.h.typ : Int), .int .u16 (a.q.h.seq : Int), .int .u32 (a.q.h.time : Int), .int .u32 (a.q.h.ssrc : Int), .slice a.q.h.A1 a.q.h.csrc.length a.q.h.c1, .slice A8 a.q.h.ps.length c8, .string (str a.q.pay), .int .i64 a.q.pad] 51))).below b8 (by have := ((SQ7.out.alloc (.cells #[.bool a.q.h.mark, .int .u8 (a.q.h.typ : Int), .int .u16 (a.q.h.seq : Int), .int .u32 (a.q.h.time : Int), .int .u32 (a.q.h.ssrc : Int), .slice a.q.h.A1 a.q.h.csrc.length a.q.h.c1, .slice A8 a.q.h.ps.length c8, .string (str a.q.pay), .int .i64 a.q.pad] 51))).lt; first | with_reducible exact this | simpa using this)
        have SA8 := ((SA7.out.alloc (.cells #[.bool a.q.h.mark, .int .u8 (a.q.h.typ : Int), .int .u16 (a.q.h.seq : Int), .int .u32 (a.q.h.time : Int), .int .u32 (a.q.h.ssrc : Int), .slice a.q.h.A1 a.q.h.csrc.length a.q.h.c1, .slice A8 a.q.h.ps.length c8, .string (str a.q.pay), .int .i64 a.q.pad] 51))).below b8 (by have := ((SA7.out.alloc (.cells #[.bool a.q.h.mark, .int .u8 (a.q.h.typ : Int), .int .u16 (a.q.h.seq : Int), .int .u32 (a.q.h.time : Int), .int .u32 (a.q.h.ssrc : Int), .slice a.q.h.A1 a.q.h.csrc.length a.q.h.c1, .slice A8 a.q.h.ps.length c8, .string (str a.q.pay), .int .i64 a.q.pad] 51))).lt; first | with_reducible exact this | simpa using this)
        have SC8 := ((SC7.out.alloc (.cells #[.bool a.q.h.mark, .int .u8 (a.q.h.typ : Int), .int .u16 (a.q.h.seq : Int), .int .u32 (a.q.h.time : Int), .int .u32 (a.q.h.ssrc : Int), .slice a.q.h.A1 a.q.h.csrc.length a.q.h.c1, .slice A8 a.q.h.ps.length c8, .string (str a.q.pay), .int .i64 a.q.pad] 51))).below b8 (by have := ((SC7.out.alloc (.cells #[.bool a.q.h.mark, .int .u8 (a.q.h.typ : Int), .int .u16 (a.q.h.seq : Int), .int .u32 (a.q.h.time : Int), .int .u32 (a.q.h.ssrc : Int), .slice a.q.h.A1 a.q.h.csrc.length a.q.h.c1, .slice A8 a.q.h.ps.length c8, .string (str a.q.pay), .int .i64 a.q.pad] 51))).lt; first | with_reducible exact this | simpa using this)
        have SP8 := (NP).below b8 (by have := (NP).lt; first | with_reducible exact this | simpa using this)
        have HB8 := Lib.hid (((HB7.out.alloc (HB7.out).size (.cells #[.bool a.q.h.mark, .int .u8 (a.q.h.typ : Int), .int .u16 (a.q.h.seq : Int), .int .u32 (a.q.h.time : Int), .int .u32 (a.q.h.ssrc : Int), .slice a.q.h.A1 a.q.h.csrc.length a.q.h.c1, .slice A8 a.q.h.ps.length c8, .string (str a.q.pay), .int .i64 a.q.pad] 51))).trans (b8.mono ((HB7.out.alloc (HB7.out).size (.cells #[.bool a.q.h.mark, .int .u8 (a.q.h.typ : Int), .int .u16 (a.q.h.seq : Int), .int .u32 (a.q.h.time : Int), .int .u32 (a.q.h.ssrc : Int), .slice a.q.h.A1 a.q.h.csrc.length a.q.h.c1, .slice A8 a.q.h.ps.length c8, .string (str a.q.pay), .int .i64 a.q.pad] 51))).size))
        have lX8 := SX8.lt
        have lQ8 := SQ8.lt
        have lA8 := SA8.lt
        have lC8 := SC8.lt
        have lP8 := SP8.lt
        clear b8 Q7_0 Q7_1 Q7_2 Q7_3 Q7_4 Q7_5 Q7_6 Q7_7 Q7_8 SX7 SQ7 SA7 SC7 NP HB7 COF
        have P8_0 := SP8.cell 0
        have P8_1 := SP8.cell 1
        have P8_2 := SP8.cell 2
        have P8_3 := SP8.cell 3
        have P8_4 := SP8.cell 4
        have P8_5 := SP8.cell 5
        have P8_6 := SP8.cell 6
        have P8_7 := SP8.cell 7
        have P8_8 := SP8.cell 8
        have A8_0 := SA8.cell 0
        have A8_1 := SA8.cell 1
        have A8_2 := SA8.cell 2
        have A8_3 := SA8.cell 3
        have A8_4 := SA8.cell 4
        have A8_5 := SA8.cell 5
        have A8_6 := SA8.cell 6
        have A8_7 := SA8.cell 7
        have A8_8 := SA8.cell 8
        have A8_9 := SA8.cell 9
        have A8_10 := SA8.cell 10
        have A8_11 := SA8.cell 11
        have A8_12 := SA8.cell 12
        have A8_13 := SA8.cell 13
        have C8_0 := SC8.cell 0
        have C8_1 := SC8.cell 1
        have C8_2 := SC8.cell 2
        have C8_3 := SC8.cell 3
        have C8_4 := SC8.cell 4
        have C8_5 := SC8.cell 5
        have C8_6 := SC8.cell 6
        have C8_7 := SC8.cell 7
        have C8_8 := SC8.cell 8
        have C8_9 := SC8.cell 9
        have C8_10 := SC8.cell 10
        have C8_11 := SC8.cell 11
        have C8_12 := SC8.cell 12
        have C8_13 := SC8.cell 13
        replace SX8 := Lib.hid SX8
        replace SQ8 := Lib.hid SQ8
        replace SA8 := Lib.hid SA8
        replace SC8 := Lib.hid SC8
        replace SP8 := Lib.hid SP8
        have heq := fun wx => neq_desc wx ds ds
        simp only [Dsc.eqb_self, Bool.not_true] at heq
        unfold Dsc.cells at heq
        try dsimp only at heq
        have CS : Hid (∀ w', Below w8.heap.size w8 w' → Calls Try.prog 16 #[.agg #[.bool a.q.h.mark, .int .u8 (a.q.h.typ : Int), .int .u16 (a.q.h.seq : Int), .int .u32 (a.q.h.time : Int), .int .u32 (a.q.h.ssrc : Int), .slice a.q.h.A1 a.q.h.csrc.length a.q.h.c1, .slice A8 a.q.h.ps.length c8, .string (str a.q.pay), .int .i64 a.q.pad], .agg #[.bool a.q.h.mark, .int .u8 (a.q.h.typ : Int), .int .u16 (a.q.h.seq : Int), .int .u32 (a.q.h.time : Int), .int .u32 (a.q.h.ssrc : Int), .slice A1 a.q.h.csrc.length c1, .slice A9 a.q.h.ps.length c9, .string (str a.q.pay), .int .i64 a.q.pad]] w' fun e w'' => e = .returned (.bool true) ∧ Below w'.heap.size w' w'') := Lib.hid (fun w' b => by
          have hz := b.size
          have h1 := ((HO.out a HAM.out).h.row1.below (HB8.out.trans (b.mono HB8.out.size)) (Nat.le_refl _)).more (HB8.out.trans (b.mono HB8.out.size)).size
          have h2 := (HRC3.out.below (HG8.out.trans (b.mono HG8.out.size)) (Nat.le_refl _)).more (HG8.out.trans (b.mono HG8.out.size)).size
          have h3 := (HRX8.out.below b hz78).more (Nat.le_trans hz78 hz)
          have h4 := (HRQ8.out.below b (Nat.le_refl _)).more hz
          have h := same06_yes a.q.h.mark (a.q.h.typ : Int) (a.q.h.seq : Int) (a.q.h.time : Int) (a.q.h.ssrc : Int) a.q.pad (str a.q.pay) a.q.h.A1 A8 A1 A9 a.q.h.c1 c8 c1 c9 a.q.h.csrc (a.q.h.ps.map Ip.it) w' (by have := (HFS.out a HAM.out).2.1; omega) (by rw [List.length_map]; exact (HFS.out a HAM.out).2.2) h1 h2 (by rw [List.length_map]; exact h3) (by rw [List.length_map]; exact h4)
          rw [List.length_map] at h
          exact h)
        go_wp2_with fail
        refine (CS.out _ ((Below.refl w8.heap.size w8).alloc (Nat.le_refl _) _)).mono ?_
        rintro e w9 ⟨rfl, b9⟩
        have HG9 := Lib.hid (((HG8.out.alloc (HG8.out).size (.cells #[.bool a.q.h.mark, .int .u8 (a.q.h.typ : Int), .int .u16 (a.q.h.seq : Int), .int .u32 (a.q.h.time : Int), .int .u32 (a.q.h.ssrc : Int), .slice A1 a.q.h.csrc.length c1, .slice A9 a.q.h.ps.length c9, .string (str a.q.pay), .int .i64 a.q.pad] 51))).trans (b9.mono ((HG8.out.alloc (HG8.out).size (.cells #[.bool a.q.h.mark, .int .u8 (a.q.h.typ : Int), .int .u16 (a.q.h.seq : Int), .int .u32 (a.q.h.time : Int), .int .u32 (a.q.h.ssrc : Int), .slice A1 a.q.h.csrc.length c1, .slice A9 a.q.h.ps.length c9, .string (str a.q.pay), .int .i64 a.q.pad] 51))).size))
        have NR : Whole (w8.alloc (.cells #[.bool a.q.h.mark, .int .u8 (a.q.h.typ : Int), .int .u16 (a.q.h.seq : Int), .int .u32 (a.q.h.time : Int), .int .u32 (a.q.h.ssrc : Int), .slice A1 a.q.h.csrc.length c1, .slice A9 a.q.h.ps.length c9, .string (str a.q.pay), .int .i64 a.q.pad] 51)) (w8.heap.size) 51 #[.bool a.q.h.mark, .int .u8 (a.q.h.typ : Int), .int .u16 (a.q.h.seq : Int), .int .u32 (a.q.h.time : Int), .int .u32 (a.q.h.ssrc : Int), .slice A1 a.q.h.csrc.length c1, .slice A9 a.q.h.ps.length c9, .string (str a.q.pay), .int .i64 a.q.pad] := by have := Whole.new w8 51 #[.bool a.q.h.mark, .int .u8 (a.q.h.typ : Int), .int .u16 (a.q.h.seq : Int), .int .u32 (a.q.h.time : Int), .int .u32 (a.q.h.ssrc : Int), .slice A1 a.q.h.csrc.length c1, .slice A9 a.q.h.ps.length c9, .string (str a.q.pay), .int .i64 a.q.pad]; first | with_reducible exact this | simpa using this
        have SX9 := ((SX8.out.alloc (.cells #[.bool a.q.h.mark, .int .u8 (a.q.h.typ : Int), .int .u16 (a.q.h.seq : Int), .int .u32 (a.q.h.time : Int), .int .u32 (a.q.h.ssrc : Int), .slice A1 a.q.h.csrc.length c1, .slice A9 a.q.h.ps.length c9, .string (str a.q.pay), .int .i64 a.q.pad] 51))).below b9 (by have := ((SX8.out.alloc (.cells #[.bool a.q.h.mark, .int .u8 (a.q.h.typ : Int), .int .u16 (a.q.h.seq : Int), .int .u32 (a.q.h.time : Int), .int .u32 (a.q.h.ssrc : Int), .slice A1 a.q.h.csrc.length c1, .slice A9 a.q.h.ps.length c9, .string (str a.q.pay), .int .i64 a.q.pad] 51))).lt; first | with_reducible exact this | simpa using this)
        have SQ9 := ((SQ8.out.alloc (.cells #[.bool a.q.h.mark, .int .u8 (a.q.h.typ : Int), .int .u16 (a.q.h.seq : Int), .int .u32 (a.q.h.time : Int), .int .u32 (a.q.h.ssrc : Int), .slice A1 a.q.h.csrc.length c1, .slice A9 a.q.h.ps.length c9, .string (str a.q.pay), .int .i64 a.q.pad] 51))).below b9 (by have := ((SQ8.out.alloc (.cells #[.bool a.q.h.mark, .int .u8 (a.q.h.typ : Int), .int .u16 (a.q.h.seq : Int), .int .u32 (a.q.h.time : Int), .int .u32 (a.q.h.ssrc : Int), .slice A1 a.q.h.csrc.length c1, .slice A9 a.q.h.ps.length c9, .string (str a.q.pay), .int .i64 a.q.pad] 51))).lt; first | with_reducible exact this | simpa using this)
        have SA9 := ((SA8.out.alloc (.cells #[.bool a.q.h.mark, .int .u8 (a.q.h.typ : Int), .int .u16 (a.q.h.seq : Int), .int .u32 (a.q.h.time : Int), .int .u32 (a.q.h.ssrc : Int), .slice A1 a.q.h.csrc.length c1, .slice A9 a.q.h.ps.length c9, .string (str a.q.pay), .int .i64 a.q.pad] 51))).below b9 (by have := ((SA8.out.alloc (.cells #[.bool a.q.h.mark, .int .u8 (a.q.h.typ : Int), .int .u16 (a.q.h.seq : Int), .int .u32 (a.q.h.time : Int), .int .u32 (a.q.h.ssrc : Int), .slice A1 a.q.h.csrc.length c1, .slice A9 a.q.h.ps.length c9, .string (str a.q.pay), .int .i64 a.q.pad] 51))).lt; first | with_reducible exact this | simpa using this)
        have SC9 := ((SC8.out.alloc (.cells #[.bool a.q.h.mark, .int .u8 (a.q.h.typ : Int), .int .u16 (a.q.h.seq : Int), .int .u32 (a.q.h.time : Int), .int .u32 (a.q.h.ssrc : Int), .slice A1 a.q.h.csrc.length c1, .slice A9 a.q.h.ps.length c9, .string (str a.q.pay), .int .i64 a.q.pad] 51))).below b9 (by have := ((SC8.out.alloc (.cells #[.bool a.q.h.mark, .int .u8 (a.q.h.typ : Int), .int .u16 (a.q.h.seq : Int), .int .u32 (a.q.h.time : Int), .int .u32 (a.q.h.ssrc : Int), .slice A1 a.q.h.csrc.length c1, .slice A9 a.q.h.ps.length c9, .string (str a.q.pay), .int .i64 a.q.pad] 51))).lt; first | with_reducible exact this | simpa using this)
        have SP9 := ((SP8.out.alloc (.cells #[.bool a.q.h.mark, .int .u8 (a.q.h.typ : Int), .int .u16 (a.q.h.seq : Int), .int .u32 (a.q.h.time : Int), .int .u32 (a.q.h.ssrc : Int), .slice A1 a.q.h.csrc.length c1, .slice A9 a.q.h.ps.length c9, .string (str a.q.pay), .int .i64 a.q.pad] 51))).below b9 (by have := ((SP8.out.alloc (.cells #[.bool a.q.h.mark, .int .u8 (a.q.h.typ : Int), .int .u16 (a.q.h.seq : Int), .int .u32 (a.q.h.time : Int), .int .u32 (a.q.h.ssrc : Int), .slice A1 a.q.h.csrc.length c1, .slice A9 a.q.h.ps.length c9, .string (str a.q.pay), .int .i64 a.q.pad] 51))).lt; first | with_reducible exact this | simpa using this)
        have SR9 := (NR).below b9 (by have := (NR).lt; first | with_reducible exact this | simpa using this)
        have HB9 := Lib.hid (((HB8.out.alloc (HB8.out).size (.cells #[.bool a.q.h.mark, .int .u8 (a.q.h.typ : Int), .int .u16 (a.q.h.seq : Int), .int .u32 (a.q.h.time : Int), .int .u32 (a.q.h.ssrc : Int), .slice A1 a.q.h.csrc.length c1, .slice A9 a.q.h.ps.length c9, .string (str a.q.pay), .int .i64 a.q.pad] 51))).trans (b9.mono ((HB8.out.alloc (HB8.out).size (.cells #[.bool a.q.h.mark, .int .u8 (a.q.h.typ : Int), .int .u16 (a.q.h.seq : Int), .int .u32 (a.q.h.time : Int), .int .u32 (a.q.h.ssrc : Int), .slice A1 a.q.h.csrc.length c1, .slice A9 a.q.h.ps.length c9, .string (str a.q.pay), .int .i64 a.q.pad] 51))).size))
        have lX9 := SX9.lt
        have lQ9 := SQ9.lt
        have lA9 := SA9.lt
        have lC9 := SC9.lt
        have lP9 := SP9.lt
        have lR9 := SR9.lt
        clear b9 P8_0 P8_1 P8_2 P8_3 P8_4 P8_5 P8_6 P8_7 P8_8 A8_0 A8_1 A8_2 A8_3 A8_4 A8_5 A8_6 A8_7 A8_8 A8_9 A8_10 A8_11 A8_12 A8_13 C8_0 C8_1 C8_2 C8_3 C8_4 C8_5 C8_6 C8_7 C8_8 C8_9 C8_10 C8_11 C8_12 C8_13 SX8 SQ8 SA8 SC8 SP8 NR HB8 CS heq
        replace SX9 := Lib.hid SX9
        replace SQ9 := Lib.hid SQ9
        replace SA9 := Lib.hid SA9
        replace SC9 := Lib.hid SC9
        replace SP9 := Lib.hid SP9
        replace SR9 := Lib.hid SR9
        go_wp2_with fail
        go_roundw
        case rel => exact ⟨k + 1, by omega, by go_num, S2, by rw [HNX.out]; exact HDA.out.next HG9.out, HSG2.out, HB9.out⟩
        case measure => simp [intOf]; omega
    · obtain rfl : k = n := by omega
      go_wp2_with fail
      go_ret
      exact ⟨rfl, HB.out⟩

set_option maxRecDepth 100000 in
theorem lifted (os : Os) (started : os.Started) (H : Type) (enc : TypeId × Value → H) :
    ReturnsInHanded {} Try.checked os 3 .any (Rows.downSameSpec.pre6 enc Try.prog Try.f3 Rows.downSameRow.domain false) (Rows.downSameSpec.post enc Try.prog Try.f3 false true false false) := by
  refine returnsInHanded_of_change (C := Try.checked) own started (by kernel_rfl) Try.func3
    (ChangeSpec.witness6 (enc := enc) (C := Try.checked) false ⟨#[], #[.int .u32 0, .slice none 0 0], []⟩ 8 (by kernel_rfl) (by kernel_rfl) (by kernel_rfl) (by kernel_rfl)) ?_
  intro W base args ds gs before hval0 hW _ _
  have hval : ∀ (j : Nat) t v, Try.f3.params[j]? = some t → args[j]? = some v → Value.okWide Try.prog W .any base t v := hval0
  have hW' := hW
  obtain ⟨p, q, hA0, hV, _, _, _⟩ := hW
  have hA : DataW.TrodAll enc Try.prog W 0 (fun _ => true) true Try.f3.params.toList args.toList ds p := hA0
  rw [Try.params3] at hA hval
  obtain ⟨v0, vs0, d0, ds0, p0, q0, hargs, rfl, _, h0, r0⟩ := trodAll_cons hA
  obtain ⟨v1, vs1, d1, ds1, p1, q1, rfl, rfl, _, h1, r1⟩ := trodAll_cons r0
  obtain ⟨rfl, rfl, _⟩ := trodAll_nil r1
  obtain rfl : args = #[v0, v1] := by cases args; simp_all
  obtain ⟨rfl, _⟩ := trodVars_none hV
  refine law_post (s := Rows.downSameSpec) rfl rfl (by rw [Try.params3]; intro t ht; simp at ht; rcases ht with rfl | rfl <;> exact ⟨by kernel_rfl, of_decide_eq_true (by kernel_rfl)⟩) rfl hW' ?_
  obtain ⟨a0, rfl, _, _, w0⟩ := open_int Try.underlying22 (hval 0 22 v0 rfl rfl) h0
  obtain ⟨A1, c1, l1, rfl, hl1, hr1, ho1⟩ := open_steps (hval 1 23 v1 rfl rfl) h1
  exact walk W a0 w0 A1 c1 l1 hl1 hr1 ho1

theorem over : Rows.downSameRow.holds Try.pinned (OpenSpec.ofChange Rows.downSameSpec) :=
  OpenClaim.holds_of_wide 3 Try.f3 rfl rfl rfl rfl rfl rfl rfl ⟨rfl, rfl, rfl, rfl, rfl⟩ rfl rfl rfl rfl rfl (by kernel_rfl) Try.func3 (by kernel_rfl)
    (of_decide_eq_true (by kernel_rfl)) (by unfold Func.isWrapper; first | (rw [if_pos (by decide +kernel)]; kernel_rfl) | (rw [if_neg (by decide +kernel)]; exact ⟨rfl, rfl⟩))
    (fun os started H enc _ => lifted os started H enc)

/-- The statement. -/
theorem downSame_holds : Rows.DownSameSaid := over

end Go.Proofs.Yticnaljfnjiofaa.NSame
