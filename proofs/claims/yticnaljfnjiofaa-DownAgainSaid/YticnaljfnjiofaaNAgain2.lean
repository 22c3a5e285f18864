/-
  Proved: DownAgain returns true for every room, and every row of packets. Conditions: none.
-/
import Derived.Test.YticnaljfnjiofaaDnA
import Derived.Test.YticnaljfnjiofaaDnF
import Derived.Test.YticnaljfnjiofaaGli
import Derived.Deep.CutBlock
import Derived.Deep.DeepCutAuto
import Derived.Test.YticnaljfnjiofaaDnT
import Derived.Test.YticnaljfnjiofaaEqS
import Derived.Deep.QuietTactic
import Derived.BigQuiet
namespace Go.Proofs.Yticnaljfnjiofaa.NAgain2
open Go.ChangeShapes Go.WideShapes Go.ChangeAt Go.RowKit
set_option linter.unusedSimpArgs false
set_option linter.unusedVariables false
set_option maxRecDepth 100000

set_option maxHeartbeats 6400000 in
theorem walk (w : World) (rm : Int) (hw : (Lit.int .u8 rm).wf = true) (A : Option Addr) (c : Nat) (l : List Sa) (hl : l.length ≤ maxLen) (hr : Row w w.heap.size 15 A l.length (rowC Sa.cells l)) (ho : ∀ a ∈ l, a.q.Ok w) :
    Calls Try.prog 6 #[.int .u8 rm, .slice A l.length c] w fun e w' => e = .returned (.bool true) ∧ Below w.heap.size w w' := by
  have hrm := wf_u8 hw
  clear hw
  obtain ⟨N, hN⟩ : ∃ N : Nat, rm % 30 + 1 = (N : Int) := ⟨(rm % 30 + 1).toNat, by omega⟩
  have HN1 : Hid (1 ≤ N ∧ N ≤ 30) := Lib.hid (by omega)
  obtain ⟨n, hn⟩ : ∃ n, l.length = n := ⟨_, rfl⟩
  have CF := fun w' hb => few_any A c l w w' hb hl hr ho
  rw [hn] at hr CF ⊢
  have HR := Lib.hid (fun (h0 : 0 < n) => row_at Sa.cells_length hr h0)
  have HO := Lib.hid ho
  have HN := Lib.hid hn
  have hl63 : n ≤ 9223372036854775807 := by rw [← hn]; exact hl
  have CF := Lib.hid CF
  clear hr ho hn hl
  have CN := Lib.hid (fun w => dnew_any 5 N (by decide) HN1.out.1 (by have := HN1.out.2; omega) w)
  go_enter Try.func6, Try.ntmps6
  go_wp2_with fail
  refine (awake_any w).mono ?_
  rintro e wa ⟨rfl, ba⟩
  have HBA := Lib.hid ba
  clear ba
  go_wp2_with fail
  refine (CF.out wa HBA.out).mono ?_
  rintro e wb ⟨rfl, bb⟩
  have HB0 := Lib.hid (HBA.out.trans (bb.mono HBA.out.size))
  clear bb HBA CF
  by_cases hfew : fewS l = false
  · rw [hfew]
    clear hfew
    go_wp2_with fail
    go_ret
    exact ⟨rfl, HB0.out⟩
  have hfew : fewS l = true := by simpa using hfew
  rw [hfew]
  have hfw := hfew
  unfold fewS at hfw
  rw [Bool.and_eq_true] at hfw
  have hn120 : n ≤ 120 := by have := hfw.2; rw [HN.out] at this; simpa using this
  have HFS : Hid (∀ a ∈ l, a.q.pay.length ≤ 200 ∧ a.q.h.csrc.length ≤ 20 ∧ a.q.h.ps.length ≤ 20) := Lib.hid (fun a ha => by have h := List.all_eq_true.1 hfw.1 a ha; unfold Sa.small at h; simp at h; omega)
  clear hfw hfew
  go_wp2_with fail
  refine (CN.out wb).mono ?_
  rintro e w1 ⟨g, S0, rfl, d1, hs1, b1⟩
  have HD1 := Lib.hid d1
  have HSG1 := Lib.hid (fun k h => Nat.le_trans HB0.out.size (hs1 k h))
  have HB1 := Lib.hid (HB0.out.trans (b1.mono HB0.out.size))
  clear d1 hs1 b1 CN HB0 hN
  go_wp2_with fail
  go_loopw [9, 10] (fun s i wr => ∃ k : Nat, k ≤ n ∧ i = .int .i64 (k : Int) ∧ wr.ownsRow w.heap.size 9 1 s ((Dn.new 5 N).outs ((l.take k).map Sa.x)).length (strs ((Dn.new 5 N).outs ((l.take k).map Sa.x))) ∧ ∃ S, DnAt wr g S ((Dn.new 5 N).run ((l.take k).map Sa.x)) ∧ (∀ q, s.ownBlock = some q → ¬ S q) ∧ (∀ k, S k → w.heap.size ≤ k) ∧ Below w.heap.size w wr) (fun _ i _ => n - (intOf i).toNat)
  case atStart => exact ⟨0, Nat.zero_le _, rfl, ⟨rfl, .inl ⟨rfl, rfl⟩⟩, S0, HD1.out, (by intro q hq; cases hq), HSG1.out, HB1.out⟩
  case round =>
    obtain ⟨k, hk, rfl, ho1, S, hd, hov, hsg, hb⟩ := hrel
    have HB := Lib.hid hb
    clear hb HD1 HSG1 HB1
    by_cases hlt : k < n
    · obtain ⟨g0, o, rfl, hg, hc⟩ := HR.out (by omega)
      obtain ⟨a, ha⟩ : ∃ a, l[k]? = some a := ⟨l[k]'(by rw [HN.out]; exact hlt), by simp⟩
      have e := fun j v hj => hc wr HB.out k a j v ha hj
      have r0 := e 0 _ rfl
      have r1 := e 1 _ rfl
      have r2 := e 2 _ rfl
      have r3 := e 3 _ rfl
      have r4 := e 4 _ rfl
      have r5 := e 5 _ rfl
      have r6 := e 6 _ rfl
      have r7 := e 7 _ rfl
      have r8 := e 8 _ rfl
      have r9 := e 9 _ rfl
      have r10 := e 10 _ rfl
      have r11 := e 11 _ rfl
      have r12 := e 12 _ rfl
      have r13 := e 13 _ rfl
      have r14 := e 14 _ rfl
      rw [Nat.add_zero] at r0
      have i1 : (0 : Int) ≤ (k : Int) := by omega
      have i2 : (k : Int) < (n : Int) := by omega
      clear e hc
      have HAM := Lib.hid (List.mem_of_getElem? ha)
      have HAT := Lib.hid ha
      clear ha
      obtain ⟨D, hD⟩ : ∃ D, ((Dn.new 5 N).run ((l.take k).map Sa.x)) = D := ⟨_, rfl⟩
      obtain ⟨SL, hSL⟩ : ∃ s, ((Dn.new 5 N).outs ((l.take k).map Sa.x)) = s := ⟨_, rfl⟩
      rw [hD] at hd
      rw [hSL] at ho1
      have hfit : ∀ y ∈ (l.take k).map Sa.x, y.p.Fit := by intro y hy; obtain ⟨z, hz, rfl⟩ := List.mem_map.1 hy; exact Pq.fit (HO.out z (List.mem_of_mem_take hz))
      have hlen : ((l.take k).map Sa.x).length = k := by rw [List.length_map, List.length_take, HN.out]; omega
      have hok := Dn.run_ok (ssrc := 5) (room := N) (by decide) _ hfit (by omega)
      rw [hD] at hok
      have HFEW := Lib.hid hok
      have hsl := (Dn.kept_outs (ssrc := 5) (N := N) (by decide) HN1.out.1 _ hfit).2.2
      rw [hSL, hlen] at hsl
      have hnx : (Dn.new 5 N).run ((l.take (k + 1)).map Sa.x) = D.next a.x := by rw [List.take_add_one, HAT.out, Option.toList_some, List.map_append, Dn.run_append, hD]; rfl
      have hox : (Dn.new 5 N).outs ((l.take (k + 1)).map Sa.x) = SL ++ if D.is a.x = true then [D.told a.x] else [] := by rw [List.take_add_one, HAT.out, Option.toList_some, List.map_append, List.map_cons, List.map_nil, Dn.outs_snoc, hD, hSL]
      have HD := Lib.hid hd
      have HSG := Lib.hid hsg
      have HOW := Lib.hid ho1
      have HOV := Lib.hid hov
      have HNX := Lib.hid hnx
      have HOX := Lib.hid hox
      have hlt1 := HD.out.lt
      have HLT := Lib.hid hlt1
      clear hd hsg hnx hfit hlen hok hlt1 ho1 hov hox hD hSL
      obtain ⟨As, cs, rfl⟩ := own_form HOW.out
      go_wp2_with fail
      obtain ⟨wz, hwz⟩ : ∃ z, z = wr.alloc (.cells #[.bool a.q.h.mark, .int .u8 (a.q.h.typ : Int), .int .u16 (a.q.h.seq : Int), .int .u32 (a.q.h.time : Int), .int .u32 (a.q.h.ssrc : Int), .slice a.q.h.A1 a.q.h.csrc.length a.q.h.c1, .slice a.q.h.A2 a.q.h.ps.length a.q.h.c2, .slice a.q.A3 a.q.pay.length a.q.c3, .int .i64 a.q.pad, .int .i64 a.src, .int .i64 a.lay, .int .i64 a.want.src, .int .i64 a.want.lay, .int .i64 a.want.tid, .bool a.muted] 39) := ⟨_, rfl⟩
      have HX := Lib.hid (show Whole wz wr.heap.size 39 #[.bool a.q.h.mark, .int .u8 (a.q.h.typ : Int), .int .u16 (a.q.h.seq : Int), .int .u32 (a.q.h.time : Int), .int .u32 (a.q.h.ssrc : Int), .slice a.q.h.A1 a.q.h.csrc.length a.q.h.c1, .slice a.q.h.A2 a.q.h.ps.length a.q.h.c2, .slice a.q.A3 a.q.pay.length a.q.c3, .int .i64 a.q.pad, .int .i64 a.src, .int .i64 a.lay, .int .i64 a.want.src, .int .i64 a.want.lay, .int .i64 a.want.tid, .bool a.muted] from by rw [hwz]; exact Whole.new wr _ _)
      have bz : Below wr.heap.size wr wz := by rw [hwz]; exact (Below.refl _ _).alloc (Nat.le_refl _) _
      have HBZ := Lib.hid (HB.out.trans (bz.mono HB.out.size))
      rw [← hwz]
      clear hwz r0 r1 r2 r3 r4 r5 r6 r7 r8 r9 r10 r11 r12 r13 r14
      have CT : Calls Try.prog 12 #[.pointer (some ⟨g, 0, none⟩), .agg #[.bool a.q.h.mark, .int .u8 (a.q.h.typ : Int), .int .u16 (a.q.h.seq : Int), .int .u32 (a.q.h.time : Int), .int .u32 (a.q.h.ssrc : Int), .slice a.q.h.A1 a.q.h.csrc.length a.q.h.c1, .slice a.q.h.A2 a.q.h.ps.length a.q.h.c2, .slice a.q.A3 a.q.pay.length a.q.c3, .int .i64 a.q.pad], .int .i64 a.src, .int .i64 a.lay, .agg #[.int .i64 a.want.src, .int .i64 a.want.lay, .int .i64 a.want.tid], .bool a.muted] wz (DTold D a.x g S wz) := dtake_any D a g S wz (HD.out.next bz) HFEW.out (Pq.Ok.at (HO.out a HAM.out) HBZ.out HSG.out (show a.q.pay.length ≤ 100000 from by have := (HFS.out a HAM.out).1; omega))
      unfold DTold at CT
      obtain ⟨D', hD'⟩ : ∃ x, D.next a.x = x := ⟨_, rfl⟩
      obtain ⟨tb, htb⟩ : ∃ x, D.told a.x = x := ⟨_, rfl⟩
      obtain ⟨ib, hib⟩ : ∃ x, D.is a.x = x := ⟨_, rfl⟩
      obtain ⟨kb, hkb⟩ : ∃ x, D.asks a.x = x := ⟨_, rfl⟩
      rw [hD', htb, hib, hkb] at CT
      rw [hD'] at HNX
      rw [hib, htb] at HOX
      have HOZ := Lib.hid (own_belowE HOW.out bz)
      clear hD' htb hib hkb bz
      have CT := Lib.hid CT
      refine CT.out.mono ?_
      rintro e w2 ⟨A2, c2, S2, rfl, d2, r2, _, _, k2, n2⟩
      have HD2 := Lib.hid d2
      have HB2 := Lib.hid (HBZ.out.trans (k2.below HBZ.out.size (fun k hk h => Nat.not_lt_of_le (HSG.out k h) hk)))
      have HSG2 : Hid (∀ k, S2 k → w.heap.size ≤ k) := Lib.hid (fun j h => (Nat.lt_or_ge j wz.heap.size).elim (fun hj => HSG.out j (n2 j hj h)) (fun hj => Nat.le_trans HBZ.out.size hj))
      have HO2 := Lib.hid (own_but HOZ.out k2 HOV.out)
      have HOV2 : Hid (∀ q, (Value.slice As SL.length cs).ownBlock = some q → ¬ S2 q) := Lib.hid (fun q hq h => HOV.out q hq (n2 q (HOZ.out.lt q hq).2 h))
      have HL2 := Lib.hid (show ∀ k, S2 k → k < w2.heap.size from fun k h => HD2.out.lt k h)
      have t1 := run_text (P := Try.prog) w2 33 5 9 Try.underlying33 Try.underlying5 Try.underlying9 _ A2 tb.length c2 _ r2
      clear d2 r2 k2 n2 CT HD HX HBZ HSG HLT HFEW HOW HOV HOZ
      cases ib with
      | false =>
        have HOX2 := Lib.hid (show (Dn.new 5 N).outs ((l.take (k + 1)).map Sa.x) = SL from by rw [HOX.out]; simp)
        clear HOX t1
        go_wp2_with fail
        go_roundw
        case rel => exact ⟨k + 1, by omega, by go_num, by rw [HOX2.out]; exact HO2.out, S2, by rw [HNX.out]; exact HD2.out, HOV2.out, HSG2.out, HB2.out⟩
        case measure => simp [intOf]; omega
      | true =>
        have HOX2 := Lib.hid (show (Dn.new 5 N).outs ((l.take (k + 1)).map Sa.x) = SL ++ [tb] from by rw [HOX.out]; simp)
        have HBA := Lib.hid (HB2.out.alloc HB2.out.size (.cells #[.string (str tb)] 9))
        have HDA := Lib.hid (HD2.out.next ((Below.refl w2.heap.size w2).alloc (Nat.le_refl _) (.cells #[.string (str tb)] 9)))
        have HOA := Lib.hid (HO2.out.alloc (.cells #[.string (str tb)] 9))
        have HRW := Lib.hid (show Row (w2.alloc (.cells #[.string (str tb)] 9)) (w2.heap.size + 1) 1 (some ⟨w2.heap.size, 0, none⟩) 1 [.string (str tb)] from by have := Row.fresh w2 9 #[.string (str tb)] 1 1 [.string (str tb)] rfl rfl; simpa using this)
        have hsz := HB2.out.size
        clear HOX
        go_wp2_with (at_builtin; refine wpl_append _ rfl (.tmp 70) (.tmp 73) 58 rfl w.heap.size 9 (.string ⟨#[]⟩) 1 16 Try.underlying58 info_S rfl (by decide) (.slice As SL.length cs) SL.length (strs SL) rfl HOA.out (w2.heap.size + 1) (some ⟨w2.heap.size, 0, none⟩) 1 1 [.string (str tb)] rfl HRW.out (by simp [Value.oneCell']) ?c1 ?c2 ?c3 ?_)
        case c1 => unfold maxLen; omega
        case c2 => omega
        case c3 => simp; omega
        intro v3 w3 hown3 hg3 hor
        have HB3 := Lib.hid (HBA.out.grown hg3 HBA.out.size (fun q hq => (HOA.out.lt q hq).1))
        have HD3 := Lib.hid (HDA.out.keep hg3.size (fun k h => hg3.block k (HDA.out.lt k h) (fun he => HOV2.out k he.symm h)))
        have HO3 : Hid (w3.ownsRow w.heap.size 9 1 v3 (SL ++ [tb]).length (strs (SL ++ [tb]))) := Lib.hid (by rw [strs_snoc, List.length_append, List.length_singleton]; exact hown3)
        have HOV3 : Hid (∀ q, v3.ownBlock = some q → ¬ S2 q) := Lib.hid (fun q hq h => by exact hor.elim (fun e => HOV2.out q (e.symm.trans hq) h) (fun e => by rw [e] at hq; injection hq with hq; have := HL2.out q h; have hs := ((Below.refl w2.heap.size w2).alloc (Nat.le_refl _) (.cells #[.string (str tb)] 9)).size; omega))
        clear hown3 hg3 hor HOA HDA HBA HRW t1
        go_wp2_with fail
        go_roundw
        case rel => exact ⟨k + 1, by omega, by go_num, by rw [HOX2.out]; exact HO3.out, S2, by rw [HNX.out]; exact HD3.out, HOV3.out, HSG2.out, HB3.out⟩
        case measure => simp [intOf]; omega
    · obtain rfl : k = n := by omega
      have htk : l.take k = l := by rw [← HN.out]; exact List.take_length
      rw [htk] at ho1 hd
      have hfit : ∀ y ∈ l.map Sa.x, y.p.Fit := by intro y hy; obtain ⟨z, hz, rfl⟩ := List.mem_map.1 hy; exact Pq.fit (HO.out z hz)
      have hkp := Dn.kept_outs (ssrc := 5) (N := N) (by decide) HN1.out.1 _ hfit
      have hok := Dn.run_ok (ssrc := 5) (room := N) (by decide) _ hfit (by rw [List.length_map, HN.out]; omega)
      obtain ⟨D, hD⟩ : ∃ D, (Dn.new 5 N).run (l.map Sa.x) = D := ⟨_, rfl⟩
      obtain ⟨SL, hSL⟩ : ∃ s, (Dn.new 5 N).outs (l.map Sa.x) = s := ⟨_, rfl⟩
      rw [hD] at hd hkp hok
      rw [hSL] at ho1 hkp
      obtain ⟨hk1, hk2, hk3⟩ := hkp
      rw [List.length_map, HN.out] at hk3
      have HKEPT := Lib.hid hk1
      have HSP := Lib.hid hk2
      have HFEW := Lib.hid hok
      obtain ⟨w0, hw0⟩ : ∃ z, z = wr := ⟨_, rfl⟩
      have HD0 := Lib.hid (show DnAt w0 g S D from by rw [hw0]; exact hd)
      have HO0 := Lib.hid (show w0.ownsRow w.heap.size 9 1 _ SL.length (strs SL) from by rw [hw0]; exact ho1)
      have HB0 := Lib.hid (show Below w.heap.size w w0 from by rw [hw0]; exact HB.out)
      rw [← hw0]
      obtain ⟨m, hm⟩ : ∃ m, SL.length = m := ⟨_, rfl⟩
      have HM := Lib.hid hm
      rw [hm] at HO0 hk3
      obtain ⟨As, cs, rfl⟩ := own_form HO0.out
      have hm120 : m ≤ 120 := by omega
      have HSOME : Hid (∀ j b, SL[j]? = some b → ∃ gs, As = some ⟨gs, 0, none⟩) := Lib.hid (fun j b hj => by obtain ⟨gs, c9, e, _⟩ := own_cell HO0.out (strs_get hj); injection e with e1; exact ⟨gs, e1⟩)
      have HCL : Hid (∀ gs, As = some ⟨gs, 0, none⟩ → ∀ w', Below w0.heap.size w0 w' → ∀ j b, SL[j]? = some b → w'.cell? ⟨gs, j, none⟩ = some (.string (str b))) := Lib.hid (fun gs he w' hb j b hj => by obtain ⟨g9, c9, e, hc⟩ := own_cell HO0.out (strs_get hj); injection e with e1; rw [he] at e1; injection e1 with e1; injection e1 with e1; subst e1; have hlt := (HO0.out.lt gs (by rw [he]; rfl)).2; exact (hb.cell (p := ⟨gs, j, none⟩) hlt).trans hc)
      clear hw0 hk1 hk2 hok hfit htk hd ho1 hov hsg hD hSL hm HB hlt hk
      go_wp2_with fail
      go_loopw [15] (fun i wr => ∃ k : Nat, k ≤ m ∧ i = .int .i64 (k : Int) ∧ Below w0.heap.size w0 wr) (fun i _ => m - (intOf i).toNat)
      case atStart => exact ⟨0, Nat.zero_le _, rfl, Below.refl _ _⟩
      case round =>
        obtain ⟨i, hi, rfl, hbr⟩ := hrel
        have HBR := Lib.hid hbr
        clear hbr
        by_cases hlt : i < m
        · obtain ⟨b, hb⟩ : ∃ b, SL[i]? = some b := ⟨SL[i]'(by rw [HM.out]; exact hlt), by simp⟩
          obtain ⟨gs, rfl⟩ := HSOME.out i b hb
          have HCELL := Lib.hid (HCL.out gs rfl)
          have HBI := Lib.hid hb
          have i1 : (0 : Int) ≤ (i : Int) := by omega
          have i2 : (i : Int) < (m : Int) := by omega
          clear hb
          have HGEa := HSP.out _ (List.mem_of_getElem? HBI.out)
          obtain ⟨q, hpa, hqa, hlena⟩ := HGEa
          have hcea := HCELL.out wr HBR.out _ _ HBI.out
          obtain ⟨cca, wca, hcva, hrowa, hbca, hc1a, hc2a⟩ := conv_bytes wr b hlena
          have CPa := Lib.hid (by have h := rparse_any (some ⟨wr.heap.size, 0, none⟩) cca b wca hrowa hc1a hc2a (by omega); rw [hpa] at h; exact h : Calls Try.prog 13 #[.slice (some ⟨wr.heap.size, 0, none⟩) b.length cca] wca (RParsed (q, 0) wca))
          have HQSa := Lib.hid hqa
          have HSOa : Hid (seqOf b = (q.seq : Int)) := Lib.hid (by unfold seqOf; rw [hpa])
          have HBCa := Lib.hid (HBR.out.trans (hbca.mono HBR.out.size))
          have HWCa := Lib.hid hbca
          clear hpa hqa hlena hrowa hbca hc1a hc2a
          go_wp2_with fail
          refine CPa.out.mono ?_
          rintro e va ⟨A1a, c1a, A2a, c2a, A3a, c3a, psa, rfl, _, _, _, _, bpa⟩
          dsimp only [Mp.cells]
          have HBVa := Lib.hid (HBCa.out.trans (bpa.mono HBCa.out.size))
          have HWVa := Lib.hid (HWCa.out.trans (bpa.mono HWCa.out.size))
          clear bpa HBCa CPa hcva hcea
          obtain ⟨sq, hsq⟩ : ∃ x, (q.seq : Int) = x := ⟨_, rfl⟩
          have hsb : 0 ≤ sq ∧ sq < 65536 := by have := HQSa.out; omega
          rw [hsq] at HSOa
          rw [hsq]
          have HSQ := Lib.hid hsq
          clear hsq
          go_wp2_with fail
          obtain ⟨wp, hwp⟩ : ∃ z, z = va.alloc (.cells #[.bool q.mark, .int .u8 (q.typ : Int), .int .u16 sq, .int .u32 (q.time : Int), .int .u32 (q.ssrc : Int), .slice A1a q.csrc.length c1a, .slice A2a q.exts.length c2a, .slice A3a q.pay.length c3a, .int .i64 q.pad] 35) := ⟨_, rfl⟩
          have HP := Lib.hid (show Whole wp va.heap.size 35 #[.bool q.mark, .int .u8 (q.typ : Int), .int .u16 sq, .int .u32 (q.time : Int), .int .u32 (q.ssrc : Int), .slice A1a q.csrc.length c1a, .slice A2a q.exts.length c2a, .slice A3a q.pay.length c3a, .int .i64 q.pad] from by rw [hwp]; exact Whole.new va _ _)
          have HBP := Lib.hid (show Below w0.heap.size w0 wp from by rw [hwp]; exact HBVa.out.alloc HBVa.out.size _)
          rw [← hwp]
          clear hwp HBVa
          have j3 : (i : Int) + 1 ≤ 9223372036854775807 := by omega
          go_loopw [18, 19] (fun la kk wi => ∃ j t : Nat, i + 1 ≤ j ∧ j ≤ m ∧ kk = .int .i64 (j : Int) ∧ la = .int .i64 (t : Int) ∧ i ≤ t ∧ t < j ∧ (∃ y, SL[t]? = some y ∧ seqOf y = sq) ∧ (∀ j', t < j' → j' < j → ∀ y, SL[j']? = some y → seqOf y ≠ sq) ∧ Below wp.heap.size wp wi) (fun _ kk _ => m - (intOf kk).toNat)
          case atStart => exact ⟨i + 1, i, Nat.le_refl _, by omega, by go_num, rfl, Nat.le_refl _, Nat.lt_succ_self _, ⟨b, HBI.out, HSOa.out⟩, fun j' h1 h2 => by omega, Below.refl _ _⟩
          case round =>
            obtain ⟨j, t, hj1, hj2, rfl, rfl, ht1, ht2, hty, hno, hbi⟩ := hrel
            have HTY := Lib.hid hty
            have HNO := Lib.hid hno
            have HBW := Lib.hid (HBP.out.trans (hbi.mono HBP.out.size))
            have HPI := Lib.hid (HP.out.below hbi HP.out.lt)
            have HBI2 := Lib.hid hbi
            clear hty hno hbi
            by_cases hjl : j < m
            · obtain ⟨y, hy⟩ : ∃ y, SL[j]? = some y := ⟨SL[j]'(by rw [HM.out]; exact hjl), by simp⟩
              have HYI := Lib.hid hy
              have j1 : (0 : Int) ≤ (j : Int) := by omega
              have j2 : (j : Int) < (m : Int) := by omega
              clear hy
              have HGEb := HSP.out _ (List.mem_of_getElem? HYI.out)
              obtain ⟨u, hpb, hqb, hlenb⟩ := HGEb
              have hceb := HCELL.out wr HBW.out _ _ HYI.out
              obtain ⟨ccb, wcb, hcvb, hrowb, hbcb, hc1b, hc2b⟩ := conv_bytes wr y hlenb
              have CPb := Lib.hid (by have h := rparse_any (some ⟨wr.heap.size, 0, none⟩) ccb y wcb hrowb hc1b hc2b (by omega); rw [hpb] at h; exact h : Calls Try.prog 13 #[.slice (some ⟨wr.heap.size, 0, none⟩) y.length ccb] wcb (RParsed (u, 0) wcb))
              have HQSb := Lib.hid hqb
              have HSOb : Hid (seqOf y = (u.seq : Int)) := Lib.hid (by unfold seqOf; rw [hpb])
              have HBCb := Lib.hid (HBW.out.trans (hbcb.mono HBW.out.size))
              have HWCb := Lib.hid hbcb
              clear hpb hqb hlenb hrowb hbcb hc1b hc2b
              go_wp2_with fail
              refine CPb.out.mono ?_
              rintro e vb ⟨A1b, c1b, A2b, c2b, A3b, c3b, psb, rfl, _, _, _, _, bpb⟩
              dsimp only [Mp.cells]
              have HBVb := Lib.hid (HBCb.out.trans (bpb.mono HBCb.out.size))
              have HWVb := Lib.hid (HWCb.out.trans (bpb.mono HWCb.out.size))
              clear bpb HBCb CPb hcvb hceb
              obtain ⟨su, hsu⟩ : ∃ x, (u.seq : Int) = x := ⟨_, rfl⟩
              rw [hsu] at HSOb
              rw [hsu]
              have HSU := Lib.hid hsu
              clear hsu
              have HPV := Lib.hid (HPI.out.below HWVb.out HPI.out.lt)
              have y2 := HPV.out.cell 2
              have hvl := HPV.out.lt
              have hvn : va.heap.size ≠ vb.heap.size := by omega
              have HBE := Lib.hid (fun (o : Obj) => (HBI2.out.trans (HWVb.out.mono HBI2.out.size)).alloc ((HBI2.out.trans (HWVb.out.mono HBI2.out.size))).size o)
              by_cases heq : su = sq
              · have e1 : (su == sq) = true := by simp [heq]
                go_wp2_with fail
                go_roundw
                case rel => exact ⟨j + 1, j, by omega, by omega, by go_num, rfl, by omega, by omega, ⟨y, HYI.out, HSOb.out.trans heq⟩, fun j' h1 h2 => by omega, HBE.out _⟩
                case measure => simp [intOf]; omega
              · have e1 : (su == sq) = false := by simp [heq]
                have hno2 : ∀ j', t < j' → j' < j + 1 → ∀ z, SL[j']? = some z → seqOf z ≠ sq := by
                  intro j' h1 h2 z hz
                  by_cases hjj : j' = j
                  · rw [hjj, HYI.out] at hz
                    injection hz with hz
                    rw [← hz, HSOb.out]
                    exact heq
                  · exact HNO.out j' h1 (by omega) z hz
                have HNO2 := Lib.hid hno2
                clear hno2
                go_wp2_with fail
                go_roundw
                case rel => exact ⟨j + 1, t, by omega, by omega, by go_num, rfl, by omega, by omega, HTY.out, HNO2.out, HBE.out _⟩
                case measure => simp [intOf]; omega
            · obtain rfl : j = m := by omega
              obtain ⟨y, hy, hys⟩ := HTY.out
              have hgl := get_last (N := N) hy (fun j' h1 b' hb' => by rw [hys]; exact HNO.out j' h1 (by have := (List.getElem?_eq_some_iff.1 hb').1; rw [HM.out] at this; exact this) b' hb')
              rw [hys, HM.out, ← HKEPT.out] at hgl
              have CA := dagain_any D g S sq hsb wr (HD0.out.next HBW.out) HFEW.out
              rw [hgl] at CA
              have HYC := Lib.hid (fun w' (h : Below w0.heap.size w0 w') => HCELL.out w' h t y hy)
              have HYL := Lib.hid (HSP.out y (List.mem_of_getElem? hy))
              have y2 := HPI.out.cell 2
              have t0 : (0 : Int) ≤ (t : Int) := by omega
              have t1' : (t : Int) < (j : Int) := by omega
              clear hgl hy hys HTY HNO
              by_cases hkk : j ≤ t + N
              · rw [if_pos hkk] at CA
                have CA := Lib.hid CA
                go_wp2_with fail
                refine CA.out.mono ?_
                rintro e w6 ⟨A6, c6, rfl, r6, b6⟩
                have HB6 := Lib.hid (HBW.out.trans (b6.mono HBW.out.size))
                clear y2
                have hcv : ∀ nn, (convert 33 9 (.slice A6 y.length c6)).run Try.prog (w6.drewN nn) = .ok (.string (str y)) (w6.drewN nn) := fun nn => run_text (P := Try.prog) (w6.drewN nn) 33 5 9 Try.underlying33 Try.underlying5 Try.underlying9 w6.heap.size A6 y.length c6 y r6
                have hyc := HYC.out w6 HB6.out
                obtain ⟨TB, hTB⟩ : ∃ x, str y = x := ⟨_, rfl⟩
                rw [hTB] at hcv hyc
                rw [show ((some y).getD []) = y from rfl, show (some y).isSome = true from rfl]
                clear r6 b6 CA
                have hb1 := HN1.out
                have w1' : IntKind.i64.wrap ((j : Int) - (N : Int)) = (j : Int) - (N : Int) := wrapI64 _ (by omega)
                have w2' : wrap64 ((j : Int) - (N : Int)) = (j : Int) - (N : Int) := IntWalk.wrap64_in _ (by omega)
                have d1' : decide ((j : Int) - (N : Int) ≤ (t : Int)) = true := by simp; omega
                have hle' : (j : Int) - (N : Int) ≤ (t : Int) := by omega
                have HW6 := Lib.hid HB6.out
                go_wp2_with fail
                go_quiet (fail)
                go_wp2_with fail
                go_roundw
                case rel => exact ⟨i + 1, by omega, by go_num, bdrewN HB6.out _⟩
                case measure => simp [intOf]; omega
              · rw [if_neg hkk] at CA
                have CA := Lib.hid CA
                go_wp2_with fail
                refine CA.out.mono ?_
                rintro e w6 ⟨A6, c6, rfl, r6, b6⟩
                have HB6 := Lib.hid (HBW.out.trans (b6.mono HBW.out.size))
                clear y2
                rw [show ((none : Option (List UInt8)).isSome) = false from rfl, show ((none : Option (List UInt8)).getD []) = [] from rfl, List.length_nil]
                clear r6 b6 CA
                have hb1 := HN1.out
                have w1' : IntKind.i64.wrap ((j : Int) - (N : Int)) = (j : Int) - (N : Int) := wrapI64 _ (by omega)
                have w2' : wrap64 ((j : Int) - (N : Int)) = (j : Int) - (N : Int) := IntWalk.wrap64_in _ (by omega)
                have d1' : decide ((j : Int) - (N : Int) ≤ (t : Int)) = false := by simp; omega
                have hlt' : (t : Int) < (j : Int) - (N : Int) := by omega
                have HW6 := Lib.hid HB6.out
                go_wp2_with fail
                go_quiet (fail)
                go_wp2_with fail
                go_roundw
                case rel => exact ⟨i + 1, by omega, by go_num, bdrewN HB6.out _⟩
                case measure => simp [intOf]; omega
        · obtain rfl : i = m := by omega
          have HBW := Lib.hid (HB0.out.trans (HBR.out.mono HB0.out.size))
          have CZ : ∀ w', Calls Try.prog 12 #[.pointer none, .agg #[.bool false, .int .u8 0, .int .u16 0, .int .u32 0, .int .u32 0, .slice none 0 0, .slice none 0 0, .slice none 0 0, .int .i64 0], .int .i64 0, .int .i64 0, .agg #[.int .i64 0, .int .i64 0, .int .i64 0], .bool false] w' fun e w'' => e = .returned (.tuple #[.slice none 0 0, .bool false, .bool false]) ∧ Below w'.heap.size w' w'' := fun w' => dtake_nil ⟨⟨⟨false, 0, 0, 0, 0, [], none, 0, [], none, 0⟩, [], none, 0, 0⟩, 0, 0, ⟨0, 0, 0⟩, false⟩ w'
          have CZ := Lib.hid CZ
          go_wp2_with fail
          refine (CZ.out wr).mono ?_
          rintro e u1 ⟨rfl, b1⟩
          have HU1 := Lib.hid (HBW.out.trans (b1.mono HBW.out.size))
          clear b1
          go_wp2_with fail
          refine (dagain_nil 0 u1).mono ?_
          rintro e u2 ⟨rfl, b2⟩
          have HU2 := Lib.hid (HU1.out.trans (b2.mono HU1.out.size))
          clear b2
          go_wp2_with fail
          refine (dssrc_nil u2).mono ?_
          rintro e u3 ⟨rfl, b3⟩
          have HU3 := Lib.hid (HU2.out.trans (b3.mono HU2.out.size))
          clear b3
          go_wp2_with fail
          refine (dcount_nil u3).mono ?_
          rintro e u4 ⟨rfl, b4⟩
          have HU4 := Lib.hid (HU3.out.trans (b4.mono HU3.out.size))
          clear b4
          have hcnt := eqs_count u4 0 0 0 0 0 0 0 0 0 0
          rw [show ((0 : Int) == 0 && ((0 : Int) == 0 && ((0 : Int) == 0 && ((0 : Int) == 0 && ((0 : Int) == 0 && true))))) = true from rfl] at hcnt
          go_wp2_with fail
          refine (dnew_none 1 u4).mono ?_
          rintro e u5 ⟨rfl, b5⟩
          have HU5 := Lib.hid (HU4.out.trans (b5.mono HU4.out.size))
          clear b5 hcnt
          go_wp2_with fail
          go_ret
          exact ⟨rfl, HU5.out⟩

set_option maxRecDepth 100000 in
theorem lifted (os : Os) (started : os.Started) (H : Type) (enc : TypeId × Value → H) :
    ReturnsInHanded {} Try.checked os 6 .any (Rows.downAgainSpec.pre6 enc Try.prog Try.f6 Rows.downAgainRow.domain false) (Rows.downAgainSpec.post enc Try.prog Try.f6 false true false false) := by
  refine returnsInHanded_of_change (C := Try.checked) own started (by kernel_rfl) Try.func6
    (ChangeSpec.witness6 (enc := enc) (C := Try.checked) false ⟨#[], #[.int .u8 0, .slice none 0 0], []⟩ 8 (by kernel_rfl) (by kernel_rfl) (by kernel_rfl) (by kernel_rfl)) ?_
  intro W base args ds gs before hval0 hW _ _
  have hval : ∀ (j : Nat) t v, Try.f6.params[j]? = some t → args[j]? = some v → Value.okWide Try.prog W .any base t v := hval0
  have hW' := hW
  obtain ⟨p, q, hA0, hV, _, _, _⟩ := hW
  have hA : DataW.TrodAll enc Try.prog W 0 (fun _ => true) true Try.f6.params.toList args.toList ds p := hA0
  rw [Try.params6] at hA hval
  obtain ⟨v0, vs0, d0, ds0, p0, q0, hargs, rfl, _, h0, r0⟩ := trodAll_cons hA
  obtain ⟨v1, vs1, d1, ds1, p1, q1, rfl, rfl, _, h1, r1⟩ := trodAll_cons r0
  obtain ⟨rfl, rfl, _⟩ := trodAll_nil r1
  obtain rfl : args = #[v0, v1] := by cases args; simp_all
  obtain ⟨rfl, _⟩ := trodVars_none hV
  refine law_post (s := Rows.downAgainSpec) rfl rfl (by rw [Try.params6]; intro t ht; simp at ht; rcases ht with rfl | rfl <;> exact ⟨by kernel_rfl, of_decide_eq_true (by kernel_rfl)⟩) rfl hW' ?_
  obtain ⟨a0, rfl, _, _, w0⟩ := open_int Try.underlying5 (hval 0 5 v0 rfl rfl) h0
  obtain ⟨A1, c1, l1, rfl, hl1, hr1, ho1⟩ := open_steps (hval 1 23 v1 rfl rfl) h1
  exact walk W a0 w0 A1 c1 l1 hl1 hr1 ho1

theorem over : Rows.downAgainRow.holds Try.pinned (OpenSpec.ofChange Rows.downAgainSpec) :=
  OpenClaim.holds_of_wide 6 Try.f6 rfl rfl rfl rfl rfl rfl rfl ⟨rfl, rfl, rfl, rfl, rfl⟩ rfl rfl rfl rfl rfl (by kernel_rfl) Try.func6 (by kernel_rfl)
    (of_decide_eq_true (by kernel_rfl)) (by unfold Func.isWrapper; first | (rw [if_pos (by decide +kernel)]; kernel_rfl) | (rw [if_neg (by decide +kernel)]; exact ⟨rfl, rfl⟩))
    (fun os started H enc _ => lifted os started H enc)

/-- The statement. -/
theorem downAgain_holds : Rows.DownAgainSaid := over

end Go.Proofs.Yticnaljfnjiofaa.NAgain2
