/-
  Proved: DownCounts returns true for every room, and every row of packets. Conditions: none.
-/
import Derived.Test.YticnaljfnjiofaaDnA
import Derived.Test.YticnaljfnjiofaaDnF
import Derived.Test.YticnaljfnjiofaaGli
import Derived.Deep.CutBlock
import Derived.Deep.DeepCutAuto
namespace Go.Proofs.Yticnaljfnjiofaa.NCounts
open Go.ChangeShapes Go.WideShapes Go.ChangeAt Go.RowKit
set_option linter.unusedSimpArgs false
set_option linter.unusedVariables false
set_option maxRecDepth 100000

set_option maxHeartbeats 3200000 in
theorem walk (w : World) (rm : Int) (hw : (Lit.int .u8 rm).wf = true) (A : Option Addr) (c : Nat) (l : List Sa) (hl : l.length ≤ maxLen) (hr : Row w w.heap.size 15 A l.length (rowC Sa.cells l)) (ho : ∀ a ∈ l, a.q.Ok w) :
    Calls Try.prog 7 #[.int .u8 rm, .slice A l.length c] w fun e w' => e = .returned (.bool true) ∧ Below w.heap.size w w' := by
  have hrm := wf_u8 hw
  clear hw
  obtain ⟨N, hN⟩ : ∃ N : Nat, rm % 9 + 1 = (N : Int) := ⟨(rm % 9 + 1).toNat, by omega⟩
  have hN1 : 1 ≤ N ∧ N ≤ 9 := by omega
  obtain ⟨n, hn⟩ : ∃ n, l.length = n := ⟨_, rfl⟩
  have CF := fun w' hb => few_any A c l w w' hb hl hr ho
  rw [hn] at hr CF ⊢
  have HR := Lib.hid (fun (h0 : 0 < n) => row_at Sa.cells_length hr h0)
  have HO := Lib.hid ho
  have HN := Lib.hid hn
  have hl63 : n ≤ 9223372036854775807 := by rw [← hn]; exact hl
  have CF := Lib.hid CF
  clear hr ho hn hl
  have CN := Lib.hid (fun w => dnew_any 3 N (by decide) hN1.1 (by omega) w)
  go_enter Try.func7, Try.ntmps7
  go_wp2_with fail
  refine (awake_any w).mono ?_
  rintro e wa ⟨rfl, ba⟩
  have HBA := Lib.hid ba
  clear ba
  go_wp2_with fail
  refine (CF.out wa HBA.out).mono ?_
  rintro e wb ⟨rfl, bb⟩
  have HB0 := Lib.hid (HBA.out.trans (bb.mono HBA.out.size))
  clear bb HBA CF
  by_cases hfew : fewS l = false
  · rw [hfew]
    clear hfew
    go_wp2_with fail
    go_ret
    exact ⟨rfl, HB0.out⟩
  have hfew : fewS l = true := by simpa using hfew
  rw [hfew]
  have hfw := hfew
  unfold fewS at hfw
  rw [Bool.and_eq_true] at hfw
  have hn120 : n ≤ 120 := by have := hfw.2; rw [HN.out] at this; simpa using this
  have HFS : Hid (∀ a ∈ l, a.q.pay.length ≤ 200 ∧ a.q.h.csrc.length ≤ 20 ∧ a.q.h.ps.length ≤ 20) := Lib.hid (fun a ha => by have h := List.all_eq_true.1 hfw.1 a ha; unfold Sa.small at h; simp at h; omega)
  clear hfw hfew
  go_wp2_with fail
  refine (CN.out wb).mono ?_
  rintro e w1 ⟨g, S0, rfl, d1, hs1, b1⟩
  have HD1 := Lib.hid d1
  have HSG1 := Lib.hid (fun k h => Nat.le_trans HB0.out.size (hs1 k h))
  have HB1 := Lib.hid (HB0.out.trans (b1.mono HB0.out.size))
  clear d1 hs1 b1 CN HB0 hN hN1
  go_wp2_with fail
  go_loopw [8, 9] (fun s i wr => ∃ k : Nat, k ≤ n ∧ s = .int .i64 (((Dn.new 3 N).run ((l.take k).map Sa.x)).sent : Int) ∧ i = .int .i64 (k : Int) ∧ ∃ S, DnAt wr g S ((Dn.new 3 N).run ((l.take k).map Sa.x)) ∧ (∀ k, S k → w.heap.size ≤ k) ∧ Below w.heap.size w wr) (fun _ i _ => n - (intOf i).toNat)
  case atStart => exact ⟨0, Nat.zero_le _, rfl, rfl, S0, HD1.out, HSG1.out, HB1.out⟩
  case round =>
    obtain ⟨k, hk, hsv, rfl, S, hd, hsg, hb⟩ := hrel
    have HB := Lib.hid hb
    clear hb HD1 HSG1 HB1
    by_cases hlt : k < n
    · obtain ⟨g0, o, rfl, hg, hc⟩ := HR.out (by omega)
      obtain ⟨a, ha⟩ : ∃ a, l[k]? = some a := ⟨l[k]'(by rw [HN.out]; exact hlt), by simp⟩
      have e := fun j v hj => hc wr HB.out k a j v ha hj
      have r0 := e 0 _ rfl
      have r1 := e 1 _ rfl
      have r2 := e 2 _ rfl
      have r3 := e 3 _ rfl
      have r4 := e 4 _ rfl
      have r5 := e 5 _ rfl
      have r6 := e 6 _ rfl
      have r7 := e 7 _ rfl
      have r8 := e 8 _ rfl
      have r9 := e 9 _ rfl
      have r10 := e 10 _ rfl
      have r11 := e 11 _ rfl
      have r12 := e 12 _ rfl
      have r13 := e 13 _ rfl
      have r14 := e 14 _ rfl
      rw [Nat.add_zero] at r0
      have i1 : (0 : Int) ≤ (k : Int) := by omega
      have i2 : (k : Int) < (n : Int) := by omega
      clear e hc
      have HAM := Lib.hid (List.mem_of_getElem? ha)
      have HAT := Lib.hid ha
      clear ha
      obtain ⟨D, hD⟩ : ∃ D, (Dn.new 3 N).run ((l.take k).map Sa.x) = D := ⟨_, rfl⟩
      rw [hD] at hd hsv
      obtain ⟨q0, hq0⟩ : ∃ x, D.sent = x := ⟨_, rfl⟩
      rw [hq0] at hsv
      subst hsv
      have hfit : ∀ y ∈ (l.take k).map Sa.x, y.p.Fit := by intro y hy; obtain ⟨z, hz, rfl⟩ := List.mem_map.1 hy; exact Pq.fit (HO.out z (List.mem_of_mem_take hz))
      have hlen : ((l.take k).map Sa.x).length = k := by rw [List.length_map, List.length_take, HN.out]; omega
      have hrun := Dn.run_few (ssrc := 3) (room := N) _ hfit
      have hok := Dn.run_ok (ssrc := 3) (room := N) (by decide) _ hfit (by omega)
      rw [hD] at hrun hok
      rw [hlen] at hrun
      have HFEW := Lib.hid hok
      have hnx : (Dn.new 3 N).run ((l.take (k + 1)).map Sa.x) = D.next a.x := by rw [List.take_add_one, HAT.out, Option.toList_some, List.map_append, Dn.run_append, hD]; rfl
      have hnf := Dn.next_few (x := a.x) (Pq.fit (HO.out a HAM.out)) k hrun.1 hrun.2.2.2
      have hsent : (D.next a.x).sent = D.sent + if D.is a.x = true then 1 else 0 := Dn.next_sent D a.x
      have HD := Lib.hid hd
      have HSG := Lib.hid hsg
      have HNX := Lib.hid hnx
      have hlt1 := HD.out.lt
      have HLT := Lib.hid hlt1
      clear hd hsg hnx hfit hlen hok hlt1
      go_wp2_with fail
      obtain ⟨wz, hwz⟩ : ∃ z, z = wr.alloc (.cells #[.bool a.q.h.mark, .int .u8 (a.q.h.typ : Int), .int .u16 (a.q.h.seq : Int), .int .u32 (a.q.h.time : Int), .int .u32 (a.q.h.ssrc : Int), .slice a.q.h.A1 a.q.h.csrc.length a.q.h.c1, .slice a.q.h.A2 a.q.h.ps.length a.q.h.c2, .slice a.q.A3 a.q.pay.length a.q.c3, .int .i64 a.q.pad, .int .i64 a.src, .int .i64 a.lay, .int .i64 a.want.src, .int .i64 a.want.lay, .int .i64 a.want.tid, .bool a.muted] 39) := ⟨_, rfl⟩
      have HX := Lib.hid (show Whole wz wr.heap.size 39 #[.bool a.q.h.mark, .int .u8 (a.q.h.typ : Int), .int .u16 (a.q.h.seq : Int), .int .u32 (a.q.h.time : Int), .int .u32 (a.q.h.ssrc : Int), .slice a.q.h.A1 a.q.h.csrc.length a.q.h.c1, .slice a.q.h.A2 a.q.h.ps.length a.q.h.c2, .slice a.q.A3 a.q.pay.length a.q.c3, .int .i64 a.q.pad, .int .i64 a.src, .int .i64 a.lay, .int .i64 a.want.src, .int .i64 a.want.lay, .int .i64 a.want.tid, .bool a.muted] from by rw [hwz]; exact Whole.new wr _ _)
      have bz : Below wr.heap.size wr wz := by rw [hwz]; exact (Below.refl _ _).alloc (Nat.le_refl _) _
      have HBZ := Lib.hid (HB.out.trans (bz.mono HB.out.size))
      rw [← hwz]
      clear hwz r0 r1 r2 r3 r4 r5 r6 r7 r8 r9 r10 r11 r12 r13 r14
      have CT : Calls Try.prog 12 #[.pointer (some ⟨g, 0, none⟩), .agg #[.bool a.q.h.mark, .int .u8 (a.q.h.typ : Int), .int .u16 (a.q.h.seq : Int), .int .u32 (a.q.h.time : Int), .int .u32 (a.q.h.ssrc : Int), .slice a.q.h.A1 a.q.h.csrc.length a.q.h.c1, .slice a.q.h.A2 a.q.h.ps.length a.q.h.c2, .slice a.q.A3 a.q.pay.length a.q.c3, .int .i64 a.q.pad], .int .i64 a.src, .int .i64 a.lay, .agg #[.int .i64 a.want.src, .int .i64 a.want.lay, .int .i64 a.want.tid], .bool a.muted] wz (DTold D a.x g S wz) := dtake_any D a g S wz (HD.out.next bz) HFEW.out (Pq.Ok.at (HO.out a HAM.out) HBZ.out HSG.out (by have := (HFS.out a HAM.out).1; omega))
      unfold DTold at CT
      obtain ⟨D', hD'⟩ : ∃ x, D.next a.x = x := ⟨_, rfl⟩
      obtain ⟨tb, htb⟩ : ∃ x, D.told a.x = x := ⟨_, rfl⟩
      obtain ⟨ib, hib⟩ : ∃ x, D.is a.x = x := ⟨_, rfl⟩
      obtain ⟨kb, hkb⟩ : ∃ x, D.asks a.x = x := ⟨_, rfl⟩
      rw [hD', htb, hib, hkb] at CT
      rw [hD', hib] at hsent
      rw [hD'] at hnf HNX
      have s1 := hnf.1
      have s2 := hrun.1
      obtain ⟨q1, hq1⟩ : ∃ x, D'.sent = x := ⟨_, rfl⟩
      obtain ⟨q2, hq2⟩ : ∃ x, D'.left = x := ⟨_, rfl⟩
      obtain ⟨q3, hq3⟩ : ∃ x, D'.drop = x := ⟨_, rfl⟩
      obtain ⟨q4, hq4⟩ : ∃ x, D'.late = x := ⟨_, rfl⟩
      obtain ⟨q5, hq5⟩ : ∃ x, D'.bad = x := ⟨_, rfl⟩
      have HCV : Hid (D'.countV = #[.int .i64 (q1 : Int), .int .i64 (q2 : Int), .int .i64 (q3 : Int), .int .i64 (q4 : Int), .int .i64 (q5 : Int)]) := Lib.hid (by unfold Dn.countV; rw [hq1, hq2, hq3, hq4, hq5])
      rw [hq1, hq0] at hsent
      rw [hq1, hq2, hq3, hq4, hq5] at s1
      rw [hq0] at s2
      have HQ1 := Lib.hid hq1
      clear hq0 hq1 hq2 hq3 hq4 hq5 hD hD' htb hib hkb hnf hrun bz
      have q0l : q0 ≤ k := by omega
      clear s2
      have CT := Lib.hid CT
      skip
      refine CT.out.mono ?_
      rintro e w2 ⟨A2, c2, S2, rfl, d2, r2, _, _, k2, n2⟩
      have HD2 := Lib.hid d2
      have HB2 := Lib.hid (HBZ.out.trans (k2.below HBZ.out.size (fun k hk h => Nat.not_lt_of_le (HSG.out k h) hk)))
      have hz2 := k2.size
      have HX2 := Lib.hid (HX.out.but k2 (fun h => Nat.lt_irrefl _ (HLT.out _ h)))
      have HSG2 : Hid (∀ k, S2 k → w.heap.size ≤ k) := Lib.hid (fun j h => (Nat.lt_or_ge j wz.heap.size).elim (fun hj => HSG.out j (n2 j hj h)) (fun hj => Nat.le_trans HBZ.out.size hj))
      clear d2 r2 k2 n2 CT HD HX HBZ HSG HLT HFEW
      have CC := dcount_any D' g S2 w2 HD2.out
      rw [HCV.out] at CC
      have CC := Lib.hid CC
      cases ib with
      | true =>
        have hs1 : (q1 : Int) = (q0 : Int) + 1 := by simp at hsent; omega
        clear hsent
        have HS1 := Lib.hid hs1
        skip
        go_wp2_with fail
        refine CC.out.mono ?_
        rintro e w3 ⟨rfl, b3⟩
        have HD3 := Lib.hid (fun (o : Obj) => (HD2.out.next b3).next ((Below.refl w3.heap.size w3).alloc (Nat.le_refl _) o))
        have HB3a := HB2.out.trans (b3.mono HB2.out.size)
        have HB3 := Lib.hid (fun (o : Obj) => HB3a.alloc HB3a.size o)
        clear b3 HB3a HD2 HB2 CC HX2
        have t1 : (q1 : Int) + (q2 : Int) + (q3 : Int) + (q4 : Int) + (q5 : Int) = (k : Int) + 1 := by omega
        have u1 : q1 ≤ 121 := by omega
        have u2 : q2 ≤ 121 := by omega
        have u3 : q3 ≤ 121 := by omega
        have u4 : q4 ≤ 121 := by omega
        have u5 : q5 ≤ 121 := by omega
        go_wp2_with fail
        go_roundw
        case rel => exact ⟨k + 1, by omega, by rw [HNX.out, HQ1.out]; first | rfl | (congr 1; omega), by go_num, S2, by rw [HNX.out]; exact HD3.out _, HSG2.out, HB3.out _⟩
        case measure => simp [intOf]; omega
      | false =>
        have hs1 : (q1 : Int) = (q0 : Int) := by simp at hsent; omega
        clear hsent
        have HS1 := Lib.hid hs1
        skip
        go_wp2_with fail
        refine CC.out.mono ?_
        rintro e w3 ⟨rfl, b3⟩
        have HD3 := Lib.hid (fun (o : Obj) => (HD2.out.next b3).next ((Below.refl w3.heap.size w3).alloc (Nat.le_refl _) o))
        have HB3a := HB2.out.trans (b3.mono HB2.out.size)
        have HB3 := Lib.hid (fun (o : Obj) => HB3a.alloc HB3a.size o)
        clear b3 HB3a HD2 HB2 CC HX2
        have t1 : (q1 : Int) + (q2 : Int) + (q3 : Int) + (q4 : Int) + (q5 : Int) = (k : Int) + 1 := by omega
        have u1 : q1 ≤ 121 := by omega
        have u2 : q2 ≤ 121 := by omega
        have u3 : q3 ≤ 121 := by omega
        have u4 : q4 ≤ 121 := by omega
        have u5 : q5 ≤ 121 := by omega
        go_wp2_with fail
        go_roundw
        case rel => exact ⟨k + 1, by omega, by rw [HNX.out, HQ1.out]; first | rfl | (congr 1; omega), by go_num, S2, by rw [HNX.out]; exact HD3.out _, HSG2.out, HB3.out _⟩
        case measure => simp [intOf]; omega
    · obtain rfl : k = n := by omega
      go_wp2_with fail
      go_ret
      exact ⟨rfl, HB.out⟩

set_option maxRecDepth 100000 in
theorem lifted (os : Os) (started : os.Started) (H : Type) (enc : TypeId × Value → H) :
    ReturnsInHanded {} Try.checked os 7 .any (Rows.downCountsSpec.pre6 enc Try.prog Try.f7 Rows.downCountsRow.domain false) (Rows.downCountsSpec.post enc Try.prog Try.f7 false true false false) := by
  refine returnsInHanded_of_change (C := Try.checked) own started (by kernel_rfl) Try.func7
    (ChangeSpec.witness6 (enc := enc) (C := Try.checked) false ⟨#[], #[.int .u8 0, .slice none 0 0], []⟩ 8 (by kernel_rfl) (by kernel_rfl) (by kernel_rfl) (by kernel_rfl)) ?_
  intro W base args ds gs before hval0 hW _ _
  have hval : ∀ (j : Nat) t v, Try.f7.params[j]? = some t → args[j]? = some v → Value.okWide Try.prog W .any base t v := hval0
  have hW' := hW
  obtain ⟨p, q, hA0, hV, _, _, _⟩ := hW
  have hA : DataW.TrodAll enc Try.prog W 0 (fun _ => true) true Try.f7.params.toList args.toList ds p := hA0
  rw [Try.params7] at hA hval
  obtain ⟨v0, vs0, d0, ds0, p0, q0, hargs, rfl, _, h0, r0⟩ := trodAll_cons hA
  obtain ⟨v1, vs1, d1, ds1, p1, q1, rfl, rfl, _, h1, r1⟩ := trodAll_cons r0
  obtain ⟨rfl, rfl, _⟩ := trodAll_nil r1
  obtain rfl : args = #[v0, v1] := by cases args; simp_all
  obtain ⟨rfl, _⟩ := trodVars_none hV
  refine law_post (s := Rows.downCountsSpec) rfl rfl (by rw [Try.params7]; intro t ht; simp at ht; rcases ht with rfl | rfl <;> exact ⟨by kernel_rfl, of_decide_eq_true (by kernel_rfl)⟩) rfl hW' ?_
  obtain ⟨a0, rfl, _, _, w0⟩ := open_int Try.underlying5 (hval 0 5 v0 rfl rfl) h0
  obtain ⟨A1, c1, l1, rfl, hl1, hr1, ho1⟩ := open_steps (hval 1 23 v1 rfl rfl) h1
  exact walk W a0 w0 A1 c1 l1 hl1 hr1 ho1

theorem over : Rows.downCountsRow.holds Try.pinned (OpenSpec.ofChange Rows.downCountsSpec) :=
  OpenClaim.holds_of_wide 7 Try.f7 rfl rfl rfl rfl rfl rfl rfl ⟨rfl, rfl, rfl, rfl, rfl⟩ rfl rfl rfl rfl rfl (by kernel_rfl) Try.func7 (by kernel_rfl)
    (of_decide_eq_true (by kernel_rfl)) (by unfold Func.isWrapper; first | (rw [if_pos (by decide +kernel)]; kernel_rfl) | (rw [if_neg (by decide +kernel)]; exact ⟨rfl, rfl⟩))
    (fun os started H enc _ => lifted os started H enc)

/-- The statement. -/
theorem downCounts_holds : Rows.DownCountsSaid := over

end Go.Proofs.Yticnaljfnjiofaa.NCounts
