/-
  Proved: DownStreams returns true for every row of packets. Conditions: none.
-/
import Derived.Test.YticnaljfnjiofaaDnA
import Derived.Test.YticnaljfnjiofaaDnF
import Derived.Test.YticnaljfnjiofaaGli
import Derived.Deep.CutBlock
import Derived.Deep.DeepCutAuto
import Derived.Test.YticnaljfnjiofaaVpJ
namespace Go.Proofs.Yticnaljfnjiofaa.NStreams
open Go.ChangeShapes Go.WideShapes Go.ChangeAt Go.RowKit
set_option linter.unusedSimpArgs false
set_option linter.unusedVariables false
set_option maxRecDepth 100000

set_option maxHeartbeats 3200000 in
theorem walk (w : World) (A : Option Addr) (c : Nat) (l : List Sa) (hl : l.length ≤ maxLen) (hr : Row w w.heap.size 15 A l.length (rowC Sa.cells l)) (ho : ∀ a ∈ l, a.q.Ok w) :
    Calls Try.prog 5 #[.slice A l.length c] w fun e w' => e = .returned (.bool true) ∧ Below w.heap.size w w' := by
  obtain ⟨n, hn⟩ : ∃ n, l.length = n := ⟨_, rfl⟩
  have CF := fun w' hb => few_any A c l w w' hb hl hr ho
  rw [hn] at hr CF ⊢
  have HR := Lib.hid (fun (h0 : 0 < n) => row_at Sa.cells_length hr h0)
  have HO := Lib.hid ho
  have HN := Lib.hid hn
  have hl63 : n ≤ 9223372036854775807 := by rw [← hn]; exact hl
  have CF := Lib.hid CF
  clear hr ho hn hl
  have CN := Lib.hid (fun w => dnew_any 5 200 (by decide) (by decide) (by decide) w)
  go_enter Try.func5, Try.ntmps5
  go_wp2_with fail
  refine (awake_any w).mono ?_
  rintro e wa ⟨rfl, ba⟩
  have HBA := Lib.hid ba
  clear ba
  go_wp2_with fail
  refine (CF.out wa HBA.out).mono ?_
  rintro e wb ⟨rfl, bb⟩
  have HB0 := Lib.hid (HBA.out.trans (bb.mono HBA.out.size))
  clear bb HBA CF
  by_cases hfew : fewS l = false
  · rw [hfew]
    clear hfew
    go_wp2_with fail
    go_ret
    exact ⟨rfl, HB0.out⟩
  have hfew : fewS l = true := by simpa using hfew
  rw [hfew]
  have hfw := hfew
  unfold fewS at hfw
  rw [Bool.and_eq_true] at hfw
  have hn120 : n ≤ 120 := by have := hfw.2; rw [HN.out] at this; simpa using this
  have HFS : Hid (∀ a ∈ l, a.q.pay.length ≤ 200 ∧ a.q.h.csrc.length ≤ 20 ∧ a.q.h.ps.length ≤ 20) := Lib.hid (fun a ha => by have h := List.all_eq_true.1 hfw.1 a ha; unfold Sa.small at h; simp at h; omega)
  clear hfw hfew
  go_wp2_with fail
  refine (CN.out wb).mono ?_
  rintro e w1 ⟨g, S0, rfl, d1, hs1, b1⟩
  have HD1 := Lib.hid d1
  have HSG1 := Lib.hid (fun k h => Nat.le_trans HB0.out.size (hs1 k h))
  have HB1 := Lib.hid (HB0.out.trans (b1.mono HB0.out.size))
  clear d1 hs1 b1 CN HB0
  go_wp2_with fail
  go_loopw [6, 7, 8, 9] (fun o f y i wr => ∃ k : Nat, k ≤ n ∧ i = .int .i64 (k : Int) ∧ ∃ (bo : Bool) (fv lv : Int), o = .bool bo ∧ f = .int .i64 fv ∧ y = .int .i64 lv ∧ ((Dn.new 5 200).run ((l.take k).map Sa.x)).pick.on = bo ∧ (((Dn.new 5 200).run ((l.take k).map Sa.x)).pick.on = true → ((Dn.new 5 200).run ((l.take k).map Sa.x)).pick.src = fv ∧ ((Dn.new 5 200).run ((l.take k).map Sa.x)).pick.lay = lv) ∧ ∃ S, DnAt wr g S ((Dn.new 5 200).run ((l.take k).map Sa.x)) ∧ (∀ k, S k → w.heap.size ≤ k) ∧ Below w.heap.size w wr) (fun _ _ _ i _ => n - (intOf i).toNat)
  case atStart => exact ⟨0, Nat.zero_le _, rfl, false, 0, 0, rfl, rfl, rfl, rfl, fun h => absurd (show false = true from h) (by decide), S0, HD1.out, HSG1.out, HB1.out⟩
  case round =>
    obtain ⟨k, hk, rfl, bo, fv, lv, rfl, rfl, rfl, hon, hsl, S, hd, hsg, hb⟩ := hrel
    have HB := Lib.hid hb
    clear hb HD1 HSG1 HB1
    by_cases hlt : k < n
    · obtain ⟨g0, o, rfl, hg, hc⟩ := HR.out (by omega)
      obtain ⟨a, ha⟩ : ∃ a, l[k]? = some a := ⟨l[k]'(by rw [HN.out]; exact hlt), by simp⟩
      have e := fun j v hj => hc wr HB.out k a j v ha hj
      have r0 := e 0 _ rfl
      have r1 := e 1 _ rfl
      have r2 := e 2 _ rfl
      have r3 := e 3 _ rfl
      have r4 := e 4 _ rfl
      have r5 := e 5 _ rfl
      have r6 := e 6 _ rfl
      have r7 := e 7 _ rfl
      have r8 := e 8 _ rfl
      have r9 := e 9 _ rfl
      have r10 := e 10 _ rfl
      have r11 := e 11 _ rfl
      have r12 := e 12 _ rfl
      have r13 := e 13 _ rfl
      have r14 := e 14 _ rfl
      rw [Nat.add_zero] at r0
      have i1 : (0 : Int) ≤ (k : Int) := by omega
      have i2 : (k : Int) < (n : Int) := by omega
      clear e hc
      have HAM := Lib.hid (List.mem_of_getElem? ha)
      have HAT := Lib.hid ha
      clear ha
      obtain ⟨D, hD⟩ : ∃ D, (Dn.new 5 200).run ((l.take k).map Sa.x) = D := ⟨_, rfl⟩
      rw [hD] at hd hon hsl
      have hfit : ∀ y ∈ (l.take k).map Sa.x, y.p.Fit := by intro y hy; obtain ⟨z, hz, rfl⟩ := List.mem_map.1 hy; exact Pq.fit (HO.out z (List.mem_of_mem_take hz))
      have hlen : ((l.take k).map Sa.x).length = k := by rw [List.length_map, List.length_take, HN.out]; omega
      have hok := Dn.run_ok (ssrc := 5) (room := 200) (by decide) _ hfit (by omega)
      rw [hD] at hok
      have HFEW := Lib.hid hok
      have hnx : (Dn.new 5 200).run ((l.take (k + 1)).map Sa.x) = D.next a.x := by rw [List.take_add_one, HAT.out, Option.toList_some, List.map_append, Dn.run_append, hD]; rfl
      have HQ := Lib.hid (fun h => Dn.quiet_pick D a.x h)
      have HS := Lib.hid (fun h => Dn.sent_pick D a.x h)
      have HD := Lib.hid hd
      have HSG := Lib.hid hsg
      have HNX := Lib.hid hnx
      have HON := Lib.hid hon
      have HSL := Lib.hid hsl
      have hlt1 := HD.out.lt
      have HLT := Lib.hid hlt1
      clear hd hsg hnx hfit hlen hok hlt1 hon hsl
      go_wp2_with fail
      obtain ⟨wz, hwz⟩ : ∃ z, z = wr.alloc (.cells #[.bool a.q.h.mark, .int .u8 (a.q.h.typ : Int), .int .u16 (a.q.h.seq : Int), .int .u32 (a.q.h.time : Int), .int .u32 (a.q.h.ssrc : Int), .slice a.q.h.A1 a.q.h.csrc.length a.q.h.c1, .slice a.q.h.A2 a.q.h.ps.length a.q.h.c2, .slice a.q.A3 a.q.pay.length a.q.c3, .int .i64 a.q.pad, .int .i64 a.src, .int .i64 a.lay, .int .i64 a.want.src, .int .i64 a.want.lay, .int .i64 a.want.tid, .bool a.muted] 39) := ⟨_, rfl⟩
      have HX := Lib.hid (show Whole wz wr.heap.size 39 #[.bool a.q.h.mark, .int .u8 (a.q.h.typ : Int), .int .u16 (a.q.h.seq : Int), .int .u32 (a.q.h.time : Int), .int .u32 (a.q.h.ssrc : Int), .slice a.q.h.A1 a.q.h.csrc.length a.q.h.c1, .slice a.q.h.A2 a.q.h.ps.length a.q.h.c2, .slice a.q.A3 a.q.pay.length a.q.c3, .int .i64 a.q.pad, .int .i64 a.src, .int .i64 a.lay, .int .i64 a.want.src, .int .i64 a.want.lay, .int .i64 a.want.tid, .bool a.muted] from by rw [hwz]; exact Whole.new wr _ _)
      have bz : Below wr.heap.size wr wz := by rw [hwz]; exact (Below.refl _ _).alloc (Nat.le_refl _) _
      have HBZ := Lib.hid (HB.out.trans (bz.mono HB.out.size))
      rw [← hwz]
      clear hwz r0 r1 r2 r3 r4 r5 r6 r7 r8 r9 r10 r11 r12 r13 r14
      have CT : Calls Try.prog 12 #[.pointer (some ⟨g, 0, none⟩), .agg #[.bool a.q.h.mark, .int .u8 (a.q.h.typ : Int), .int .u16 (a.q.h.seq : Int), .int .u32 (a.q.h.time : Int), .int .u32 (a.q.h.ssrc : Int), .slice a.q.h.A1 a.q.h.csrc.length a.q.h.c1, .slice a.q.h.A2 a.q.h.ps.length a.q.h.c2, .slice a.q.A3 a.q.pay.length a.q.c3, .int .i64 a.q.pad], .int .i64 a.src, .int .i64 a.lay, .agg #[.int .i64 a.want.src, .int .i64 a.want.lay, .int .i64 a.want.tid], .bool a.muted] wz (DTold D a.x g S wz) := dtake_any D a g S wz (HD.out.next bz) HFEW.out (Pq.Ok.at (HO.out a HAM.out) HBZ.out HSG.out (by have := (HFS.out a HAM.out).1; omega))
      unfold DTold at CT
      obtain ⟨D', hD'⟩ : ∃ x, D.next a.x = x := ⟨_, rfl⟩
      obtain ⟨tb, htb⟩ : ∃ x, D.told a.x = x := ⟨_, rfl⟩
      obtain ⟨ib, hib⟩ : ∃ x, D.is a.x = x := ⟨_, rfl⟩
      obtain ⟨kb, hkb⟩ : ∃ x, D.asks a.x = x := ⟨_, rfl⟩
      rw [hD', htb, hib, hkb] at CT
      rw [hD'] at HNX HQ HS
      rw [hib] at HQ HS
      rw [hkb] at HS
      clear hD' htb hib hkb hD bz
      have CT := Lib.hid CT
      refine CT.out.mono ?_
      rintro e w2 ⟨A2, c2, S2, rfl, d2, r2, _, _, k2, n2⟩
      have HD2 := Lib.hid d2
      have HB2 := Lib.hid (HBZ.out.trans (k2.below HBZ.out.size (fun k hk h => Nat.not_lt_of_le (HSG.out k h) hk)))
      have HX2 := Lib.hid (HX.out.but k2 (fun h => Nat.lt_irrefl _ (HLT.out _ h)))
      have HSG2 : Hid (∀ k, S2 k → w.heap.size ≤ k) := Lib.hid (fun j h => (Nat.lt_or_ge j wz.heap.size).elim (fun hj => HSG.out j (n2 j hj h)) (fun hj => Nat.le_trans HBZ.out.size hj))
      clear d2 r2 k2 n2 CT HD HX HBZ HSG HLT HFEW
      have x7 := HX2.out.cell 7
      have x9 := HX2.out.cell 9
      have x10 := HX2.out.cell 10
      have x11 := HX2.out.cell 11
      have x12 := HX2.out.cell 12
      have x13 := HX2.out.cell 13
      have x14 := HX2.out.cell 14
      cases ib with
      | false =>
        obtain ⟨ms, hms⟩ : ∃ m, a.muted = m := ⟨_, rfl⟩
        have hq := HQ.out rfl
        rw [show a.x.muted = ms from hms] at hq
        rw [hms] at x14
        cases ms with
        | true =>
          have HQ1 := Lib.hid (show D'.pick.on = false from by simpa using hq)
          clear hq HQ HS
          go_wp2_with fail
          go_roundw
          case rel => exact ⟨k + 1, by omega, by go_num, false, fv, lv, rfl, rfl, rfl, by rw [HNX.out]; exact HQ1.out, by rw [HNX.out]; exact fun h => absurd (HQ1.out.symm.trans h) (by decide), S2, by rw [HNX.out]; exact HD2.out, HSG2.out, HB2.out⟩
          case measure => simp [intOf]; omega
        | false =>
          have HQ1 := Lib.hid (show D'.pick.on = D.pick.on ∧ (D.pick.on = true → D'.pick.src = D.pick.src ∧ D'.pick.lay = D.pick.lay) from by simpa using hq)
          clear hq HQ HS
          go_wp2_with fail
          go_roundw
          case rel => exact ⟨k + 1, by omega, by go_num, bo, fv, lv, rfl, rfl, rfl, by rw [HNX.out]; exact HQ1.out.1.trans HON.out, by rw [HNX.out]; exact fun h => by have h1 := HQ1.out.1.symm.trans h; have h2 := HQ1.out.2 h1; have h3 := HSL.out h1; exact ⟨h2.1.trans h3.1, h2.2.trans h3.2⟩, S2, by rw [HNX.out]; exact HD2.out, HSG2.out, HB2.out⟩
          case measure => simp [intOf]; omega
      | true =>
        obtain ⟨t0, p1, p2, p3, t6⟩ := HS.out rfl
        have hmu : a.muted = false := t0
        rw [hmu] at x14
        have HP1 := Lib.hid p1
        have HP2 := Lib.hid (show D'.pick.src = a.src from p2)
        have HP3 := Lib.hid (show D'.pick.lay = a.lay from p3)
        clear t0 p1 p2 p3 HQ HS hmu
        rcases t6 with ⟨t1, t2, t3⟩ | ⟨t1, t2, t3, t4, t5⟩
        · replace t2 : a.src = D.pick.src := t2
          replace t3 : a.lay = D.pick.lay := t3
          have e1 : (a.src == fv) = true := by simp [← (HSL.out t1).1, ← t2]
          have e2 : (a.lay == lv) = true := by simp [← (HSL.out t1).2, ← t3]
          obtain rfl : bo = true := HON.out.symm.trans t1
          clear t1 t2 t3
          go_wp2_with fail
          go_roundw
          case rel => exact ⟨k + 1, by omega, by go_num, true, a.src, a.lay, rfl, rfl, rfl, by rw [HNX.out]; exact HP1.out, by rw [HNX.out]; exact fun _ => ⟨HP2.out, HP3.out⟩, S2, by rw [HNX.out]; exact HD2.out, HSG2.out, HB2.out⟩
          case measure => simp [intOf]; omega
        · replace t1 : ¬ (bo = true ∧ a.src = fv ∧ a.lay = lv) := fun h => t1 ⟨HON.out.trans h.1, (show a.src = D.pick.src from h.2.1.trans (HSL.out (HON.out.trans h.1)).1.symm), (show a.lay = D.pick.lay from h.2.2.trans (HSL.out (HON.out.trans h.1)).2.symm)⟩
          cases bo with
          | false =>
            clear t1
            have CW := Lib.hid (whole_any a.q.A3 a.q.c3 a.q.pay w2 ((((HO.out a HAM.out).row.below HB2.out (Nat.le_refl _)).more HB2.out.size)) (by have := (HFS.out a HAM.out).1; omega))
            unfold WholeTold at CW
            rw [show wholeS a.q.pay = true from t2] at CW
            have e3 : (a.src != a.want.src) = false := by simp [show a.src = a.want.src from t3]
            have e4 : (a.lay != a.want.lay) = false := by simp [show a.lay = a.want.lay from t4]
            obtain rfl : kb = false := t5
            clear t2 t3 t4
            go_wp2_with fail
            refine CW.out.mono ?_
            rintro e w3 ⟨rfl, b3⟩
            have HD3 := Lib.hid (HD2.out.next b3)
            have HB3 := Lib.hid (HB2.out.trans (b3.mono HB2.out.size))
            have HX3 := Lib.hid (HX2.out.below b3 HX2.out.lt)
            clear b3 CW x7 x9 x10 x11 x12 x13 x14
            have x9 := HX3.out.cell 9
            have x10 := HX3.out.cell 10
            have x11 := HX3.out.cell 11
            have x12 := HX3.out.cell 12
            go_wp2_with fail
            go_roundw
            case rel => exact ⟨k + 1, by omega, by go_num, true, a.src, a.lay, rfl, rfl, rfl, by rw [HNX.out]; exact HP1.out, by rw [HNX.out]; exact fun _ => ⟨HP2.out, HP3.out⟩, S2, by rw [HNX.out]; exact HD3.out, HSG2.out, HB3.out⟩
            case measure => simp [intOf]; omega
          | true =>
            by_cases f1 : a.src = fv
            · have e1 : (a.src == fv) = true := by simp [f1]
              have e2 : (a.lay == lv) = false := by have : ¬ a.lay = lv := fun h => t1 ⟨rfl, f1, h⟩; simp [this]
              clear t1 f1
              have CW := Lib.hid (whole_any a.q.A3 a.q.c3 a.q.pay w2 ((((HO.out a HAM.out).row.below HB2.out (Nat.le_refl _)).more HB2.out.size)) (by have := (HFS.out a HAM.out).1; omega))
              unfold WholeTold at CW
              rw [show wholeS a.q.pay = true from t2] at CW
              have e3 : (a.src != a.want.src) = false := by simp [show a.src = a.want.src from t3]
              have e4 : (a.lay != a.want.lay) = false := by simp [show a.lay = a.want.lay from t4]
              obtain rfl : kb = false := t5
              clear t2 t3 t4
              go_wp2_with fail
              refine CW.out.mono ?_
              rintro e w3 ⟨rfl, b3⟩
              have HD3 := Lib.hid (HD2.out.next b3)
              have HB3 := Lib.hid (HB2.out.trans (b3.mono HB2.out.size))
              have HX3 := Lib.hid (HX2.out.below b3 HX2.out.lt)
              clear b3 CW x7 x9 x10 x11 x12 x13 x14
              have x9 := HX3.out.cell 9
              have x10 := HX3.out.cell 10
              have x11 := HX3.out.cell 11
              have x12 := HX3.out.cell 12
              go_wp2_with fail
              go_roundw
              case rel => exact ⟨k + 1, by omega, by go_num, true, a.src, a.lay, rfl, rfl, rfl, by rw [HNX.out]; exact HP1.out, by rw [HNX.out]; exact fun _ => ⟨HP2.out, HP3.out⟩, S2, by rw [HNX.out]; exact HD3.out, HSG2.out, HB3.out⟩
              case measure => simp [intOf]; omega
            have e1 : (a.src == fv) = false := by simp [f1]
            clear t1 f1
            have CW := Lib.hid (whole_any a.q.A3 a.q.c3 a.q.pay w2 ((((HO.out a HAM.out).row.below HB2.out (Nat.le_refl _)).more HB2.out.size)) (by have := (HFS.out a HAM.out).1; omega))
            unfold WholeTold at CW
            rw [show wholeS a.q.pay = true from t2] at CW
            have e3 : (a.src != a.want.src) = false := by simp [show a.src = a.want.src from t3]
            have e4 : (a.lay != a.want.lay) = false := by simp [show a.lay = a.want.lay from t4]
            obtain rfl : kb = false := t5
            clear t2 t3 t4
            go_wp2_with fail
            refine CW.out.mono ?_
            rintro e w3 ⟨rfl, b3⟩
            have HD3 := Lib.hid (HD2.out.next b3)
            have HB3 := Lib.hid (HB2.out.trans (b3.mono HB2.out.size))
            have HX3 := Lib.hid (HX2.out.below b3 HX2.out.lt)
            clear b3 CW x7 x9 x10 x11 x12 x13 x14
            have x9 := HX3.out.cell 9
            have x10 := HX3.out.cell 10
            have x11 := HX3.out.cell 11
            have x12 := HX3.out.cell 12
            go_wp2_with fail
            go_roundw
            case rel => exact ⟨k + 1, by omega, by go_num, true, a.src, a.lay, rfl, rfl, rfl, by rw [HNX.out]; exact HP1.out, by rw [HNX.out]; exact fun _ => ⟨HP2.out, HP3.out⟩, S2, by rw [HNX.out]; exact HD3.out, HSG2.out, HB3.out⟩
            case measure => simp [intOf]; omega
    · obtain rfl : k = n := by omega
      go_wp2_with fail
      go_ret
      exact ⟨rfl, HB.out⟩

set_option maxRecDepth 100000 in
theorem lifted (os : Os) (started : os.Started) (H : Type) (enc : TypeId × Value → H) :
    ReturnsInHanded {} Try.checked os 5 .any (Rows.downStreamsSpec.pre6 enc Try.prog Try.f5 Rows.downStreamsRow.domain false) (Rows.downStreamsSpec.post enc Try.prog Try.f5 false true false false) := by
  refine returnsInHanded_of_change (C := Try.checked) own started (by kernel_rfl) Try.func5
    (ChangeSpec.witness6 (enc := enc) (C := Try.checked) false ⟨#[], #[.slice none 0 0], []⟩ 8 (by kernel_rfl) (by kernel_rfl) (by kernel_rfl) (by kernel_rfl)) ?_
  intro W base args ds gs before hval0 hW _ _
  have hval : ∀ (j : Nat) t v, Try.f5.params[j]? = some t → args[j]? = some v → Value.okWide Try.prog W .any base t v := hval0
  have hW' := hW
  obtain ⟨p, q, hA0, hV, _, _, _⟩ := hW
  have hA : DataW.TrodAll enc Try.prog W 0 (fun _ => true) true Try.f5.params.toList args.toList ds p := hA0
  rw [Try.params5] at hA hval
  obtain ⟨v0, vs0, d0, ds0, p0, q0, hargs, rfl, _, h0, r0⟩ := trodAll_cons hA
  obtain ⟨rfl, rfl, _⟩ := trodAll_nil r0
  obtain rfl : args = #[v0] := by cases args; simp_all
  obtain ⟨rfl, _⟩ := trodVars_none hV
  refine law_post (s := Rows.downStreamsSpec) rfl rfl (by rw [Try.params5]; intro t ht; simp at ht; rcases ht with rfl <;> exact ⟨by kernel_rfl, of_decide_eq_true (by kernel_rfl)⟩) rfl hW' ?_
  obtain ⟨A0, c0, l0, rfl, hl0, hr0, ho0⟩ := open_steps (hval 0 23 v0 rfl rfl) h0
  exact walk W A0 c0 l0 hl0 hr0 ho0

theorem over : Rows.downStreamsRow.holds Try.pinned (OpenSpec.ofChange Rows.downStreamsSpec) :=
  OpenClaim.holds_of_wide 5 Try.f5 rfl rfl rfl rfl rfl rfl rfl ⟨rfl, rfl, rfl, rfl, rfl⟩ rfl rfl rfl rfl rfl (by kernel_rfl) Try.func5 (by kernel_rfl)
    (of_decide_eq_true (by kernel_rfl)) (by unfold Func.isWrapper; first | (rw [if_pos (by decide +kernel)]; kernel_rfl) | (rw [if_neg (by decide +kernel)]; exact ⟨rfl, rfl⟩))
    (fun os started H enc _ => lifted os started H enc)

/-- The statement. -/
theorem downStreams_holds : Rows.DownStreamsSaid := over

end Go.Proofs.Yticnaljfnjiofaa.NStreams
