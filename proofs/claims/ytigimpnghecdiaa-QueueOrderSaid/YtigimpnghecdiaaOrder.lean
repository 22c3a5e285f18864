/-
  Proved: QueueOrder returns true for every room, every list of texts and every list of counts: what is pushed is popped, in the same order, once. Conditions: none.
-/
import Derived.Test.YtigimpnghecdiaaQhS
import Derived.Test.YtigimpnghecdiaaQueP
namespace Go.Proofs.Ytigimpnghecdiaa.Order
open Go.ChangeShapes Go.WideShapes Go.ChangeAt Go.RowKit

abbrev strs (l : List ByteArray) : List Value := l.map Value.string

/-- What a round of the walk keeps: what went in is what came out, and what is there. -/
def Kept (w0 : World) (z g r N : Nat) (vi vo : Value) (k : Nat) (wx : World) : Prop :=
  ∃ (ii oo s : List ByteArray), ii = oo ++ s ∧ ii.length ≤ k ∧ wx.ownsRow z 9 1 vi ii.length (strs ii) ∧ wx.ownsRow z 9 1 vo oo.length (strs oo) ∧ Apart vi vo ∧ QS wx g r N s ∧ z ≤ wx.heap.size ∧ Below w0.heap.size w0 wx

set_option maxRecDepth 100000 in
set_option maxHeartbeats 1600000 in
theorem walk (w : World) (a : Int) (ha : (Lit.int .u8 a).wf = true) (A : Option Addr) (c : Nat) (l : List ByteArray) (hl : l.length ≤ maxLen) (hr : Row w w.heap.size 1 A l.length (l.map Value.string))
    (A1 : Option Addr) (c1 : Nat) (s : List Int) (hs : s.length ≤ maxLen) (hr1 : Row w w.heap.size 1 A1 s.length (s.map (Value.int .u8))) (hw1 : ∀ x ∈ s, (Lit.int .u8 x).wf = true) :
    Calls Try.prog 5 #[.int .u8 a, .slice A l.length c, .slice A1 s.length c1] w fun e w' => e = .returned (.bool true) ∧ Below w.heap.size w w' := by
  unfold maxLen at hl hs
  have ha' := wf_u8 ha
  clear ha
  by_cases hlong : 100 < l.length
  · go_enter Try.func5, Try.ntmps5
    go_wp2_with (go_at_call 8; refine (awake_any w).mono ?_; rintro e w1 ⟨rfl, b1⟩)
    go_ret
    exact ⟨rfl, b1⟩
  by_cases hfew : s.length < l.length
  · go_enter Try.func5, Try.ntmps5
    go_wp2_with (go_at_call 8; refine (awake_any w).mono ?_; rintro e w1 ⟨rfl, b1⟩)
    go_ret
    exact ⟨rfl, b1⟩
  obtain ⟨N, hN⟩ : ∃ N : Nat, a % 7 + 1 = (N : Int) := ⟨(a % 7 + 1).toNat, by omega⟩
  have hN1 : 1 ≤ N := by omega
  have hN2 : N ≤ 7 := by omega
  have HW := Lib.hid hw1
  clear hw1
  go_enter Try.func5, Try.ntmps5
  go_wp2_with fail
  refine (awake_any w).mono ?_
  rintro e w1 ⟨rfl, b1⟩
  go_wp2_with fail
  refine (newS_any N _ hN1 (by omega)).mono ?_
  rintro e w2 ⟨g, r, rfl, q2, hg, hr2, b2⟩
  have hg' : w.heap.size ≤ g := Nat.le_trans b1.size hg
  have hr' : w.heap.size ≤ r := Nat.le_trans b1.size hr2
  have B2 := bnext b1 b2
  have hlt := q2.lt
  have hz := B2.size
  obtain ⟨z, rfl⟩ : ∃ z, z = w2.heap.size := ⟨_, rfl⟩
  clear b1 b2 hg hr2 hN
  go_wp2_with fail
  go_loopw [9, 10, 11] (fun vi vo i wx => ∃ k : Nat, k ≤ l.length ∧ i = .int .i64 k ∧ Kept w w2.heap.size g r N vi vo k wx) (fun _ _ i _ => l.length - (intOf i).toNat)
  case atStart => exact ⟨0, Nat.zero_le _, rfl, [], [], [], rfl, Nat.zero_le _, World.ownsRow_nil _ _ _ _, World.ownsRow_nil _ _ _ _, Apart.none _, q2, Nat.le_refl _, B2⟩
  case round =>
    clear q2 B2
    obtain ⟨k, hk, rfl, ii, oo, t, hit, hik, owi, owo, ap, q, hzx, B⟩ := hrel
    by_cases hkl : k < l.length
    · obtain ⟨gs, o, hA, hgs, hc0⟩ := map_cell hr B k hkl
      subst hA
      obtain ⟨u, hu⟩ : ∃ u, l[k] = u := ⟨_, rfl⟩
      rw [hu] at hc0
      clear hu
      obtain ⟨x, hx⟩ : ∃ x, s[k]'(by omega) = x := ⟨_, rfl⟩
      have hx2 := wf_u8 (HW.out x (by rw [← hx]; exact List.getElem_mem _))
      obtain ⟨gp, op, hA1, hgp, hp0⟩ := map_cell hr1 (Below.refl _ _) k (by omega)
      subst hA1
      rw [hx] at hp0
      clear hx
      obtain ⟨m, hm⟩ : ∃ m : Nat, x % 3 = (m : Int) := ⟨(x % 3).toNat, by omega⟩
      have hm3 : m ≤ 2 := by omega
      have HIT := Lib.hid hit
      have HOI := Lib.hid owi
      have HOO := Lib.hid owo
      clear hit owi owo
      go_wp2_with fail
      refine (pushS_either g r N t u _ q).mono ?_
      rintro e w3 ⟨b, rfl, q3, t3⟩
      have hc3 : w3.cell? ⟨gs, o + k, none⟩ = some (.string u) := ((t3.below (B := w.heap.size) hg' hr').cell (p := ⟨gs, o + k, none⟩) hgs).trans hc0
      have owi3 := own_two HOI.out t3 hlt.1 hlt.2
      have owo3 := own_two HOO.out t3 hlt.1 hlt.2
      have B3 := B.trans (t3.below hg' hr')
      have hz3 : w2.heap.size ≤ w3.heap.size := by have := t3.size; omega
      have HX := Lib.hid hp0
      have HM := Lib.hid hm
      clear q HOI HOO t3 hc0 B hp0 hm
      go_upto_if 45 with fail
      go_cut [9] (fun vi' wx => Kept w w2.heap.size g r N vi' u10 (k + 1) wx)
      case first =>
        cases b with
        | false =>
          clear hc3
          go_wp2_with fail
          go_meet
          exact ⟨ii, oo, t, HIT.out, by omega, owi3, owo3, ap, by simpa using q3, hz3, B3⟩
        | true =>
          have hfar := fun q hq => (owi3.lt q hq).1
          have HF := Lib.hid hfar
          have HO := Lib.hid owi3
          have HP := Lib.hid owo3
          clear hfar owi3 owo3
          go_wp2_with (at_builtin; refine wpl_append _ rfl (.tmp 46) (.tmp 51) 45 rfl w2.heap.size 9 (.string ⟨#[]⟩) 1 16 Try.underlying45 info_S rfl (by decide) _ _ _ rfl (HO.out.alloc _) _ _ 1 1 [.string u] rfl (Row.fresh w3 9 #[.string u] 1 1 _ rfl rfl) (by simp [Value.oneCell']) ?c1 ?c2 ?c3 ?_)
          case c1 => unfold maxLen; omega
          case c2 => omega
          case c3 => first | omega | (simp; omega)
          intro v' w4 hown4 hg4 hb4
          have hfin : Kept w w2.heap.size g r N v' u10 (k + 1) w4 := by
            refine ⟨ii ++ [u], oo, t ++ [u], by rw [HIT.out, List.append_assoc], by simp; omega, by simpa using hown4, (HP.out.alloc _).kept hg4 ap.symm.or, Apart.grown (w := w3.alloc (.cells #[.string u] 9)) ap (by simpa using hb4) (HP.out.alloc _), ?_, ?_, ?_⟩
            · exact (q3.alloc _).grown hg4 (fun h => by have := HF.out g h.symm; omega) (fun h => by have := HF.out r h.symm; omega)
            · have := hg4.size; simp at this; omega
            · exact (B3.alloc (by omega) _).grown hg4 (by simp; omega) (fun q hq => by have := HF.out q hq; omega)
          have H := Lib.hid hfin
          clear hfin hown4 hg4 hb4 HO HP q3 B3 hc3
          go_wp2
          go_meet
          exact H.out
      case rest =>
        clear owi3 owo3 q3 B3 hc3 HIT ap
        obtain ⟨ii, oo, t, hit, hik, owi, owo, ap, q, hzx, B⟩ := hcut
        go_wp2_with fail
        go_loopw [10, 12] (fun vo j wx => ∃ jj : Nat, jj ≤ m ∧ j = .int .i64 jj ∧ Kept w w2.heap.size g r N u9 vo (k + 1) wx) (fun _ j _ => m - (intOf j).toNat)
        case atStart => exact ⟨0, Nat.zero_le _, rfl, ii, oo, t, hit, hik, owi, owo, ap, q, hzx, B⟩
        case round =>
          clear hit hik owi owo ap q hzx B
          obtain ⟨jj, hj, rfl, ii, oo, t, hit, hik, owi, owo, ap, q, hzx, B⟩ := hrel
          obtain ⟨wo, rfl⟩ : ∃ wo : World, wo = wr := ⟨_, rfl⟩
          have hpc := (B.cell (p := ⟨gp, op + k, none⟩) hgp).trans HX.out
          have HIT := Lib.hid hit
          have HOI := Lib.hid owi
          have HOO := Lib.hid owo
          have hm := HM.out
          clear hit owi owo
          by_cases hjm : jj < m
          · have hjm' : (jj : Int) < (m : Int) := by omega
            go_wp2_with fail
            refine (popS_either g r N t _ q).mono ?_
            rintro e w4 ⟨v, t', b', rfl, ht, q4, t4⟩
            have owi4 := own_two HOI.out t4 hlt.1 hlt.2
            have owo4 := own_two HOO.out t4 hlt.1 hlt.2
            have B4 := B.trans (t4.below hg' hr')
            have hz4 : w2.heap.size ≤ w4.heap.size := by have := t4.size; omega
            have HT := Lib.hid ht
            clear q HOI HOO t4 B hpc hm ht
            cases b' with
            | false =>
              have hfin : Kept w w2.heap.size g r N u9 u10 (k + 1) w4 := ⟨ii, oo, t', by rw [HIT.out, HT.out]; rfl, hik, owi4, owo4, ap, q4, hz4, B4⟩
              have H := Lib.hid hfin
              clear hfin owi4 owo4 q4 B4 ap
              go_wp2_with fail
              go_roundw
              case rel => exact ⟨jj + 1, hjm, by go_num, H.out⟩
              case measure => simp [intOf]; omega
            | true =>
              have hle : oo.length ≤ ii.length := by rw [HIT.out]; simp
              have hfar := fun q hq => (owo4.lt q hq).1
              have HF := Lib.hid hfar
              have HO := Lib.hid owo4
              have HI := Lib.hid owi4
              clear hfar owo4 owi4
              go_wp2_with (at_builtin; refine wpl_append _ rfl (.tmp 69) (.tmp 71) 45 rfl w2.heap.size 9 (.string ⟨#[]⟩) 1 16 Try.underlying45 info_S rfl (by decide) _ _ _ rfl (HO.out.alloc _) _ _ 1 1 [.string v] rfl (Row.fresh w4 9 #[.string v] 1 1 _ rfl rfl) (by simp [Value.oneCell']) ?c1 ?c2 ?c3 ?_)
              case c1 => unfold maxLen; omega
              case c2 => omega
              case c3 => first | omega | (simp; omega)
              intro v' w5 hown5 hg5 hb5
              have hfin : Kept w w2.heap.size g r N u9 v' (k + 1) w5 := by
                refine ⟨ii, oo ++ [v], t', by rw [HIT.out, HT.out, List.append_assoc]; rfl, hik, (HI.out.alloc _).kept hg5 ap.or, by simpa using hown5, (Apart.grown (w := w4.alloc (.cells #[.string v] 9)) ap.symm (by simpa using hb5) (HI.out.alloc _)).symm, ?_, ?_, ?_⟩
                · exact (q4.alloc _).grown hg5 (fun h => by have := HF.out g h.symm; omega) (fun h => by have := HF.out r h.symm; omega)
                · have := hg5.size; simp at this; omega
                · exact (B4.alloc (by omega) _).grown hg5 (by simp; omega) (fun q hq => by have := HF.out q hq; omega)
              have H := Lib.hid hfin
              clear hfin hown5 hg5 hb5 HO HI q4 B4 ap
              go_wp2_with fail
              go_roundw
              case rel => exact ⟨jj + 1, hjm, by go_num, H.out⟩
              case measure => simp [intOf]; omega
          · have hjm' : ¬ (jj : Int) < (m : Int) := by omega
            go_wp2_with fail
            have hfin : Kept w w2.heap.size g r N u9 u10 (k + 1) wo := ⟨ii, oo, t, HIT.out, hik, HOI.out, HOO.out, ap, q, hzx, B⟩
            have H := Lib.hid hfin
            clear hfin HOI HOO ap q B hpc hm
            go_roundw
            case rel => exact ⟨k + 1, hkl, by go_num, H.out⟩
            case measure => simp [intOf]; omega
    · have HIT := Lib.hid hit
      have HOI := Lib.hid owi
      have HOO := Lib.hid owo
      have hts := q.len.1
      rw [List.length_map] at hts
      have hlen : ii.length = oo.length + t.length := by rw [hit]; simp
      have HL := Lib.hid hlen
      have hoo : oo.length + t.length ≤ k := by omega
      clear hit owi owo hr hr1 hlen
      go_wp2_with fail
      refine (allS_any g r N t _ q).mono ?_
      rintro e w4 ⟨A4, c4, rfl, own4, b4⟩
      have owi4 := own_below HOI.out b4 (Nat.le_refl _)
      have owo4 := own_below HOO.out b4 (Nat.le_refl _)
      have B4 := bnext B b4
      have hz4 : w2.heap.size ≤ w4.heap.size := by have := b4.size; omega
      have r4 := Row.of_own own4
      have HF := Lib.hid (fun q hq => (owo4.lt q hq).1)
      have HO := Lib.hid owo4
      have HI := Lib.hid owi4
      clear q B b4 HOI HOO own4 owo4 owi4
      go_wp2_with (at_builtin; refine wpl_append _ rfl (.tmp 73) (.tmp 75) 45 rfl w2.heap.size 9 (.string ⟨#[]⟩) 1 16 Try.underlying45 info_S rfl (by decide) _ _ _ rfl HO.out _ _ _ c4 (strs t) rfl r4 (by intro u hu; obtain ⟨_, _, rfl⟩ := List.mem_map.1 hu; rfl) ?c1 ?c2 ?c3 ?_)
      case c1 => unfold maxLen; omega
      case c2 => omega
      case c3 => first | omega | (simp; omega)
      intro v' w5 hown5 hg5 hb5
      have hown5' : w5.ownsRow w2.heap.size 9 1 v' ii.length (strs ii) := by
        have e1 : strs ii = strs oo ++ strs t := by rw [HIT.out]; simp [strs]
        rw [e1, HL.out]
        exact hown5
      have owi5 := HI.out.kept hg5 ap.or
      have B5 := B4.grown hg5 (by omega) (fun q hq => by have := HF.out q hq; omega)
      have hl5 := HL.out
      obtain ⟨Ai, ci, hvi⟩ := own_form owi5
      obtain ⟨Ao, co, hvo⟩ := own_form hown5'
      subst hvi
      subst hvo
      have ri := Row.of_own owi5
      have ro := Row.of_own hown5'
      clear hown5 hown5' hg5 hb5 owi5 HO HI HF r4 B4 ap
      obtain ⟨n, hn⟩ : ∃ n, ii.length = n := ⟨_, rfl⟩
      rw [hn] at ri ro ⊢
      have HN := Lib.hid hn
      clear hl5 hn
      go_wp2_with fail
      go_loopw [15] (fun i wx => ∃ j q : Nat, j ≤ n ∧ i = .int .i64 j ∧ wx = w5.drewN q) (fun i _ => n - (intOf i).toNat)
      case atStart => exact ⟨0, 0, Nat.zero_le _, rfl, rfl⟩
      case round =>
        obtain ⟨j, p, hj, rfl, rfl⟩ := hrel
        have hn100 : n ≤ 110 := by rw [← HN.out]; omega
        by_cases hjn : j < n
        · obtain ⟨gi, oi, hAi, _, hci⟩ := ri.2 (by omega)
          obtain ⟨go', oo', hAo, _, hco⟩ := ro.2 (by omega)
          subst hAi
          subst hAo
          obtain ⟨u, hu⟩ : ∃ u, ii[j]? = some u := ⟨ii[j]'(by rw [HN.out]; exact hjn), by simp [HN.out, hjn]⟩
          have c1' := hci j (.string u) (by simp [strs, hu])
          have c2' := hco j (.string u) (by simp [strs, hu])
          have hi1 : (0 : Int) ≤ (j : Int) := by omega
          have hi2 : (j : Int) < (n : Int) := by omega
          clear hci hco ri ro hu
          go_wp2_with fail
          go_quiet (fail)
          go_wp2_with fail
          go_roundw
          case rel => exact ⟨j + 1, _, hjn, by go_num, rfl⟩
          case measure => simp [intOf]; omega
        · have hi2 : ¬ (j : Int) < (n : Int) := by omega
          clear ri ro
          have H := Lib.hid (bdrewN B5 p)
          clear B5
          go_wp2
          go_ret
          exact ⟨rfl, H.out⟩

set_option maxRecDepth 100000 in
theorem lifted (os : Os) (started : os.Started) (H : Type) (enc : TypeId × Value → H) :
    ReturnsInHanded {} Try.checked os 5 .any (Rows.queueOrderSpec.pre6 enc Try.prog Try.f5 Rows.queueOrderRow.domain false) (Rows.queueOrderSpec.post enc Try.prog Try.f5 false true false false) := by
  refine returnsInHanded_of_change (C := Try.checked) own started (by kernel_rfl) Try.func5
    (ChangeSpec.witness6 (enc := enc) (C := Try.checked) false ⟨#[], #[.int .u8 0, .slice none 0 0, .slice none 0 0], []⟩ 8 (by kernel_rfl) (by kernel_rfl) (by kernel_rfl) (by kernel_rfl)) ?_
  intro W base args ds gs before hval0 hW _ _
  have hval : ∀ (j : Nat) t v, Try.f5.params[j]? = some t → args[j]? = some v → Value.okWide Try.prog W .any base t v := hval0
  have hW' := hW
  obtain ⟨p, q, hA0, hV, _, _, _⟩ := hW
  have hA : DataW.TrodAll enc Try.prog W 0 (fun _ => true) true Try.f5.params.toList args.toList ds p := hA0
  rw [Try.params5] at hA hval
  obtain ⟨v0, vs0, d0, ds0, p0, q0, hargs, rfl, _, h0, r0⟩ := trodAll_cons hA
  obtain ⟨v1, vs1, d1, ds1, p1, q1, rfl, rfl, _, h1, r1⟩ := trodAll_cons r0
  obtain ⟨v2, vs2, d2, ds2, p2, q2, rfl, rfl, _, h2, r2⟩ := trodAll_cons r1
  obtain ⟨rfl, rfl, _⟩ := trodAll_nil r2
  obtain rfl : args = #[v0, v1, v2] := by cases args; simp_all
  obtain ⟨rfl, _⟩ := trodVars_none hV
  refine law_post (s := Rows.queueOrderSpec) rfl rfl (by rw [Try.params5]; intro t ht; simp at ht; rcases ht with rfl | rfl | rfl <;> exact ⟨by kernel_rfl, of_decide_eq_true (by kernel_rfl)⟩) rfl hW' ?_
  obtain ⟨a0, rfl, _, _, w0⟩ := open_int Try.underlying5 (hval 0 5 v0 rfl rfl) h0
  obtain ⟨A1, c1, l1, rfl, hl1, hr1⟩ := open_texts (hval 1 45 v1 rfl rfl) h1
  obtain ⟨A2, c2, l2, rfl, hl2, hr2, _, _, hw2⟩ := open_nums Try.underlying48 Try.underlying5 (by kernel_rfl) (hval 2 48 v2 rfl rfl) h2
  exact walk W a0 w0 A1 c1 l1 hl1 hr1 A2 c2 l2 hl2 hr2 hw2

theorem over : Rows.queueOrderRow.holds Try.pinned (OpenSpec.ofChange Rows.queueOrderSpec) :=
  OpenClaim.holds_of_wide 5 Try.f5 rfl rfl rfl rfl rfl rfl rfl ⟨rfl, rfl, rfl, rfl, rfl⟩ rfl rfl rfl rfl rfl (by kernel_rfl) Try.func5 (by kernel_rfl)
    (of_decide_eq_true (by kernel_rfl)) (by unfold Func.isWrapper; first | (rw [if_pos (by decide +kernel)]; kernel_rfl) | (rw [if_neg (by decide +kernel)]; exact ⟨rfl, rfl⟩))
    (fun os started H enc _ => lifted os started H enc)

/-- The statement. -/
theorem queueOrder_holds : Rows.QueueOrderSaid := over
end Go.Proofs.Ytigimpnghecdiaa.Order
