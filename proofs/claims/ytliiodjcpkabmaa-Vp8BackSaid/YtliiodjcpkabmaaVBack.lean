/-
  Proved: Vp8Back returns true for every descriptor, bytes and place: what Put tells is parsed as it was, with whatever behind; cut anywhere it is short. Conditions: none.
-/
import Derived.Test.YtliiodjcpkabmaaVpT
import Derived.Test.YtliiodjcpkabmaaVpO
import Derived.Test.YtliiodjcpkabmaaVpW
namespace Go.Proofs.Ytliiodjcpkabmaa.VBack
open Go.ChangeShapes Go.WideShapes Go.ChangeAt Go.RowKit

set_option maxRecDepth 100000 in
set_option maxHeartbeats 3200000 in
theorem walk (w : World) (d : Dsc) (hd : d.Fits) (A : Option Addr) (c : Nat) (l : List UInt8) (hl : l.length ≤ maxLen) (hr : Row w w.heap.size 1 A l.length (u8s l)) (at0 : Int) (hat : (Lit.int .u8 at0).wf = true) :
    Calls Try.prog 5 #[.agg d.cells, .slice A l.length c, .int .u8 at0] w fun e w' => e = .returned (.bool true) ∧ Below w.heap.size w w' := by
  unfold maxLen at hl
  obtain ⟨ha0, ha1⟩ := wf_u8 hat
  obtain ⟨at1, rfl⟩ := Int.eq_ofNat_of_zero_le ha0
  have C := Lib.hid (fun wx => vput_any d hd wx)
  have hE := fun h => enc_length d h
  have hP := fun h => parse_enc d h
  have hC := fun h => parse_cut d h
  have hD := fun wx => eql_desc wx d d
  rw [Dsc.eqb_self] at hD
  have HE := Lib.hid hE
  have HP := Lib.hid hP
  have HC := Lib.hid hC
  have HR := Lib.hid hr
  obtain ⟨cd, hcd⟩ : ∃ cd, cd = d.cells := ⟨_, rfl⟩
  have HCD := Lib.hid hcd
  obtain ⟨m, hm⟩ : ∃ m, m = l.length := ⟨_, rfl⟩
  rw [← hm] at hl HR ⊢
  have HM := Lib.hid hm
  clear hE hP hC hr hm hat hcd ha0
  have hsz : 1 ≤ d.size := by unfold Dsc.size; split <;> omega
  have hsz6 : d.size ≤ 6 := by
    unfold Dsc.size Dsc.pw
    repeat' split
    all_goals omega
  have HSZ := Lib.hid (show 1 ≤ d.size ∧ d.size ≤ 6 from ⟨hsz, hsz6⟩)
  clear hsz hsz6
  by_cases h1 : 100 < m
  · have h1' : (100 : Int) < (m : Int) := by omega
    obtain ⟨more, lone, start, part, hasPic, wide, pic, hasTl0, tl0, hasTid, tid, sync, hasKey, key⟩ := d
    unfold Dsc.cells
    dsimp only
    clear hD h1
    go_enter Try.func5, Try.ntmps5
    go_wp2_with fail
    refine (awake_any _).mono ?_
    rintro e w1 ⟨rfl, b1⟩
    have HB1 := Lib.hid (((Below.refl _ w).alloc (Nat.le_refl _) _).trans (b1.mono (by simp)))
    clear b1
    go_wp2
    go_ret
    exact ⟨rfl, HB1.out⟩
  have h1' : ¬ (100 : Int) < (m : Int) := by omega
  clear h1
  have hbs0 : ∃ bs, bs = d.enc := ⟨_, rfl⟩
  obtain ⟨bs, hbs⟩ := hbs0
  unfold PutTold at C
  rw [← hbs] at C HE HP HC
  obtain ⟨R, hRR⟩ : ∃ R : Prop, R = d.Right := ⟨_, rfl⟩
  rw [← hRR] at C HE HP HC
  clear hbs hRR
  obtain ⟨dd, hdd⟩ : ∃ dd, dd = d := ⟨_, rfl⟩
  obtain ⟨more, lone, start, part, hasPic, wide, pic, hasTl0, tl0, hasTid, tid, sync, hasKey, key⟩ := d
  rw [← hdd] at HP HSZ HE
  have HDD := Lib.hid hdd
  unfold Dsc.cells at C hD ⊢
  dsimp only at C hD ⊢
  clear hdd
  go_enter Try.func5, Try.ntmps5
  go_wp2_with fail
  have HW := Lib.hid (Whole.new w 26 #[.bool more, .bool lone, .bool start, .int .u8 (part : Int), .bool hasPic, .bool wide, .int .u16 (pic : Int), .bool hasTl0, .int .u8 (tl0 : Int), .bool hasTid, .int .u8 (tid : Int), .bool sync, .bool hasKey, .int .u8 (key : Int)])
  have HB0 := Lib.hid ((Below.refl _ w).alloc (Nat.le_refl _) (.cells #[.bool more, .bool lone, .bool start, .int .u8 (part : Int), .bool hasPic, .bool wide, .int .u16 (pic : Int), .bool hasTl0, .int .u8 (tl0 : Int), .bool hasTid, .int .u8 (tid : Int), .bool sync, .bool hasKey, .int .u8 (key : Int)] 26))
  refine (awake_any _).mono ?_
  rintro e w1 ⟨rfl, b1⟩
  have HW1 := Lib.hid (HW.out.below b1 (by simp))
  have HB1 := Lib.hid (HB0.out.trans (b1.mono (by simp)))
  obtain ⟨gd, hgd⟩ : ∃ gd, gd = w.heap.size := ⟨_, rfl⟩
  rw [← hgd] at HW1 ⊢
  have HGD := Lib.hid hgd
  clear HW HB0 b1 hgd
  have k0 : w1.cell? ⟨gd, 0, none⟩ = some (.bool more) := HW1.out.cell 0
  have k1 : w1.cell? ⟨gd, 1, none⟩ = some (.bool lone) := HW1.out.cell 1
  have k2 : w1.cell? ⟨gd, 2, none⟩ = some (.bool start) := HW1.out.cell 2
  have k3 : w1.cell? ⟨gd, 3, none⟩ = some (.int .u8 (part : Int)) := HW1.out.cell 3
  have k4 : w1.cell? ⟨gd, 4, none⟩ = some (.bool hasPic) := HW1.out.cell 4
  have k5 : w1.cell? ⟨gd, 5, none⟩ = some (.bool wide) := HW1.out.cell 5
  have k6 : w1.cell? ⟨gd, 6, none⟩ = some (.int .u16 (pic : Int)) := HW1.out.cell 6
  have k7 : w1.cell? ⟨gd, 7, none⟩ = some (.bool hasTl0) := HW1.out.cell 7
  have k8 : w1.cell? ⟨gd, 8, none⟩ = some (.int .u8 (tl0 : Int)) := HW1.out.cell 8
  have k9 : w1.cell? ⟨gd, 9, none⟩ = some (.bool hasTid) := HW1.out.cell 9
  have k10 : w1.cell? ⟨gd, 10, none⟩ = some (.int .u8 (tid : Int)) := HW1.out.cell 10
  have k11 : w1.cell? ⟨gd, 11, none⟩ = some (.bool sync) := HW1.out.cell 11
  have k12 : w1.cell? ⟨gd, 12, none⟩ = some (.bool hasKey) := HW1.out.cell 12
  have k13 : w1.cell? ⟨gd, 13, none⟩ = some (.int .u8 (key : Int)) := HW1.out.cell 13
  have hgl : gd < w1.heap.size := HW1.out.lt
  go_wp2_with fail
  refine (C.out _).mono ?_
  rintro e w2 (⟨hn, rfl, b2⟩ | ⟨hr, A2, c2, rfl, own2, b2⟩)
  · have HB2 := Lib.hid (HB1.out.trans (b2.mono HB1.out.size))
    clear b2
    go_wp2
    go_ret
    exact ⟨rfl, HB2.out⟩
  have hE' := HE.out hr
  have hsz := HSZ.out
  have HP' := Lib.hid (HP.out hr)
  have HC' := Lib.hid (HC.out hr)
  obtain ⟨n, hn⟩ : ∃ n, n = bs.length := ⟨_, rfl⟩
  rw [← hn] at own2 hE' ⊢
  have hn1 : 1 ≤ n := by omega
  have hn6 : n ≤ 6 := by omega
  have HNB := Lib.hid hn
  have hcap := own_cap own2
  have HOWN := Lib.hid own2
  have HB2 := Lib.hid (HB1.out.trans (b2.mono HB1.out.size))
  have HW2 := Lib.hid (HW1.out.below b2 hgl)
  have HR2 := Lib.hid (((HR.out.below HB2.out (Nat.le_refl _)).more HB2.out.size))
  have hn0 : ¬ (n : Int) = 0 := by omega
  have hkl := Nat.mod_lt at1 (show 0 < n by omega)
  have HZ2 := Lib.hid b2.size
  have HB1S := Lib.hid HB1.out.size
  clear own2 b2 hn hE' hsz hr HE HP HC HSZ HW1 HB1 HR C k0 k1 k2 k3 k4 k5 k6 k7 k8 k9 k10 k11 k12 k13
  obtain ⟨hc1, hc2⟩ := hcap
  unfold maxLen at hc2
  go_wp2_with fail
  have hkb : (bs.take (at1 % n)).length = at1 % n := by rw [List.length_take, ← HNB.out]; omega
  have hn3 := HC'.out (at1 % n) (by rw [← HNB.out]; exact hkl)
  have CP := fun h => vparse_any A2 c2 (bs.take (at1 % n)) w2 h (by rw [hkb]; omega)
  rw [hkb] at CP
  have hrow : Row w2 w2.heap.size 1 A2 (at1 % n) (u8s (bs.take (at1 % n))) := by
    rw [u8s_take]
    exact (Row.of_own HOWN.out).take (by omega)
  refine (CP hrow).mono ?_
  clear CP hrow hkb
  rintro e w3 h3
  obtain ⟨rfl, b3⟩ := told_eq h3
  rw [pT_none hn3]
  unfold dsc0 Dsc.cells
  dsimp only
  have HOWN3 := Lib.hid (own_below HOWN.out b3 (Nat.le_refl _))
  have HB3 := Lib.hid (HB2.out.trans (b3.mono HB2.out.size))
  have HW3 := Lib.hid (HW2.out.below b3 HW2.out.lt)
  have HR3 := Lib.hid ((HR2.out.below b3 (Nat.le_refl _)).more b3.size)
  have hz3 : w1.heap.size ≤ w3.heap.size := Nat.le_trans HZ2.out b3.size
  clear HZ2
  clear h3 b3 hn3 HOWN HW2 HR2 HB2
  go_wp2_with (at_builtin; go_loud (refine wpl_append _ rfl (.tmp 50) (.tmp 51) 22 rfl w1.heap.size 5 (.int .u8 0) 1 1 Try.underlying22 info_u8 rfl (by decide) _ _ _ rfl (HOWN3.out.alloc _) _ _ m c (u8s l) rfl ((HR3.out.alloc (Nat.le_refl _) _)) (u8s_one _) ?c1 ?c2 ?c3 ?_))
  case c1 => unfold maxLen; omega
  case c2 => omega
  case c3 => simp; omega
  intro v5 w5 own5 g5 _
  obtain ⟨A5, c5, rfl⟩ := own_form own5
  have hcap5 := own_cap own5
  have HW5 := Lib.hid ((HW3.out.alloc _).grown g5 (own_far HOWN3.out HW3.out (by decide)))
  have HB5 := Lib.hid ((HB3.out.alloc HB3.out.size _).grown g5 (by have := HB3.out.size; simp; omega) (fun k hk => by
    obtain ⟨gg, cap, hv, hgb, hgl⟩ := HOWN3.out.form (by omega)
    injection hv with hv1 hv2 hv3
    subst hv1
    injection hk with hk
    subst hk
    have := HB1S.out
    show w.heap.size ≤ gg
    omega))
  have HR5 := Lib.hid (Row.of_own own5)
  have hlm : (bs ++ l).length = n + m := by rw [List.length_append, HNB.out, HM.out]
  rw [← u8s_append, ← hlm] at HR5
  have hn5 := parse_append l HP'.out
  rw [List.nil_append] at hn5
  have hsp : ∀ wx, Row wx wx.heap.size 1 A5 (bs ++ l).length (u8s (bs ++ l)) → Calls Try.prog 11 #[.slice A5 (bs ++ l).length c5] wx (ParseTold (bs ++ l) wx) := fun wx h => vparse_any A5 c5 (bs ++ l) wx h (by rw [hlm]; omega)
  have hlm2 : ((bs ++ l).length : Int) - (l.length : Int) = (n : Int) := by rw [List.length_append, HNB.out]; omega
  have HLM := Lib.hid (And.intro hlm2 hn5)
  rw [hlm] at hsp HR5
  have HSP := Lib.hid hsp
  clear own5 g5 hlm hlm2 hn5 hsp HOWN3 HB3 HR3 HW3 hcap5
  go_wp2_with fail
  refine (HSP.out w5 HR5.out).mono ?_
  rintro e w6 h6
  obtain ⟨rfl, b6⟩ := told_eq h6
  rw [pT_some HLM.out.2, HLM.out.1, HDD.out]
  unfold Dsc.cells
  dsimp only
  have HB6 := Lib.hid (HB5.out.trans (b6.mono HB5.out.size))
  have HW6 := Lib.hid (HW5.out.below b6 HW5.out.lt)
  have k0 : w6.cell? ⟨gd, 0, none⟩ = some (.bool more) := HW6.out.cell 0
  have k1 : w6.cell? ⟨gd, 1, none⟩ = some (.bool lone) := HW6.out.cell 1
  have k2 : w6.cell? ⟨gd, 2, none⟩ = some (.bool start) := HW6.out.cell 2
  have k3 : w6.cell? ⟨gd, 3, none⟩ = some (.int .u8 (part : Int)) := HW6.out.cell 3
  have k4 : w6.cell? ⟨gd, 4, none⟩ = some (.bool hasPic) := HW6.out.cell 4
  have k5 : w6.cell? ⟨gd, 5, none⟩ = some (.bool wide) := HW6.out.cell 5
  have k6 : w6.cell? ⟨gd, 6, none⟩ = some (.int .u16 (pic : Int)) := HW6.out.cell 6
  have k7 : w6.cell? ⟨gd, 7, none⟩ = some (.bool hasTl0) := HW6.out.cell 7
  have k8 : w6.cell? ⟨gd, 8, none⟩ = some (.int .u8 (tl0 : Int)) := HW6.out.cell 8
  have k9 : w6.cell? ⟨gd, 9, none⟩ = some (.bool hasTid) := HW6.out.cell 9
  have k10 : w6.cell? ⟨gd, 10, none⟩ = some (.int .u8 (tid : Int)) := HW6.out.cell 10
  have k11 : w6.cell? ⟨gd, 11, none⟩ = some (.bool sync) := HW6.out.cell 11
  have k12 : w6.cell? ⟨gd, 12, none⟩ = some (.bool hasKey) := HW6.out.cell 12
  have k13 : w6.cell? ⟨gd, 13, none⟩ = some (.int .u8 (key : Int)) := HW6.out.cell 13
  have hg6 : gd < w6.heap.size := HW6.out.lt
  clear b6 h6 HSP HR5 HLM HB5 HW5
  go_wp2
  go_ret
  exact ⟨by simp, HB6.out.alloc HB6.out.size _⟩
set_option maxRecDepth 100000 in
theorem lifted (os : Os) (started : os.Started) (H : Type) (enc : TypeId × Value → H) :
    ReturnsInHanded {} Try.checked os 5 .any (Rows.vp8BackSpec.pre6 enc Try.prog Try.f5 Rows.vp8BackRow.domain false) (Rows.vp8BackSpec.post enc Try.prog Try.f5 false true false false) := by
  refine returnsInHanded_of_change (C := Try.checked) own started (by kernel_rfl) Try.func5
    (ChangeSpec.witness6 (enc := enc) (C := Try.checked) false ⟨#[], #[.agg #[.bool false, .bool false, .bool false, .int .u8 0, .bool false, .bool false, .int .u16 0, .bool false, .int .u8 0, .bool false, .int .u8 0, .bool false, .bool false, .int .u8 0], .slice none 0 0, .int .u8 0], []⟩ 8 (by kernel_rfl) (by kernel_rfl) (by kernel_rfl) (by kernel_rfl)) ?_
  intro W base args ds gs before hval0 hW _ _
  have hval : ∀ (j : Nat) t v, Try.f5.params[j]? = some t → args[j]? = some v → Value.okWide Try.prog W .any base t v := hval0
  have hW' := hW
  obtain ⟨p, q, hA0, hV, _, _, _⟩ := hW
  have hA : DataW.TrodAll enc Try.prog W 0 (fun _ => true) true Try.f5.params.toList args.toList ds p := hA0
  rw [Try.params5] at hA hval
  obtain ⟨v0, vs0, d0, ds0, p0, q0, hargs, rfl, _, h0, r0⟩ := trodAll_cons hA
  obtain ⟨v1, vs1, d1, ds1, p1, q1, rfl, rfl, _, h1, r1⟩ := trodAll_cons r0
  obtain ⟨v2, vs2, d2, ds2, p2, q2, rfl, rfl, _, h2, r2⟩ := trodAll_cons r1
  obtain ⟨rfl, rfl, _⟩ := trodAll_nil r2
  obtain rfl : args = #[v0, v1, v2] := by cases args; simp_all
  obtain ⟨rfl, _⟩ := trodVars_none hV
  refine law_post (s := Rows.vp8BackSpec) rfl rfl (by rw [Try.params5]; intro t ht; simp at ht; rcases ht with rfl | rfl | rfl <;> exact ⟨by kernel_rfl, of_decide_eq_true (by kernel_rfl)⟩) rfl hW' ?_
  obtain ⟨D0, rfl, hf0⟩ := open_desc (hval 0 26 v0 rfl rfl) h0
  obtain ⟨A1, c1, l1, rfl, hl1, hr1, _⟩ := open_bytes (hval 1 22 v1 rfl rfl) h1
  obtain ⟨a2, rfl, _, _, w2⟩ := open_int Try.underlying5 (hval 2 5 v2 rfl rfl) h2
  exact walk W D0 hf0 A1 c1 l1 hl1 hr1 a2 w2

theorem over : Rows.vp8BackRow.holds Try.pinned (OpenSpec.ofChange Rows.vp8BackSpec) :=
  OpenClaim.holds_of_wide 5 Try.f5 rfl rfl rfl rfl rfl rfl rfl ⟨rfl, rfl, rfl, rfl, rfl⟩ rfl rfl rfl rfl rfl (by kernel_rfl) Try.func5 (by kernel_rfl)
    (of_decide_eq_true (by kernel_rfl)) (by unfold Func.isWrapper; first | (rw [if_pos (by decide +kernel)]; kernel_rfl) | (rw [if_neg (by decide +kernel)]; exact ⟨rfl, rfl⟩))
    (fun os started H enc _ => lifted os started H enc)

/-- The statement. -/
theorem vp8Back_holds : Rows.Vp8BackSaid := over

end Go.Proofs.Ytliiodjcpkabmaa.VBack
