/-
  Proved: Vp8Wholes returns true for every descriptor, bytes and byte: whether a frame leans on none is told by the lowest bit of the first byte behind the descriptor alone. Conditions: none.
-/
import Derived.Test.YtliiodjcpkabmaaVpT
import Derived.Test.YtliiodjcpkabmaaVpO
import Derived.Test.YtliiodjcpkabmaaVpV
import Derived.Laws.OwnMore
namespace Go.Proofs.Ytliiodjcpkabmaa.VWholes
open Go.ChangeShapes Go.WideShapes Go.ChangeAt Go.RowKit

theorem whole_enc (d : Dsc) (h : d.Right) (y : UInt8) (ys : List UInt8) : wholeS (d.enc ++ y :: ys) = (d.begins && decide (y.toNat % 2 = 0)) := by
  unfold wholeS
  rw [parse_append (y :: ys) (parse_enc d h)]
  rfl
theorem whole_bare (d : Dsc) (h : d.Right) : wholeS d.enc = false := by
  unfold wholeS
  rw [parse_enc d h]
  show (d.begins && false) = false
  simp
theorem set_mid (a : List UInt8) (y : UInt8) (ys : List UInt8) (v : Nat) (hv : v < 256) : (u8s (a ++ y :: ys)).set a.length (.int .u8 (v : Int)) = u8s (a ++ UInt8.ofNat v :: ys) := by
  have : (UInt8.ofNat v).toNat = v := toNat_of hv
  simp [u8s, List.set_append_right, this]

set_option maxRecDepth 100000 in
set_option maxHeartbeats 3200000 in
theorem walk (w : World) (d : Dsc) (hd : d.Fits) (A : Option Addr) (c : Nat) (l : List UInt8) (hl : l.length ≤ maxLen) (hr : Row w w.heap.size 1 A l.length (u8s l)) (x0 : Int) (hx : (Lit.int .u8 x0).wf = true) :
    Calls Try.prog 9 #[.agg d.cells, .slice A l.length c, .int .u8 x0] w fun e w' => e = .returned (.bool true) ∧ Below w.heap.size w w' := by
  unfold maxLen at hl
  obtain ⟨hx0, hx1⟩ := wf_u8 hx
  obtain ⟨x, rfl⟩ := Int.eq_ofNat_of_zero_le hx0
  have C := Lib.hid (fun wx => vput_any d hd wx)
  have hE := fun h => enc_length d h
  have hWE := fun h => whole_enc d h
  have hWB := fun h => whole_bare d h
  have hsz : 1 ≤ d.size := by unfold Dsc.size; split <;> omega
  have hsz6 : d.size ≤ 6 := by
    unfold Dsc.size Dsc.pw
    repeat' split
    all_goals omega
  have HSZ := Lib.hid (show 1 ≤ d.size ∧ d.size ≤ 6 from ⟨hsz, hsz6⟩)
  clear hsz hsz6 hx hx0
  have hbg : d.begins = (d.start && decide (d.part = 0)) := rfl
  obtain ⟨bs, hbs⟩ : ∃ bs, bs = d.enc := ⟨_, rfl⟩
  unfold PutTold at C
  rw [← hbs] at C hE hWE hWB
  obtain ⟨R, hRR⟩ : ∃ R : Prop, R = d.Right := ⟨_, rfl⟩
  rw [← hRR] at C hE hWE hWB
  obtain ⟨bg, hbgg⟩ : ∃ bg, bg = d.begins := ⟨_, rfl⟩
  rw [← hbgg] at hWE hbg
  obtain ⟨sz, hszz⟩ : ∃ sz, sz = d.size := ⟨_, rfl⟩
  rw [← hszz] at HSZ hE
  clear hbs hRR hbgg hszz hd
  obtain ⟨more, lone, start, part, hasPic, wide, pic, hasTl0, tl0, hasTid, tid, sync, hasKey, key⟩ := d
  dsimp only at hbg
  unfold Dsc.cells at C ⊢
  dsimp only at C ⊢
  have HE := Lib.hid hE
  have HWE := Lib.hid hWE
  have HWB := Lib.hid hWB
  have HBG := Lib.hid hbg
  have HR := Lib.hid hr
  obtain ⟨m, hm⟩ : ∃ m, m = l.length := ⟨_, rfl⟩
  rw [← hm] at hl HR ⊢
  have HM := Lib.hid hm
  clear hE hWE hWB hbg hr hm
  go_enter Try.func9, Try.ntmps9
  go_wp2_with fail
  have HW := Lib.hid (Whole.new w 26 #[.bool more, .bool lone, .bool start, .int .u8 (part : Int), .bool hasPic, .bool wide, .int .u16 (pic : Int), .bool hasTl0, .int .u8 (tl0 : Int), .bool hasTid, .int .u8 (tid : Int), .bool sync, .bool hasKey, .int .u8 (key : Int)])
  have HB0 := Lib.hid ((Below.refl _ w).alloc (Nat.le_refl _) (.cells #[.bool more, .bool lone, .bool start, .int .u8 (part : Int), .bool hasPic, .bool wide, .int .u16 (pic : Int), .bool hasTl0, .int .u8 (tl0 : Int), .bool hasTid, .int .u8 (tid : Int), .bool sync, .bool hasKey, .int .u8 (key : Int)] 26))
  refine (awake_any _).mono ?_
  rintro e w1 ⟨rfl, b1⟩
  have HW1 := Lib.hid (HW.out.below b1 (by simp))
  have HB1 := Lib.hid (HB0.out.trans (b1.mono (by simp)))
  obtain ⟨gd, hgd⟩ : ∃ gd, gd = w.heap.size := ⟨_, rfl⟩
  rw [← hgd] at HW1 ⊢
  have HGD := Lib.hid hgd
  clear HW HB0 b1 hgd
  have k0 : w1.cell? ⟨gd, 0, none⟩ = some (.bool more) := HW1.out.cell 0
  have k1 : w1.cell? ⟨gd, 1, none⟩ = some (.bool lone) := HW1.out.cell 1
  have k2 : w1.cell? ⟨gd, 2, none⟩ = some (.bool start) := HW1.out.cell 2
  have k3 : w1.cell? ⟨gd, 3, none⟩ = some (.int .u8 (part : Int)) := HW1.out.cell 3
  have k4 : w1.cell? ⟨gd, 4, none⟩ = some (.bool hasPic) := HW1.out.cell 4
  have k5 : w1.cell? ⟨gd, 5, none⟩ = some (.bool wide) := HW1.out.cell 5
  have k6 : w1.cell? ⟨gd, 6, none⟩ = some (.int .u16 (pic : Int)) := HW1.out.cell 6
  have k7 : w1.cell? ⟨gd, 7, none⟩ = some (.bool hasTl0) := HW1.out.cell 7
  have k8 : w1.cell? ⟨gd, 8, none⟩ = some (.int .u8 (tl0 : Int)) := HW1.out.cell 8
  have k9 : w1.cell? ⟨gd, 9, none⟩ = some (.bool hasTid) := HW1.out.cell 9
  have k10 : w1.cell? ⟨gd, 10, none⟩ = some (.int .u8 (tid : Int)) := HW1.out.cell 10
  have k11 : w1.cell? ⟨gd, 11, none⟩ = some (.bool sync) := HW1.out.cell 11
  have k12 : w1.cell? ⟨gd, 12, none⟩ = some (.bool hasKey) := HW1.out.cell 12
  have k13 : w1.cell? ⟨gd, 13, none⟩ = some (.int .u8 (key : Int)) := HW1.out.cell 13
  have hgl : gd < w1.heap.size := HW1.out.lt
  go_wp2_with fail
  refine (C.out _).mono ?_
  clear k0 k1 k2 k3 k4 k5 k6 k7 k8 k9 k10 k11 k12 k13
  rintro e w2 (⟨hn, rfl, b2⟩ | ⟨hr, A2, c2, rfl, own2, b2⟩)
  · have HB2 := Lib.hid (HB1.out.trans (b2.mono HB1.out.size))
    clear b2
    go_wp2
    go_ret
    exact ⟨rfl, HB2.out⟩
  by_cases hm0 : m = 0
  · have HB2 := Lib.hid (HB1.out.trans (b2.mono HB1.out.size))
    have hm0' : ((m : Int) == 0) = true := by simp [hm0]
    clear b2 own2 hm0
    go_wp2
    go_ret
    exact ⟨rfl, HB2.out⟩
  have hm0' : ((m : Int) == 0) = false := by simp; omega
  by_cases h1 : 100 < m
  · have HB2 := Lib.hid (HB1.out.trans (b2.mono HB1.out.size))
    have h1' : (100 : Int) < (m : Int) := by omega
    clear b2 own2 h1 hm0
    go_wp2
    go_ret
    exact ⟨rfl, HB2.out⟩
  have h1' : ¬ (100 : Int) < (m : Int) := by omega
  have hm1 : 1 ≤ m := by omega
  obtain ⟨y, ys, hys⟩ : ∃ y ys, l = y :: ys := by
    have := HM.out
    match l, this with
    | y :: ys, _ => exact ⟨y, ys, rfl⟩
    | [], h => simp at h; omega
  have hE' := HE.out hr
  have hsz := HSZ.out
  have HWE' := Lib.hid (fun y ys => HWE.out hr y ys)
  have HWB' := Lib.hid (HWB.out hr)
  obtain ⟨n, hn⟩ : ∃ n, n = bs.length := ⟨_, rfl⟩
  rw [← hn] at own2 hE' ⊢
  have hn1 : 1 ≤ n := by omega
  have hn6 : n ≤ 6 := by omega
  have HNB := Lib.hid hn
  have HOWN := Lib.hid own2
  have HZ2 := Lib.hid b2.size
  have HB1S := Lib.hid HB1.out.size
  have HB2 := Lib.hid (HB1.out.trans (b2.mono HB1.out.size))
  have HW2 := Lib.hid (HW1.out.below b2 hgl)
  have HR2 := Lib.hid (HR.out.below HB2.out (Nat.le_refl _))
  have HYS := Lib.hid hys
  clear own2 b2 hn hE' hsz hr HE HWE HWB HSZ HW1 HB1 HR C hm0 h1 hys
  have hz2 : w1.heap.size ≤ w2.heap.size := HZ2.out
  go_wp2_with (at_builtin; go_loud (refine wpl_append _ rfl (.tmp 36) (.tmp 37) 22 rfl w1.heap.size 5 (.int .u8 0) 1 1 Try.underlying22 info_u8 rfl (by decide) _ _ _ rfl HOWN.out _ _ m c (u8s l) rfl HR2.out (u8s_one _) ?c1 ?c2 ?c3 ?_))
  case c1 => unfold maxLen; omega
  case c2 => omega
  case c3 => exact HZ2.out
  intro v5 w5 own5 g5 _
  obtain ⟨A5, c5, rfl⟩ := own_form own5
  obtain ⟨gg, cap, hv5, hgb5, hgl5⟩ := own5.form (by omega)
  injection hv5 with hv51 hv52 hv53
  subst hv51
  have hrow5 : ∀ k, (Value.slice A2 n c2).ownBlock = some k → w.heap.size ≤ k := fun k hk => by
    obtain ⟨g2, cap2, hv, hgb, hgl⟩ := HOWN.out.form (by omega)
    injection hv with hv1 hv2 hv3
    subst hv1
    injection hk with hk
    subst hk
    have := HB1S.out
    show w.heap.size ≤ g2
    omega
  have HW5 := Lib.hid (HW2.out.grown g5 (own_far HOWN.out HW2.out (by decide)))
  have HB5 := Lib.hid (HB2.out.grown g5 HB2.out.size hrow5)
  have HR5 := Lib.hid (HR2.out.grown g5 HB2.out.size hrow5)
  rw [← u8s_append] at own5
  have hl5 : (bs ++ l).length = n + m := by rw [List.length_append, HNB.out, HM.out]
  have HOWN5 := Lib.hid own5
  have C5 := Lib.hid (by
    have := whole_any (some ⟨gg, 0, none⟩) c5 (bs ++ l) w5 (by rw [hl5]; exact Row.of_own own5) (by rw [hl5]; omega)
    rw [hl5] at this
    exact this)
  have hcap5 := own_cap own5
  obtain ⟨hc51, hc52⟩ := hcap5
  have hgw5 : w.heap.size ≤ gg := by have := HB1S.out; omega
  have HGW := Lib.hid (show w.heap.size ≤ gg ∧ w1.heap.size ≤ gg from ⟨hgw5, hgb5⟩)
  have hgdg : gd ≠ gg := by omega
  have HNE := Lib.hid hgdg
  clear own5 g5 hrow5 hl5 HOWN HB2 HR2 HW2 hv52 hv53 hgw5 hgb5 hgl5 hgdg hz2
  go_wp2_with fail
  refine C5.out.mono ?_
  rintro e w6 ⟨rfl, b6⟩
  have HOWN6 := Lib.hid (own_below HOWN5.out b6 (Nat.le_refl _))
  have HB6 := Lib.hid (HB5.out.trans (b6.mono HB5.out.size))
  have HW6 := Lib.hid (HW5.out.below b6 HW5.out.lt)
  have HR6 := Lib.hid (HR5.out.below b6 HB5.out.size)
  clear b6 C5 HOWN5 HB5 HW5 HR5
  have hx := hx1
  have hy := y.toNat_lt
  have X1 : bits .xor .u8 (y.toNat : Int) (x : Int) = ((y.toNat ^^^ x : Nat) : Int) := u8_xor_nat _ _ hy (by omega)
  have hz : y.toNat ^^^ x < 256 := xor_lt hy (by omega)
  obtain ⟨z, hzz⟩ : ∃ z, z = y.toNat ^^^ x := ⟨_, rfl⟩
  rw [← hzz] at X1 hz
  have HZZ := Lib.hid hzz
  have hw6 := HWE'.out y ys
  rw [← HYS.out] at hw6
  rw [hw6]
  have q0 : w6.cell? ⟨gg, n, none⟩ = some (.int .u8 (y.toNat : Int)) := by
    have := HOWN6.out.cellAt n (by omega)
    rw [this, u8s_get _ n (by rw [List.length_append, HNB.out, HYS.out]; simp)]
    congr 2
    simp [HNB.out, HYS.out]
  have m0 := HOWN6.out.frozenAt n
  have hst := HOWN6.out.stored n (.int .u8 (z : Int))
  have hs1 : (u8s (bs ++ l)).set n (.int .u8 (z : Int)) = u8s (bs ++ UInt8.ofNat z :: ys) := by rw [HYS.out, HNB.out]; exact set_mid bs y ys z hz
  rw [hs1] at hst
  have HST := Lib.hid hst
  have HB7 := Lib.hid (HB6.out.grown hst.2 HB6.out.size (fun k hk => by injection hk with hk; subst hk; exact HGW.out.1))
  have HW7 := Lib.hid (HW6.out.far (p := ⟨gg, n, none⟩) HNE.out (.int .u8 (z : Int)))
  have HR7 := Lib.hid (HR6.out.set (p := ⟨gg, n, none⟩) HGW.out.1 (.int .u8 (z : Int)))
  have hl7 : (bs ++ UInt8.ofNat z :: ys).length = n + m := by rw [List.length_append, HNB.out, HM.out, HYS.out]; rfl
  have C7 := Lib.hid (by
    have := whole_any (some ⟨gg, 0, none⟩) c5 (bs ++ UInt8.ofNat z :: ys) _ (by rw [hl7]; exact Row.of_own hst.1) (by rw [hl7]; omega)
    rw [hl7] at this
    exact this)
  have hnm : (n : Int) < ((n + m : Nat) : Int) := by omega
  clear hst hs1 hl7 hzz hw6 HOWN6 HB6 HW6 HR6
  go_wp2_with fail
  refine C7.out.mono ?_
  rintro e w8 ⟨rfl, b8⟩
  have HOWN8 := Lib.hid (own_below HST.out.1 b8 (Nat.le_refl _))
  have HB8 := Lib.hid (HB7.out.trans (b8.mono HB7.out.size))
  have HW8 := Lib.hid (HW7.out.below b8 HW7.out.lt)
  have HR8 := Lib.hid (HR7.out.below b8 HB7.out.size)
  have hrow : Row w8 w8.heap.size 1 (some ⟨gg, 0, none⟩) n (u8s bs) := by
    have := (Row.of_own HOWN8.out).take (k := n) (by omega)
    rw [← u8s_take, HNB.out, List.take_left] at this
    rw [HNB.out]
    exact this
  have C9 := Lib.hid (by
    have := whole_any (some ⟨gg, 0, none⟩) c5 bs w8 (by rw [← HNB.out]; exact hrow) (by rw [← HNB.out]; omega)
    rw [← HNB.out] at this
    exact this)
  have hw8 := HWE'.out (UInt8.ofNat z) ys
  rw [toNat_of hz] at hw8
  rw [hw8]
  obtain ⟨gA, oA, hA, hgA, hcA⟩ := HR8.out.2 hm1
  have a0 : w8.cell? ⟨gA, oA, none⟩ = some (.int .u8 (y.toNat : Int)) := hcA 0 _ (by rw [HYS.out]; rfl)
  subst hA
  have hbg := HBG.out
  have k2 : w8.cell? ⟨gd, 2, none⟩ = some (.bool start) := HW8.out.cell 2
  have k3 : w8.cell? ⟨gd, 3, none⟩ = some (.int .u8 (part : Int)) := HW8.out.cell 3
  have hg8 : gd < w8.heap.size := HW8.out.lt
  clear b8 C7 HOWN8 HB7 HW7 HR7 hrow hw8 hcA hgA HR8 HST q0 m0 HW8 HBG hz
  cases start with
  | false =>
    simp only [Bool.false_and] at hbg
    subst hbg
    simp only [Bool.false_and]
    go_wp2_with fail
    refine C9.out.mono ?_
    rintro e w9 ⟨rfl, b9⟩
    rw [HWB'.out]
    have HB9 := Lib.hid (HB8.out.trans (b9.mono HB8.out.size))
    clear b9
    go_wp2
    go_ret
    exact ⟨rfl, HB9.out⟩
  | true =>
    by_cases hp : part = 0
    · subst hp
      simp only [Bool.true_and, decide_true] at hbg
      subst hbg
      simp only [Bool.true_and]
      by_cases hy2 : y.toNat % 2 = 0
      all_goals by_cases hz2 : z % 2 = 0
      all_goals
        first | rw [decide_eq_true hy2] | rw [decide_eq_false hy2]
        first | rw [decide_eq_true hz2] | rw [decide_eq_false hz2]
      · have hy3 : ((y.toNat : Int) % 2 == 0) = true := by simp; omega
        have hz3 : ((z : Int) % 2 == 0) = true := by simp; omega
        clear hy2 hz2
        go_wp2_with fail
        refine C9.out.mono ?_
        rintro e w9 ⟨rfl, b9⟩
        rw [HWB'.out]
        have HB9 := Lib.hid (HB8.out.trans (b9.mono HB8.out.size))
        clear b9
        go_wp2
        go_ret
        exact ⟨rfl, HB9.out⟩
      · have hy3 : ((y.toNat : Int) % 2 == 0) = true := by simp; omega
        have hz3 : ((z : Int) % 2 == 0) = false := by simp; omega
        clear hy2 hz2
        go_wp2_with fail
        refine C9.out.mono ?_
        rintro e w9 ⟨rfl, b9⟩
        rw [HWB'.out]
        have HB9 := Lib.hid (HB8.out.trans (b9.mono HB8.out.size))
        clear b9
        go_wp2
        go_ret
        exact ⟨rfl, HB9.out⟩
      · have hy3 : ((y.toNat : Int) % 2 == 0) = false := by simp; omega
        have hz3 : ((z : Int) % 2 == 0) = true := by simp; omega
        clear hy2 hz2
        go_wp2_with fail
        refine C9.out.mono ?_
        rintro e w9 ⟨rfl, b9⟩
        rw [HWB'.out]
        have HB9 := Lib.hid (HB8.out.trans (b9.mono HB8.out.size))
        clear b9
        go_wp2
        go_ret
        exact ⟨rfl, HB9.out⟩
      · have hy3 : ((y.toNat : Int) % 2 == 0) = false := by simp; omega
        have hz3 : ((z : Int) % 2 == 0) = false := by simp; omega
        clear hy2 hz2
        go_wp2_with fail
        refine C9.out.mono ?_
        rintro e w9 ⟨rfl, b9⟩
        rw [HWB'.out]
        have HB9 := Lib.hid (HB8.out.trans (b9.mono HB8.out.size))
        clear b9
        go_wp2
        go_ret
        exact ⟨rfl, HB9.out⟩
    · have hp' : ((part : Int) == 0) = false := by simp; omega
      simp only [Bool.true_and, decide_eq_false hp] at hbg
      subst hbg
      simp only [Bool.false_and]
      clear hp
      go_wp2_with fail
      refine C9.out.mono ?_
      rintro e w9 ⟨rfl, b9⟩
      rw [HWB'.out]
      have HB9 := Lib.hid (HB8.out.trans (b9.mono HB8.out.size))
      clear b9
      go_wp2
      go_ret
      exact ⟨rfl, HB9.out⟩
set_option maxRecDepth 100000 in
theorem lifted (os : Os) (started : os.Started) (H : Type) (enc : TypeId × Value → H) :
    ReturnsInHanded {} Try.checked os 9 .any (Rows.vp8WholesSpec.pre6 enc Try.prog Try.f9 Rows.vp8WholesRow.domain false) (Rows.vp8WholesSpec.post enc Try.prog Try.f9 false true false false) := by
  refine returnsInHanded_of_change (C := Try.checked) own started (by kernel_rfl) Try.func9
    (ChangeSpec.witness6 (enc := enc) (C := Try.checked) false ⟨#[], #[.agg #[.bool false, .bool false, .bool false, .int .u8 0, .bool false, .bool false, .int .u16 0, .bool false, .int .u8 0, .bool false, .int .u8 0, .bool false, .bool false, .int .u8 0], .slice none 0 0, .int .u8 0], []⟩ 8 (by kernel_rfl) (by kernel_rfl) (by kernel_rfl) (by kernel_rfl)) ?_
  intro W base args ds gs before hval0 hW _ _
  have hval : ∀ (j : Nat) t v, Try.f9.params[j]? = some t → args[j]? = some v → Value.okWide Try.prog W .any base t v := hval0
  have hW' := hW
  obtain ⟨p, q, hA0, hV, _, _, _⟩ := hW
  have hA : DataW.TrodAll enc Try.prog W 0 (fun _ => true) true Try.f9.params.toList args.toList ds p := hA0
  rw [Try.params9] at hA hval
  obtain ⟨v0, vs0, d0, ds0, p0, q0, hargs, rfl, _, h0, r0⟩ := trodAll_cons hA
  obtain ⟨v1, vs1, d1, ds1, p1, q1, rfl, rfl, _, h1, r1⟩ := trodAll_cons r0
  obtain ⟨v2, vs2, d2, ds2, p2, q2, rfl, rfl, _, h2, r2⟩ := trodAll_cons r1
  obtain ⟨rfl, rfl, _⟩ := trodAll_nil r2
  obtain rfl : args = #[v0, v1, v2] := by cases args; simp_all
  obtain ⟨rfl, _⟩ := trodVars_none hV
  refine law_post (s := Rows.vp8WholesSpec) rfl rfl (by rw [Try.params9]; intro t ht; simp at ht; rcases ht with rfl | rfl | rfl <;> exact ⟨by kernel_rfl, of_decide_eq_true (by kernel_rfl)⟩) rfl hW' ?_
  obtain ⟨D0, rfl, hf0⟩ := open_desc (hval 0 26 v0 rfl rfl) h0
  obtain ⟨A1, c1, l1, rfl, hl1, hr1, _⟩ := open_bytes (hval 1 22 v1 rfl rfl) h1
  obtain ⟨a2, rfl, _, _, w2⟩ := open_int Try.underlying5 (hval 2 5 v2 rfl rfl) h2
  exact walk W D0 hf0 A1 c1 l1 hl1 hr1 a2 w2

theorem over : Rows.vp8WholesRow.holds Try.pinned (OpenSpec.ofChange Rows.vp8WholesSpec) :=
  OpenClaim.holds_of_wide 9 Try.f9 rfl rfl rfl rfl rfl rfl rfl ⟨rfl, rfl, rfl, rfl, rfl⟩ rfl rfl rfl rfl rfl (by kernel_rfl) Try.func9 (by kernel_rfl)
    (of_decide_eq_true (by kernel_rfl)) (by unfold Func.isWrapper; first | (rw [if_pos (by decide +kernel)]; kernel_rfl) | (rw [if_neg (by decide +kernel)]; exact ⟨rfl, rfl⟩))
    (fun os started H enc _ => lifted os started H enc)

/-- The statement. -/
theorem vp8Wholes_holds : Rows.Vp8WholesSaid := over

end Go.Proofs.Ytliiodjcpkabmaa.VWholes
