/-
  Proved: Vp8Sizes returns true for every descriptor: what Put tells has one byte, or two and those of what it has. Conditions: none.
-/
import Derived.Test.YtliiodjcpkabmaaVpT
import Derived.Test.YtliiodjcpkabmaaVpO
namespace Go.Proofs.Ytliiodjcpkabmaa.VSizes
set_option linter.unusedSimpArgs false
open Go.ChangeShapes Go.WideShapes Go.ChangeAt Go.RowKit

set_option maxRecDepth 100000 in
set_option maxHeartbeats 6400000 in
theorem walk (w : World) (d : Dsc) (hd : d.Fits) :
    Calls Try.prog 8 #[.agg d.cells] w fun e w' => e = .returned (.bool true) ∧ Below w.heap.size w w' := by
  have C := Lib.hid (fun wx => vput_any d hd wx)
  have B := Lib.hid (fun wx => begins_any d wx)
  have hlen : d.Right → d.enc.length = d.size := enc_length d
  have hsz : d.size = if d.more then 2 + d.pw + (if d.hasTl0 then 1 else 0) + (if d.hasTid || d.hasKey then 1 else 0) else 1 := rfl
  have hpw : d.pw = if d.wide then 2 else if d.hasPic then 1 else 0 := rfl
  rw [hpw] at hsz
  have hbg : d.begins = (d.start && decide (d.part = 0)) := rfl
  have hR : d.Right → (d.more = false → d.hasPic = false ∧ d.hasTl0 = false ∧ d.hasTid = false ∧ d.hasKey = false) ∧ (d.hasPic = false → d.wide = false) := fun h => ⟨h.2.1, fun hh => (h.2.2.1 hh).1⟩
  unfold PutTold at C
  obtain ⟨R, hRR⟩ : ∃ R : Prop, R = d.Right := ⟨_, rfl⟩
  obtain ⟨bs, hbs⟩ : ∃ bs, bs = d.enc := ⟨_, rfl⟩
  obtain ⟨bg, hbgg⟩ : ∃ bg, bg = d.begins := ⟨_, rfl⟩
  rw [← hRR, ← hbs] at C
  rw [← hRR, ← hbs] at hlen
  rw [← hRR] at hR
  rw [← hbgg] at B hbg
  clear hRR hbs hbgg hpw
  obtain ⟨more, lone, start, part, hasPic, wide, pic, hasTl0, tl0, hasTid, tid, sync, hasKey, key⟩ := d
  unfold Dsc.cells at *
  dsimp only at *
  have HL := Lib.hid hlen
  have HSZ := Lib.hid hsz
  have HR := Lib.hid hR
  have HBG := Lib.hid hbg
  clear hlen hsz hR hbg
  go_enter Try.func8, Try.ntmps8
  go_wp2_with fail
  have HW := Lib.hid (Whole.new w 26 #[.bool more, .bool lone, .bool start, .int .u8 (part : Int), .bool hasPic, .bool wide, .int .u16 (pic : Int), .bool hasTl0, .int .u8 (tl0 : Int), .bool hasTid, .int .u8 (tid : Int), .bool sync, .bool hasKey, .int .u8 (key : Int)])
  have HB0 := Lib.hid ((Below.refl _ w).alloc (Nat.le_refl _) (.cells #[.bool more, .bool lone, .bool start, .int .u8 (part : Int), .bool hasPic, .bool wide, .int .u16 (pic : Int), .bool hasTl0, .int .u8 (tl0 : Int), .bool hasTid, .int .u8 (tid : Int), .bool sync, .bool hasKey, .int .u8 (key : Int)] 26))
  refine (awake_any _).mono ?_
  rintro e w1 ⟨rfl, b1⟩
  have HW1 := Lib.hid (HW.out.below b1 (by simp))
  have HB1 := Lib.hid (HB0.out.trans (b1.mono (by simp)))
  obtain ⟨gd, hgd⟩ : ∃ gd, gd = w.heap.size := ⟨_, rfl⟩
  rw [← hgd] at HW1 ⊢
  have HGD := Lib.hid hgd
  clear HW HB0 b1 hgd
  have k0 : w1.cell? ⟨gd, 0, none⟩ = some (.bool more) := HW1.out.cell 0
  have k1 : w1.cell? ⟨gd, 1, none⟩ = some (.bool lone) := HW1.out.cell 1
  have k2 : w1.cell? ⟨gd, 2, none⟩ = some (.bool start) := HW1.out.cell 2
  have k3 : w1.cell? ⟨gd, 3, none⟩ = some (.int .u8 (part : Int)) := HW1.out.cell 3
  have k4 : w1.cell? ⟨gd, 4, none⟩ = some (.bool hasPic) := HW1.out.cell 4
  have k5 : w1.cell? ⟨gd, 5, none⟩ = some (.bool wide) := HW1.out.cell 5
  have k6 : w1.cell? ⟨gd, 6, none⟩ = some (.int .u16 (pic : Int)) := HW1.out.cell 6
  have k7 : w1.cell? ⟨gd, 7, none⟩ = some (.bool hasTl0) := HW1.out.cell 7
  have k8 : w1.cell? ⟨gd, 8, none⟩ = some (.int .u8 (tl0 : Int)) := HW1.out.cell 8
  have k9 : w1.cell? ⟨gd, 9, none⟩ = some (.bool hasTid) := HW1.out.cell 9
  have k10 : w1.cell? ⟨gd, 10, none⟩ = some (.int .u8 (tid : Int)) := HW1.out.cell 10
  have k11 : w1.cell? ⟨gd, 11, none⟩ = some (.bool sync) := HW1.out.cell 11
  have k12 : w1.cell? ⟨gd, 12, none⟩ = some (.bool hasKey) := HW1.out.cell 12
  have k13 : w1.cell? ⟨gd, 13, none⟩ = some (.int .u8 (key : Int)) := HW1.out.cell 13
  have hgl : gd < w1.heap.size := HW1.out.lt
  go_wp2_with fail
  refine (C.out _).mono ?_
  rintro e w2 (⟨hn, rfl, b2⟩ | ⟨hr, A, c, rfl, own2, b2⟩)
  · have HB2 := Lib.hid (HB1.out.trans (b2.mono HB1.out.size))
    clear b2
    go_wp2
    go_ret
    exact ⟨rfl, HB2.out⟩
  have HW2 := Lib.hid (HW1.out.below b2 hgl)
  have HB2 := Lib.hid (HB1.out.trans (b2.mono HB1.out.size))
  have hlq := HL.out hr
  have hrr := HR.out hr
  have HLQ := Lib.hid hlq
  have HRR := Lib.hid hrr
  clear own2 b2 HW1 HB1 hlq hrr hr HL HR C k0 k1 k2 k3 k4 k5 k6 k7 k8 k9 k10 k11 k12 k13
  have k0 : w2.cell? ⟨gd, 0, none⟩ = some (.bool more) := HW2.out.cell 0
  have k1 : w2.cell? ⟨gd, 1, none⟩ = some (.bool lone) := HW2.out.cell 1
  have k2 : w2.cell? ⟨gd, 2, none⟩ = some (.bool start) := HW2.out.cell 2
  have k3 : w2.cell? ⟨gd, 3, none⟩ = some (.int .u8 (part : Int)) := HW2.out.cell 3
  have k4 : w2.cell? ⟨gd, 4, none⟩ = some (.bool hasPic) := HW2.out.cell 4
  have k5 : w2.cell? ⟨gd, 5, none⟩ = some (.bool wide) := HW2.out.cell 5
  have k6 : w2.cell? ⟨gd, 6, none⟩ = some (.int .u16 (pic : Int)) := HW2.out.cell 6
  have k7 : w2.cell? ⟨gd, 7, none⟩ = some (.bool hasTl0) := HW2.out.cell 7
  have k8 : w2.cell? ⟨gd, 8, none⟩ = some (.int .u8 (tl0 : Int)) := HW2.out.cell 8
  have k9 : w2.cell? ⟨gd, 9, none⟩ = some (.bool hasTid) := HW2.out.cell 9
  have k10 : w2.cell? ⟨gd, 10, none⟩ = some (.int .u8 (tid : Int)) := HW2.out.cell 10
  have k11 : w2.cell? ⟨gd, 11, none⟩ = some (.bool sync) := HW2.out.cell 11
  have k12 : w2.cell? ⟨gd, 12, none⟩ = some (.bool hasKey) := HW2.out.cell 12
  have k13 : w2.cell? ⟨gd, 13, none⟩ = some (.int .u8 (key : Int)) := HW2.out.cell 13
  have hgl2 : gd < w2.heap.size := HW2.out.lt
  obtain ⟨m, hm⟩ : ∃ m, m = bs.length := ⟨_, rfl⟩
  rw [← hm] at HLQ ⊢
  clear hm hgl
  obtain ⟨n1, h1⟩ : ∃ n1 : Nat, n1 = (if more then 2 else 1) := ⟨_, rfl⟩
  obtain ⟨n2, h2⟩ : ∃ n2 : Nat, n2 = n1 + (if hasPic then 1 else 0) := ⟨_, rfl⟩
  obtain ⟨n3, h3⟩ : ∃ n3 : Nat, n3 = n2 + (if wide then 1 else 0) := ⟨_, rfl⟩
  obtain ⟨n4, h4⟩ : ∃ n4 : Nat, n4 = n3 + (if hasTl0 then 1 else 0) := ⟨_, rfl⟩
  obtain ⟨n5, h5⟩ : ∃ n5 : Nat, n5 = n4 + (if (hasTid || hasKey) then 1 else 0) := ⟨_, rfl⟩
  have l1 : n1 ≤ 2 := by rw [h1]; split <;> omega
  have l2 : n2 ≤ 3 := by rw [h2]; split <;> omega
  have l3 : n3 ≤ 4 := by rw [h3]; split <;> omega
  have l4 : n4 ≤ 5 := by rw [h4]; split <;> omega
  have hm : m = n5 := by
    rw [HLQ.out, HSZ.out, h5, h4, h3, h2, h1]
    have hr1 := HRR.out.1
    have hr2 := HRR.out.2
    cases more
    · obtain ⟨r1, r2, r3, r4⟩ := hr1 rfl
      have r5 := hr2 r1
      subst r1 r2 r3 r4 r5
      rfl
    · cases hasPic
      · have r5 := hr2 rfl
        subst r5
        cases hasTl0 <;> cases hasTid <;> cases hasKey <;> rfl
      · cases wide <;> cases hasTl0 <;> cases hasTid <;> cases hasKey <;> rfl
  have HM := Lib.hid hm
  have E1 := Lib.hid h1
  have E2 := Lib.hid h2
  have E3 := Lib.hid h3
  have E4 := Lib.hid h4
  have E5 := Lib.hid h5
  clear hm h1 h2 h3 h4 h5 HLQ HSZ HRR
  go_upto_if 18 with fail
  go_cut [6] (fun s6 wx => s6 = .int .i64 (n1 : Int) ∧ wx = w2)
  case first =>
    clear B HBG
    cases more
    all_goals
      have e := E1.out
      simp only [if_true, Bool.false_eq_true, if_false] at e
      subst e
      go_wp2_with fail
      go_meet
      exact ⟨by simp, rfl⟩
  case rest =>
  obtain ⟨rfl, hwx⟩ := hcut
  rw [hwx]
  clear hwx
  go_upto_if 20 with fail
  go_cut [6] (fun s6 wx => s6 = .int .i64 (n2 : Int) ∧ wx = w2)
  case first =>
    clear B HBG
    cases hasPic
    all_goals
      have e := E2.out
      simp only [if_true, Bool.false_eq_true, if_false, Nat.add_zero] at e
      subst e
      go_wp2_with fail
      go_meet
      exact ⟨by simp, rfl⟩
  case rest =>
  obtain ⟨rfl, hwx⟩ := hcut
  rw [hwx]
  clear hwx
  go_upto_if 24 with fail
  go_cut [6] (fun s6 wx => s6 = .int .i64 (n3 : Int) ∧ wx = w2)
  case first =>
    clear B HBG
    cases wide
    all_goals
      have e := E3.out
      simp only [if_true, Bool.false_eq_true, if_false, Nat.add_zero] at e
      subst e
      go_wp2_with fail
      go_meet
      exact ⟨by simp, rfl⟩
  case rest =>
  obtain ⟨rfl, hwx⟩ := hcut
  rw [hwx]
  clear hwx
  go_upto_if 28 with fail
  go_cut [6] (fun s6 wx => s6 = .int .i64 (n4 : Int) ∧ wx = w2)
  case first =>
    clear B HBG
    cases hasTl0
    all_goals
      have e := E4.out
      simp only [if_true, Bool.false_eq_true, if_false, Nat.add_zero] at e
      subst e
      go_wp2_with fail
      go_meet
      exact ⟨by simp, rfl⟩
  case rest =>
  obtain ⟨rfl, hwx⟩ := hcut
  rw [hwx]
  clear hwx
  go_upto_region 16 with fail
  go_cut [36] (fun s36 wx => s36 = .bool (hasTid || hasKey) ∧ wx = w2)
  case first =>
    clear B HBG
    cases hasTid
    all_goals
      go_wp2_with fail
      go_meet
      exact ⟨by simp, rfl⟩
  case rest =>
  obtain ⟨rfl, hwx⟩ := hcut
  rw [hwx]
  clear hwx
  go_upto_if 36 with fail
  go_cut [6] (fun s6 wx => s6 = .int .i64 (n5 : Int) ∧ wx = w2)
  case first =>
    clear B HBG
    have e := E5.out
    generalize (hasTid || hasKey) = hq at e ⊢
    cases hq
    all_goals
      simp only [if_true, Bool.false_eq_true, if_false, Nat.add_zero] at e
      subst e
      go_wp2_with fail
      go_meet
      exact ⟨by simp, rfl⟩
  case rest =>
  obtain ⟨rfl, hwx⟩ := hcut
  rw [hwx, HM.out]
  clear hwx
  have HBQ := Lib.hid (show bg = (start && decide (part = 0)) from HBG.out)
  clear HBG
  have HBE := Lib.hid (HB2.out.alloc HB2.out.size (.cells #[.bool more, .bool lone, .bool start, .int .u8 (part : Int), .bool hasPic, .bool wide, .int .u16 (pic : Int), .bool hasTl0, .int .u8 (tl0 : Int), .bool hasTid, .int .u8 (tid : Int), .bool sync, .bool hasKey, .int .u8 (key : Int)] 26))
  go_upto_region 18 with fail
  have hd1 : ((n5 : Int) == (n5 : Int)) = true := beq_self_eq_true _
  have hd2 : decide ((n5 : Int) = (n5 : Int)) = true := by simp
  cases start with
  | false =>
    have hb : bg = false := by simpa using HBQ.out
    subst hb
    refine wp_region_held_drew (S := (fun w' => w'.cell? ⟨gd, 0, none⟩ = some (.bool more) ∧ w'.cell? ⟨gd, 1, none⟩ = some (.bool lone) ∧ w'.cell? ⟨gd, 2, none⟩ = some (.bool false) ∧ w'.cell? ⟨gd, 3, none⟩ = some (.int .u8 (part : Int)) ∧ w'.cell? ⟨gd, 4, none⟩ = some (.bool hasPic) ∧ w'.cell? ⟨gd, 5, none⟩ = some (.bool wide) ∧ w'.cell? ⟨gd, 6, none⟩ = some (.int .u16 (pic : Int)) ∧ w'.cell? ⟨gd, 7, none⟩ = some (.bool hasTl0) ∧ w'.cell? ⟨gd, 8, none⟩ = some (.int .u8 (tl0 : Int)) ∧ w'.cell? ⟨gd, 9, none⟩ = some (.bool hasTid) ∧ w'.cell? ⟨gd, 10, none⟩ = some (.int .u8 (tid : Int)) ∧ w'.cell? ⟨gd, 11, none⟩ = some (.bool sync) ∧ w'.cell? ⟨gd, 12, none⟩ = some (.bool hasKey) ∧ w'.cell? ⟨gd, 13, none⟩ = some (.int .u8 (key : Int)))) (by kernel_rfl) (by first | exact ⟨k0, k1, k2, k3, k4, k5, k6, k7, k8, k9, k10, k11, k12, k13⟩ | go_keep) (fun hHeld => ?_)
    refine wpAnyH_take (i := 0) (v := ?_) rfl (by kernel_rfl) (by kernel_rfl) (by kernel_rfl) (fun _ _ _ h => h) (Or.inl ⟨by kernel_rfl, ?_⟩) (by assumption) ?_
    rotate_left 1
    · (intro w hSw; (try dsimp only at hSw); go_simp; try (with_reducible rfl))
    (try simp only [Act.put, List.getElem_toArray, List.getElem_cons_succ, List.getElem_cons_zero, List.setIfInBounds_toArray, List.set_cons_zero, List.set_cons_succ])
    refine wpAnyH_take (i := 1) (v := ?_) rfl (by kernel_rfl) (by kernel_rfl) (by kernel_rfl) (fun _ _ _ h => h) (Or.inl ⟨by kernel_rfl, ?_⟩) (by assumption) ?_
    rotate_left 1
    · (intro w hSw; (try dsimp only at hSw); go_simp; try (with_reducible rfl))
    (try simp only [Act.put, List.getElem_toArray, List.getElem_cons_succ, List.getElem_cons_zero, List.setIfInBounds_toArray, List.set_cons_zero, List.set_cons_succ])
    refine wpAnyH_take (i := 2) (v := ?_) rfl (by kernel_rfl) (by kernel_rfl) (by kernel_rfl) (fun _ _ _ h => h) (Or.inl ⟨by kernel_rfl, ?_⟩) (by assumption) ?_
    rotate_left 1
    · (intro w hSw; (try dsimp only at hSw); go_simp; try (with_reducible rfl))
    (try simp only [Act.put, List.getElem_toArray, List.getElem_cons_succ, List.getElem_cons_zero, List.setIfInBounds_toArray, List.set_cons_zero, List.set_cons_succ])
    refine wpAnyH_take (i := 3) (v := ?_) rfl (by kernel_rfl) (by kernel_rfl) (by kernel_rfl) (fun _ _ _ h => h) (Or.inl ⟨by kernel_rfl, ?_⟩) (by assumption) ?_
    rotate_left 1
    · (intro w hSw; (try dsimp only at hSw); go_simp; try (with_reducible rfl))
    (try simp only [Act.put, List.getElem_toArray, List.getElem_cons_succ, List.getElem_cons_zero, List.setIfInBounds_toArray, List.set_cons_zero, List.set_cons_succ])
    refine wpAnyH_take (i := 4) (v := ?_) rfl (by kernel_rfl) (by kernel_rfl) (by kernel_rfl) (fun _ _ _ h => h) (Or.inl ⟨by kernel_rfl, ?_⟩) (by assumption) ?_
    rotate_left 1
    · (intro w hSw; (try dsimp only at hSw); go_simp; try (with_reducible rfl))
    (try simp only [Act.put, List.getElem_toArray, List.getElem_cons_succ, List.getElem_cons_zero, List.setIfInBounds_toArray, List.set_cons_zero, List.set_cons_succ])
    refine wpAnyH_take (i := 5) (v := ?_) rfl (by kernel_rfl) (by kernel_rfl) (by kernel_rfl) (fun _ _ _ h => h) (Or.inl ⟨by kernel_rfl, ?_⟩) (by assumption) ?_
    rotate_left 1
    · (intro w hSw; (try dsimp only at hSw); go_simp; try (with_reducible rfl))
    (try simp only [Act.put, List.getElem_toArray, List.getElem_cons_succ, List.getElem_cons_zero, List.setIfInBounds_toArray, List.set_cons_zero, List.set_cons_succ])
    refine wpAnyH_take (i := 7) (v := ?_) rfl (by kernel_rfl) (by kernel_rfl) (by kernel_rfl) (fun _ _ _ h => h) (Or.inl ⟨by kernel_rfl, ?_⟩) (by assumption) ?_
    rotate_left 1
    · (intro w hSw; (try dsimp only at hSw); go_simp; try (with_reducible rfl))
    (try simp only [Act.put, List.getElem_toArray, List.getElem_cons_succ, List.getElem_cons_zero, List.setIfInBounds_toArray, List.set_cons_zero, List.set_cons_succ])
    refine wpAnyH_take (i := 8) (v := ?_) rfl (by kernel_rfl) (by kernel_rfl) (by kernel_rfl) (fun _ _ _ h => h) (Or.inl ⟨by kernel_rfl, ?_⟩) (by assumption) ?_
    rotate_left 1
    · (intro w hSw; (try dsimp only at hSw); go_simp; try (with_reducible rfl))
    (try simp only [Act.put, List.getElem_toArray, List.getElem_cons_succ, List.getElem_cons_zero, List.setIfInBounds_toArray, List.set_cons_zero, List.set_cons_succ])
    refine wpAnyH_ready (rs := [6]) (by kernel_rfl) (by simp) ?_
    refine AllReadyH.cons rfl (fun K hK => ?_) AllReadyH.nil
    go_simp
    go_wp2_with (go_at_call 14; refine (B.out _).mono ?_; rintro e w' ⟨rfl, rfl⟩)
    refine hK _ _ (by first | exact ⟨k0, k1, k2, k3, k4, k5, k6, k7, k8, k9, k10, k11, k12, k13⟩ | go_keep) (fun hHeld2 => ?_)
    clear hK K
    (try simp only [Act.put, List.getElem_toArray, List.getElem_cons_succ, List.getElem_cons_zero, List.setIfInBounds_toArray, List.set_cons_zero, List.set_cons_succ])
    refine wpAnyH_take (i := 9) (v := ?_) rfl (by kernel_rfl) (by kernel_rfl) (by kernel_rfl) (fun _ _ _ h => h) (Or.inl ⟨by kernel_rfl, ?_⟩) (by assumption) ?_
    rotate_left 1
    · (intro w hSw; (try dsimp only at hSw); go_simp; try (with_reducible rfl))
    (try simp only [Act.put, List.getElem_toArray, List.getElem_cons_succ, List.getElem_cons_zero, List.setIfInBounds_toArray, List.set_cons_zero, List.set_cons_succ])
    refine wpAnyH_take (i := 10) (v := undef) rfl (by kernel_rfl) (by kernel_rfl) (by kernel_rfl) (fun _ _ _ h => h) (Or.inr ⟨by kernel_rfl, rfl⟩) (by assumption) ?_
    (try simp only [Act.put, List.getElem_toArray, List.getElem_cons_succ, List.getElem_cons_zero, List.setIfInBounds_toArray, List.set_cons_zero, List.set_cons_succ])
    refine wpAnyH_take (i := 11) (v := undef) rfl (by kernel_rfl) (by kernel_rfl) (by kernel_rfl) (fun _ _ _ h => h) (Or.inr ⟨by kernel_rfl, rfl⟩) (by assumption) ?_
    (try simp only [Act.put, List.getElem_toArray, List.getElem_cons_succ, List.getElem_cons_zero, List.setIfInBounds_toArray, List.set_cons_zero, List.set_cons_succ])
    refine wpAnyH_take (i := 12) (v := undef) rfl (by kernel_rfl) (by kernel_rfl) (by kernel_rfl) (fun _ _ _ h => h) (Or.inr ⟨by kernel_rfl, rfl⟩) (by assumption) ?_
    (try simp only [Act.put, List.getElem_toArray, List.getElem_cons_succ, List.getElem_cons_zero, List.setIfInBounds_toArray, List.set_cons_zero, List.set_cons_succ])
    refine wpAnyH_take (i := 13) (v := ?_) rfl (by kernel_rfl) (by kernel_rfl) (by kernel_rfl) (fun _ _ _ h => h) (Or.inl ⟨by kernel_rfl, ?_⟩) (by assumption) ?_
    rotate_left 1
    · (intro w hSw; (try dsimp only at hSw); go_simp; try (with_reducible rfl))
    (try simp only [Act.put, List.getElem_toArray, List.getElem_cons_succ, List.getElem_cons_zero, List.setIfInBounds_toArray, List.set_cons_zero, List.set_cons_succ])
    refine wpAnyH_take (i := 14) (v := ?_) rfl (by kernel_rfl) (by kernel_rfl) (by kernel_rfl) (fun _ _ _ h => h) (Or.inl ⟨by kernel_rfl, ?_⟩) (by assumption) ?_
    rotate_left 1
    · (intro w hSw; (try dsimp only at hSw); go_simp; try (with_reducible rfl))
    (try simp only [Act.put, List.getElem_toArray, List.getElem_cons_succ, List.getElem_cons_zero, List.setIfInBounds_toArray, List.set_cons_zero, List.set_cons_succ])
    refine wpAnyH_take (i := 15) (v := ?_) rfl (by kernel_rfl) (by kernel_rfl) (by kernel_rfl) (fun _ _ _ h => h) (Or.inl ⟨by kernel_rfl, ?_⟩) (by assumption) ?_
    rotate_left 1
    · (intro w hSw; (try dsimp only at hSw); go_simp; try (with_reducible rfl))
    (try simp only [Act.put, List.getElem_toArray, List.getElem_cons_succ, List.getElem_cons_zero, List.setIfInBounds_toArray, List.set_cons_zero, List.set_cons_succ])
    refine wpAnyH_take (i := 16) (v := ?_) rfl (by kernel_rfl) (by kernel_rfl) (by kernel_rfl) (fun _ _ _ h => h) (Or.inl ⟨by kernel_rfl, ?_⟩) (by assumption) ?_
    rotate_left 1
    · (intro w hSw; (try dsimp only at hSw); go_simp; try (with_reducible rfl))
    (try simp only [Act.put, List.getElem_toArray, List.getElem_cons_succ, List.getElem_cons_zero, List.setIfInBounds_toArray, List.set_cons_zero, List.set_cons_succ])
    refine wpAnyH_done (by kernel_rfl) ?_ _
    all_goals
      go_wp2
      go_ret
      exact ⟨by first | rfl | simp, ⟨HBE.out.os, HBE.out.tape, HBE.out.output, HBE.out.size, HBE.out.block⟩⟩
  | true =>
    have hb : bg = ((part : Int) == 0) := by
      have := HBQ.out
      rw [this, Bool.true_and, Bool.eq_iff_iff]
      simp
    have HQ := Lib.hid hb
    clear hb
    go_region_held3 (fun w' => w'.cell? ⟨gd, 0, none⟩ = some (.bool more) ∧ w'.cell? ⟨gd, 1, none⟩ = some (.bool lone) ∧ w'.cell? ⟨gd, 2, none⟩ = some (.bool true) ∧ w'.cell? ⟨gd, 3, none⟩ = some (.int .u8 (part : Int)) ∧ w'.cell? ⟨gd, 4, none⟩ = some (.bool hasPic) ∧ w'.cell? ⟨gd, 5, none⟩ = some (.bool wide) ∧ w'.cell? ⟨gd, 6, none⟩ = some (.int .u16 (pic : Int)) ∧ w'.cell? ⟨gd, 7, none⟩ = some (.bool hasTl0) ∧ w'.cell? ⟨gd, 8, none⟩ = some (.int .u8 (tl0 : Int)) ∧ w'.cell? ⟨gd, 9, none⟩ = some (.bool hasTid) ∧ w'.cell? ⟨gd, 10, none⟩ = some (.int .u8 (tid : Int)) ∧ w'.cell? ⟨gd, 11, none⟩ = some (.bool sync) ∧ w'.cell? ⟨gd, 12, none⟩ = some (.bool hasKey) ∧ w'.cell? ⟨gd, 13, none⟩ = some (.int .u8 (key : Int)))
      (first | exact ⟨k0, k1, k2, k3, k4, k5, k6, k7, k8, k9, k10, k11, k12, k13⟩ | go_keep)
      ((go_at_call 14; refine (B.out _).mono ?_; rintro e w' ⟨rfl, rfl⟩))
    all_goals
      go_wp2
      go_ret
      exact ⟨by rw [HQ.out]; first | rfl | simp, ⟨HBE.out.os, HBE.out.tape, HBE.out.output, HBE.out.size, HBE.out.block⟩⟩

set_option maxRecDepth 100000 in
theorem lifted (os : Os) (started : os.Started) (H : Type) (enc : TypeId × Value → H) :
    ReturnsInHanded {} Try.checked os 8 .any (Rows.vp8SizesSpec.pre6 enc Try.prog Try.f8 Rows.vp8SizesRow.domain false) (Rows.vp8SizesSpec.post enc Try.prog Try.f8 false true false false) := by
  refine returnsInHanded_of_change (C := Try.checked) own started (by kernel_rfl) Try.func8
    (ChangeSpec.witness6 (enc := enc) (C := Try.checked) false ⟨#[], #[.agg #[.bool false, .bool false, .bool false, .int .u8 0, .bool false, .bool false, .int .u16 0, .bool false, .int .u8 0, .bool false, .int .u8 0, .bool false, .bool false, .int .u8 0]], []⟩ 8 (by kernel_rfl) (by kernel_rfl) (by kernel_rfl) (by kernel_rfl)) ?_
  intro W base args ds gs before hval0 hW _ _
  have hval : ∀ (j : Nat) t v, Try.f8.params[j]? = some t → args[j]? = some v → Value.okWide Try.prog W .any base t v := hval0
  have hW' := hW
  obtain ⟨p, q, hA0, hV, _, _, _⟩ := hW
  have hA : DataW.TrodAll enc Try.prog W 0 (fun _ => true) true Try.f8.params.toList args.toList ds p := hA0
  rw [Try.params8] at hA hval
  obtain ⟨v0, vs0, d0, ds0, p0, q0, hargs, rfl, _, h0, r0⟩ := trodAll_cons hA
  obtain ⟨rfl, rfl, _⟩ := trodAll_nil r0
  obtain rfl : args = #[v0] := by cases args; simp_all
  obtain ⟨rfl, _⟩ := trodVars_none hV
  refine law_post (s := Rows.vp8SizesSpec) rfl rfl (by rw [Try.params8]; intro t ht; simp at ht; rcases ht with rfl <;> exact ⟨by kernel_rfl, of_decide_eq_true (by kernel_rfl)⟩) rfl hW' ?_
  obtain ⟨D0, rfl, hf0⟩ := open_desc (hval 0 26 v0 rfl rfl) h0
  exact walk W D0 hf0

theorem over : Rows.vp8SizesRow.holds Try.pinned (OpenSpec.ofChange Rows.vp8SizesSpec) :=
  OpenClaim.holds_of_wide 8 Try.f8 rfl rfl rfl rfl rfl rfl rfl ⟨rfl, rfl, rfl, rfl, rfl⟩ rfl rfl rfl rfl rfl (by kernel_rfl) Try.func8 (by kernel_rfl)
    (of_decide_eq_true (by kernel_rfl)) (by unfold Func.isWrapper; first | (rw [if_pos (by decide +kernel)]; kernel_rfl) | (rw [if_neg (by decide +kernel)]; exact ⟨rfl, rfl⟩))
    (fun os started H enc _ => lifted os started H enc)

/-- The statement. -/
theorem vp8Sizes_holds : Rows.Vp8SizesSaid := over

end Go.Proofs.Ytliiodjcpkabmaa.VSizes
