/-
  Proved: TableMakes returns true for every epoch, all routes and downtracks, every SSRC, track and layer: whether they may be a table, and all that is told of it, are the document's. Conditions: none.
-/
import Derived.Test.YtgjhcnpegaemoaaTbA
import Derived.Test.YtgjhcnpegaemoaaLift
namespace Go.Proofs.Ytgjhcnpegaemoaa.TMakes
open Go.ChangeShapes Go.WideShapes Go.ChangeAt Go.RowKit
set_option linter.unusedSimpArgs false
set_option linter.unusedVariables false
set_option maxRecDepth 1000000
--PP
set_option maxHeartbeats 12800000 in
theorem walk17m (ep : Int) (A : Option Addr) (c : Nat) (R : List Rt) (B : Option Addr) (d : Nat) (D : List Dn) (ss tr ly : Int) (w : World) (hA : Row w w.heap.size 5 A R.length (rtC R)) (hB : Row w w.heap.size 10 B D.length (dnC D)) (hR : ∀ x ∈ R, x.Fit) (hD : ∀ x ∈ D, x.Fit) (hss : 0 ≤ ss ∧ ss < 4294967296) (hRl : R.length ≤ maxLen) (hDl : D.length ≤ maxLen) (htr : I64 tr) (hly : I64 ly) :
    Calls Try.prog 3 #[.int .u64 ep, .slice A R.length c, .slice B D.length d, .int .u32 ss, .int .i64 tr, .int .i64 ly] w fun e w' => e = .returned (.bool true) ∧ Below w.heap.size w w' := by
  have C0 := Lib.hid (fun w => awake17 w)
  obtain ⟨n, hn⟩ : ∃ n, R.length = n := ⟨_, rfl⟩
  obtain ⟨m, hm⟩ : ∃ m, D.length = m := ⟨_, rfl⟩
  rw [hn] at hA hRl ⊢
  rw [hm] at hB hDl ⊢
  unfold maxLen at hRl hDl
  have HN := Lib.hid hn
  have HM := Lib.hid hm
  have HA := Lib.hid hA
  have HB := Lib.hid hB
  clear hA hB hn hm
  by_cases hlen : 60 < n ∨ (¬ 60 < n ∧ 60 < m)
  · have hd : (60 : Int) < (n : Int) ∨ (¬ (60 : Int) < (n : Int) ∧ (60 : Int) < (m : Int)) := by omega
    clear hlen HA HB HN HM hRl hDl
    rcases hd with hd | ⟨hd1, hd⟩
    all_goals
      go_enter Try.func3, Try.ntmps3
      go_wp2_with fail
      refine (C0.out w).mono ?_
      rintro e w1 ⟨rfl, b1⟩
      have HB1 := Lib.hid b1
      clear b1 C0
      go_wp2_with fail
      go_ret
      exact ⟨rfl, HB1.out⟩
  have hn60 : ¬ (60 : Int) < (n : Int) := by omega
  have hm60 : ¬ (60 : Int) < (m : Int) := by omega
  clear hRl hDl hlen
  have CM := Lib.hid (fun w h1 h2 => tmake_any ep A c R B d D w h1 h2 (by rw [HN.out]; omega) (by rw [HM.out]; omega) hR hD)
  have CR := Lib.hid (fun w h => routes17 A c R w h (by rw [HN.out]; omega))
  have CD := Lib.hid (fun w h => downs17 B d D w h (by rw [HM.out]; omega))
  have CY := Lib.hid (fun (A : Option Addr) (c : Nat) (B : Option Addr) (d : Nat) w h1 h2 => rmay17 A c R B d D w h1 h2 (by rw [HN.out]; omega) (by rw [HM.out]; omega))
  rw [HN.out, HM.out] at CM CY
  rw [HN.out] at CR
  rw [HM.out] at CD
  obtain ⟨mb, hmb⟩ : ∃ b, decide (May R D) = b := ⟨_, rfl⟩
  rw [hmb] at CY
  have HMB := Lib.hid hmb
  clear hmb
  go_enter Try.func3, Try.ntmps3
  go_wp2_with fail
  refine (C0.out w).mono ?_
  rintro e w1 ⟨rfl, b1⟩
  have HB1 := Lib.hid b1
  have HA1 := Lib.hid ((HA.out.below b1 (Nat.le_refl _)).more b1.size)
  have HE1 := Lib.hid ((HB.out.below b1 (Nat.le_refl _)).more b1.size)
  clear b1 C0 HA HB
  go_wp2_with fail
  refine (CM.out _ HA1.out HE1.out).mono ?_
  intro e w2 hmade
  obtain ⟨P, S, rfl, t2, hs2, b2, hp1, hp0⟩ := hmade.op
  clear hmade
  rw [HMB.out] at t2 hp1 hp0 ⊢
  have HP1 := Lib.hid hp1
  have HP0 := Lib.hid hp0
  have HT2 := Lib.hid t2
  have HB2 := Lib.hid (bnext HB1.out b2)
  have HA2 := Lib.hid ((HA1.out.below b2 (Nat.le_refl _)).more b2.size)
  have HE2 := Lib.hid ((HE1.out.below b2 (Nat.le_refl _)).more b2.size)
  clear t2 hs2 b2 hp1 hp0 CM HB1 HA1 HE1
  obtain ⟨er, her⟩ : ∃ z : Int, (if mb = true then 0 else 1) = z := ⟨_, rfl⟩
  rw [her]
  have HER := Lib.hid her
  clear her
  obtain ⟨pe, hpe⟩ : ∃ z : Int, (if mb = true then ep else 0) = z := ⟨_, rfl⟩
  obtain ⟨RR, hRR⟩ : ∃ z, (if mb = true then R else []) = z := ⟨_, rfl⟩
  obtain ⟨DD, hDD⟩ : ∃ z, (if mb = true then D else []) = z := ⟨_, rfl⟩
  rw [hpe, hRR, hDD] at HT2
  have HPE := Lib.hid hpe
  have HRR := Lib.hid hRR
  have HDD := Lib.hid hDD
  clear hpe hRR hDD
  go_wp2_with fail
  refine (CR.out _ HA2.out).mono ?_
  rintro e w3 ⟨A3, c3, rfl, o3, b3⟩
  have HT3 := Lib.hid (HT2.out.next b3)
  have HB3 := Lib.hid (bnext HB2.out b3)
  have HA3 := Lib.hid ((HA2.out.below b3 (Nat.le_refl _)).more b3.size)
  have HE3 := Lib.hid ((HE2.out.below b3 (Nat.le_refl _)).more b3.size)
  have HR3 := Lib.hid (Row.of_own o3)
  clear o3 b3 HT2 HB2 HA2 HE2
  go_wp2_with fail
  refine (CD.out _ HE3.out).mono ?_
  rintro e w4 ⟨A4, c4, rfl, o4, b4⟩
  have HT4 := Lib.hid (HT3.out.next b4)
  have HB4 := Lib.hid (bnext HB3.out b4)
  have HA4 := Lib.hid ((HA3.out.below b4 (Nat.le_refl _)).more b4.size)
  have HE4 := Lib.hid ((HE3.out.below b4 (Nat.le_refl _)).more b4.size)
  have HR4 := Lib.hid ((HR3.out.below b4 (Nat.le_refl _)).more b4.size)
  have HD4 := Lib.hid (Row.of_own o4)
  clear o4 b4 HT3 HB3 HA3 HE3 HR3
  go_wp2_with fail
  refine (CY.out A3 c3 A4 c4 _ HR4.out HD4.out).mono ?_
  rintro e w5 ⟨rfl, b5⟩
  have HT5 := Lib.hid (HT4.out.next b5)
  have HB5 := Lib.hid (bnext HB4.out b5)
  have HA5 := Lib.hid ((HA4.out.below b5 (Nat.le_refl _)).more b5.size)
  have HE5 := Lib.hid ((HE4.out.below b5 (Nat.le_refl _)).more b5.size)
  clear b5 HT4 HB4 HA4 HE4 HR4 HD4 CY
  go_upto_region 8 with fail
  go_cut [78] from 38 to 77 (fun s78 wx => s78 = .bool false ∧ wx = w5)
  case first =>
    cases mb with
    | true =>
      obtain ⟨a, rfl⟩ := HP1.out rfl
      obtain rfl : er = 0 := HER.out.symm
      go_wp2_with fail
      go_meet
      exact ⟨rfl, rfl⟩
    | false =>
      obtain rfl := HP0.out rfl
      obtain rfl : er = 1 := HER.out.symm
      go_wp2_with fail
      go_meet
      exact ⟨rfl, rfl⟩
  case rest =>
    obtain ⟨rfl, rfl⟩ := hcut
    clear HP1 HP0
    go_upto_if 79 with fail
    go_cut [17, 18, 19] from 38 to 84 (fun s17 s18 s19 wx => ∃ A1 c1 A2 c2, s17 = .slice A1 RR.length c1 ∧ s18 = .slice A2 DD.length c2 ∧ s19 = .int .u64 pe ∧ Row wx wx.heap.size 5 A1 RR.length (rtC RR) ∧ Row wx wx.heap.size 10 A2 DD.length (dnC DD) ∧ Below wc.heap.size wc wx)
    case first =>
      cases mb with
      | false =>
        obtain rfl : pe = 0 := HPE.out.symm
        obtain rfl : RR = [] := HRR.out.symm
        obtain rfl : DD = [] := HDD.out.symm
        go_wp2_with fail
        go_meet
        exact ⟨none, 0, none, 0, rfl, rfl, rfl, Row.nil, Row.nil, Below.refl _ _⟩
      | true =>
        obtain rfl : pe = ep := HPE.out.symm
        obtain rfl : RR = R := HRR.out.symm
        obtain rfl : DD = D := HDD.out.symm
        go_wp2_with fail
        refine (CR.out _ HA5.out).mono ?_
        rintro e w6 ⟨A6, c6, rfl, o6, b6⟩
        have HE6 := Lib.hid ((HE5.out.below b6 (Nat.le_refl _)).more b6.size)
        have HR6 := Lib.hid (Row.of_own o6)
        have HB6 := Lib.hid b6
        clear o6 b6
        go_wp2_with fail
        refine (CD.out _ HE6.out).mono ?_
        rintro e w7 ⟨A7, c7, rfl, o7, b7⟩
        have HR7 := Lib.hid ((HR6.out.below b7 (Nat.le_refl _)).more b7.size)
        have HF := Lib.hid (show ∃ A1 c1 A2 c2, (Value.slice A6 n c6) = .slice A1 RR.length c1 ∧ (Value.slice A7 m c7) = .slice A2 DD.length c2 ∧ Row w7 w7.heap.size 5 A1 RR.length (rtC RR) ∧ Row w7 w7.heap.size 10 A2 DD.length (dnC DD) ∧ Below wc.heap.size wc w7 from ⟨A6, c6, A7, c7, by rw [HN.out], by rw [HM.out], by rw [HN.out]; exact HR7.out, by rw [HM.out]; exact Row.of_own o7, bnext HB6.out b7⟩)
        clear o7 b7 HR7 HB6 HR6 HE6
        go_wp2_with fail
        go_meet
        obtain ⟨A1, c1, A2, c2, f1, f2, f3⟩ := HF.out
        exact ⟨A1, c1, A2, c2, f1, f2, rfl, f3⟩
    case rest =>
      obtain ⟨A1, c1, A2, c2, rfl, rfl, rfl, hw, hx, hb⟩ := hcut
      obtain ⟨wl, rfl⟩ : ∃ z, z = wc := ⟨_, rfl⟩
      obtain ⟨rn, hrn⟩ : ∃ z, RR.length = z := ⟨_, rfl⟩
      obtain ⟨dn, hdn⟩ : ∃ z, DD.length = z := ⟨_, rfl⟩
      have hrn60 : rn ≤ 60 := by rw [← hrn, ← HRR.out]; cases mb with | true => rw [if_pos rfl, HN.out]; omega | false => simp
      have hdn60 : dn ≤ 60 := by rw [← hdn, ← HDD.out]; cases mb with | true => rw [if_pos rfl, HM.out]; omega | false => simp
      rw [hrn] at hw
      rw [hdn] at hx
      rw [hrn, hdn]
      have HRN := Lib.hid hrn
      have HDN := Lib.hid hdn
      have HW := Lib.hid hw
      have HX := Lib.hid hx
      have HT := Lib.hid (HT5.out.next hb)
      have HB := Lib.hid (bnext HB5.out hb)
      have HA := Lib.hid ((HA5.out.below hb (Nat.le_refl _)).more hb.size)
      have HE := Lib.hid ((HE5.out.below hb (Nat.le_refl _)).more hb.size)
      clear hrn hdn hw hx hb HT5 HB5 HA5 HE5 HER HPE HRR HDD CR CD
      go_wp2_with fail
      go_loopw [20] (fun i wr => ∃ k : Nat, k ≤ n + m + 1 ∧ i = .int .i64 (k : Int) ∧ Below wl.heap.size wl wr) (fun i _ => n + m + 1 - (intOf i).toNat)
      case atStart => exact ⟨0, Nat.zero_le _, rfl, Below.refl _ _⟩
      case round =>
        obtain ⟨k, hk, rfl, hb⟩ := hrel
        have hsz := hb.size
        have HBr := Lib.hid hb
        by_cases hlt : k ≤ n + m
        · have i0 : (0 : Int) ≤ (k : Int) := by omega
          have i1 : (k : Int) ≤ (n : Int) + (m : Int) := by omega
          have i2 : (n : Int) + (m : Int) < 9223372036854775808 := by omega
          go_upto_if 99 with fail
          clear i1 i2
          go_cut [21, 22] from 85 to 132 (fun s21 s22 wx => wr = wx ∧ ∃ s t : Int, s21 = .int .u32 s ∧ s22 = .int .i64 t ∧ 0 ≤ s ∧ s < 4294967296 ∧ I64 t)
          case first =>
            by_cases h1 : k < n
            · have j1 : (k : Int) < (n : Int) := by omega
              obtain ⟨x, hx⟩ : ∃ x, R[k]? = some x := ⟨_, List.getElem?_eq_getElem (by rw [HN.out]; exact h1)⟩
              obtain ⟨ga, oa, rfl, la, ca⟩ := HA.out.2 (by omega)
              have c0 := (hb.cell (p := ⟨ga, oa + (k * 5 + 0), none⟩) la).trans (ca _ _ ((rtC_get hx 0 (by decide)).trans rfl))
              have c1 := (hb.cell (p := ⟨ga, oa + (k * 5 + 1), none⟩) la).trans (ca _ _ ((rtC_get hx 1 (by decide)).trans rfl))
              rw [← Nat.add_assoc] at c0 c1
              rw [Nat.add_zero] at c0
              have lr : ga < wr.heap.size := by omega
              have HF := Lib.hid (hR x (List.mem_of_getElem? hx)).ssrc
              have HI := Lib.hid (hR x (List.mem_of_getElem? hx)).i.1
              obtain ⟨xs, xt, xf, xl, xh⟩ := x
              dsimp only at c0 c1
              clear ca hx hb
              go_wp2_with fail
              go_meet
              exact ⟨rfl, xs, xt, rfl, rfl, HF.out.1, HF.out.2, HI.out⟩
            · by_cases h2 : k < n + m
              · obtain ⟨j, hj⟩ : ∃ j, k = n + j := ⟨k - n, by omega⟩
                have hj2 : (k : Int) - (n : Int) = (j : Int) := by omega
                have j1 : ¬ (k : Int) < (n : Int) := by omega
                have j2 : (k : Int) < (n : Int) + (m : Int) := by omega
                have j3 : (0 : Int) ≤ (j : Int) := by omega
                have j4 : (j : Int) < (m : Int) := by omega
                obtain ⟨x, hx⟩ : ∃ x, D[j]? = some x := ⟨_, List.getElem?_eq_getElem (by rw [HM.out]; omega)⟩
                obtain ⟨ga, oa, rfl, la, ca⟩ := HE.out.2 (by omega)
                have c0 := (hb.cell (p := ⟨ga, oa + (j * 10 + 0), none⟩) la).trans (ca _ _ ((dnC_get hx 0 (by decide)).trans rfl))
                have c4 := (hb.cell (p := ⟨ga, oa + (j * 10 + 4), none⟩) la).trans (ca _ _ ((dnC_get hx 4 (by decide)).trans rfl))
                rw [← Nat.add_assoc] at c0 c4
                rw [Nat.add_zero] at c0
                have lr : ga < wr.heap.size := by omega
                have HF := Lib.hid (hD x (List.mem_of_getElem? hx)).ssrc
                have HI := Lib.hid (hD x (List.mem_of_getElem? hx)).i.2.2
                obtain ⟨xs, xsl, xtu, xw, xt, xh, xf, xl, xd, xm⟩ := x
                dsimp only at c0 c4
                clear ca hx hb hj
                go_wp2_with fail
                go_meet
                exact ⟨rfl, xs, xt, rfl, rfl, HF.out.1, HF.out.2, HI.out⟩
              · have j1 : ¬ (k : Int) < (n : Int) := by omega
                have j2 : ¬ (k : Int) < (n : Int) + (m : Int) := by omega
                clear hb
                go_wp2_with fail
                go_meet
                exact ⟨rfl, ss, tr, rfl, rfl, hss.1, hss.2, htr⟩
          case rest =>
            obtain ⟨rfl, s, t, rfl, rfl, hs1, hs2, hi64⟩ := hcut
            obtain ⟨xr, hxr⟩ : ∃ z, (routeS RR s).getD zeroR = z := ⟨_, rfl⟩
            obtain ⟨br, hbr⟩ : ∃ z, (routeS RR s).isSome = z := ⟨_, rfl⟩
            obtain ⟨xd, hxd⟩ : ∃ z, (ownS DD s).getD zeroD = z := ⟨_, rfl⟩
            obtain ⟨bd, hbd⟩ : ∃ z, (ownS DD s).isSome = z := ⟨_, rfl⟩
            obtain ⟨xs, hxs⟩ : ∃ z, ((sourceS RR t ly).getD zeroR).ssrc = z := ⟨_, rfl⟩
            obtain ⟨bs, hbs⟩ : ∃ z, (sourceS RR t ly).isSome = z := ⟨_, rfl⟩
            obtain ⟨Z, hZ⟩ : ∃ z, downsS DD t = z := ⟨_, rfl⟩
            obtain ⟨zn, hzn⟩ : ∃ z, Z.length = z := ⟨_, rfl⟩
            have K1 := Lib.hid (fun w' (b : Below wl.heap.size wl w') => show Calls Try.prog 12 #[.pointer P, .int .u32 s] w' (fun e w'' => e = .returned (.tuple #[.agg xr.cells.toArray, .bool br]) ∧ Below w'.heap.size w' w'') from by have h := oroute (HT.out.next b) s ⟨hs1, hs2⟩; unfold rtOut at h; rw [hxr, hbr] at h; exact h)
            have K2 := Lib.hid (fun w' (b : Below wl.heap.size wl w') => show Calls Try.prog 13 #[.slice A1 rn c1, .int .u32 s] w' (fun e w'' => e = .returned (.tuple #[.agg xr.cells.toArray, .bool br]) ∧ Below w'.heap.size w' w'') from by have h := rroute17 A1 c1 RR s w' (by rw [HRN.out]; exact (HW.out.below b (Nat.le_refl _)).more b.size) (by rw [HRN.out]; omega); unfold rtOut at h; rw [hxr, hbr, HRN.out] at h; exact h)
            have K3 := Lib.hid (fun w' (b : Below wl.heap.size wl w') => show Calls Try.prog 14 #[.pointer P, .int .u32 s] w' (fun e w'' => e = .returned (.tuple #[.agg xd.cells.toArray, .bool bd]) ∧ Below w'.heap.size w' w'') from by have h := oown (HT.out.next b) s ⟨hs1, hs2⟩; unfold dnOut at h; rw [hxd, hbd] at h; exact h)
            have K4 := Lib.hid (fun w' (b : Below wl.heap.size wl w') => show Calls Try.prog 15 #[.slice A2 dn c2, .int .u32 s] w' (fun e w'' => e = .returned (.tuple #[.agg xd.cells.toArray, .bool bd]) ∧ Below w'.heap.size w' w'') from by have h := rown17 A2 c2 DD s w' (by rw [HDN.out]; exact (HX.out.below b (Nat.le_refl _)).more b.size) (by rw [HDN.out]; omega); unfold dnOut at h; rw [hxd, hbd, HDN.out] at h; exact h)
            have K5 := Lib.hid (fun w' (b : Below wl.heap.size wl w') => show Calls Try.prog 16 #[.pointer P, .int .i64 t, .int .i64 ly] w' (fun e w'' => e = .returned (.tuple #[.int .u32 xs, .bool bs]) ∧ Below w'.heap.size w' w'') from by have h := osource (HT.out.next b) t ly hi64 hly; unfold srcOut at h; rw [hxs, hbs] at h; exact h)
            have K6 := Lib.hid (fun w' (b : Below wl.heap.size wl w') => show Calls Try.prog 17 #[.slice A1 rn c1, .int .i64 t, .int .i64 ly] w' (fun e w'' => e = .returned (.tuple #[.int .u32 xs, .bool bs]) ∧ Below w'.heap.size w' w'') from by have h := rsource17 A1 c1 RR t ly w' (by rw [HRN.out]; exact (HW.out.below b (Nat.le_refl _)).more b.size) (by rw [HRN.out]; omega); unfold srcOut at h; rw [hxs, hbs, HRN.out] at h; exact h)
            have K7 := Lib.hid (fun w' (b : Below wl.heap.size wl w') => show Calls Try.prog 18 #[.pointer P, .int .i64 t] w' (NewRow 41 10 zn (dnC Z) w') from by have h := odowns (HT.out.next b) t hi64; rw [hZ, hzn] at h; exact h)
            have K8 := Lib.hid (fun w' (b : Below wl.heap.size wl w') => show Calls Try.prog 19 #[.slice A2 dn c2, .int .i64 t] w' (NewRow 49 10 zn (dnC Z) w') from by have h := rdowns17 A2 c2 DD t w' (by rw [HDN.out]; exact (HX.out.below b (Nat.le_refl _)).more b.size) (by rw [HDN.out]; omega); rw [hZ, hzn, HDN.out] at h; exact h)
            have hzle : zn ≤ 60 := by rw [← hzn, ← hZ]; exact Nat.le_trans (downsS_le DD t) (by rw [HDN.out]; exact hdn60)
            have HZN := Lib.hid hzn
            have EQ := fun w => neq_dd w xd xd
            rw [decide_eq_true rfl] at EQ
            have D17 := Lib.hid (fun w => down17 xd w)
            obtain ⟨a0, a1, a2, a3, a4⟩ := xr
            obtain ⟨d0, d1, d2, d3, d4, d5, d6, d7, d8, d9⟩ := xd
            unfold Rt.cells at K1 K2
            unfold Dn.cells at K3 K4 EQ D17
            dsimp only at K1 K2 K3 K4 EQ D17
            clear hxr hbr hxd hbd hxs hbs hZ hzn hs1 hs2
            go_wp2_with fail
            refine (K1.out _ HBr.out).mono ?_
            rintro e w11 ⟨rfl, b1⟩
            have HB1 := Lib.hid (show Below wl.heap.size wl w11 from HBr.out.trans (b1.mono HBr.out.size))
            clear b1 K1
            obtain ⟨v11, hv11⟩ : ∃ z, z = w11.alloc (.cells #[.int .u32 a0, .int .i64 a1, .int .i64 a2, .int .i64 a3, .int .i64 a4] 37) := ⟨_, rfl⟩
            have b1 : Below w11.heap.size w11 v11 := by rw [hv11]; exact (Below.refl _ _).alloc (Nat.le_refl _) _
            replace HB1 := Lib.hid (show Below wl.heap.size wl v11 from HB1.out.trans (b1.mono HB1.out.size))
            have Wg1 := Lib.hid (show Whole v11 w11.heap.size 37 #[.int .u32 a0, .int .i64 a1, .int .i64 a2, .int .i64 a3, .int .i64 a4] by rw [hv11]; exact Whole.new w11 _ _)
            obtain ⟨g1, hg1⟩ : ∃ z, w11.heap.size = z := ⟨_, rfl⟩
            rw [hg1] at Wg1
            clear b1
            go_wp2_with fail
            rw [← hv11]
            try rw [hg1]
            clear hv11 hg1
            refine (K2.out _ HB1.out).mono ?_
            rintro e w12 ⟨rfl, b2⟩
            have HB2 := Lib.hid (show Below wl.heap.size wl w12 from HB1.out.trans (b2.mono HB1.out.size))
            replace Wg1 := Lib.hid (Wg1.out.below b2 Wg1.out.lt)
            clear b2 K2
            obtain ⟨v12, hv12⟩ : ∃ z, z = w12.alloc (.cells #[.int .u32 a0, .int .i64 a1, .int .i64 a2, .int .i64 a3, .int .i64 a4] 44) := ⟨_, rfl⟩
            have b2 : Below w12.heap.size w12 v12 := by rw [hv12]; exact (Below.refl _ _).alloc (Nat.le_refl _) _
            replace Wg1 := Lib.hid (Wg1.out.below b2 Wg1.out.lt)
            replace HB2 := Lib.hid (show Below wl.heap.size wl v12 from HB2.out.trans (b2.mono HB2.out.size))
            have Wg2 := Lib.hid (show Whole v12 w12.heap.size 44 #[.int .u32 a0, .int .i64 a1, .int .i64 a2, .int .i64 a3, .int .i64 a4] by rw [hv12]; exact Whole.new w12 _ _)
            obtain ⟨g2, hg2⟩ : ∃ z, w12.heap.size = z := ⟨_, rfl⟩
            rw [hg2] at Wg2
            clear b2
            go_wp2_with fail
            rw [← hv12]
            try rw [hg2]
            clear hv12 hg2
            refine (K3.out _ HB2.out).mono ?_
            rintro e w13 ⟨rfl, b3⟩
            have HB3 := Lib.hid (show Below wl.heap.size wl w13 from HB2.out.trans (b3.mono HB2.out.size))
            replace Wg1 := Lib.hid (Wg1.out.below b3 Wg1.out.lt)
            replace Wg2 := Lib.hid (Wg2.out.below b3 Wg2.out.lt)
            clear b3 K3
            obtain ⟨v13, hv13⟩ : ∃ z, z = w13.alloc (.cells #[.int .u32 d0, .int .i64 d1, .int .u32 d2, .int .i64 d3, .int .i64 d4, .int .i64 d5, .int .i64 d6, .int .i64 d7, .int .i64 d8, .bool d9] 41) := ⟨_, rfl⟩
            have b3 : Below w13.heap.size w13 v13 := by rw [hv13]; exact (Below.refl _ _).alloc (Nat.le_refl _) _
            replace Wg1 := Lib.hid (Wg1.out.below b3 Wg1.out.lt)
            replace Wg2 := Lib.hid (Wg2.out.below b3 Wg2.out.lt)
            replace HB3 := Lib.hid (show Below wl.heap.size wl v13 from HB3.out.trans (b3.mono HB3.out.size))
            have Wg3 := Lib.hid (show Whole v13 w13.heap.size 41 #[.int .u32 d0, .int .i64 d1, .int .u32 d2, .int .i64 d3, .int .i64 d4, .int .i64 d5, .int .i64 d6, .int .i64 d7, .int .i64 d8, .bool d9] by rw [hv13]; exact Whole.new w13 _ _)
            obtain ⟨g3, hg3⟩ : ∃ z, w13.heap.size = z := ⟨_, rfl⟩
            rw [hg3] at Wg3
            clear b3
            go_wp2_with fail
            rw [← hv13]
            try rw [hg3]
            clear hv13 hg3
            refine (K4.out _ HB3.out).mono ?_
            rintro e w14 ⟨rfl, b4⟩
            have HB4 := Lib.hid (show Below wl.heap.size wl w14 from HB3.out.trans (b4.mono HB3.out.size))
            replace Wg1 := Lib.hid (Wg1.out.below b4 Wg1.out.lt)
            replace Wg2 := Lib.hid (Wg2.out.below b4 Wg2.out.lt)
            replace Wg3 := Lib.hid (Wg3.out.below b4 Wg3.out.lt)
            clear b4 K4
            obtain ⟨v14, hv14⟩ : ∃ z, z = w14.alloc (.cells #[.int .u32 d0, .int .i64 d1, .int .u32 d2, .int .i64 d3, .int .i64 d4, .int .i64 d5, .int .i64 d6, .int .i64 d7, .int .i64 d8, .bool d9] 49) := ⟨_, rfl⟩
            have b4 : Below w14.heap.size w14 v14 := by rw [hv14]; exact (Below.refl _ _).alloc (Nat.le_refl _) _
            replace Wg1 := Lib.hid (Wg1.out.below b4 Wg1.out.lt)
            replace Wg2 := Lib.hid (Wg2.out.below b4 Wg2.out.lt)
            replace Wg3 := Lib.hid (Wg3.out.below b4 Wg3.out.lt)
            replace HB4 := Lib.hid (show Below wl.heap.size wl v14 from HB4.out.trans (b4.mono HB4.out.size))
            have Wg4 := Lib.hid (show Whole v14 w14.heap.size 49 #[.int .u32 d0, .int .i64 d1, .int .u32 d2, .int .i64 d3, .int .i64 d4, .int .i64 d5, .int .i64 d6, .int .i64 d7, .int .i64 d8, .bool d9] by rw [hv14]; exact Whole.new w14 _ _)
            obtain ⟨g4, hg4⟩ : ∃ z, w14.heap.size = z := ⟨_, rfl⟩
            rw [hg4] at Wg4
            clear b4
            go_wp2_with fail
            rw [← hv14]
            try rw [hg4]
            clear hv14 hg4
            refine (K5.out _ HB4.out).mono ?_
            rintro e w15 ⟨rfl, b5⟩
            have HB5 := Lib.hid (show Below wl.heap.size wl w15 from HB4.out.trans (b5.mono HB4.out.size))
            replace Wg1 := Lib.hid (Wg1.out.below b5 Wg1.out.lt)
            replace Wg2 := Lib.hid (Wg2.out.below b5 Wg2.out.lt)
            replace Wg3 := Lib.hid (Wg3.out.below b5 Wg3.out.lt)
            replace Wg4 := Lib.hid (Wg4.out.below b5 Wg4.out.lt)
            clear b5 K5
            go_wp2_with fail
            refine (K6.out _ HB5.out).mono ?_
            rintro e w16 ⟨rfl, b6⟩
            have HB6 := Lib.hid (show Below wl.heap.size wl w16 from HB5.out.trans (b6.mono HB5.out.size))
            replace Wg1 := Lib.hid (Wg1.out.below b6 Wg1.out.lt)
            replace Wg2 := Lib.hid (Wg2.out.below b6 Wg2.out.lt)
            replace Wg3 := Lib.hid (Wg3.out.below b6 Wg3.out.lt)
            replace Wg4 := Lib.hid (Wg4.out.below b6 Wg4.out.lt)
            clear b6 K6
            go_wp2_with fail
            refine (K7.out _ HB6.out).mono ?_
            rintro e w17 ⟨L7, e7, rfl, o7, b7⟩
            have HB7 := Lib.hid (show Below wl.heap.size wl w17 from HB6.out.trans (b7.mono HB6.out.size))
            replace Wg1 := Lib.hid (Wg1.out.below b7 Wg1.out.lt)
            replace Wg2 := Lib.hid (Wg2.out.below b7 Wg2.out.lt)
            replace Wg3 := Lib.hid (Wg3.out.below b7 Wg3.out.lt)
            replace Wg4 := Lib.hid (Wg4.out.below b7 Wg4.out.lt)
            have HO7 := Lib.hid (Row.of_own o7)
            clear o7
            clear b7 K7
            go_wp2_with fail
            refine (K8.out _ HB7.out).mono ?_
            rintro e w18 ⟨L8, e8, rfl, o8, b8⟩
            have HB8 := Lib.hid (show Below wl.heap.size wl w18 from HB7.out.trans (b8.mono HB7.out.size))
            replace Wg1 := Lib.hid (Wg1.out.below b8 Wg1.out.lt)
            replace Wg2 := Lib.hid (Wg2.out.below b8 Wg2.out.lt)
            replace Wg3 := Lib.hid (Wg3.out.below b8 Wg3.out.lt)
            replace Wg4 := Lib.hid (Wg4.out.below b8 Wg4.out.lt)
            replace HO7 := Lib.hid ((HO7.out.below b8 (Nat.le_refl _)).more b8.size)
            have HO8 := Lib.hid (Row.of_own o8)
            clear o8
            clear b8 K8
            have KEEP := Lib.hid (fun w' (b : Below w18.heap.size w18 w') => show (fun w' => w'.cell? ⟨g3, 0, none⟩ = some (.int .u32 d0) ∧ w'.cell? ⟨g3, 1, none⟩ = some (.int .i64 d1) ∧ w'.cell? ⟨g3, 2, none⟩ = some (.int .u32 d2) ∧ w'.cell? ⟨g3, 3, none⟩ = some (.int .i64 d3) ∧ w'.cell? ⟨g3, 4, none⟩ = some (.int .i64 d4) ∧ w'.cell? ⟨g3, 5, none⟩ = some (.int .i64 d5) ∧ w'.cell? ⟨g3, 6, none⟩ = some (.int .i64 d6) ∧ w'.cell? ⟨g3, 7, none⟩ = some (.int .i64 d7) ∧ w'.cell? ⟨g3, 8, none⟩ = some (.int .i64 d8) ∧ w'.cell? ⟨g3, 9, none⟩ = some (.bool d9) ∧ w'.cell? ⟨g4, 0, none⟩ = some (.int .u32 d0) ∧ w'.cell? ⟨g4, 1, none⟩ = some (.int .i64 d1) ∧ w'.cell? ⟨g4, 2, none⟩ = some (.int .u32 d2) ∧ w'.cell? ⟨g4, 3, none⟩ = some (.int .i64 d3) ∧ w'.cell? ⟨g4, 4, none⟩ = some (.int .i64 d4) ∧ w'.cell? ⟨g4, 5, none⟩ = some (.int .i64 d5) ∧ w'.cell? ⟨g4, 6, none⟩ = some (.int .i64 d6) ∧ w'.cell? ⟨g4, 7, none⟩ = some (.int .i64 d7) ∧ w'.cell? ⟨g4, 8, none⟩ = some (.int .i64 d8) ∧ w'.cell? ⟨g4, 9, none⟩ = some (.bool d9) ∧ Below w18.heap.size w18 w') w' from ⟨(Wg3.out.below b Wg3.out.lt).cell 0, (Wg3.out.below b Wg3.out.lt).cell 1, (Wg3.out.below b Wg3.out.lt).cell 2, (Wg3.out.below b Wg3.out.lt).cell 3, (Wg3.out.below b Wg3.out.lt).cell 4, (Wg3.out.below b Wg3.out.lt).cell 5, (Wg3.out.below b Wg3.out.lt).cell 6, (Wg3.out.below b Wg3.out.lt).cell 7, (Wg3.out.below b Wg3.out.lt).cell 8, (Wg3.out.below b Wg3.out.lt).cell 9, (Wg4.out.below b Wg4.out.lt).cell 0, (Wg4.out.below b Wg4.out.lt).cell 1, (Wg4.out.below b Wg4.out.lt).cell 2, (Wg4.out.below b Wg4.out.lt).cell 3, (Wg4.out.below b Wg4.out.lt).cell 4, (Wg4.out.below b Wg4.out.lt).cell 5, (Wg4.out.below b Wg4.out.lt).cell 6, (Wg4.out.below b Wg4.out.lt).cell 7, (Wg4.out.below b Wg4.out.lt).cell 8, (Wg4.out.below b Wg4.out.lt).cell 9, b⟩)
            have D1 := Lib.hid (fun w' (b : Below w18.heap.size w18 w') => (D17.out w').mono fun e w'' (hh : e = .returned (.agg #[.int .u32 d0, .int .i64 d1, .int .u32 d2, .int .i64 d3, .int .i64 d4, .int .i64 d5, .int .i64 d6, .int .i64 d7, .int .i64 d8, .bool d9]) ∧ Below w'.heap.size w' w'') => show e = .returned (.agg #[.int .u32 d0, .int .i64 d1, .int .u32 d2, .int .i64 d3, .int .i64 d4, .int .i64 d5, .int .i64 d6, .int .i64 d7, .int .i64 d8, .bool d9]) ∧ Below w18.heap.size w18 w'' from ⟨hh.1, bnext b hh.2⟩)
            go_upto_region 36 with fail
            go_cut [207] from 177 to 206 (fun s207 wx => s207 = .bool false ∧ Below w18.heap.size w18 wx)
            case first =>
              go_region_held3 (fun w' => w'.cell? ⟨g3, 0, none⟩ = some (.int .u32 d0) ∧ w'.cell? ⟨g3, 1, none⟩ = some (.int .i64 d1) ∧ w'.cell? ⟨g3, 2, none⟩ = some (.int .u32 d2) ∧ w'.cell? ⟨g3, 3, none⟩ = some (.int .i64 d3) ∧ w'.cell? ⟨g3, 4, none⟩ = some (.int .i64 d4) ∧ w'.cell? ⟨g3, 5, none⟩ = some (.int .i64 d5) ∧ w'.cell? ⟨g3, 6, none⟩ = some (.int .i64 d6) ∧ w'.cell? ⟨g3, 7, none⟩ = some (.int .i64 d7) ∧ w'.cell? ⟨g3, 8, none⟩ = some (.int .i64 d8) ∧ w'.cell? ⟨g3, 9, none⟩ = some (.bool d9) ∧ w'.cell? ⟨g4, 0, none⟩ = some (.int .u32 d0) ∧ w'.cell? ⟨g4, 1, none⟩ = some (.int .i64 d1) ∧ w'.cell? ⟨g4, 2, none⟩ = some (.int .u32 d2) ∧ w'.cell? ⟨g4, 3, none⟩ = some (.int .i64 d3) ∧ w'.cell? ⟨g4, 4, none⟩ = some (.int .i64 d4) ∧ w'.cell? ⟨g4, 5, none⟩ = some (.int .i64 d5) ∧ w'.cell? ⟨g4, 6, none⟩ = some (.int .i64 d6) ∧ w'.cell? ⟨g4, 7, none⟩ = some (.int .i64 d7) ∧ w'.cell? ⟨g4, 8, none⟩ = some (.int .i64 d8) ∧ w'.cell? ⟨g4, 9, none⟩ = some (.bool d9) ∧ Below w18.heap.size w18 w')
                (first | exact KEEP.out _ (Below.refl _ _).drew | exact KEEP.out _ b9 | exact ‹_ ∧ _ ∧ _ ∧ _ ∧ _ ∧ _ ∧ _ ∧ _ ∧ _ ∧ _ ∧ _ ∧ _ ∧ _ ∧ _ ∧ _ ∧ _ ∧ _ ∧ _ ∧ _ ∧ _ ∧ Below _ _ _› | go_keep)
                ((go_at_call 20; refine (D1.out _ ?_).mono ?_; (exact (‹_ ∧ _ ∧ _ ∧ _ ∧ _ ∧ _ ∧ _ ∧ _ ∧ _ ∧ _ ∧ _ ∧ _ ∧ _ ∧ _ ∧ _ ∧ _ ∧ _ ∧ _ ∧ _ ∧ _ ∧ Below _ _ _›).2.2.2.2.2.2.2.2.2.2.2.2.2.2.2.2.2.2.2.2); rintro e w9 ⟨rfl, b9⟩))
              have HK9 := Lib.hid (show Below w18.heap.size w18 w9 by assumption)
              clear KEEP D1 EQ D17
              go_wp2_with fail
              go_meet
              exact ⟨rfl, HK9.out⟩
            case rest =>
              obtain ⟨rfl, b9⟩ := hcut
              obtain ⟨w19, rfl⟩ : ∃ z, z = wc := ⟨_, rfl⟩
              have HB9 := Lib.hid (show Below wl.heap.size wl w19 from HB8.out.trans (b9.mono HB8.out.size))
              have T1 := Wg1.out.below b9 Wg1.out.lt
              have T2 := Wg2.out.below b9 Wg2.out.lt
              have s0 := T1.cell 0
              have s1 := T1.cell 1
              have s2 := T1.cell 2
              have s3 := T1.cell 3
              have s4 := T1.cell 4
              have u0 := T2.cell 0
              have u1 := T2.cell 1
              have u2 := T2.cell 2
              have u3 := T2.cell 3
              have u4 := T2.cell 4
              have HP7 := Lib.hid ((HO7.out.below b9 (Nat.le_refl _)).more b9.size)
              have HP8 := Lib.hid ((HO8.out.below b9 (Nat.le_refl _)).more b9.size)
              clear b9 T1 T2 Wg1 Wg2 Wg3 Wg4 HO7 HO8 KEEP D1 EQ HB1 HB2 HB3 HB4 HB5 HB6 HB7 HB8 D17
              go_wp2_with fail
              clear s0 u0 s1 u1 s2 u2 s3 u3 s4 u4
              go_loopw [37] (fun v wq => ∃ q : Nat, q ≤ zn ∧ v = .int .i64 (q : Int) ∧ Below w19.heap.size w19 wq) (fun v _ => zn - (intOf v).toNat)
              case atStart => exact ⟨0, Nat.zero_le _, rfl, Below.refl _ _⟩
              case round =>
                obtain ⟨q, hq, rfl, hb2⟩ := hrel
                obtain ⟨wq, rfl⟩ : ∃ z, z = wr := ⟨_, rfl⟩
                have hz2 := hb2.size
                have HB2 := Lib.hid hb2
                by_cases hql : q < zn
                · obtain ⟨y, hy⟩ : ∃ y, Z[q]? = some y := ⟨_, List.getElem?_eq_getElem (by rw [HZN.out]; exact hql)⟩
                  obtain ⟨ga, oa, rfl, la, ca⟩ := HP7.out.2 (by omega)
                  obtain ⟨gb, ob, rfl, lb, cb⟩ := HP8.out.2 (by omega)
                  have e := fun (j : Nat) (hj : j < 10) (v : Value) (hv : y.cells[j]? = some v) => (dnC_get hy j hj).trans hv
                  have p0 := (hb2.cell (p := ⟨ga, oa + (q * 10 + 0), none⟩) la).trans (ca _ _ (e 0 (by decide) _ rfl))
                  have r0 := (hb2.cell (p := ⟨gb, ob + (q * 10 + 0), none⟩) lb).trans (cb _ _ (e 0 (by decide) _ rfl))
                  rw [Nat.add_zero] at p0 r0
                  have p1 := (hb2.cell (p := ⟨ga, oa + (q * 10 + 1), none⟩) la).trans (ca _ _ (e 1 (by decide) _ rfl))
                  have r1 := (hb2.cell (p := ⟨gb, ob + (q * 10 + 1), none⟩) lb).trans (cb _ _ (e 1 (by decide) _ rfl))
                  rw [← Nat.add_assoc] at p1 r1
                  have p2 := (hb2.cell (p := ⟨ga, oa + (q * 10 + 2), none⟩) la).trans (ca _ _ (e 2 (by decide) _ rfl))
                  have r2 := (hb2.cell (p := ⟨gb, ob + (q * 10 + 2), none⟩) lb).trans (cb _ _ (e 2 (by decide) _ rfl))
                  rw [← Nat.add_assoc] at p2 r2
                  have p3 := (hb2.cell (p := ⟨ga, oa + (q * 10 + 3), none⟩) la).trans (ca _ _ (e 3 (by decide) _ rfl))
                  have r3 := (hb2.cell (p := ⟨gb, ob + (q * 10 + 3), none⟩) lb).trans (cb _ _ (e 3 (by decide) _ rfl))
                  rw [← Nat.add_assoc] at p3 r3
                  have p4 := (hb2.cell (p := ⟨ga, oa + (q * 10 + 4), none⟩) la).trans (ca _ _ (e 4 (by decide) _ rfl))
                  have r4 := (hb2.cell (p := ⟨gb, ob + (q * 10 + 4), none⟩) lb).trans (cb _ _ (e 4 (by decide) _ rfl))
                  rw [← Nat.add_assoc] at p4 r4
                  have p5 := (hb2.cell (p := ⟨ga, oa + (q * 10 + 5), none⟩) la).trans (ca _ _ (e 5 (by decide) _ rfl))
                  have r5 := (hb2.cell (p := ⟨gb, ob + (q * 10 + 5), none⟩) lb).trans (cb _ _ (e 5 (by decide) _ rfl))
                  rw [← Nat.add_assoc] at p5 r5
                  have p6 := (hb2.cell (p := ⟨ga, oa + (q * 10 + 6), none⟩) la).trans (ca _ _ (e 6 (by decide) _ rfl))
                  have r6 := (hb2.cell (p := ⟨gb, ob + (q * 10 + 6), none⟩) lb).trans (cb _ _ (e 6 (by decide) _ rfl))
                  rw [← Nat.add_assoc] at p6 r6
                  have p7 := (hb2.cell (p := ⟨ga, oa + (q * 10 + 7), none⟩) la).trans (ca _ _ (e 7 (by decide) _ rfl))
                  have r7 := (hb2.cell (p := ⟨gb, ob + (q * 10 + 7), none⟩) lb).trans (cb _ _ (e 7 (by decide) _ rfl))
                  rw [← Nat.add_assoc] at p7 r7
                  have p8 := (hb2.cell (p := ⟨ga, oa + (q * 10 + 8), none⟩) la).trans (ca _ _ (e 8 (by decide) _ rfl))
                  have r8 := (hb2.cell (p := ⟨gb, ob + (q * 10 + 8), none⟩) lb).trans (cb _ _ (e 8 (by decide) _ rfl))
                  rw [← Nat.add_assoc] at p8 r8
                  have p9 := (hb2.cell (p := ⟨ga, oa + (q * 10 + 9), none⟩) la).trans (ca _ _ (e 9 (by decide) _ rfl))
                  have r9 := (hb2.cell (p := ⟨gb, ob + (q * 10 + 9), none⟩) lb).trans (cb _ _ (e 9 (by decide) _ rfl))
                  rw [← Nat.add_assoc] at p9 r9
                  have EQ := fun w => neq_dd w y y
                  rw [decide_eq_true rfl] at EQ
                  have D17 := down17 y
                  have lga : ga < wq.heap.size := by omega
                  have lgb : gb < wq.heap.size := by omega
                  obtain ⟨y0, y1, y2, y3, y4, y5, y6, y7, y8, y9⟩ := y
                  unfold Dn.cells at EQ D17
                  dsimp only at EQ D17 p0 r0 p1 r1 p2 r2 p3 r3 p4 r4 p5 r5 p6 r6 p7 r7 p8 r8 p9 r9
                  have KEEP := Lib.hid (fun w' (b : Below wq.heap.size wq w') => show (fun w' => w'.cell? ⟨ga, oa + q * 10, none⟩ = some (.int .u32 y0) ∧ w'.cell? ⟨ga, oa + q * 10 + 1, none⟩ = some (.int .i64 y1) ∧ w'.cell? ⟨ga, oa + q * 10 + 2, none⟩ = some (.int .u32 y2) ∧ w'.cell? ⟨ga, oa + q * 10 + 3, none⟩ = some (.int .i64 y3) ∧ w'.cell? ⟨ga, oa + q * 10 + 4, none⟩ = some (.int .i64 y4) ∧ w'.cell? ⟨ga, oa + q * 10 + 5, none⟩ = some (.int .i64 y5) ∧ w'.cell? ⟨ga, oa + q * 10 + 6, none⟩ = some (.int .i64 y6) ∧ w'.cell? ⟨ga, oa + q * 10 + 7, none⟩ = some (.int .i64 y7) ∧ w'.cell? ⟨ga, oa + q * 10 + 8, none⟩ = some (.int .i64 y8) ∧ w'.cell? ⟨ga, oa + q * 10 + 9, none⟩ = some (.bool y9) ∧ w'.cell? ⟨gb, ob + q * 10, none⟩ = some (.int .u32 y0) ∧ w'.cell? ⟨gb, ob + q * 10 + 1, none⟩ = some (.int .i64 y1) ∧ w'.cell? ⟨gb, ob + q * 10 + 2, none⟩ = some (.int .u32 y2) ∧ w'.cell? ⟨gb, ob + q * 10 + 3, none⟩ = some (.int .i64 y3) ∧ w'.cell? ⟨gb, ob + q * 10 + 4, none⟩ = some (.int .i64 y4) ∧ w'.cell? ⟨gb, ob + q * 10 + 5, none⟩ = some (.int .i64 y5) ∧ w'.cell? ⟨gb, ob + q * 10 + 6, none⟩ = some (.int .i64 y6) ∧ w'.cell? ⟨gb, ob + q * 10 + 7, none⟩ = some (.int .i64 y7) ∧ w'.cell? ⟨gb, ob + q * 10 + 8, none⟩ = some (.int .i64 y8) ∧ w'.cell? ⟨gb, ob + q * 10 + 9, none⟩ = some (.bool y9) ∧ Below wq.heap.size wq w') w' from ⟨(b.cell (p := ⟨ga, oa + q * 10, none⟩) lga).trans p0, (b.cell (p := ⟨ga, oa + q * 10 + 1, none⟩) lga).trans p1, (b.cell (p := ⟨ga, oa + q * 10 + 2, none⟩) lga).trans p2, (b.cell (p := ⟨ga, oa + q * 10 + 3, none⟩) lga).trans p3, (b.cell (p := ⟨ga, oa + q * 10 + 4, none⟩) lga).trans p4, (b.cell (p := ⟨ga, oa + q * 10 + 5, none⟩) lga).trans p5, (b.cell (p := ⟨ga, oa + q * 10 + 6, none⟩) lga).trans p6, (b.cell (p := ⟨ga, oa + q * 10 + 7, none⟩) lga).trans p7, (b.cell (p := ⟨ga, oa + q * 10 + 8, none⟩) lga).trans p8, (b.cell (p := ⟨ga, oa + q * 10 + 9, none⟩) lga).trans p9, (b.cell (p := ⟨gb, ob + q * 10, none⟩) lgb).trans r0, (b.cell (p := ⟨gb, ob + q * 10 + 1, none⟩) lgb).trans r1, (b.cell (p := ⟨gb, ob + q * 10 + 2, none⟩) lgb).trans r2, (b.cell (p := ⟨gb, ob + q * 10 + 3, none⟩) lgb).trans r3, (b.cell (p := ⟨gb, ob + q * 10 + 4, none⟩) lgb).trans r4, (b.cell (p := ⟨gb, ob + q * 10 + 5, none⟩) lgb).trans r5, (b.cell (p := ⟨gb, ob + q * 10 + 6, none⟩) lgb).trans r6, (b.cell (p := ⟨gb, ob + q * 10 + 7, none⟩) lgb).trans r7, (b.cell (p := ⟨gb, ob + q * 10 + 8, none⟩) lgb).trans r8, (b.cell (p := ⟨gb, ob + q * 10 + 9, none⟩) lgb).trans r9, b⟩)
                  have D1 := Lib.hid (fun w' (b : Below wq.heap.size wq w') => (D17 w').mono fun e w'' (hh : e = .returned (.agg #[.int .u32 y0, .int .i64 y1, .int .u32 y2, .int .i64 y3, .int .i64 y4, .int .i64 y5, .int .i64 y6, .int .i64 y7, .int .i64 y8, .bool y9]) ∧ Below w'.heap.size w' w'') => show e = .returned (.agg #[.int .u32 y0, .int .i64 y1, .int .u32 y2, .int .i64 y3, .int .i64 y4, .int .i64 y5, .int .i64 y6, .int .i64 y7, .int .i64 y8, .bool y9]) ∧ Below wq.heap.size wq w'' from ⟨hh.1, bnext b hh.2⟩)
                  have i5 : (0 : Int) ≤ (q : Int) := by omega
                  have i6 : (q : Int) < (zn : Int) := by omega
                  clear D17 ca cb e hy hb2
                  go_wp2_with fail
                  go_region_held3 (fun w' => w'.cell? ⟨ga, oa + q * 10, none⟩ = some (.int .u32 y0) ∧ w'.cell? ⟨ga, oa + q * 10 + 1, none⟩ = some (.int .i64 y1) ∧ w'.cell? ⟨ga, oa + q * 10 + 2, none⟩ = some (.int .u32 y2) ∧ w'.cell? ⟨ga, oa + q * 10 + 3, none⟩ = some (.int .i64 y3) ∧ w'.cell? ⟨ga, oa + q * 10 + 4, none⟩ = some (.int .i64 y4) ∧ w'.cell? ⟨ga, oa + q * 10 + 5, none⟩ = some (.int .i64 y5) ∧ w'.cell? ⟨ga, oa + q * 10 + 6, none⟩ = some (.int .i64 y6) ∧ w'.cell? ⟨ga, oa + q * 10 + 7, none⟩ = some (.int .i64 y7) ∧ w'.cell? ⟨ga, oa + q * 10 + 8, none⟩ = some (.int .i64 y8) ∧ w'.cell? ⟨ga, oa + q * 10 + 9, none⟩ = some (.bool y9) ∧ w'.cell? ⟨gb, ob + q * 10, none⟩ = some (.int .u32 y0) ∧ w'.cell? ⟨gb, ob + q * 10 + 1, none⟩ = some (.int .i64 y1) ∧ w'.cell? ⟨gb, ob + q * 10 + 2, none⟩ = some (.int .u32 y2) ∧ w'.cell? ⟨gb, ob + q * 10 + 3, none⟩ = some (.int .i64 y3) ∧ w'.cell? ⟨gb, ob + q * 10 + 4, none⟩ = some (.int .i64 y4) ∧ w'.cell? ⟨gb, ob + q * 10 + 5, none⟩ = some (.int .i64 y5) ∧ w'.cell? ⟨gb, ob + q * 10 + 6, none⟩ = some (.int .i64 y6) ∧ w'.cell? ⟨gb, ob + q * 10 + 7, none⟩ = some (.int .i64 y7) ∧ w'.cell? ⟨gb, ob + q * 10 + 8, none⟩ = some (.int .i64 y8) ∧ w'.cell? ⟨gb, ob + q * 10 + 9, none⟩ = some (.bool y9) ∧ Below wq.heap.size wq w')
                    (first | exact KEEP.out _ (Below.refl _ _).drew | exact KEEP.out _ b9 | exact ‹_ ∧ _ ∧ _ ∧ _ ∧ _ ∧ _ ∧ _ ∧ _ ∧ _ ∧ _ ∧ _ ∧ _ ∧ _ ∧ _ ∧ _ ∧ _ ∧ _ ∧ _ ∧ _ ∧ _ ∧ Below _ _ _› | go_keep)
                    ((go_at_call 20; refine (D1.out _ ?_).mono ?_; (exact (‹_ ∧ _ ∧ _ ∧ _ ∧ _ ∧ _ ∧ _ ∧ _ ∧ _ ∧ _ ∧ _ ∧ _ ∧ _ ∧ _ ∧ _ ∧ _ ∧ _ ∧ _ ∧ _ ∧ _ ∧ Below _ _ _›).2.2.2.2.2.2.2.2.2.2.2.2.2.2.2.2.2.2.2.2); rintro e w9 ⟨rfl, b9⟩))
                  have HK9 := Lib.hid (show Below wq.heap.size wq w9 by assumption)
                  clear KEEP D1 EQ
                  go_wp2_with fail
                  go_roundw
                  case rel => exact ⟨q + 1, by omega, by go_num, HB2.out.trans (HK9.out.mono hz2)⟩
                  case measure => simp [intOf]; omega
                · obtain rfl : q = zn := by omega
                  have HBe := Lib.hid (show Below wl.heap.size wl wq from HB9.out.trans (hb2.mono HB9.out.size))
                  clear hb2 hz2 HB2
                  have i7 : (k : Int) + 1 < 9223372036854775808 := by omega
                  go_wp2_with fail
                  go_roundw
                  case rel => exact ⟨k + 1, by omega, by go_num, HBe.out⟩
                  case measure => simp [intOf]; omega
        · have i1 : ¬ (k : Int) ≤ (n : Int) + (m : Int) := by omega
          have i2 : (n : Int) + (m : Int) < 9223372036854775808 := by omega
          have i3 : (n : Int) + (m : Int) < (k : Int) := by omega
          have CE := Lib.hid (oepoch (HT.out.next hb))
          have CL := Lib.hid (fun w' (b : Below wl.heap.size wl w') => olen (HT.out.next b))
          rw [HDN.out] at CL
          clear hb hsz
          go_wp2_with fail
          refine CE.out.mono ?_
          rintro e w20 ⟨rfl, b20⟩
          have HB20 := Lib.hid (show Below wl.heap.size wl w20 from HBr.out.trans (b20.mono HBr.out.size))
          clear b20 CE i1 i2 i3
          go_wp2_with fail
          refine (CL.out _ HB20.out).mono ?_
          rintro e w21 ⟨rfl, b21⟩
          have HB21 := Lib.hid (bnext HB.out (HB20.out.trans (b21.mono HB20.out.size)))
          clear b21 CL
          go_wp2_with fail
          go_ret
          exact ⟨rfl, HB21.out⟩
theorem walk (w : World) (a0 : Int) (w0 : (Lit.int .u64 a0).wf = true) (A1 : Option Addr) (c1 : Nat) (l1 : List Rt) (hl1 : l1.length ≤ maxLen) (hr1 : Row w w.heap.size 5 A1 l1.length (rowC Rt.cells l1)) (ho1 : ∀ a ∈ l1, a.Fit) (A2 : Option Addr) (c2 : Nat) (l2 : List Dn) (hl2 : l2.length ≤ maxLen) (hr2 : Row w w.heap.size 10 A2 l2.length (rowC Dn.cells l2)) (ho2 : ∀ a ∈ l2, a.Fit) (a3 : Int) (w3 : (Lit.int .u32 a3).wf = true) (a4 : Int) (w4 : (Lit.int .i64 a4).wf = true) (a5 : Int) (w5 : (Lit.int .i64 a5).wf = true) : Calls Try.prog 3 #[.int .u64 a0, .slice A1 l1.length c1, .slice A2 l2.length c2, .int .u32 a3, .int .i64 a4, .int .i64 a5] w fun e w' => e = .returned (.bool true) ∧ Below w.heap.size w w' :=
  walk17m a0 A1 c1 l1 A2 c2 l2 a3 a4 a5 w hr1 hr2 ho1 ho2 (wf_u32 w3) hl1 hl2 (I64.of w4) (I64.of w5)

set_option maxRecDepth 100000 in
theorem lifted (os : Os) (started : os.Started) (H : Type) (enc : TypeId × Value → H) :
    ReturnsInHanded {} Try.checked os 3 .any (Rows.tableMakesSpec.pre6 enc Try.prog Try.f3 Rows.tableMakesRow.domain false) (Rows.tableMakesSpec.post enc Try.prog Try.f3 false true false false) := by
  refine returnsInHanded_of_change (C := Try.checked) own started (by kernel_rfl) Try.func3
    (ChangeSpec.witness6 (enc := enc) (C := Try.checked) false ⟨#[], #[.int .u64 0, .slice none 0 0, .slice none 0 0, .int .u32 0, .int .i64 0, .int .i64 0], []⟩ 8 (by kernel_rfl) (by kernel_rfl) (by kernel_rfl) (by kernel_rfl)) ?_
  intro W base args ds gs before hval0 hW _ _
  have hval : ∀ (j : Nat) t v, Try.f3.params[j]? = some t → args[j]? = some v → Value.okWide Try.prog W .any base t v := hval0
  have hW' := hW
  obtain ⟨p, q, hA0, hV, _, _, _⟩ := hW
  have hA : DataW.TrodAll enc Try.prog W 0 (fun _ => true) true Try.f3.params.toList args.toList ds p := hA0
  rw [Try.params3] at hA hval
  obtain ⟨v0, vs0, d0, ds0, p0, q0, hargs, rfl, _, h0, r0⟩ := trodAll_cons hA
  obtain ⟨v1, vs1, d1, ds1, p1, q1, rfl, rfl, _, h1, r1⟩ := trodAll_cons r0
  obtain ⟨v2, vs2, d2, ds2, p2, q2, rfl, rfl, _, h2, r2⟩ := trodAll_cons r1
  obtain ⟨v3, vs3, d3, ds3, p3, q3, rfl, rfl, _, h3, r3⟩ := trodAll_cons r2
  obtain ⟨v4, vs4, d4, ds4, p4, q4, rfl, rfl, _, h4, r4⟩ := trodAll_cons r3
  obtain ⟨v5, vs5, d5, ds5, p5, q5, rfl, rfl, _, h5, r5⟩ := trodAll_cons r4
  obtain ⟨rfl, rfl, _⟩ := trodAll_nil r5
  obtain rfl : args = #[v0, v1, v2, v3, v4, v5] := by cases args; simp_all
  obtain ⟨rfl, _⟩ := trodVars_none hV
  refine law_post (s := Rows.tableMakesSpec) rfl rfl (by rw [Try.params3]; intro t ht; simp at ht; rcases ht with rfl | rfl | rfl | rfl | rfl | rfl <;> exact ⟨by kernel_rfl, of_decide_eq_true (by kernel_rfl)⟩) rfl hW' ?_
  obtain ⟨a0, rfl, _, _, w0⟩ := open_int Try.underlying22 (hval 0 22 v0 rfl rfl) h0
  obtain ⟨A1, c1, l1, rfl, hl1, hr1, ho1⟩ := open_routes17 (hval 1 23 v1 rfl rfl) h1
  obtain ⟨A2, c2, l2, rfl, hl2, hr2, ho2⟩ := open_downs17 (hval 2 24 v2 rfl rfl) h2
  obtain ⟨a3, rfl, _, _, w3⟩ := open_int Try.underlying25 (hval 3 25 v3 rfl rfl) h3
  obtain ⟨a4, rfl, _, _, w4⟩ := open_int Try.underlying3 (hval 4 3 v4 rfl rfl) h4
  obtain ⟨a5, rfl, _, _, w5⟩ := open_int Try.underlying3 (hval 5 3 v5 rfl rfl) h5
  exact walk W a0 w0 A1 c1 l1 hl1 hr1 ho1 A2 c2 l2 hl2 hr2 ho2 a3 w3 a4 w4 a5 w5

theorem over : Rows.tableMakesRow.holds Try.pinned (OpenSpec.ofChange Rows.tableMakesSpec) :=
  OpenClaim.holds_of_wide 3 Try.f3 rfl rfl rfl rfl rfl rfl rfl ⟨rfl, rfl, rfl, rfl, rfl⟩ rfl rfl rfl rfl rfl (by kernel_rfl) Try.func3 (by kernel_rfl)
    (of_decide_eq_true (by kernel_rfl)) (by unfold Func.isWrapper; first | (rw [if_pos (by decide +kernel)]; kernel_rfl) | (rw [if_neg (by decide +kernel)]; exact ⟨rfl, rfl⟩))
    (fun os started H enc _ => lifted os started H enc)

/-- The statement. -/
theorem tableMakes_holds : Rows.TableMakesSaid := over

end Go.Proofs.Ytgjhcnpegaemoaa.TMakes
