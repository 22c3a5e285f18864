/-
  Proved: TableOthers returns true for all routes and downtracks, and every track: those of other tracks play no part for it. Conditions: none.
-/
import Derived.Test.YtgjhcnpegaemoaaTbA
import Derived.Test.YtgjhcnpegaemoaaLift
namespace Go.Proofs.Ytgjhcnpegaemoaa.TOthers
open Go.ChangeShapes Go.WideShapes Go.ChangeAt Go.RowKit
set_option linter.unusedSimpArgs false
set_option linter.unusedVariables false
set_option maxRecDepth 1000000
--PP
set_option maxHeartbeats 12800000 in
theorem walk17o (A : Option Addr) (c : Nat) (R : List Rt) (B : Option Addr) (d : Nat) (D : List Dn) (tr : Int) (w : World) (hA : Row w w.heap.size 5 A R.length (rtC R)) (hB : Row w w.heap.size 10 B D.length (dnC D)) (hR : ∀ x ∈ R, x.Fit) (hD : ∀ x ∈ D, x.Fit) (hRl : R.length ≤ maxLen) (hDl : D.length ≤ maxLen) (htr64 : I64 tr) :
    Calls Try.prog 6 #[.slice A R.length c, .slice B D.length d, .int .i64 tr] w fun e w' => e = .returned (.bool true) ∧ Below w.heap.size w w' := by
  have C0 := Lib.hid (fun w => awake17 w)
  obtain ⟨n, hn⟩ : ∃ n, R.length = n := ⟨_, rfl⟩
  obtain ⟨m, hm⟩ : ∃ m, D.length = m := ⟨_, rfl⟩
  rw [hn] at hA hRl ⊢
  rw [hm] at hB hDl ⊢
  unfold maxLen at hRl hDl
  have HN := Lib.hid hn
  have HM := Lib.hid hm
  have HA := Lib.hid hA
  have HB := Lib.hid hB
  clear hA hB hn hm
  by_cases hlen : 60 < n ∨ (¬ 60 < n ∧ 60 < m)
  · have hd : (60 : Int) < (n : Int) ∨ (¬ (60 : Int) < (n : Int) ∧ (60 : Int) < (m : Int)) := by omega
    clear hlen HA HB HN HM hRl hDl
    rcases hd with hd | ⟨hd1, hd⟩
    all_goals
      go_enter Try.func6, Try.ntmps6
      go_wp2_with fail
      refine (C0.out w).mono ?_
      rintro e w1 ⟨rfl, b1⟩
      have HB1 := Lib.hid b1
      clear b1 C0
      go_wp2_with fail
      go_ret
      exact ⟨rfl, HB1.out⟩
  have hn60 : ¬ (60 : Int) < (n : Int) := by omega
  have hm60 : ¬ (60 : Int) < (m : Int) := by omega
  have hnn : n ≤ 60 := by omega
  have hmm : m ≤ 60 := by omega
  clear hRl hDl hlen
  go_enter Try.func6, Try.ntmps6
  go_wp2_with fail
  refine (C0.out w).mono ?_
  rintro e w1 ⟨rfl, b1⟩
  have HB1 := Lib.hid b1
  have HA1 := Lib.hid ((HA.out.below b1 (Nat.le_refl _)).more b1.size)
  have HE1 := Lib.hid ((HB.out.below b1 (Nat.le_refl _)).more b1.size)
  clear b1 C0 HA HB
  go_wp2_with fail
  clear hn60 hm60
  go_loopw [8, 10] (fun v i wr => ∃ k : Nat, k ≤ n ∧ i = .int .i64 (k : Int) ∧ wr.ownsRow w1.heap.size 37 5 v (trR tr (R.take k)).length (rtC (trR tr (R.take k))) ∧ Below w1.heap.size w1 wr) (fun _ i _ => n - (intOf i).toNat)
  case atStart => exact ⟨0, Nat.zero_le _, rfl, World.ownsRow_nil _ _ _ _, Below.refl _ _⟩
  case round =>
    obtain ⟨k, hk, rfl, hown, hb⟩ := hrel
    obtain ⟨Av, cv, rfl⟩ := own_form hown
    have HO := Lib.hid hown
    have HBr := Lib.hid hb
    have hsz := hb.size
    clear hown
    by_cases hlt : k < n
    · obtain ⟨y, hy⟩ : ∃ y, R[k]? = some y := ⟨_, List.getElem?_eq_getElem (by rw [HN.out]; exact hlt)⟩
      obtain ⟨ga, oa, ea, la, ca⟩ := HA1.out.2 (by omega)
      cases ea
      have c0 := (hb.cell (p := ⟨ga, oa + (k * 5 + 0), none⟩) la).trans (ca _ _ ((rtC_get hy 0 (by decide)).trans rfl))
      rw [Nat.add_zero] at c0
      have c1 := (hb.cell (p := ⟨ga, oa + (k * 5 + 1), none⟩) la).trans (ca _ _ ((rtC_get hy 1 (by decide)).trans rfl))
      rw [← Nat.add_assoc] at c1
      have c2 := (hb.cell (p := ⟨ga, oa + (k * 5 + 2), none⟩) la).trans (ca _ _ ((rtC_get hy 2 (by decide)).trans rfl))
      rw [← Nat.add_assoc] at c2
      have c3 := (hb.cell (p := ⟨ga, oa + (k * 5 + 3), none⟩) la).trans (ca _ _ ((rtC_get hy 3 (by decide)).trans rfl))
      rw [← Nat.add_assoc] at c3
      have c4 := (hb.cell (p := ⟨ga, oa + (k * 5 + 4), none⟩) la).trans (ca _ _ ((rtC_get hy 4 (by decide)).trans rfl))
      rw [← Nat.add_assoc] at c4
      have lga : ga < wr.heap.size := by omega
      have HT := Lib.hid (trR_take hy tr)
      have hle := trR_le R k tr
      obtain ⟨G, hG⟩ : ∃ G, trR tr (R.take k) = G := ⟨_, rfl⟩
      rw [hG] at HT HO hle ⊢
      obtain ⟨M, hM⟩ : ∃ M, G.length = M := ⟨_, rfl⟩
      have HMM := Lib.hid hM
      rw [hM] at HO hle ⊢
      have HY := Lib.hid (show [y] = [⟨y.ssrc, y.track, y.src, y.layer, y.shard⟩] from rfl) 
      obtain ⟨x0, x1, x2, x3, x4⟩ := y
      dsimp only at c0 c1 c2 c3 c4
      have i0 : (0 : Int) ≤ (k : Int) := by omega
      have i1 : (k : Int) < (n : Int) := by omega
      clear hy ca hG hM HY hb
      by_cases htr : x1 = tr
      · obtain rfl : tr = x1 := htr.symm
        have HT2 := Lib.hid (HT.out.trans (if_pos rfl))
        clear HT
        have HR8 := Lib.hid (Row.fresh wr 37 #[.int .u32 x0, .int .i64 tr, .int .i64 x2, .int .i64 x3, .int .i64 x4] 5 1 [.int .u32 x0, .int .i64 tr, .int .i64 x2, .int .i64 x3, .int .i64 x4] rfl rfl)
        go_wp2_with (at_builtin; refine wpl_append _ rfl (.tmp 48) (.tmp 53) 23 rfl w1.heap.size 37 (.agg #[.int .u32 0, .int .i64 0, .int .i64 0, .int .i64 0, .int .i64 0]) 5 40 Try.underlying23 info_tr rfl (by decide) _ M (rtC G) rfl (HO.out.alloc _) _ (some ⟨wr.heap.size, 0, none⟩) 1 1 [.int .u32 x0, .int .i64 tr, .int .i64 x2, .int .i64 x3, .int .i64 x4] rfl HR8.out (by simp [Value.oneCell']) ?c1 ?c2 ?c3 ?_)
        case c1 => unfold maxLen; omega
        case c2 => omega
        case c3 => (try simp); omega
        intro v3 w3 hown3 hg3 _
        have HB3 := Lib.hid (show Below w1.heap.size w1 w3 from (HBr.out.alloc hsz _).grown hg3 (by simp; omega) (fun q hq => (HO.out.lt q hq).1))
        have HO3 := Lib.hid (show w3.ownsRow w1.heap.size 37 5 v3 (trR tr (R.take (k + 1))).length (rtC (trR tr (R.take (k + 1)))) by rw [HT2.out, rtC_add, List.length_append, HMM.out]; exact hown3)
        clear hown3 hg3 HO HR8 HT2 HBr
        go_wp2_with fail
        go_roundw
        case rel => exact ⟨k + 1, by omega, by go_num, HO3.out, HB3.out⟩
        case measure => simp [intOf]; omega
      · have HT2 := Lib.hid (HT.out.trans (if_neg (show ¬ (x1 : Int) = tr from htr)))
        clear HT
        go_wp2_with fail
        go_roundw
        case rel => exact ⟨k + 1, by omega, by go_num, by rw [HT2.out, HMM.out]; exact HO.out, HBr.out⟩
        case measure => simp [intOf]; omega
    · obtain rfl : k = n := by omega
      have HO1 := Lib.hid (show Row wr wr.heap.size 5 Av (trR tr R).length (rtC (trR tr R)) by have h := Row.of_own HO.out; rwa [List.take_of_length_le (by rw [HN.out]; exact Nat.le_refl _)] at h)
      rw [List.take_of_length_le (show R.length ≤ k by rw [HN.out]; exact Nat.le_refl _)]
      have HA2 := Lib.hid ((HA1.out.below hb (Nat.le_refl _)).more hsz)
      have HE2 := Lib.hid ((HE1.out.below hb (Nat.le_refl _)).more hsz)
      have HB2 := Lib.hid (bnext HB1.out hb)
      obtain ⟨w2, rfl⟩ : ∃ z, z = wr := ⟨_, rfl⟩
      clear hb hsz HO HBr HA1 HE1 HB1
      go_wp2_with fail
      obtain ⟨n, rfl⟩ : ∃ z, z = k := ⟨_, rfl⟩
      obtain ⟨A1, rfl⟩ : ∃ z, z = Av := ⟨_, rfl⟩
      obtain ⟨c1, rfl⟩ : ∃ z, z = cv := ⟨_, rfl⟩
      clear hlt hk
      go_loopw [9, 11] (fun v i wr => ∃ k : Nat, k ≤ m ∧ i = .int .i64 (k : Int) ∧ wr.ownsRow w2.heap.size 41 10 v (trD tr (D.take k)).length (dnC (trD tr (D.take k))) ∧ Below w2.heap.size w2 wr) (fun _ i _ => m - (intOf i).toNat)
      case atStart => exact ⟨0, Nat.zero_le _, rfl, World.ownsRow_nil _ _ _ _, Below.refl _ _⟩
      case round =>
        obtain ⟨k, hk, rfl, hown, hb⟩ := hrel
        obtain ⟨Av, cv, rfl⟩ := own_form hown
        have HO := Lib.hid hown
        have HBr := Lib.hid hb
        have hsz := hb.size
        clear hown
        by_cases hlt : k < m
        · obtain ⟨y, hy⟩ : ∃ y, D[k]? = some y := ⟨_, List.getElem?_eq_getElem (by rw [HM.out]; exact hlt)⟩
          obtain ⟨ga, oa, ea, la, ca⟩ := HE2.out.2 (by omega)
          cases ea
          have c0 := (hb.cell (p := ⟨ga, oa + (k * 10 + 0), none⟩) la).trans (ca _ _ ((dnC_get hy 0 (by decide)).trans rfl))
          rw [Nat.add_zero] at c0
          have c1 := (hb.cell (p := ⟨ga, oa + (k * 10 + 1), none⟩) la).trans (ca _ _ ((dnC_get hy 1 (by decide)).trans rfl))
          rw [← Nat.add_assoc] at c1
          have c2 := (hb.cell (p := ⟨ga, oa + (k * 10 + 2), none⟩) la).trans (ca _ _ ((dnC_get hy 2 (by decide)).trans rfl))
          rw [← Nat.add_assoc] at c2
          have c3 := (hb.cell (p := ⟨ga, oa + (k * 10 + 3), none⟩) la).trans (ca _ _ ((dnC_get hy 3 (by decide)).trans rfl))
          rw [← Nat.add_assoc] at c3
          have c4 := (hb.cell (p := ⟨ga, oa + (k * 10 + 4), none⟩) la).trans (ca _ _ ((dnC_get hy 4 (by decide)).trans rfl))
          rw [← Nat.add_assoc] at c4
          have c5 := (hb.cell (p := ⟨ga, oa + (k * 10 + 5), none⟩) la).trans (ca _ _ ((dnC_get hy 5 (by decide)).trans rfl))
          rw [← Nat.add_assoc] at c5
          have c6 := (hb.cell (p := ⟨ga, oa + (k * 10 + 6), none⟩) la).trans (ca _ _ ((dnC_get hy 6 (by decide)).trans rfl))
          rw [← Nat.add_assoc] at c6
          have c7 := (hb.cell (p := ⟨ga, oa + (k * 10 + 7), none⟩) la).trans (ca _ _ ((dnC_get hy 7 (by decide)).trans rfl))
          rw [← Nat.add_assoc] at c7
          have c8 := (hb.cell (p := ⟨ga, oa + (k * 10 + 8), none⟩) la).trans (ca _ _ ((dnC_get hy 8 (by decide)).trans rfl))
          rw [← Nat.add_assoc] at c8
          have c9 := (hb.cell (p := ⟨ga, oa + (k * 10 + 9), none⟩) la).trans (ca _ _ ((dnC_get hy 9 (by decide)).trans rfl))
          rw [← Nat.add_assoc] at c9
          have lga : ga < wr.heap.size := by omega
          have HT := Lib.hid (trD_take hy tr)
          have hle := trD_le D k tr
          obtain ⟨G, hG⟩ : ∃ G, trD tr (D.take k) = G := ⟨_, rfl⟩
          rw [hG] at HT HO hle ⊢
          obtain ⟨M, hM⟩ : ∃ M, G.length = M := ⟨_, rfl⟩
          have HMM := Lib.hid hM
          rw [hM] at HO hle ⊢
          have HY := Lib.hid (show [y] = [⟨y.ssrc, y.slot, y.turn, y.who, y.track, y.shard, y.src, y.layer, y.tid, y.muted⟩] from rfl) 
          obtain ⟨x0, x1, x2, x3, x4, x5, x6, x7, x8, x9⟩ := y
          dsimp only at c0 c1 c2 c3 c4 c5 c6 c7 c8 c9
          have i0 : (0 : Int) ≤ (k : Int) := by omega
          have i1 : (k : Int) < (m : Int) := by omega
          clear hy ca hG hM HY hb
          by_cases htr : x4 = tr
          · obtain rfl : tr = x4 := htr.symm
            have HT2 := Lib.hid (HT.out.trans (if_pos rfl))
            clear HT
            have HR8 := Lib.hid (Row.fresh wr 41 #[.int .u32 x0, .int .i64 x1, .int .u32 x2, .int .i64 x3, .int .i64 tr, .int .i64 x5, .int .i64 x6, .int .i64 x7, .int .i64 x8, .bool x9] 10 1 [.int .u32 x0, .int .i64 x1, .int .u32 x2, .int .i64 x3, .int .i64 tr, .int .i64 x5, .int .i64 x6, .int .i64 x7, .int .i64 x8, .bool x9] rfl rfl)
            go_wp2_with (at_builtin; refine wpl_append _ rfl (.tmp 68) (.tmp 73) 24 rfl w2.heap.size 41 (.agg #[.int .u32 0, .int .i64 0, .int .u32 0, .int .i64 0, .int .i64 0, .int .i64 0, .int .i64 0, .int .i64 0, .int .i64 0, .bool false]) 10 80 Try.underlying24 info_td rfl (by decide) _ M (dnC G) rfl (HO.out.alloc _) _ (some ⟨wr.heap.size, 0, none⟩) 1 1 [.int .u32 x0, .int .i64 x1, .int .u32 x2, .int .i64 x3, .int .i64 tr, .int .i64 x5, .int .i64 x6, .int .i64 x7, .int .i64 x8, .bool x9] rfl HR8.out (by simp [Value.oneCell']) ?c1 ?c2 ?c3 ?_)
            case c1 => unfold maxLen; omega
            case c2 => omega
            case c3 => (try simp); omega
            intro v3 w3 hown3 hg3 _
            have HB3 := Lib.hid (show Below w2.heap.size w2 w3 from (HBr.out.alloc hsz _).grown hg3 (by simp; omega) (fun q hq => (HO.out.lt q hq).1))
            have HO3 := Lib.hid (show w3.ownsRow w2.heap.size 41 10 v3 (trD tr (D.take (k + 1))).length (dnC (trD tr (D.take (k + 1)))) by rw [HT2.out, dnC_add, List.length_append, HMM.out]; exact hown3)
            clear hown3 hg3 HO HR8 HT2 HBr
            go_wp2_with fail
            go_roundw
            case rel => exact ⟨k + 1, by omega, by go_num, HO3.out, HB3.out⟩
            case measure => simp [intOf]; omega
          · have HT2 := Lib.hid (HT.out.trans (if_neg (show ¬ (x4 : Int) = tr from htr)))
            clear HT
            go_wp2_with fail
            go_roundw
            case rel => exact ⟨k + 1, by omega, by go_num, by rw [HT2.out, HMM.out]; exact HO.out, HBr.out⟩
            case measure => simp [intOf]; omega
        · obtain rfl : k = m := by omega
          have HO2 := Lib.hid (show Row wr wr.heap.size 10 Av (trD tr D).length (dnC (trD tr D)) by have h := Row.of_own HO.out; rwa [List.take_of_length_le (by rw [HM.out]; exact Nat.le_refl _)] at h)
          rw [List.take_of_length_le (show D.length ≤ k by rw [HM.out]; exact Nat.le_refl _)]
          have HA3 := Lib.hid ((HA2.out.below hb (Nat.le_refl _)).more hsz)
          have HE3 := Lib.hid ((HE2.out.below hb (Nat.le_refl _)).more hsz)
          have HR3 := Lib.hid ((HO1.out.below hb (Nat.le_refl _)).more hsz)
          have HB3 := Lib.hid (bnext HB2.out hb)
          obtain ⟨w3, rfl⟩ : ∃ z, z = wr := ⟨_, rfl⟩
          clear hb hsz HO HBr HA2 HE2 HB2 HO1
          obtain ⟨m, rfl⟩ : ∃ z, z = k := ⟨_, rfl⟩
          obtain ⟨A2, rfl⟩ : ∃ z, z = Av := ⟨_, rfl⟩
          obtain ⟨c2, rfl⟩ : ∃ z, z = cv := ⟨_, rfl⟩
          clear hlt hk
          have hfR : (trR tr R).length ≤ 60 := Nat.le_trans (List.length_filter_le ..) (by rw [HN.out]; exact hnn)
          have hfD : (trD tr D).length ≤ 60 := Nat.le_trans (List.length_filter_le ..) (by rw [HM.out]; exact hmm)
          have CM := tmake_any 1 A c R B d D w3 (by rw [HN.out]; exact HA3.out) (by rw [HM.out]; exact HE3.out) (by rw [HN.out]; exact hnn) (by rw [HM.out]; exact hmm) hR hD
          rw [HN.out, HM.out] at CM
          replace CM := Lib.hid CM
          have CN := Lib.hid (fun w h1 h2 => tmake_any 1 A1 c1 (trR tr R) A2 c2 (trD tr D) w h1 h2 hfR hfD (fun x hx => hR x (List.mem_filter.1 hx).1) (fun x hx => hD x (List.mem_filter.1 hx).1))
          go_wp2_with fail
          refine CM.out.mono ?_
          rintro e w4 (⟨hm, g, S, rfl, t4, s4, b4⟩ | ⟨hm, rfl, b4⟩)
          rotate_left 1
          · have HB4 := Lib.hid (bnext HB3.out b4)
            have HR4 := Lib.hid ((HR3.out.below b4 (Nat.le_refl _)).more b4.size)
            have HD4 := Lib.hid ((HO2.out.below b4 (Nat.le_refl _)).more b4.size)
            clear b4 CM HB3 HR3 HO2 HA3 HE3 hm
            go_wp2_with fail
            refine (CN.out _ HR4.out HD4.out).mono ?_
            rintro e w5 (⟨_, g5, S5, rfl, _, _, b5⟩ | ⟨_, rfl, b5⟩)
            all_goals
              have HB5 := Lib.hid (bnext HB4.out b5)
              clear b5 CN HB4 HR4 HD4
              go_wp2_with fail
              go_ret
              exact ⟨rfl, HB5.out⟩
          have hm2 : May (trR tr R) (trD tr D) := ⟨hm.1.filter _, hm.2.filter _⟩
          have HM2 := Lib.hid hm2
          have HT4 := Lib.hid t4.op
          have HB4 := Lib.hid (bnext HB3.out b4)
          have HR4 := Lib.hid ((HR3.out.below b4 (Nat.le_refl _)).more b4.size)
          have HD4 := Lib.hid ((HO2.out.below b4 (Nat.le_refl _)).more b4.size)
          clear b4 t4 s4 CM HB3 HR3 HO2 HA3 HE3 hm hm2
          go_wp2_with fail
          refine (CN.out _ HR4.out HD4.out).mono ?_
          rintro e w5 (⟨_, g5, S5, rfl, t5, s5, b5⟩ | ⟨hno, _⟩)
          rotate_left 1
          · exact absurd HM2.out hno
          have HT5 := Lib.hid (HT4.out.next b5)
          have HU5 := Lib.hid t5.op
          have HB5 := Lib.hid (bnext HB4.out b5)
          clear b5 t5 s5 CN HB4 HR4 HD4 HT4 HM2
          have CD1 := odowns HT5.out tr htr64
          have CD2 := Lib.hid (fun w (h : TOp w (some ⟨g5, 0, none⟩) S5 1 (trR tr R) (trD tr D)) => odowns h tr htr64)
          rw [downs_filter] at CD2
          have hlen := downs_length D tr
          obtain ⟨Z, hZ⟩ : ∃ z, downsS D tr = z := ⟨_, rfl⟩
          rw [hZ] at CD1 CD2 hlen
          obtain ⟨zn, hzn⟩ : ∃ z, Z.length = z := ⟨_, rfl⟩
          rw [hzn] at CD1 CD2 hlen
          have HZN := Lib.hid hzn
          have HLEN := Lib.hid hlen.symm
          have hz60 : zn ≤ 60 := by rw [hlen]; exact hfD
          have HC1 := Lib.hid CD1
          clear CD1 hZ hzn hlen
          go_wp2_with fail
          refine HC1.out.mono ?_
          rintro e w6 ⟨A6, c6, rfl, o6, b6⟩
          have HT6 := Lib.hid (HT5.out.next b6)
          have HU6 := Lib.hid (HU5.out.next b6)
          have HB6 := Lib.hid (bnext HB5.out b6)
          have HX6 := Lib.hid (Row.of_own o6)
          clear o6 b6 HT5 HU5 HB5 HC1
          go_wp2_with fail
          refine (CD2.out _ HU6.out).mono ?_
          rintro e w7 ⟨A7, c7, rfl, o7, b7⟩
          have HT7 := Lib.hid (HT6.out.next b7)
          have HU7 := Lib.hid (HU6.out.next b7)
          have HB7 := Lib.hid (bnext HB6.out b7)
          have HX7 := Lib.hid ((HX6.out.below b7 (Nat.le_refl _)).more b7.size)
          have HY7 := Lib.hid (Row.of_own o7)
          clear o7 b7 HT6 HU6 HB6 HX6 CD2
          have CL := olen HU7.out
          rw [HLEN.out] at CL
          replace CL := Lib.hid CL
          go_wp2_with fail
          refine CL.out.mono ?_
          rintro e w8 ⟨rfl, b8⟩
          have HT8 := Lib.hid (HT7.out.next b8)
          have HU8 := Lib.hid (HU7.out.next b8)
          have HB8 := Lib.hid (bnext HB7.out b8)
          have HX8 := Lib.hid ((HX7.out.below b8 (Nat.le_refl _)).more b8.size)
          have HY8 := Lib.hid ((HY7.out.below b8 (Nat.le_refl _)).more b8.size)
          clear b8 HT7 HU7 HB7 HX7 HY7 CL
          go_wp2_with fail
          go_loopw [18] (fun v wq => ∃ q : Nat, q ≤ zn ∧ v = .int .i64 (q : Int) ∧ Below w8.heap.size w8 wq) (fun v _ => zn - (intOf v).toNat)
          case atStart => exact ⟨0, Nat.zero_le _, rfl, Below.refl _ _⟩
          case round =>
            obtain ⟨q, hq, rfl, hb2⟩ := hrel
            obtain ⟨wq, rfl⟩ : ∃ z, z = wr := ⟨_, rfl⟩
            have hz2 := hb2.size
            have HB2 := Lib.hid hb2
            by_cases hql : q < zn
            · obtain ⟨y, hy⟩ : ∃ y, Z[q]? = some y := ⟨_, List.getElem?_eq_getElem (by rw [HZN.out]; exact hql)⟩
              obtain ⟨ga, oa, ea, la, ca⟩ := HX8.out.2 (by omega)
              cases ea
              obtain ⟨gb, ob, eb, lb, cb⟩ := HY8.out.2 (by omega)
              cases eb
              have e := fun (j : Nat) (hj : j < 10) (v : Value) (hv : y.cells[j]? = some v) => (dnC_get hy j hj).trans hv
              have p0 := (hb2.cell (p := ⟨ga, oa + (q * 10 + 0), none⟩) la).trans (ca _ _ (e 0 (by decide) _ rfl))
              have r0 := (hb2.cell (p := ⟨gb, ob + (q * 10 + 0), none⟩) lb).trans (cb _ _ (e 0 (by decide) _ rfl))
              rw [Nat.add_zero] at p0 r0
              have p1 := (hb2.cell (p := ⟨ga, oa + (q * 10 + 1), none⟩) la).trans (ca _ _ (e 1 (by decide) _ rfl))
              have r1 := (hb2.cell (p := ⟨gb, ob + (q * 10 + 1), none⟩) lb).trans (cb _ _ (e 1 (by decide) _ rfl))
              rw [← Nat.add_assoc] at p1 r1
              have p2 := (hb2.cell (p := ⟨ga, oa + (q * 10 + 2), none⟩) la).trans (ca _ _ (e 2 (by decide) _ rfl))
              have r2 := (hb2.cell (p := ⟨gb, ob + (q * 10 + 2), none⟩) lb).trans (cb _ _ (e 2 (by decide) _ rfl))
              rw [← Nat.add_assoc] at p2 r2
              have p3 := (hb2.cell (p := ⟨ga, oa + (q * 10 + 3), none⟩) la).trans (ca _ _ (e 3 (by decide) _ rfl))
              have r3 := (hb2.cell (p := ⟨gb, ob + (q * 10 + 3), none⟩) lb).trans (cb _ _ (e 3 (by decide) _ rfl))
              rw [← Nat.add_assoc] at p3 r3
              have p4 := (hb2.cell (p := ⟨ga, oa + (q * 10 + 4), none⟩) la).trans (ca _ _ (e 4 (by decide) _ rfl))
              have r4 := (hb2.cell (p := ⟨gb, ob + (q * 10 + 4), none⟩) lb).trans (cb _ _ (e 4 (by decide) _ rfl))
              rw [← Nat.add_assoc] at p4 r4
              have p5 := (hb2.cell (p := ⟨ga, oa + (q * 10 + 5), none⟩) la).trans (ca _ _ (e 5 (by decide) _ rfl))
              have r5 := (hb2.cell (p := ⟨gb, ob + (q * 10 + 5), none⟩) lb).trans (cb _ _ (e 5 (by decide) _ rfl))
              rw [← Nat.add_assoc] at p5 r5
              have p6 := (hb2.cell (p := ⟨ga, oa + (q * 10 + 6), none⟩) la).trans (ca _ _ (e 6 (by decide) _ rfl))
              have r6 := (hb2.cell (p := ⟨gb, ob + (q * 10 + 6), none⟩) lb).trans (cb _ _ (e 6 (by decide) _ rfl))
              rw [← Nat.add_assoc] at p6 r6
              have p7 := (hb2.cell (p := ⟨ga, oa + (q * 10 + 7), none⟩) la).trans (ca _ _ (e 7 (by decide) _ rfl))
              have r7 := (hb2.cell (p := ⟨gb, ob + (q * 10 + 7), none⟩) lb).trans (cb _ _ (e 7 (by decide) _ rfl))
              rw [← Nat.add_assoc] at p7 r7
              have p8 := (hb2.cell (p := ⟨ga, oa + (q * 10 + 8), none⟩) la).trans (ca _ _ (e 8 (by decide) _ rfl))
              have r8 := (hb2.cell (p := ⟨gb, ob + (q * 10 + 8), none⟩) lb).trans (cb _ _ (e 8 (by decide) _ rfl))
              rw [← Nat.add_assoc] at p8 r8
              have p9 := (hb2.cell (p := ⟨ga, oa + (q * 10 + 9), none⟩) la).trans (ca _ _ (e 9 (by decide) _ rfl))
              have r9 := (hb2.cell (p := ⟨gb, ob + (q * 10 + 9), none⟩) lb).trans (cb _ _ (e 9 (by decide) _ rfl))
              rw [← Nat.add_assoc] at p9 r9
              have EQ := fun w => neq_dn w y y
              rw [decide_eq_true rfl] at EQ
              have lga : ga < wq.heap.size := by omega
              have lgb : gb < wq.heap.size := by omega
              obtain ⟨x0, x1, x2, x3, x4, x5, x6, x7, x8, x9⟩ := y
              unfold Dn.cells at EQ
              dsimp only at EQ p0 r0 p1 r1 p2 r2 p3 r3 p4 r4 p5 r5 p6 r6 p7 r7 p8 r8 p9 r9
              have i5 : (0 : Int) ≤ (q : Int) := by omega
              have i6 : (q : Int) < (zn : Int) := by omega
              clear ca cb e hy hb2
              go_wp2_with fail
              go_region_held3 (fun w' => w'.cell? ⟨ga, oa + q * 10, none⟩ = some (.int .u32 x0) ∧ w'.cell? ⟨ga, oa + q * 10 + 1, none⟩ = some (.int .i64 x1) ∧ w'.cell? ⟨ga, oa + q * 10 + 2, none⟩ = some (.int .u32 x2) ∧ w'.cell? ⟨ga, oa + q * 10 + 3, none⟩ = some (.int .i64 x3) ∧ w'.cell? ⟨ga, oa + q * 10 + 4, none⟩ = some (.int .i64 x4) ∧ w'.cell? ⟨ga, oa + q * 10 + 5, none⟩ = some (.int .i64 x5) ∧ w'.cell? ⟨ga, oa + q * 10 + 6, none⟩ = some (.int .i64 x6) ∧ w'.cell? ⟨ga, oa + q * 10 + 7, none⟩ = some (.int .i64 x7) ∧ w'.cell? ⟨ga, oa + q * 10 + 8, none⟩ = some (.int .i64 x8) ∧ w'.cell? ⟨ga, oa + q * 10 + 9, none⟩ = some (.bool x9) ∧ w'.cell? ⟨gb, ob + q * 10, none⟩ = some (.int .u32 x0) ∧ w'.cell? ⟨gb, ob + q * 10 + 1, none⟩ = some (.int .i64 x1) ∧ w'.cell? ⟨gb, ob + q * 10 + 2, none⟩ = some (.int .u32 x2) ∧ w'.cell? ⟨gb, ob + q * 10 + 3, none⟩ = some (.int .i64 x3) ∧ w'.cell? ⟨gb, ob + q * 10 + 4, none⟩ = some (.int .i64 x4) ∧ w'.cell? ⟨gb, ob + q * 10 + 5, none⟩ = some (.int .i64 x5) ∧ w'.cell? ⟨gb, ob + q * 10 + 6, none⟩ = some (.int .i64 x6) ∧ w'.cell? ⟨gb, ob + q * 10 + 7, none⟩ = some (.int .i64 x7) ∧ w'.cell? ⟨gb, ob + q * 10 + 8, none⟩ = some (.int .i64 x8) ∧ w'.cell? ⟨gb, ob + q * 10 + 9, none⟩ = some (.bool x9))
                (first | exact ⟨p0, p1, p2, p3, p4, p5, p6, p7, p8, p9, r0, r1, r2, r3, r4, r5, r6, r7, r8, r9⟩ | exact ‹_ ∧ _ ∧ _ ∧ _ ∧ _ ∧ _ ∧ _ ∧ _ ∧ _ ∧ _ ∧ _ ∧ _ ∧ _ ∧ _ ∧ _ ∧ _ ∧ _ ∧ _ ∧ _ ∧ _› | go_keep)
                (fail)
              clear EQ p0 r0 p1 r1 p2 r2 p3 r3 p4 r4 p5 r5 p6 r6 p7 r7 p8 r8 p9 r9
              go_wp2_with fail
              go_roundw
              case rel => exact ⟨q + 1, by omega, by go_num, ⟨HB2.out.os, HB2.out.tape, HB2.out.output, HB2.out.size, HB2.out.block⟩⟩
              case measure => simp [intOf]; omega
            · obtain rfl : q = zn := by omega
              have HT9 := Lib.hid (HT8.out.next hb2)
              have HU9 := Lib.hid (HU8.out.next hb2)
              have HB9 := Lib.hid (bnext HB8.out hb2)
              obtain ⟨w9, rfl⟩ : ∃ z, z = wq := ⟨_, rfl⟩
              clear hb2 hz2 HB2 HT8 HU8 HB8 HX8 HY8
              go_wp2_with fail
              go_loopw [19] (fun v wq => ∃ q : Nat, q ≤ 4 ∧ v = .int .i64 (q : Int) ∧ Below w9.heap.size w9 wq) (fun v _ => 4 - (intOf v).toNat)
              case atStart => exact ⟨0, Nat.zero_le _, rfl, Below.refl _ _⟩
              case round =>
                obtain ⟨p, hp, rfl, hb3⟩ := hrel
                obtain ⟨wp, rfl⟩ : ∃ z, z = wr := ⟨_, rfl⟩
                have hz3 := hb3.size
                have HB3 := Lib.hid hb3
                by_cases hpl : p < 4
                · have j1 : (p : Int) < 4 := by omega
                  have hp64 : I64 (p : Int) := by unfold I64; omega
                  have K1 := osource (HT9.out.next hb3) tr (p : Int) htr64 hp64
                  have K2 := fun w' (b : Below w9.heap.size w9 w') => osource (HU9.out.next b) tr (p : Int) htr64 hp64
                  unfold srcOut at K1 K2
                  rw [source_filter] at K2
                  obtain ⟨xs, hxs⟩ : ∃ z, ((sourceS R tr (p : Int)).getD zeroR).ssrc = z := ⟨_, rfl⟩
                  obtain ⟨bs, hbs⟩ : ∃ z, (sourceS R tr (p : Int)).isSome = z := ⟨_, rfl⟩
                  rw [hxs, hbs] at K1 K2
                  have HK1 := Lib.hid K1
                  have HK2 := Lib.hid K2
                  clear K1 K2 hxs hbs hb3
                  go_wp2_with fail
                  refine HK1.out.mono ?_
                  rintro e w10 ⟨rfl, b10⟩
                  have HB10 := Lib.hid (show Below w9.heap.size w9 w10 from HB3.out.trans (b10.mono hz3))
                  clear b10 HK1
                  go_wp2_with fail
                  refine (HK2.out _ HB10.out).mono ?_
                  rintro e w11 ⟨rfl, b11⟩
                  have HB11 := Lib.hid (show Below w9.heap.size w9 w11 from HB10.out.trans (b11.mono HB10.out.size))
                  clear b11 HK2 HB10
                  go_wp2_with fail
                  go_roundw
                  case rel => exact ⟨p + 1, by omega, by go_num, HB11.out⟩
                  case measure => simp [intOf]; omega
                · obtain rfl : p = 4 := by omega
                  have HE := Lib.hid (bnext HB9.out hb3)
                  clear hb3 hz3 HB3
                  go_wp2_with fail
                  go_ret
                  exact ⟨rfl, HE.out⟩
theorem walk (w : World) (A0 : Option Addr) (c0 : Nat) (l0 : List Rt) (hl0 : l0.length ≤ maxLen) (hr0 : Row w w.heap.size 5 A0 l0.length (rowC Rt.cells l0)) (ho0 : ∀ a ∈ l0, a.Fit) (A1 : Option Addr) (c1 : Nat) (l1 : List Dn) (hl1 : l1.length ≤ maxLen) (hr1 : Row w w.heap.size 10 A1 l1.length (rowC Dn.cells l1)) (ho1 : ∀ a ∈ l1, a.Fit) (a2 : Int) (w2 : (Lit.int .i64 a2).wf = true) : Calls Try.prog 6 #[.slice A0 l0.length c0, .slice A1 l1.length c1, .int .i64 a2] w fun e w' => e = .returned (.bool true) ∧ Below w.heap.size w w' :=
  walk17o A0 c0 l0 A1 c1 l1 a2 w hr0 hr1 ho0 ho1 hl0 hl1 (I64.of w2)

set_option maxRecDepth 100000 in
theorem lifted (os : Os) (started : os.Started) (H : Type) (enc : TypeId × Value → H) :
    ReturnsInHanded {} Try.checked os 6 .any (Rows.tableOthersSpec.pre6 enc Try.prog Try.f6 Rows.tableOthersRow.domain false) (Rows.tableOthersSpec.post enc Try.prog Try.f6 false true false false) := by
  refine returnsInHanded_of_change (C := Try.checked) own started (by kernel_rfl) Try.func6
    (ChangeSpec.witness6 (enc := enc) (C := Try.checked) false ⟨#[], #[.slice none 0 0, .slice none 0 0, .int .i64 0], []⟩ 8 (by kernel_rfl) (by kernel_rfl) (by kernel_rfl) (by kernel_rfl)) ?_
  intro W base args ds gs before hval0 hW _ _
  have hval : ∀ (j : Nat) t v, Try.f6.params[j]? = some t → args[j]? = some v → Value.okWide Try.prog W .any base t v := hval0
  have hW' := hW
  obtain ⟨p, q, hA0, hV, _, _, _⟩ := hW
  have hA : DataW.TrodAll enc Try.prog W 0 (fun _ => true) true Try.f6.params.toList args.toList ds p := hA0
  rw [Try.params6] at hA hval
  obtain ⟨v0, vs0, d0, ds0, p0, q0, hargs, rfl, _, h0, r0⟩ := trodAll_cons hA
  obtain ⟨v1, vs1, d1, ds1, p1, q1, rfl, rfl, _, h1, r1⟩ := trodAll_cons r0
  obtain ⟨v2, vs2, d2, ds2, p2, q2, rfl, rfl, _, h2, r2⟩ := trodAll_cons r1
  obtain ⟨rfl, rfl, _⟩ := trodAll_nil r2
  obtain rfl : args = #[v0, v1, v2] := by cases args; simp_all
  obtain ⟨rfl, _⟩ := trodVars_none hV
  refine law_post (s := Rows.tableOthersSpec) rfl rfl (by rw [Try.params6]; intro t ht; simp at ht; rcases ht with rfl | rfl | rfl <;> exact ⟨by kernel_rfl, of_decide_eq_true (by kernel_rfl)⟩) rfl hW' ?_
  obtain ⟨A0, c0, l0, rfl, hl0, hr0, ho0⟩ := open_routes17 (hval 0 23 v0 rfl rfl) h0
  obtain ⟨A1, c1, l1, rfl, hl1, hr1, ho1⟩ := open_downs17 (hval 1 24 v1 rfl rfl) h1
  obtain ⟨a2, rfl, _, _, w2⟩ := open_int Try.underlying3 (hval 2 3 v2 rfl rfl) h2
  exact walk W A0 c0 l0 hl0 hr0 ho0 A1 c1 l1 hl1 hr1 ho1 a2 w2

theorem over : Rows.tableOthersRow.holds Try.pinned (OpenSpec.ofChange Rows.tableOthersSpec) :=
  OpenClaim.holds_of_wide 6 Try.f6 rfl rfl rfl rfl rfl rfl rfl ⟨rfl, rfl, rfl, rfl, rfl⟩ rfl rfl rfl rfl rfl (by kernel_rfl) Try.func6 (by kernel_rfl)
    (of_decide_eq_true (by kernel_rfl)) (by unfold Func.isWrapper; first | (rw [if_pos (by decide +kernel)]; kernel_rfl) | (rw [if_neg (by decide +kernel)]; exact ⟨rfl, rfl⟩))
    (fun os started H enc _ => lifted os started H enc)

/-- The statement. -/
theorem tableOthers_holds : Rows.TableOthersSaid := over

end Go.Proofs.Ytgjhcnpegaemoaa.TOthers
