/-
  Proved: TableStays returns true for all routes and downtracks: a table stays as it is, whatever becomes of what it was made of, and of what it told; told the other way round it is the same. Conditions: none.
-/
import Derived.Test.YtgjhcnpegaemoaaTbS
import Derived.Test.YtgjhcnpegaemoaaLift
namespace Go.Proofs.Ytgjhcnpegaemoaa.TStays
open Go.ChangeShapes Go.WideShapes Go.ChangeAt Go.RowKit
set_option linter.unusedSimpArgs false
set_option linter.unusedVariables false
set_option maxRecDepth 1000000
--PP
set_option maxHeartbeats 12800000 in
theorem walk17s (A : Option Addr) (c : Nat) (R : List Rt) (B : Option Addr) (d : Nat) (D : List Dn) (w : World) (hA : Row w w.heap.size 5 A R.length (rtC R)) (hB : Row w w.heap.size 10 B D.length (dnC D)) (hR : ∀ x ∈ R, x.Fit) (hD : ∀ x ∈ D, x.Fit) (hRl : R.length ≤ maxLen) (hDl : D.length ≤ maxLen) :
    Calls Try.prog 4 #[.slice A R.length c, .slice B D.length d] w fun e w' => e = .returned (.bool true) ∧ Below w.heap.size w w' := by
  have C0 := Lib.hid (fun w => awake17 w)
  obtain ⟨n, hn⟩ : ∃ n, R.length = n := ⟨_, rfl⟩
  obtain ⟨m, hm⟩ : ∃ m, D.length = m := ⟨_, rfl⟩
  rw [hn] at hA hRl ⊢
  rw [hm] at hB hDl ⊢
  unfold maxLen at hRl hDl
  have HN := Lib.hid hn
  have HM := Lib.hid hm
  have HA := Lib.hid hA
  have HB := Lib.hid hB
  clear hA hB hn hm
  by_cases hlen : 60 < n ∨ (¬ 60 < n ∧ 60 < m)
  · have hd : (60 : Int) < (n : Int) ∨ (¬ (60 : Int) < (n : Int) ∧ (60 : Int) < (m : Int)) := by omega
    clear hlen HA HB HN HM hRl hDl
    rcases hd with hd | ⟨hd1, hd⟩
    all_goals
      go_enter Try.func4, Try.ntmps4
      go_wp2_with fail
      refine (C0.out w).mono ?_
      rintro e w1 ⟨rfl, b1⟩
      have HB1 := Lib.hid b1
      clear b1 C0
      go_wp2_with fail
      go_ret
      exact ⟨rfl, HB1.out⟩
  have hn60 : ¬ (60 : Int) < (n : Int) := by omega
  have hm60 : ¬ (60 : Int) < (m : Int) := by omega
  have hnn : n ≤ 60 := by omega
  have hmm : m ≤ 60 := by omega
  clear hRl hDl hlen
  go_enter Try.func4, Try.ntmps4
  go_wp2_with fail
  refine (C0.out w).mono ?_
  rintro e w1 ⟨rfl, b1⟩
  have HB1 := Lib.hid b1
  have HA0 := Lib.hid HA.out
  have HE0 := Lib.hid HB.out
  have HA1 := Lib.hid ((HA.out.below b1 (Nat.le_refl _)).more b1.size)
  have HE1 := Lib.hid ((HB.out.below b1 (Nat.le_refl _)).more b1.size)
  clear b1 C0 HA HB
  go_wp2_with fail
  clear hn60 hm60
  go_loopw [6, 7, 10] (fun v u i wr => ∃ k : Nat, k ≤ n ∧ i = .int .i64 (k : Int) ∧ wr.ownsRow w1.heap.size 37 5 v k (rtC (R.take k)) ∧ wr.ownsRow w1.heap.size 37 5 u k (rtC (R.reverse.take k)) ∧ Ap v u ∧ Below w1.heap.size w1 wr) (fun _ _ i _ => n - (intOf i).toNat)
  case atStart => exact ⟨0, Nat.zero_le _, rfl, World.ownsRow_nil _ _ _ _, World.ownsRow_nil _ _ _ _, Ap.nil _, Below.refl _ _⟩
  case round =>
    obtain ⟨k, hk, rfl, hv, hu, hap, hb⟩ := hrel
    obtain ⟨Av, cv, rfl⟩ := own_form hv
    obtain ⟨Au, cu, rfl⟩ := own_form hu
    have HV := Lib.hid hv
    have HU := Lib.hid hu
    have HAP := Lib.hid hap
    have HBr := Lib.hid hb
    have hsz := hb.size
    clear hv hu hap
    by_cases hlt : k < n
    · obtain ⟨x, hx⟩ : ∃ x, R[k]? = some x := ⟨_, List.getElem?_eq_getElem (by rw [HN.out]; exact hlt)⟩
      obtain ⟨j, hj⟩ : ∃ j, n - 1 - k = j := ⟨_, rfl⟩
      obtain ⟨n1, hn1⟩ : ∃ z, n - 1 = z := ⟨_, rfl⟩
      obtain ⟨y, hy⟩ : ∃ y, R[j]? = some y := ⟨_, List.getElem?_eq_getElem (by rw [HN.out]; omega)⟩
      have hry : R.reverse[k]? = some y := by rw [rev_at (by rw [HN.out]; exact hlt), HN.out, hj]; exact hy
      have HT1 := Lib.hid (show rtC (R.take (k + 1)) = rtC (R.take k) ++ x.cells by rw [take_add hx, rtC_add])
      have HT2 := Lib.hid (show rtC (R.reverse.take (k + 1)) = rtC (R.reverse.take k) ++ y.cells by rw [take_add hry, rtC_add])
      obtain ⟨ga, oa, ea, la, ca⟩ := HA1.out.2 (by omega)
      cases ea
      have HGA := Lib.hid la
      have p0 := (hb.cell (p := ⟨ga, oa + (k * 5 + 0), none⟩) la).trans (ca _ _ ((rtC_get hx 0 (by decide)).trans rfl))
      have r0 := (hb.cell (p := ⟨ga, oa + (j * 5 + 0), none⟩) la).trans (ca _ _ ((rtC_get hy 0 (by decide)).trans rfl))
      rw [Nat.add_zero] at p0 r0
      have p1 := (hb.cell (p := ⟨ga, oa + (k * 5 + 1), none⟩) la).trans (ca _ _ ((rtC_get hx 1 (by decide)).trans rfl))
      have r1 := (hb.cell (p := ⟨ga, oa + (j * 5 + 1), none⟩) la).trans (ca _ _ ((rtC_get hy 1 (by decide)).trans rfl))
      rw [← Nat.add_assoc] at p1 r1
      have p2 := (hb.cell (p := ⟨ga, oa + (k * 5 + 2), none⟩) la).trans (ca _ _ ((rtC_get hx 2 (by decide)).trans rfl))
      have r2 := (hb.cell (p := ⟨ga, oa + (j * 5 + 2), none⟩) la).trans (ca _ _ ((rtC_get hy 2 (by decide)).trans rfl))
      rw [← Nat.add_assoc] at p2 r2
      have p3 := (hb.cell (p := ⟨ga, oa + (k * 5 + 3), none⟩) la).trans (ca _ _ ((rtC_get hx 3 (by decide)).trans rfl))
      have r3 := (hb.cell (p := ⟨ga, oa + (j * 5 + 3), none⟩) la).trans (ca _ _ ((rtC_get hy 3 (by decide)).trans rfl))
      rw [← Nat.add_assoc] at p3 r3
      have p4 := (hb.cell (p := ⟨ga, oa + (k * 5 + 4), none⟩) la).trans (ca _ _ ((rtC_get hx 4 (by decide)).trans rfl))
      have r4 := (hb.cell (p := ⟨ga, oa + (j * 5 + 4), none⟩) la).trans (ca _ _ ((rtC_get hy 4 (by decide)).trans rfl))
      rw [← Nat.add_assoc] at p4 r4
      have lga : ga < wr.heap.size := by omega
      have i0 : (0 : Int) ≤ (k : Int) := by omega
      have i1 : (k : Int) < (n : Int) := by omega
      have i2 : (n : Int) - 1 = (n1 : Int) := by omega
      have i3 : (n1 : Int) - (k : Int) = (j : Int) := by omega
      have i4 : (0 : Int) ≤ (j : Int) := by omega
      have i5 : (j : Int) < (n : Int) := by omega
      skip
      obtain ⟨a0, a1, a2, a3, a4⟩ := x
      obtain ⟨e0, e1, e2, e3, e4⟩ := y
      try dsimp only at p0 r0 p1 r1 p2 r2 p3 r3 p4 r4
      have HRC := Lib.hid (show wr.cell? ⟨ga, oa + j * 5, none⟩ = some (.int .u32 e0) ∧ wr.cell? ⟨ga, oa + j * 5 + 1, none⟩ = some (.int .i64 e1) ∧ wr.cell? ⟨ga, oa + j * 5 + 2, none⟩ = some (.int .i64 e2) ∧ wr.cell? ⟨ga, oa + j * 5 + 3, none⟩ = some (.int .i64 e3) ∧ wr.cell? ⟨ga, oa + j * 5 + 4, none⟩ = some (.int .i64 e4) from ⟨r0, r1, r2, r3, r4⟩)
      clear hx hy hry hj hn1 ca hb la r0 r1 r2 r3 r4
      have HR8 := Lib.hid (Row.fresh wr 37 #[.int .u32 a0, .int .i64 a1, .int .i64 a2, .int .i64 a3, .int .i64 a4] 5 1 [.int .u32 a0, .int .i64 a1, .int .i64 a2, .int .i64 a3, .int .i64 a4] rfl rfl)
      go_wp2_with (at_builtin; refine wpl_append _ rfl (.tmp 48) (.tmp 53) 23 rfl w1.heap.size 37 (.agg #[.int .u32 0, .int .i64 0, .int .i64 0, .int .i64 0, .int .i64 0]) 5 40 Try.underlying23 info_tr rfl (by decide) _ k (rtC (R.take k)) rfl (HV.out.alloc _) _ (some ⟨wr.heap.size, 0, none⟩) 1 1 [.int .u32 a0, .int .i64 a1, .int .i64 a2, .int .i64 a3, .int .i64 a4] rfl HR8.out (by simp [Value.oneCell']) ?c1 ?c2 ?c3 ?_)
      case c1 => unfold maxLen; omega
      case c2 => omega
      case c3 => (try simp); omega
      intro v3 w3 hown3 hg3 hat3
      have hs3 : wr.heap.size + 1 ≤ w3.heap.size := by simpa using hg3.size
      have HB3 := Lib.hid (show Below w1.heap.size w1 w3 from (HBr.out.alloc hsz _).grown hg3 (by simp; omega) (fun q hq => (HV.out.lt q hq).1))
      have HV3 := Lib.hid (show w3.ownsRow w1.heap.size 37 5 v3 (k + 1) (rtC (R.take (k + 1))) by rw [HT1.out]; exact hown3)
      have HU3 := Lib.hid (own_grownX (HU.out.alloc (.cells #[.int .u32 a0, .int .i64 a1, .int .i64 a2, .int .i64 a3, .int .i64 a4] 37)) hg3 (fun q hq h => HAP.out.symm q hq h))
      have HAP3 := Lib.hid (HAP.out.grow (HU.out.alloc (.cells #[.int .u32 a0, .int .i64 a1, .int .i64 a2, .int .i64 a3, .int .i64 a4] 37)) (H := wr.heap.size + 1) (by simp) hat3)
      obtain ⟨r0, r1, r2, r3, r4⟩ := HRC.out
      skip
      have hbk : Below w1.heap.size wr w3 := (((Below.refl wr.heap.size wr).mono hsz).alloc hsz _).grown hg3 (by simp; omega) (fun q hq => (HV.out.lt q hq).1)
      have hga : ga < w1.heap.size := HGA.out
      have r0' := (hbk.cell (p := ⟨ga, oa + j * 5, none⟩) hga).trans r0
      have r1' := (hbk.cell (p := ⟨ga, oa + j * 5 + 1, none⟩) hga).trans r1
      have r2' := (hbk.cell (p := ⟨ga, oa + j * 5 + 2, none⟩) hga).trans r2
      have r3' := (hbk.cell (p := ⟨ga, oa + j * 5 + 3, none⟩) hga).trans r3
      have r4' := (hbk.cell (p := ⟨ga, oa + j * 5 + 4, none⟩) hga).trans r4
      obtain ⟨A3, c3, rfl⟩ := own_form HV3.out
      have hs3' : w1.heap.size ≤ w3.heap.size := by omega
      have lg3 : ga < w3.heap.size := by omega
      clear hown3 hg3 hat3 HV HU HAP HR8 HT1 HBr hbk r0 r1 r2 r3 r4 p0 p1 p2 p3 p4
      have HR9 := Lib.hid (Row.fresh w3 37 #[.int .u32 e0, .int .i64 e1, .int .i64 e2, .int .i64 e3, .int .i64 e4] 5 1 [.int .u32 e0, .int .i64 e1, .int .i64 e2, .int .i64 e3, .int .i64 e4] rfl rfl)
      go_wp2_with (at_builtin; refine wpl_append _ rfl (.tmp 55) (.tmp 64) 23 rfl w1.heap.size 37 (.agg #[.int .u32 0, .int .i64 0, .int .i64 0, .int .i64 0, .int .i64 0]) 5 40 Try.underlying23 info_tr rfl (by decide) _ k (rtC (R.reverse.take k)) rfl (HU3.out.alloc _) _ (some ⟨w3.heap.size, 0, none⟩) 1 1 [.int .u32 e0, .int .i64 e1, .int .i64 e2, .int .i64 e3, .int .i64 e4] rfl HR9.out (by simp [Value.oneCell']) ?d1 ?d2 ?d3 ?_)
      case d1 => unfold maxLen; omega
      case d2 => omega
      case d3 => (try simp); omega
      intro v4 w4 hown4 hg4 hat4
      have HB4 := Lib.hid (show Below w1.heap.size w1 w4 from (HB3.out.alloc hs3' _).grown hg4 (by simp; omega) (fun q hq => (HU3.out.lt q hq).1))
      have HU4 := Lib.hid (show w4.ownsRow w1.heap.size 37 5 v4 (k + 1) (rtC (R.reverse.take (k + 1))) by rw [HT2.out]; exact hown4)
      have HV4 := Lib.hid (own_grownX (HV3.out.alloc (.cells #[.int .u32 e0, .int .i64 e1, .int .i64 e2, .int .i64 e3, .int .i64 e4] 37)) hg4 (fun q hq h => HAP3.out q hq h))
      have HAP4 := Lib.hid ((HAP3.out.symm).grow (HV3.out.alloc (.cells #[.int .u32 e0, .int .i64 e1, .int .i64 e2, .int .i64 e3, .int .i64 e4] 37)) (H := w3.heap.size + 1) (by simp) hat4).symm
      clear hown4 hg4 hat4 HV3 HU3 HAP3 HB3 HR9 HT2 r0' r1' r2' r3' r4'
      go_wp2_with fail
      go_roundw
      case rel => exact ⟨k + 1, by omega, by go_num, HV4.out, HU4.out, HAP4.out, HB4.out⟩
      case measure => simp [intOf]; omega
    · obtain rfl : k = n := by omega
      rw [List.take_of_length_le (show R.length ≤ k by rw [HN.out]; exact Nat.le_refl _)] at HV
      rw [List.take_of_length_le (show R.reverse.length ≤ k by rw [List.length_reverse, HN.out]; exact Nat.le_refl _)] at HU
      have HA2 := Lib.hid ((HA1.out.below hb (Nat.le_refl _)).more hsz)
      have HE2 := Lib.hid ((HE1.out.below hb (Nat.le_refl _)).more hsz)
      have HB2 := Lib.hid (bnext HB1.out hb)
      have hw1 := HB1.out.size
      obtain ⟨w2, rfl⟩ : ∃ z, z = wr := ⟨_, rfl⟩
      have HA6 := Lib.hid (own_base HV.out hw1)
      have HA7 := Lib.hid (Row.of_own HU.out)
      obtain ⟨A6, rfl⟩ : ∃ z, z = Av := ⟨_, rfl⟩
      obtain ⟨c6, rfl⟩ : ∃ z, z = cv := ⟨_, rfl⟩
      obtain ⟨A7, rfl⟩ : ∃ z, z = Au := ⟨_, rfl⟩
      obtain ⟨c7, rfl⟩ : ∃ z, z = cu := ⟨_, rfl⟩
      obtain ⟨n, rfl⟩ : ∃ z, z = k := ⟨_, rfl⟩
      clear hb hsz HV HU HAP HBr HA1 HE1 HB1 hlt hk hw1
      go_wp2_with fail
      go_loopw [8, 9, 11] (fun v u i wr => ∃ k : Nat, k ≤ m ∧ i = .int .i64 (k : Int) ∧ wr.ownsRow w2.heap.size 41 10 v k (dnC (D.take k)) ∧ wr.ownsRow w2.heap.size 41 10 u k (dnC (D.reverse.take k)) ∧ Ap v u ∧ Below w2.heap.size w2 wr) (fun _ _ i _ => m - (intOf i).toNat)
      case atStart => exact ⟨0, Nat.zero_le _, rfl, World.ownsRow_nil _ _ _ _, World.ownsRow_nil _ _ _ _, Ap.nil _, Below.refl _ _⟩
      case round =>
        obtain ⟨k, hk, rfl, hv, hu, hap, hb⟩ := hrel
        obtain ⟨Av, cv, rfl⟩ := own_form hv
        obtain ⟨Au, cu, rfl⟩ := own_form hu
        have HV := Lib.hid hv
        have HU := Lib.hid hu
        have HAP := Lib.hid hap
        have HBr := Lib.hid hb
        have hsz := hb.size
        clear hv hu hap
        by_cases hlt : k < m
        · obtain ⟨x, hx⟩ : ∃ x, D[k]? = some x := ⟨_, List.getElem?_eq_getElem (by rw [HM.out]; exact hlt)⟩
          obtain ⟨j, hj⟩ : ∃ j, m - 1 - k = j := ⟨_, rfl⟩
          obtain ⟨n1, hn1⟩ : ∃ z, m - 1 = z := ⟨_, rfl⟩
          obtain ⟨y, hy⟩ : ∃ y, D[j]? = some y := ⟨_, List.getElem?_eq_getElem (by rw [HM.out]; omega)⟩
          have hry : D.reverse[k]? = some y := by rw [rev_at (by rw [HM.out]; exact hlt), HM.out, hj]; exact hy
          have HT1 := Lib.hid (show dnC (D.take (k + 1)) = dnC (D.take k) ++ x.cells by rw [take_add hx, dnC_add])
          have HT2 := Lib.hid (show dnC (D.reverse.take (k + 1)) = dnC (D.reverse.take k) ++ y.cells by rw [take_add hry, dnC_add])
          obtain ⟨ga, oa, ea, la, ca⟩ := HE2.out.2 (by omega)
          cases ea
          have HGA := Lib.hid la
          have p0 := (hb.cell (p := ⟨ga, oa + (k * 10 + 0), none⟩) la).trans (ca _ _ ((dnC_get hx 0 (by decide)).trans rfl))
          have r0 := (hb.cell (p := ⟨ga, oa + (j * 10 + 0), none⟩) la).trans (ca _ _ ((dnC_get hy 0 (by decide)).trans rfl))
          rw [Nat.add_zero] at p0 r0
          have p1 := (hb.cell (p := ⟨ga, oa + (k * 10 + 1), none⟩) la).trans (ca _ _ ((dnC_get hx 1 (by decide)).trans rfl))
          have r1 := (hb.cell (p := ⟨ga, oa + (j * 10 + 1), none⟩) la).trans (ca _ _ ((dnC_get hy 1 (by decide)).trans rfl))
          rw [← Nat.add_assoc] at p1 r1
          have p2 := (hb.cell (p := ⟨ga, oa + (k * 10 + 2), none⟩) la).trans (ca _ _ ((dnC_get hx 2 (by decide)).trans rfl))
          have r2 := (hb.cell (p := ⟨ga, oa + (j * 10 + 2), none⟩) la).trans (ca _ _ ((dnC_get hy 2 (by decide)).trans rfl))
          rw [← Nat.add_assoc] at p2 r2
          have p3 := (hb.cell (p := ⟨ga, oa + (k * 10 + 3), none⟩) la).trans (ca _ _ ((dnC_get hx 3 (by decide)).trans rfl))
          have r3 := (hb.cell (p := ⟨ga, oa + (j * 10 + 3), none⟩) la).trans (ca _ _ ((dnC_get hy 3 (by decide)).trans rfl))
          rw [← Nat.add_assoc] at p3 r3
          have p4 := (hb.cell (p := ⟨ga, oa + (k * 10 + 4), none⟩) la).trans (ca _ _ ((dnC_get hx 4 (by decide)).trans rfl))
          have r4 := (hb.cell (p := ⟨ga, oa + (j * 10 + 4), none⟩) la).trans (ca _ _ ((dnC_get hy 4 (by decide)).trans rfl))
          rw [← Nat.add_assoc] at p4 r4
          have p5 := (hb.cell (p := ⟨ga, oa + (k * 10 + 5), none⟩) la).trans (ca _ _ ((dnC_get hx 5 (by decide)).trans rfl))
          have r5 := (hb.cell (p := ⟨ga, oa + (j * 10 + 5), none⟩) la).trans (ca _ _ ((dnC_get hy 5 (by decide)).trans rfl))
          rw [← Nat.add_assoc] at p5 r5
          have p6 := (hb.cell (p := ⟨ga, oa + (k * 10 + 6), none⟩) la).trans (ca _ _ ((dnC_get hx 6 (by decide)).trans rfl))
          have r6 := (hb.cell (p := ⟨ga, oa + (j * 10 + 6), none⟩) la).trans (ca _ _ ((dnC_get hy 6 (by decide)).trans rfl))
          rw [← Nat.add_assoc] at p6 r6
          have p7 := (hb.cell (p := ⟨ga, oa + (k * 10 + 7), none⟩) la).trans (ca _ _ ((dnC_get hx 7 (by decide)).trans rfl))
          have r7 := (hb.cell (p := ⟨ga, oa + (j * 10 + 7), none⟩) la).trans (ca _ _ ((dnC_get hy 7 (by decide)).trans rfl))
          rw [← Nat.add_assoc] at p7 r7
          have p8 := (hb.cell (p := ⟨ga, oa + (k * 10 + 8), none⟩) la).trans (ca _ _ ((dnC_get hx 8 (by decide)).trans rfl))
          have r8 := (hb.cell (p := ⟨ga, oa + (j * 10 + 8), none⟩) la).trans (ca _ _ ((dnC_get hy 8 (by decide)).trans rfl))
          rw [← Nat.add_assoc] at p8 r8
          have p9 := (hb.cell (p := ⟨ga, oa + (k * 10 + 9), none⟩) la).trans (ca _ _ ((dnC_get hx 9 (by decide)).trans rfl))
          have r9 := (hb.cell (p := ⟨ga, oa + (j * 10 + 9), none⟩) la).trans (ca _ _ ((dnC_get hy 9 (by decide)).trans rfl))
          rw [← Nat.add_assoc] at p9 r9
          have lga : ga < wr.heap.size := by omega
          have i0 : (0 : Int) ≤ (k : Int) := by omega
          have i1 : (k : Int) < (m : Int) := by omega
          have i2 : (m : Int) - 1 = (n1 : Int) := by omega
          have i3 : (n1 : Int) - (k : Int) = (j : Int) := by omega
          have i4 : (0 : Int) ≤ (j : Int) := by omega
          have i5 : (j : Int) < (m : Int) := by omega
          skip
          obtain ⟨a0, a1, a2, a3, a4, a5, a6, a7, a8, a9⟩ := x
          obtain ⟨e0, e1, e2, e3, e4, e5, e6, e7, e8, e9⟩ := y
          try dsimp only at p0 r0 p1 r1 p2 r2 p3 r3 p4 r4 p5 r5 p6 r6 p7 r7 p8 r8 p9 r9
          have HRC := Lib.hid (show wr.cell? ⟨ga, oa + j * 10, none⟩ = some (.int .u32 e0) ∧ wr.cell? ⟨ga, oa + j * 10 + 1, none⟩ = some (.int .i64 e1) ∧ wr.cell? ⟨ga, oa + j * 10 + 2, none⟩ = some (.int .u32 e2) ∧ wr.cell? ⟨ga, oa + j * 10 + 3, none⟩ = some (.int .i64 e3) ∧ wr.cell? ⟨ga, oa + j * 10 + 4, none⟩ = some (.int .i64 e4) ∧ wr.cell? ⟨ga, oa + j * 10 + 5, none⟩ = some (.int .i64 e5) ∧ wr.cell? ⟨ga, oa + j * 10 + 6, none⟩ = some (.int .i64 e6) ∧ wr.cell? ⟨ga, oa + j * 10 + 7, none⟩ = some (.int .i64 e7) ∧ wr.cell? ⟨ga, oa + j * 10 + 8, none⟩ = some (.int .i64 e8) ∧ wr.cell? ⟨ga, oa + j * 10 + 9, none⟩ = some (.bool e9) from ⟨r0, r1, r2, r3, r4, r5, r6, r7, r8, r9⟩)
          clear hx hy hry hj hn1 ca hb la r0 r1 r2 r3 r4 r5 r6 r7 r8 r9
          have HR8 := Lib.hid (Row.fresh wr 41 #[.int .u32 a0, .int .i64 a1, .int .u32 a2, .int .i64 a3, .int .i64 a4, .int .i64 a5, .int .i64 a6, .int .i64 a7, .int .i64 a8, .bool a9] 10 1 [.int .u32 a0, .int .i64 a1, .int .u32 a2, .int .i64 a3, .int .i64 a4, .int .i64 a5, .int .i64 a6, .int .i64 a7, .int .i64 a8, .bool a9] rfl rfl)
          go_wp2_with (at_builtin; refine wpl_append _ rfl (.tmp 72) (.tmp 77) 24 rfl w2.heap.size 41 (.agg #[.int .u32 0, .int .i64 0, .int .u32 0, .int .i64 0, .int .i64 0, .int .i64 0, .int .i64 0, .int .i64 0, .int .i64 0, .bool false]) 10 80 Try.underlying24 info_td rfl (by decide) _ k (dnC (D.take k)) rfl (HV.out.alloc _) _ (some ⟨wr.heap.size, 0, none⟩) 1 1 [.int .u32 a0, .int .i64 a1, .int .u32 a2, .int .i64 a3, .int .i64 a4, .int .i64 a5, .int .i64 a6, .int .i64 a7, .int .i64 a8, .bool a9] rfl HR8.out (by simp [Value.oneCell']) ?c1 ?c2 ?c3 ?_)
          case c1 => unfold maxLen; omega
          case c2 => omega
          case c3 => (try simp); omega
          intro v3 w3 hown3 hg3 hat3
          have hs3 : wr.heap.size + 1 ≤ w3.heap.size := by simpa using hg3.size
          have HB3 := Lib.hid (show Below w2.heap.size w2 w3 from (HBr.out.alloc hsz _).grown hg3 (by simp; omega) (fun q hq => (HV.out.lt q hq).1))
          have HV3 := Lib.hid (show w3.ownsRow w2.heap.size 41 10 v3 (k + 1) (dnC (D.take (k + 1))) by rw [HT1.out]; exact hown3)
          have HU3 := Lib.hid (own_grownX (HU.out.alloc (.cells #[.int .u32 a0, .int .i64 a1, .int .u32 a2, .int .i64 a3, .int .i64 a4, .int .i64 a5, .int .i64 a6, .int .i64 a7, .int .i64 a8, .bool a9] 41)) hg3 (fun q hq h => HAP.out.symm q hq h))
          have HAP3 := Lib.hid (HAP.out.grow (HU.out.alloc (.cells #[.int .u32 a0, .int .i64 a1, .int .u32 a2, .int .i64 a3, .int .i64 a4, .int .i64 a5, .int .i64 a6, .int .i64 a7, .int .i64 a8, .bool a9] 41)) (H := wr.heap.size + 1) (by simp) hat3)
          obtain ⟨r0, r1, r2, r3, r4, r5, r6, r7, r8, r9⟩ := HRC.out
          skip
          have hbk : Below w2.heap.size wr w3 := (((Below.refl wr.heap.size wr).mono hsz).alloc hsz _).grown hg3 (by simp; omega) (fun q hq => (HV.out.lt q hq).1)
          have hga : ga < w2.heap.size := HGA.out
          have r0' := (hbk.cell (p := ⟨ga, oa + j * 10, none⟩) hga).trans r0
          have r1' := (hbk.cell (p := ⟨ga, oa + j * 10 + 1, none⟩) hga).trans r1
          have r2' := (hbk.cell (p := ⟨ga, oa + j * 10 + 2, none⟩) hga).trans r2
          have r3' := (hbk.cell (p := ⟨ga, oa + j * 10 + 3, none⟩) hga).trans r3
          have r4' := (hbk.cell (p := ⟨ga, oa + j * 10 + 4, none⟩) hga).trans r4
          have r5' := (hbk.cell (p := ⟨ga, oa + j * 10 + 5, none⟩) hga).trans r5
          have r6' := (hbk.cell (p := ⟨ga, oa + j * 10 + 6, none⟩) hga).trans r6
          have r7' := (hbk.cell (p := ⟨ga, oa + j * 10 + 7, none⟩) hga).trans r7
          have r8' := (hbk.cell (p := ⟨ga, oa + j * 10 + 8, none⟩) hga).trans r8
          have r9' := (hbk.cell (p := ⟨ga, oa + j * 10 + 9, none⟩) hga).trans r9
          obtain ⟨A3, c3, rfl⟩ := own_form HV3.out
          have hs3' : w2.heap.size ≤ w3.heap.size := by omega
          have lg3 : ga < w3.heap.size := by omega
          clear hown3 hg3 hat3 HV HU HAP HR8 HT1 HBr hbk r0 r1 r2 r3 r4 r5 r6 r7 r8 r9 p0 p1 p2 p3 p4 p5 p6 p7 p8 p9
          have HR9 := Lib.hid (Row.fresh w3 41 #[.int .u32 e0, .int .i64 e1, .int .u32 e2, .int .i64 e3, .int .i64 e4, .int .i64 e5, .int .i64 e6, .int .i64 e7, .int .i64 e8, .bool e9] 10 1 [.int .u32 e0, .int .i64 e1, .int .u32 e2, .int .i64 e3, .int .i64 e4, .int .i64 e5, .int .i64 e6, .int .i64 e7, .int .i64 e8, .bool e9] rfl rfl)
          go_wp2_with (at_builtin; refine wpl_append _ rfl (.tmp 79) (.tmp 88) 24 rfl w2.heap.size 41 (.agg #[.int .u32 0, .int .i64 0, .int .u32 0, .int .i64 0, .int .i64 0, .int .i64 0, .int .i64 0, .int .i64 0, .int .i64 0, .bool false]) 10 80 Try.underlying24 info_td rfl (by decide) _ k (dnC (D.reverse.take k)) rfl (HU3.out.alloc _) _ (some ⟨w3.heap.size, 0, none⟩) 1 1 [.int .u32 e0, .int .i64 e1, .int .u32 e2, .int .i64 e3, .int .i64 e4, .int .i64 e5, .int .i64 e6, .int .i64 e7, .int .i64 e8, .bool e9] rfl HR9.out (by simp [Value.oneCell']) ?d1 ?d2 ?d3 ?_)
          case d1 => unfold maxLen; omega
          case d2 => omega
          case d3 => (try simp); omega
          intro v4 w4 hown4 hg4 hat4
          have HB4 := Lib.hid (show Below w2.heap.size w2 w4 from (HB3.out.alloc hs3' _).grown hg4 (by simp; omega) (fun q hq => (HU3.out.lt q hq).1))
          have HU4 := Lib.hid (show w4.ownsRow w2.heap.size 41 10 v4 (k + 1) (dnC (D.reverse.take (k + 1))) by rw [HT2.out]; exact hown4)
          have HV4 := Lib.hid (own_grownX (HV3.out.alloc (.cells #[.int .u32 e0, .int .i64 e1, .int .u32 e2, .int .i64 e3, .int .i64 e4, .int .i64 e5, .int .i64 e6, .int .i64 e7, .int .i64 e8, .bool e9] 41)) hg4 (fun q hq h => HAP3.out q hq h))
          have HAP4 := Lib.hid ((HAP3.out.symm).grow (HV3.out.alloc (.cells #[.int .u32 e0, .int .i64 e1, .int .u32 e2, .int .i64 e3, .int .i64 e4, .int .i64 e5, .int .i64 e6, .int .i64 e7, .int .i64 e8, .bool e9] 41)) (H := w3.heap.size + 1) (by simp) hat4).symm
          clear hown4 hg4 hat4 HV3 HU3 HAP3 HB3 HR9 HT2 r0' r1' r2' r3' r4' r5' r6' r7' r8' r9'
          go_wp2_with fail
          go_roundw
          case rel => exact ⟨k + 1, by omega, by go_num, HV4.out, HU4.out, HAP4.out, HB4.out⟩
          case measure => simp [intOf]; omega
        · obtain rfl : k = m := by omega
          rw [List.take_of_length_le (show D.length ≤ k by rw [HM.out]; exact Nat.le_refl _)] at HV
          rw [List.take_of_length_le (show D.reverse.length ≤ k by rw [List.length_reverse, HM.out]; exact Nat.le_refl _)] at HU
          have HA3 := Lib.hid ((HA2.out.below hb (Nat.le_refl _)).more hsz)
          have HE3 := Lib.hid ((HE2.out.below hb (Nat.le_refl _)).more hsz)
          have HB3 := Lib.hid (bnext HB2.out hb)
          have hw2 := HB2.out.size
          obtain ⟨w3, rfl⟩ : ∃ z, z = wr := ⟨_, rfl⟩
          have HV6 := Lib.hid (own_below HA6.out hb (Nat.le_refl _))
          have HV7 := Lib.hid ((HA7.out.below hb (Nat.le_refl _)).more hsz)
          have HV8 := Lib.hid (own_base HV.out hw2)
          have HV9 := Lib.hid (Row.of_own HU.out)
          obtain ⟨A8, rfl⟩ : ∃ z, z = Av := ⟨_, rfl⟩
          obtain ⟨c8, rfl⟩ : ∃ z, z = cv := ⟨_, rfl⟩
          obtain ⟨A9, rfl⟩ : ∃ z, z = Au := ⟨_, rfl⟩
          obtain ⟨c9, rfl⟩ : ∃ z, z = cu := ⟨_, rfl⟩
          obtain ⟨m, rfl⟩ : ∃ z, z = k := ⟨_, rfl⟩
          have HAP68 := Lib.hid (show Ap (.slice A6 n c6) (.slice A8 m c8) from fun q h1 h2 => by have h3 := (HA6.out.lt q h1).2; have h4 := (HV.out.lt q h2).1; omega)
          clear hb hsz HV HU HAP HBr HA2 HE2 HB2 HA6 HA7 hlt hk hw2
          obtain ⟨mb, hmb⟩ : ∃ b, decide (May R D) = b := ⟨_, rfl⟩
          have hmb2 : decide (May R.reverse D.reverse) = mb := by rw [← hmb]; exact decide_eq_decide.2 May.reverse
          have CM := tmake_any 1 A6 c6 R A8 c8 D w3 (by rw [HN.out]; exact Row.of_own HV6.out) (by rw [HM.out]; exact Row.of_own HV8.out) (by rw [HN.out]; exact hnn) (by rw [HM.out]; exact hmm) hR hD
          rw [HN.out, HM.out] at CM
          replace CM := Lib.hid CM
          have CN := fun w h1 h2 => tmake_any 1 A7 c7 R.reverse A9 c9 D.reverse w h1 h2 (by rw [List.length_reverse, HN.out]; exact hnn) (by rw [List.length_reverse, HM.out]; exact hmm) (fun x hx => hR x (List.mem_reverse.1 hx)) (fun x hx => hD x (List.mem_reverse.1 hx))
          rw [List.length_reverse, List.length_reverse, HN.out, HM.out] at CN
          replace CN := Lib.hid CN
          have HMB := Lib.hid hmb
          have HMB2 := Lib.hid hmb2
          clear hmb hmb2
          go_wp2_with fail
          refine CM.out.mono ?_
          intro e w4 hmade
          obtain ⟨P, S, rfl, t4, s4, b4, p1, p0⟩ := hmade.op
          rw [HMB.out] at t4 p1 p0 ⊢
          have HT4 := Lib.hid t4
          have HS4 := Lib.hid s4
          have HB4 := Lib.hid (bnext HB3.out b4)
          have HB4' := Lib.hid b4
          have HA4 := Lib.hid ((HA3.out.below b4 (Nat.le_refl _)).more b4.size)
          have HE4 := Lib.hid ((HE3.out.below b4 (Nat.le_refl _)).more b4.size)
          have HW6 := Lib.hid (own_below HV6.out b4 (Nat.le_refl _))
          have HW7 := Lib.hid ((HV7.out.below b4 (Nat.le_refl _)).more b4.size)
          have HW8 := Lib.hid (own_below HV8.out b4 (Nat.le_refl _))
          have HW9 := Lib.hid ((HV9.out.below b4 (Nat.le_refl _)).more b4.size)
          obtain ⟨er, her⟩ : ∃ z : Int, (if mb = true then 0 else 1) = z := ⟨_, rfl⟩
          rw [her]
          have HER := Lib.hid her
          clear hmade t4 s4 b4 p1 p0 HB3 HA3 HE3 HV7 HV9 CM
          go_wp2_with fail
          refine (CN.out _ HW7.out HW9.out).mono ?_
          intro e w5 hmade
          obtain ⟨P5, S5, rfl, t5, s5, b5, p1, p0⟩ := hmade.op
          rw [HMB2.out] at t5 p1 p0 ⊢
          rw [her]
          clear her
          have HT5 := Lib.hid (HT4.out.next b5)
          have HU5 := Lib.hid t5
          have HS5 := Lib.hid (fun k h => Nat.le_trans HB4'.out.size (s5 k h))
          have HB5 := Lib.hid (bnext HB4.out b5)
          have HA5 := Lib.hid ((HA4.out.below b5 (Nat.le_refl _)).more b5.size)
          have HE5 := Lib.hid ((HE4.out.below b5 (Nat.le_refl _)).more b5.size)
          have HX6 := Lib.hid (own_below HW6.out b5 (Nat.le_refl _))
          have HX8 := Lib.hid (own_below HW8.out b5 (Nat.le_refl _))
          have hb6 : ∀ q, (Value.slice A6 n c6).ownBlock = some q → w.heap.size ≤ q ∧ q < w3.heap.size := fun q hq => ⟨(HV6.out.lt q hq).1, (HV6.out.lt q hq).2⟩
          have hb8 : ∀ q, (Value.slice A8 m c8).ownBlock = some q → w.heap.size ≤ q ∧ q < w3.heap.size := fun q hq => ⟨(HV8.out.lt q hq).1, (HV8.out.lt q hq).2⟩
          have HB6 := Lib.hid hb6
          have HB8 := Lib.hid hb8
          clear hmade t5 s5 b5 p1 p0 HB4 HB4' HA4 HE4 HT4 HW6 HW7 HW8 HW9 HV6 HV8 CN hb6 hb8 HMB2
          go_wp2_with fail
          go_loopw [16] (fun i wr => ∃ k : Nat, k ≤ n ∧ i = .int .i64 (k : Int) ∧ ∃ xs, wr.ownsRow w.heap.size 37 5 (.slice A6 n c6) n xs ∧ But (fun q => (Value.slice A6 n c6).ownBlock = some q) w5 wr) (fun i _ => n - (intOf i).toNat)
          case atStart => exact ⟨0, Nat.zero_le _, rfl, _, HX6.out, But.refl _ _⟩
          case round =>
            obtain ⟨k, hk, rfl, xs, hx, hbt⟩ := hrel
            by_cases hlt : k < n
            · obtain ⟨g6, cur, rfl, hg6, hW, hsz6⟩ := own_wholeX hx (by omega)
              have q0 := (Row.of_own hx).1
              obtain ⟨u0, hu0⟩ : ∃ u, cur[k * 5]? = some u := ⟨_, Array.getElem?_eq_getElem (by omega)⟩
              obtain ⟨u1, hu1⟩ : ∃ u, cur[k * 5 + 1]? = some u := ⟨_, Array.getElem?_eq_getElem (by omega)⟩
              have c0 := (hW.cell (k * 5)).trans hu0
              have c1 := (hW.cell (k * 5 + 1)).trans hu1
              have f0 := hW.free (k * 5)
              have f1 := hW.free (k * 5 + 1)
              have l6 := hW.lt
              have i0 : (0 : Int) ≤ (k : Int) := by omega
              have i1 : (k : Int) < (n : Int) := by omega
              have HF := Lib.hid (show ((wr.setCell ⟨g6, k * 5 + 1, none⟩ (.int .i64 77)).setCell ⟨g6, k * 5, none⟩ (.int .u32 3)).ownsRow w.heap.size 37 5 (.slice (some ⟨g6, 0, none⟩) n c6) n _ ∧ But (fun q => (Value.slice (some ⟨g6, 0, none⟩) n c6).ownBlock = some q) w5 ((wr.setCell ⟨g6, k * 5 + 1, none⟩ (.int .i64 77)).setCell ⟨g6, k * 5, none⟩ (.int .u32 3)) from ⟨own_setX (own_setX hx (by omega)) (by omega), (hbt.set (p := ⟨g6, k * 5 + 1, none⟩) (.inl rfl) _).set (p := ⟨g6, k * 5, none⟩) (.inl rfl) _⟩)
              clear hx hbt hW hsz6 q0 hu0 hu1 hg6
              go_wp2_with fail
              go_roundw
              case rel => exact ⟨k + 1, by omega, by go_num, _, HF.out.1, HF.out.2⟩
              case measure => simp [intOf]; omega
            · obtain rfl : k = n := by omega
              obtain ⟨w6, rfl⟩ : ∃ z, z = wr := ⟨_, rfl⟩
              obtain ⟨n, rfl⟩ : ∃ z, z = k := ⟨_, rfl⟩
              have hb56 : Below w.heap.size w5 w6 := hbt.below HB5.out.size (fun q hq h => by have := (HB6.out q h).1; omega)
              have HT6 := Lib.hid (HT5.out.keep hbt.size (fun q hq => hbt.block q (HT5.out.lt q hq) (fun h => by have h1 := (HB6.out q h).2; have h2 := HS4.out q hq; omega)))
              have HU6 := Lib.hid (HU5.out.keep hbt.size (fun q hq => hbt.block q (HU5.out.lt q hq) (fun h => by have h1 := (HB6.out q h).2; have h2 := HS5.out q hq; omega)))
              have HY8 := Lib.hid (own_butX HX8.out hbt (fun q hq h => HAP68.out q h hq))
              have HY6 := Lib.hid (HB5.out.trans hb56)
              have HSZ := Lib.hid hbt.size
              clear hx hbt hb56 HX6 HX8 HT5 HU5 hlt hk
              go_wp2_with fail
              go_loopw [17] (fun i wr => ∃ k : Nat, k ≤ m ∧ i = .int .i64 (k : Int) ∧ ∃ xs, wr.ownsRow w.heap.size 41 10 (.slice A8 m c8) m xs ∧ (∀ q, q < m → ∃ b, xs[q * 10 + 9]? = some (.bool b)) ∧ But (fun q => (Value.slice A8 m c8).ownBlock = some q) w6 wr) (fun i _ => m - (intOf i).toNat)
              case atStart => exact ⟨0, Nat.zero_le _, rfl, _, HY8.out, fun q hq => by obtain ⟨y, hy⟩ : ∃ y, D[q]? = some y := ⟨_, List.getElem?_eq_getElem (by rw [HM.out]; exact hq)⟩; exact ⟨y.muted, (dnC_get hy 9 (by decide)).trans rfl⟩, But.refl _ _⟩
              case round =>
                obtain ⟨k, hk, rfl, xs, hx, hmu, hbt⟩ := hrel
                by_cases hlt : k < m
                · obtain ⟨g8, cur, rfl, hg8, hW, hsz8⟩ := own_wholeX hx (by omega)
                  have q0 := (Row.of_own hx).1
                  obtain ⟨u3, hu3⟩ : ∃ u, cur[k * 10 + 3]? = some u := ⟨_, Array.getElem?_eq_getElem (by omega)⟩
                  obtain ⟨b9, hb9⟩ := hmu k hlt
                  have c3 := (hW.cell (k * 10 + 3)).trans hu3
                  have c9 : wr.cell? ⟨g8, k * 10 + 9, none⟩ = some (.bool b9) := by obtain ⟨g', o', e', _, hc'⟩ := (Row.of_own hx).2 (by omega); cases e'; have := hc' _ _ hb9; rwa [Nat.zero_add] at this
                  have f3 := hW.free (k * 10 + 3)
                  have f9 := hW.free (k * 10 + 9)
                  have l8 := hW.lt
                  have i0 : (0 : Int) ≤ (k : Int) := by omega
                  have i1 : (k : Int) < (m : Int) := by omega
                  have HF := Lib.hid (show ((wr.setCell ⟨g8, k * 10 + 3, none⟩ (.int .i64 55)).setCell ⟨g8, k * 10 + 9, none⟩ (.bool (!b9))).ownsRow w.heap.size 41 10 (.slice (some ⟨g8, 0, none⟩) m c8) m ((xs.set (k * 10 + 3) (.int .i64 55)).set (k * 10 + 9) (.bool (!b9))) ∧ (∀ q, q < m → ∃ b, ((xs.set (k * 10 + 3) (.int .i64 55)).set (k * 10 + 9) (.bool (!b9)))[q * 10 + 9]? = some (.bool b)) ∧ But (fun q => (Value.slice (some ⟨g8, 0, none⟩) m c8).ownBlock = some q) w6 ((wr.setCell ⟨g8, k * 10 + 3, none⟩ (.int .i64 55)).setCell ⟨g8, k * 10 + 9, none⟩ (.bool (!b9))) from ⟨own_setX (own_setX hx (by omega)) (by omega), fun q hq => by
                      by_cases hqk : q = k
                      · subst hqk; exact ⟨!b9, by rw [List.getElem?_set_self (by rw [List.length_set, q0]; omega)]⟩
                      · obtain ⟨b, hb⟩ := hmu q hq; exact ⟨b, by rw [List.getElem?_set_ne (by omega), List.getElem?_set_ne (by omega)]; exact hb⟩,
                    (hbt.set (p := ⟨g8, k * 10 + 3, none⟩) (.inl rfl) _).set (p := ⟨g8, k * 10 + 9, none⟩) (.inl rfl) _⟩)
                  clear hx hbt hW hsz8 q0 hu3 hg8 hb9 hmu
                  cases b9 with
                  | true =>
                    go_wp2_with fail
                    go_roundw
                    case rel => exact ⟨k + 1, by omega, by go_num, _, HF.out.1, HF.out.2.1, HF.out.2.2⟩
                    case measure => simp [intOf]; omega
                  | false =>
                    go_wp2_with fail
                    go_roundw
                    case rel => exact ⟨k + 1, by omega, by go_num, _, HF.out.1, HF.out.2.1, HF.out.2.2⟩
                    case measure => simp [intOf]; omega
                · obtain rfl : k = m := by omega
                  obtain ⟨w7, rfl⟩ : ∃ z, z = wr := ⟨_, rfl⟩
                  obtain ⟨m, rfl⟩ : ∃ z, z = k := ⟨_, rfl⟩
                  have hw6 := HY6.out.size
                  have hb67 : Below w.heap.size w6 w7 := hbt.below hw6 (fun q hq h => by have := (HB8.out q h).1; omega)
                  have HT7 := Lib.hid (HT6.out.keep hbt.size (fun q hq => hbt.block q (HT6.out.lt q hq) (fun h => by have h1 := (HB8.out q h).2; have h2 := HS4.out q hq; omega)))
                  have HU7 := Lib.hid (HU6.out.keep hbt.size (fun q hq => hbt.block q (HU6.out.lt q hq) (fun h => by have h1 := (HB8.out q h).2; have h2 := HS5.out q hq; omega)))
                  have HB7 := Lib.hid (HY6.out.trans hb67)
                  have HB7 := Lib.hid (HY6.out.trans hb67)
                  skip
                  have HA7 := Lib.hid (show Row w7 w7.heap.size 5 A n (rtC R) from (HA0.out.below HB7.out (Nat.le_refl _)).more HB7.out.size)
                  have HE7 := Lib.hid (show Row w7 w7.heap.size 10 B m (dnC D) from (HE0.out.below HB7.out (Nat.le_refl _)).more HB7.out.size)
                  clear hx hmu hbt hb67 HY6 HY8 HT6 HU6 HS4 HS5 HB6 HB8 HAP68 hlt hk HSZ
                  go_wp2_with fail
                  cases mb with
                  | false =>
                    obtain rfl : er = 1 := HER.out.symm
                    clear HT7 HU7 HMB HER
                    by_cases z1 : (0 : Int) < (n : Int)
                    all_goals
                      by_cases z2 : (0 : Int) < (m : Int)
                    all_goals
                      refine wp_loop_rounds 1 ?_
                      rw [rounds_succ]
                      go_wp2_with fail
                      refine wp_loop_rounds 1 ?_
                      rw [rounds_succ]
                      go_wp2_with fail
                      go_ret
                      exact ⟨rfl, HB7.out⟩
                  | true =>
                    obtain rfl : er = 0 := HER.out.symm
                    have HMay := Lib.hid (show May R D from of_decide_eq_true HMB.out)
                    have HT := Lib.hid (show TOp w7 P S 1 R D from HT7.out)
                    have HU := Lib.hid (show TOp w7 P5 S5 1 R.reverse D.reverse from HU7.out)
                    skip
                    clear HT7 HU7 HMB HER
                    go_loopw [18] (fun i wr => ∃ k : Nat, k ≤ n ∧ i = .int .i64 (k : Int) ∧ Below w7.heap.size w7 wr) (fun i _ => n - (intOf i).toNat)
                    case atStart => exact ⟨0, Nat.zero_le _, rfl, Below.refl _ _⟩
                    case round =>
                      obtain ⟨k, hk, rfl, hb⟩ := hrel
                      have hsz := hb.size
                      have HBr := Lib.hid hb
                      obtain ⟨wq, rfl⟩ : ∃ z, z = wr := ⟨_, rfl⟩
                      by_cases hlt : k < n
                      · obtain ⟨x, hx⟩ : ∃ x, R[k]? = some x := ⟨_, List.getElem?_eq_getElem (by rw [HN.out]; exact hlt)⟩
                        have hxm := List.mem_of_getElem? hx
                        obtain ⟨ga, oa, ea, la, ca⟩ := HA7.out.2 (by omega)
                        cases ea
                        have p0 := (hb.cell (p := ⟨ga, oa + (k * 5 + 0), none⟩) la).trans (ca _ _ ((rtC_get hx 0 (by decide)).trans rfl))
                        rw [Nat.add_zero] at p0
                        have p1 := (hb.cell (p := ⟨ga, oa + (k * 5 + 1), none⟩) la).trans (ca _ _ ((rtC_get hx 1 (by decide)).trans rfl))
                        rw [← Nat.add_assoc] at p1
                        have p2 := (hb.cell (p := ⟨ga, oa + (k * 5 + 2), none⟩) la).trans (ca _ _ ((rtC_get hx 2 (by decide)).trans rfl))
                        rw [← Nat.add_assoc] at p2
                        have p3 := (hb.cell (p := ⟨ga, oa + (k * 5 + 3), none⟩) la).trans (ca _ _ ((rtC_get hx 3 (by decide)).trans rfl))
                        rw [← Nat.add_assoc] at p3
                        have p4 := (hb.cell (p := ⟨ga, oa + (k * 5 + 4), none⟩) la).trans (ca _ _ ((rtC_get hx 4 (by decide)).trans rfl))
                        rw [← Nat.add_assoc] at p4
                        have K1 := oroute (HT.out.next hb) x.ssrc (hR x hxm).ssrc
                        have K2 := fun w' (b : Below w7.heap.size w7 w') => oroute (HU.out.next b) x.ssrc (hR x hxm).ssrc
                        rw [route_mem HMay.out.1 hxm] at K1
                        rw [route_mem HMay.out.1.reverse (List.mem_reverse.2 hxm)] at K2
                        unfold rtOut at K1 K2
                        dsimp only [Option.getD, Option.isSome] at K1 K2
                        have EQ := fun w => neq_rt w x x
                        rw [decide_eq_true rfl] at EQ
                        have HG := Lib.hid (fun w' (b : Below w7.heap.size w7 w') (j : Nat) (hj : j < 5) (v : Value) (hv : x.cells[j]? = some v) => (b.cell (p := ⟨ga, oa + (k * 5 + j), none⟩) la).trans (ca _ _ ((rtC_get hx j hj).trans hv)))
                        have lga := Lib.hid la
                        obtain ⟨x0, x1, x2, x3, x4⟩ := x
                        unfold Rt.cells at K1 K2 EQ
                        dsimp only at K1 K2 EQ
                        have HK1 := Lib.hid K1
                        have HK2 := Lib.hid K2
                        have lg := Nat.lt_of_lt_of_le la hsz
                        have i0 : (0 : Int) ≤ (k : Int) := by omega
                        have i1 : (k : Int) < (n : Int) := by omega
                        clear K1 K2 hx hxm ca hb la p1 p2 p3 p4
                        go_wp2_with fail
                        refine HK1.out.mono ?_
                        rintro e w10 ⟨rfl, b10⟩
                        have HB10 := Lib.hid (show Below w7.heap.size w7 w10 from HBr.out.trans (b10.mono hsz))
                        clear b10 HK1 p0 lg
                        obtain ⟨v1, hv1⟩ : ∃ z, z = w10.alloc (.cells #[.int .u32 x0, .int .i64 x1, .int .i64 x2, .int .i64 x3, .int .i64 x4] 37) := ⟨_, rfl⟩
                        have HB11 := Lib.hid (show Below w7.heap.size w7 v1 by rw [hv1]; exact HB10.out.alloc HB10.out.size _)
                        have W1 := Lib.hid (show Whole v1 w10.heap.size 37 #[.int .u32 x0, .int .i64 x1, .int .i64 x2, .int .i64 x3, .int .i64 x4] by rw [hv1]; exact Whole.new w10 _ _)
                        obtain ⟨g1, hg1⟩ : ∃ z, w10.heap.size = z := ⟨_, rfl⟩
                        rw [hg1] at W1
                        have p0 := HG.out v1 HB11.out 0 (by decide) _ rfl
                        rw [Nat.add_zero] at p0
                        have lg : ga < v1.heap.size := by have := HB11.out.size; have := lga.out; omega
                        go_upto_region 38 with fail
                        try rw [← hv1]
                        try rw [hg1]
                        clear hv1 hg1
                        go_wp2_with fail
                        refine (HK2.out _ HB11.out).mono ?_
                        rintro e w12 ⟨rfl, b12⟩
                        have HB12 := Lib.hid (show Below w7.heap.size w7 w12 from HB11.out.trans (b12.mono HB11.out.size))
                        replace W1 := Lib.hid (W1.out.below b12 W1.out.lt)
                        clear b12 HK2 p0 lg HB10 HB11
                        obtain ⟨v2, hv2⟩ : ∃ z, z = w12.alloc (.cells #[.int .u32 x0, .int .i64 x1, .int .i64 x2, .int .i64 x3, .int .i64 x4] 37) := ⟨_, rfl⟩
                        have HB13 := Lib.hid (show Below w7.heap.size w7 v2 by rw [hv2]; exact HB12.out.alloc HB12.out.size _)
                        have W2 := Lib.hid (show Whole v2 w12.heap.size 37 #[.int .u32 x0, .int .i64 x1, .int .i64 x2, .int .i64 x3, .int .i64 x4] by rw [hv2]; exact Whole.new w12 _ _)
                        replace W1 := Lib.hid (show Whole v2 g1 37 #[.int .u32 x0, .int .i64 x1, .int .i64 x2, .int .i64 x3, .int .i64 x4] by rw [hv2]; exact W1.out.alloc _)
                        obtain ⟨g2, hg2⟩ : ∃ z, w12.heap.size = z := ⟨_, rfl⟩
                        rw [hg2] at W2
                        go_upto_region 39 with fail
                        try rw [← hv2]
                        try rw [hg2]
                        clear hv2 hg2
                        have s0 := W1.out.cell 0
                        have u0 := W2.out.cell 0
                        have p0 := HG.out v2 HB13.out 0 (by decide) _ rfl
                        rw [Nat.add_zero] at p0
                        have s1 := W1.out.cell 1
                        have u1 := W2.out.cell 1
                        have p1 := HG.out v2 HB13.out 1 (by decide) _ rfl
                        rw [← Nat.add_assoc] at p1
                        have s2 := W1.out.cell 2
                        have u2 := W2.out.cell 2
                        have p2 := HG.out v2 HB13.out 2 (by decide) _ rfl
                        rw [← Nat.add_assoc] at p2
                        have s3 := W1.out.cell 3
                        have u3 := W2.out.cell 3
                        have p3 := HG.out v2 HB13.out 3 (by decide) _ rfl
                        rw [← Nat.add_assoc] at p3
                        have s4 := W1.out.cell 4
                        have u4 := W2.out.cell 4
                        have p4 := HG.out v2 HB13.out 4 (by decide) _ rfl
                        rw [← Nat.add_assoc] at p4
                        have lg : ga < v2.heap.size := by have := HB13.out.size; have := lga.out; omega
                        go_region_held3 (fun w' => w'.cell? ⟨g1, 0, none⟩ = some (.int .u32 x0) ∧ w'.cell? ⟨g1, 1, none⟩ = some (.int .i64 x1) ∧ w'.cell? ⟨g1, 2, none⟩ = some (.int .i64 x2) ∧ w'.cell? ⟨g1, 3, none⟩ = some (.int .i64 x3) ∧ w'.cell? ⟨g1, 4, none⟩ = some (.int .i64 x4) ∧ w'.cell? ⟨g2, 0, none⟩ = some (.int .u32 x0) ∧ w'.cell? ⟨g2, 1, none⟩ = some (.int .i64 x1) ∧ w'.cell? ⟨g2, 2, none⟩ = some (.int .i64 x2) ∧ w'.cell? ⟨g2, 3, none⟩ = some (.int .i64 x3) ∧ w'.cell? ⟨g2, 4, none⟩ = some (.int .i64 x4) ∧ w'.cell? ⟨ga, oa + k * 5, none⟩ = some (.int .u32 x0) ∧ w'.cell? ⟨ga, oa + k * 5 + 1, none⟩ = some (.int .i64 x1) ∧ w'.cell? ⟨ga, oa + k * 5 + 2, none⟩ = some (.int .i64 x2) ∧ w'.cell? ⟨ga, oa + k * 5 + 3, none⟩ = some (.int .i64 x3) ∧ w'.cell? ⟨ga, oa + k * 5 + 4, none⟩ = some (.int .i64 x4))
                          (first | exact ⟨s0, s1, s2, s3, s4, u0, u1, u2, u3, u4, p0, p1, p2, p3, p4⟩ | exact ‹_ ∧ _ ∧ _ ∧ _ ∧ _ ∧ _ ∧ _ ∧ _ ∧ _ ∧ _ ∧ _ ∧ _ ∧ _ ∧ _ ∧ _› | go_keep)
                          (fail)
                        clear EQ HG s0 u0 p0 s1 u1 p1 s2 u2 p2 s3 u3 p3 s4 u4 p4
                        go_wp2_with fail
                        go_roundw
                        case rel => exact ⟨k + 1, by omega, by go_num, ⟨HB13.out.os, HB13.out.tape, HB13.out.output, HB13.out.size, HB13.out.block⟩⟩
                        case measure => simp [intOf]; omega
                      · obtain rfl : k = n := by omega
                        have HE8 := Lib.hid ((HE7.out.below hb (Nat.le_refl _)).more hsz)
                        have HT8 := Lib.hid (HT.out.next hb)
                        have HU8 := Lib.hid (HU.out.next hb)
                        have HB8 := Lib.hid (HB7.out.trans (hb.mono HB7.out.size))
                        obtain ⟨w8, rfl⟩ : ∃ z, z = wq := ⟨_, rfl⟩
                        obtain ⟨n, rfl⟩ : ∃ z, z = k := ⟨_, rfl⟩
                        clear hb hsz HBr HT HU HA7 HE7 hlt hk
                        go_wp2_with fail
                        go_loopw [23] (fun i wr => ∃ k : Nat, k ≤ m ∧ i = .int .i64 (k : Int) ∧ Below w8.heap.size w8 wr) (fun i _ => m - (intOf i).toNat)
                        case atStart => exact ⟨0, Nat.zero_le _, rfl, Below.refl _ _⟩
                        case round =>
                          obtain ⟨k, hk, rfl, hb⟩ := hrel
                          have hsz := hb.size
                          have HBr := Lib.hid hb
                          obtain ⟨wq, rfl⟩ : ∃ z, z = wr := ⟨_, rfl⟩
                          by_cases hlt : k < m
                          · obtain ⟨x, hx⟩ : ∃ x, D[k]? = some x := ⟨_, List.getElem?_eq_getElem (by rw [HM.out]; exact hlt)⟩
                            have hxm := List.mem_of_getElem? hx
                            obtain ⟨ga, oa, ea, la, ca⟩ := HE8.out.2 (by omega)
                            cases ea
                            have HG := Lib.hid (fun w' (b : Below w8.heap.size w8 w') (j : Nat) (hj : j < 10) (v : Value) (hv : x.cells[j]? = some v) => (b.cell (p := ⟨ga, oa + (k * 10 + j), none⟩) la).trans (ca _ _ ((dnC_get hx j hj).trans hv)))
                            have K1 := fun w' (b : Below w8.heap.size w8 w') => odowns (HT8.out.next b) x.track (hD x hxm).i.2.2
                            have K2 := fun w' (b : Below w8.heap.size w8 w') => odowns (HU8.out.next b) x.track (hD x hxm).i.2.2
                            have K3 := fun w' (b : Below w8.heap.size w8 w') => oown (HT8.out.next b) x.ssrc (hD x hxm).ssrc
                            rw [downs_same HMay.out.2.reverse HMay.out.2 (fun z => List.mem_reverse) x.track] at K2
                            rw [own_mem HMay.out.2 hxm] at K3
                            unfold dnOut at K3
                            dsimp only [Option.getD, Option.isSome] at K3
                            have hZle := downsS_le D x.track
                            obtain ⟨Z, hZ⟩ : ∃ z, downsS D x.track = z := ⟨_, rfl⟩
                            rw [hZ] at K1 K2 hZle
                            obtain ⟨zn, hzn⟩ : ∃ z, Z.length = z := ⟨_, rfl⟩
                            rw [hzn] at K1 K2 hZle
                            have HZN := Lib.hid hzn
                            rw [HM.out] at hZle
                            have hz60 : zn ≤ 60 := by omega
                            have EQ := fun w => neq_dn w x x
                            rw [decide_eq_true rfl] at EQ
                            have lga := Lib.hid la
                            obtain ⟨x0, x1, x2, x3, x4, x5, x6, x7, x8, x9⟩ := x
                            unfold Dn.cells at K3 EQ
                            dsimp only at K1 K2 K3 EQ
                            have HK1 := Lib.hid K1
                            have HK2 := Lib.hid K2
                            have HK3 := Lib.hid K3
                            have HEQ := Lib.hid EQ
                            have p4 := HG.out wq HBr.out 4 (by decide) _ rfl
                            rw [← Nat.add_assoc] at p4
                            have lg : ga < wq.heap.size := by have := lga.out; omega
                            have i0 : (0 : Int) ≤ (k : Int) := by omega
                            have i1 : (k : Int) < (m : Int) := by omega
                            clear K1 K2 K3 EQ hx hxm hZ hzn ca hb la hZle
                            go_wp2_with fail
                            refine (HK1.out _ HBr.out).mono ?_
                            rintro e w10 ⟨A10, c10, rfl, o10, b10⟩
                            have HB10 := Lib.hid (show Below w8.heap.size w8 w10 from HBr.out.trans (b10.mono hsz))
                            have HO10 := Lib.hid (own_base o10 hsz)
                            clear b10 o10 p4 lg
                            go_wp2_with fail
                            go_loopw [25] (fun i wr => ∃ q : Nat, q ≤ zn ∧ i = .int .i64 (q : Int) ∧ ∃ xs, wr.ownsRow w8.heap.size 41 10 (.slice A10 zn c10) zn xs ∧ Below w8.heap.size w8 wr) (fun i _ => zn - (intOf i).toNat)
                            case atStart => exact ⟨0, Nat.zero_le _, rfl, _, HO10.out, HB10.out⟩
                            case round =>
                              obtain ⟨q, hq, rfl, xs, hx, hbt⟩ := hrel
                              by_cases hql : q < zn
                              · obtain ⟨g8, cur, rfl, hg8, hW, hsz8⟩ := own_wholeX hx (by omega)
                                have q0 := (Row.of_own hx).1
                                obtain ⟨u3, hu3⟩ : ∃ u, cur[q * 10 + 3]? = some u := ⟨_, Array.getElem?_eq_getElem (by omega)⟩
                                have c3 := (hW.cell (q * 10 + 3)).trans hu3
                                have f3 := hW.free (q * 10 + 3)
                                have l8 := hW.lt
                                have j0 : (0 : Int) ≤ (q : Int) := by omega
                                have j1 : (q : Int) < (zn : Int) := by omega
                                have HF := Lib.hid (show (wr.setCell ⟨g8, q * 10 + 3, none⟩ (.int .i64 99)).ownsRow w8.heap.size 41 10 (.slice (some ⟨g8, 0, none⟩) zn c10) zn _ ∧ Below w8.heap.size w8 (wr.setCell ⟨g8, q * 10 + 3, none⟩ (.int .i64 99)) from ⟨own_setX hx (by omega), hbt.setCell (p := ⟨g8, q * 10 + 3, none⟩) hg8 _⟩)
                                clear hx hbt hW hsz8 q0 hu3 hg8
                                go_wp2_with fail
                                go_roundw
                                case rel => exact ⟨q + 1, by omega, by go_num, _, HF.out.1, HF.out.2⟩
                                case measure => simp [intOf]; omega
                              · obtain rfl : q = zn := by omega
                                have HB11 := Lib.hid hbt
                                obtain ⟨w11, rfl⟩ : ∃ z, z = wr := ⟨_, rfl⟩
                                obtain ⟨zn, rfl⟩ : ∃ z, z = q := ⟨_, rfl⟩
                                have p4 := HG.out w11 hbt 4 (by decide) _ rfl
                                rw [← Nat.add_assoc] at p4
                                have lg : ga < w11.heap.size := by have := lga.out; have := hbt.size; omega
                                clear hx hbt HO10 HB10 hql hq
                                go_wp2_with fail
                                refine (HK1.out _ HB11.out).mono ?_
                                rintro e w12 ⟨A12, c12, rfl, o12, b12⟩
                                have HB12 := Lib.hid (show Below w8.heap.size w8 w12 from HB11.out.trans (b12.mono HB11.out.size))
                                have HR12 := Lib.hid (Row.of_own o12)
                                clear b12 o12 p4 lg HK1 HB11
                                have p4 := HG.out w12 HB12.out 4 (by decide) _ rfl
                                rw [← Nat.add_assoc] at p4
                                have lg : ga < w12.heap.size := by have := lga.out; have := HB12.out.size; omega
                                go_wp2_with fail
                                refine (HK2.out _ HB12.out).mono ?_
                                rintro e w13 ⟨A13, c13, rfl, o13, b13⟩
                                have HB13 := Lib.hid (show Below w8.heap.size w8 w13 from HB12.out.trans (b13.mono HB12.out.size))
                                have HR13 := Lib.hid ((HR12.out.below b13 (Nat.le_refl _)).more b13.size)
                                have HQ13 := Lib.hid (Row.of_own o13)
                                clear b13 o13 p4 lg HK2 HB12 HR12
                                have p0 := HG.out w13 HB13.out 0 (by decide) _ rfl
                                rw [Nat.add_zero] at p0
                                have lg : ga < w13.heap.size := by have := lga.out; have := HB13.out.size; omega
                                go_wp2_with fail
                                refine (HK3.out _ HB13.out).mono ?_
                                rintro e w14 ⟨rfl, b14⟩
                                have HB14 := Lib.hid (show Below w8.heap.size w8 w14 from HB13.out.trans (b14.mono HB13.out.size))
                                have HR14 := Lib.hid ((HR13.out.below b14 (Nat.le_refl _)).more b14.size)
                                have HQ14 := Lib.hid ((HQ13.out.below b14 (Nat.le_refl _)).more b14.size)
                                clear b14 p0 lg HK3 HB13 HR13 HQ13
                                obtain ⟨v1, hv1⟩ : ∃ z, z = w14.alloc (.cells #[.int .u32 x0, .int .i64 x1, .int .u32 x2, .int .i64 x3, .int .i64 x4, .int .i64 x5, .int .i64 x6, .int .i64 x7, .int .i64 x8, .bool x9] 41) := ⟨_, rfl⟩
                                have b15 : Below w14.heap.size w14 v1 := by rw [hv1]; exact (Below.refl _ _).alloc (Nat.le_refl _) _
                                have HB15 := Lib.hid (show Below w8.heap.size w8 v1 from HB14.out.trans (b15.mono HB14.out.size))
                                have HR15 := Lib.hid ((HR14.out.below b15 (Nat.le_refl _)).more b15.size)
                                have HQ15 := Lib.hid ((HQ14.out.below b15 (Nat.le_refl _)).more b15.size)
                                have W1 := Lib.hid (show Whole v1 w14.heap.size 41 #[.int .u32 x0, .int .i64 x1, .int .u32 x2, .int .i64 x3, .int .i64 x4, .int .i64 x5, .int .i64 x6, .int .i64 x7, .int .i64 x8, .bool x9] by rw [hv1]; exact Whole.new w14 _ _)
                                obtain ⟨g1, hg1⟩ : ∃ z, w14.heap.size = z := ⟨_, rfl⟩
                                rw [hg1] at W1
                                clear b15 HB14 HR14 HQ14
                                go_upto_region 52 with fail
                                try rw [← hv1]
                                try rw [hg1]
                                clear hv1 hg1
                                have s0 := W1.out.cell 0
                                have p0 := HG.out v1 HB15.out 0 (by decide) _ rfl
                                rw [Nat.add_zero] at p0
                                have s1 := W1.out.cell 1
                                have p1 := HG.out v1 HB15.out 1 (by decide) _ rfl
                                rw [← Nat.add_assoc] at p1
                                have s2 := W1.out.cell 2
                                have p2 := HG.out v1 HB15.out 2 (by decide) _ rfl
                                rw [← Nat.add_assoc] at p2
                                have s3 := W1.out.cell 3
                                have p3 := HG.out v1 HB15.out 3 (by decide) _ rfl
                                rw [← Nat.add_assoc] at p3
                                have s4 := W1.out.cell 4
                                have p4 := HG.out v1 HB15.out 4 (by decide) _ rfl
                                rw [← Nat.add_assoc] at p4
                                have s5 := W1.out.cell 5
                                have p5 := HG.out v1 HB15.out 5 (by decide) _ rfl
                                rw [← Nat.add_assoc] at p5
                                have s6 := W1.out.cell 6
                                have p6 := HG.out v1 HB15.out 6 (by decide) _ rfl
                                rw [← Nat.add_assoc] at p6
                                have s7 := W1.out.cell 7
                                have p7 := HG.out v1 HB15.out 7 (by decide) _ rfl
                                rw [← Nat.add_assoc] at p7
                                have s8 := W1.out.cell 8
                                have p8 := HG.out v1 HB15.out 8 (by decide) _ rfl
                                rw [← Nat.add_assoc] at p8
                                have s9 := W1.out.cell 9
                                have p9 := HG.out v1 HB15.out 9 (by decide) _ rfl
                                rw [← Nat.add_assoc] at p9
                                have lg : ga < v1.heap.size := by have := lga.out; have := HB15.out.size; omega
                                have EQ := HEQ.out
                                go_region_held3 (fun w' => w'.cell? ⟨g1, 0, none⟩ = some (.int .u32 x0) ∧ w'.cell? ⟨g1, 1, none⟩ = some (.int .i64 x1) ∧ w'.cell? ⟨g1, 2, none⟩ = some (.int .u32 x2) ∧ w'.cell? ⟨g1, 3, none⟩ = some (.int .i64 x3) ∧ w'.cell? ⟨g1, 4, none⟩ = some (.int .i64 x4) ∧ w'.cell? ⟨g1, 5, none⟩ = some (.int .i64 x5) ∧ w'.cell? ⟨g1, 6, none⟩ = some (.int .i64 x6) ∧ w'.cell? ⟨g1, 7, none⟩ = some (.int .i64 x7) ∧ w'.cell? ⟨g1, 8, none⟩ = some (.int .i64 x8) ∧ w'.cell? ⟨g1, 9, none⟩ = some (.bool x9) ∧ w'.cell? ⟨ga, oa + k * 10, none⟩ = some (.int .u32 x0) ∧ w'.cell? ⟨ga, oa + k * 10 + 1, none⟩ = some (.int .i64 x1) ∧ w'.cell? ⟨ga, oa + k * 10 + 2, none⟩ = some (.int .u32 x2) ∧ w'.cell? ⟨ga, oa + k * 10 + 3, none⟩ = some (.int .i64 x3) ∧ w'.cell? ⟨ga, oa + k * 10 + 4, none⟩ = some (.int .i64 x4) ∧ w'.cell? ⟨ga, oa + k * 10 + 5, none⟩ = some (.int .i64 x5) ∧ w'.cell? ⟨ga, oa + k * 10 + 6, none⟩ = some (.int .i64 x6) ∧ w'.cell? ⟨ga, oa + k * 10 + 7, none⟩ = some (.int .i64 x7) ∧ w'.cell? ⟨ga, oa + k * 10 + 8, none⟩ = some (.int .i64 x8) ∧ w'.cell? ⟨ga, oa + k * 10 + 9, none⟩ = some (.bool x9))
                                  (first | exact ⟨s0, s1, s2, s3, s4, s5, s6, s7, s8, s9, p0, p1, p2, p3, p4, p5, p6, p7, p8, p9⟩ | exact ‹_ ∧ _ ∧ _ ∧ _ ∧ _ ∧ _ ∧ _ ∧ _ ∧ _ ∧ _ ∧ _ ∧ _ ∧ _ ∧ _ ∧ _ ∧ _ ∧ _ ∧ _ ∧ _ ∧ _› | go_keep)
                                  (fail)
                                clear EQ HEQ HG W1 s0 p0 s1 p1 s2 p2 s3 p3 s4 p4 s5 p5 s6 p6 s7 p7 s8 p8 s9 p9
                                skip
                                go_wp2_with fail
                                go_loopw [30] (fun i wr => ∃ q : Nat, q ≤ zn ∧ i = .int .i64 (q : Int) ∧ Below v1.heap.size v1 wr) (fun i _ => zn - (intOf i).toNat)
                                case atStart => exact ⟨0, Nat.zero_le _, rfl, ⟨rfl, rfl, rfl, Nat.le_refl _, fun _ _ => rfl⟩⟩
                                case round =>
                                  obtain ⟨q, hq, rfl, hb2⟩ := hrel
                                  obtain ⟨wp, rfl⟩ : ∃ z, z = wr := ⟨_, rfl⟩
                                  have hz2 := hb2.size
                                  have HB2 := Lib.hid hb2
                                  by_cases hql : q < zn
                                  · obtain ⟨y, hy⟩ : ∃ y, Z[q]? = some y := ⟨_, List.getElem?_eq_getElem (by rw [HZN.out]; exact hql)⟩
                                    obtain ⟨gb, ob, eb, lb, cb⟩ := HR15.out.2 (by omega)
                                    cases eb
                                    obtain ⟨gc, oc, ec, lc, cc⟩ := HQ15.out.2 (by omega)
                                    cases ec
                                    have e := fun (j : Nat) (hj : j < 10) (v : Value) (hv : y.cells[j]? = some v) => (dnC_get hy j hj).trans hv
                                    have p0 := (hb2.cell (p := ⟨gb, ob + (q * 10 + 0), none⟩) lb).trans (cb _ _ (e 0 (by decide) _ rfl))
                                    have r0 := (hb2.cell (p := ⟨gc, oc + (q * 10 + 0), none⟩) lc).trans (cc _ _ (e 0 (by decide) _ rfl))
                                    rw [Nat.add_zero] at p0 r0
                                    have p1 := (hb2.cell (p := ⟨gb, ob + (q * 10 + 1), none⟩) lb).trans (cb _ _ (e 1 (by decide) _ rfl))
                                    have r1 := (hb2.cell (p := ⟨gc, oc + (q * 10 + 1), none⟩) lc).trans (cc _ _ (e 1 (by decide) _ rfl))
                                    rw [← Nat.add_assoc] at p1 r1
                                    have p2 := (hb2.cell (p := ⟨gb, ob + (q * 10 + 2), none⟩) lb).trans (cb _ _ (e 2 (by decide) _ rfl))
                                    have r2 := (hb2.cell (p := ⟨gc, oc + (q * 10 + 2), none⟩) lc).trans (cc _ _ (e 2 (by decide) _ rfl))
                                    rw [← Nat.add_assoc] at p2 r2
                                    have p3 := (hb2.cell (p := ⟨gb, ob + (q * 10 + 3), none⟩) lb).trans (cb _ _ (e 3 (by decide) _ rfl))
                                    have r3 := (hb2.cell (p := ⟨gc, oc + (q * 10 + 3), none⟩) lc).trans (cc _ _ (e 3 (by decide) _ rfl))
                                    rw [← Nat.add_assoc] at p3 r3
                                    have p4 := (hb2.cell (p := ⟨gb, ob + (q * 10 + 4), none⟩) lb).trans (cb _ _ (e 4 (by decide) _ rfl))
                                    have r4 := (hb2.cell (p := ⟨gc, oc + (q * 10 + 4), none⟩) lc).trans (cc _ _ (e 4 (by decide) _ rfl))
                                    rw [← Nat.add_assoc] at p4 r4
                                    have p5 := (hb2.cell (p := ⟨gb, ob + (q * 10 + 5), none⟩) lb).trans (cb _ _ (e 5 (by decide) _ rfl))
                                    have r5 := (hb2.cell (p := ⟨gc, oc + (q * 10 + 5), none⟩) lc).trans (cc _ _ (e 5 (by decide) _ rfl))
                                    rw [← Nat.add_assoc] at p5 r5
                                    have p6 := (hb2.cell (p := ⟨gb, ob + (q * 10 + 6), none⟩) lb).trans (cb _ _ (e 6 (by decide) _ rfl))
                                    have r6 := (hb2.cell (p := ⟨gc, oc + (q * 10 + 6), none⟩) lc).trans (cc _ _ (e 6 (by decide) _ rfl))
                                    rw [← Nat.add_assoc] at p6 r6
                                    have p7 := (hb2.cell (p := ⟨gb, ob + (q * 10 + 7), none⟩) lb).trans (cb _ _ (e 7 (by decide) _ rfl))
                                    have r7 := (hb2.cell (p := ⟨gc, oc + (q * 10 + 7), none⟩) lc).trans (cc _ _ (e 7 (by decide) _ rfl))
                                    rw [← Nat.add_assoc] at p7 r7
                                    have p8 := (hb2.cell (p := ⟨gb, ob + (q * 10 + 8), none⟩) lb).trans (cb _ _ (e 8 (by decide) _ rfl))
                                    have r8 := (hb2.cell (p := ⟨gc, oc + (q * 10 + 8), none⟩) lc).trans (cc _ _ (e 8 (by decide) _ rfl))
                                    rw [← Nat.add_assoc] at p8 r8
                                    have p9 := (hb2.cell (p := ⟨gb, ob + (q * 10 + 9), none⟩) lb).trans (cb _ _ (e 9 (by decide) _ rfl))
                                    have r9 := (hb2.cell (p := ⟨gc, oc + (q * 10 + 9), none⟩) lc).trans (cc _ _ (e 9 (by decide) _ rfl))
                                    rw [← Nat.add_assoc] at p9 r9
                                    have EQ := fun w => neq_dn w y y
                                    rw [decide_eq_true rfl] at EQ
                                    have lgb : gb < wp.heap.size := by omega
                                    have lgc : gc < wp.heap.size := by omega
                                    obtain ⟨y0, y1, y2, y3, y4, y5, y6, y7, y8, y9⟩ := y
                                    unfold Dn.cells at EQ
                                    try dsimp only at EQ p0 r0 p1 r1 p2 r2 p3 r3 p4 r4 p5 r5 p6 r6 p7 r7 p8 r8 p9 r9
                                    have j0 : (0 : Int) ≤ (q : Int) := by omega
                                    have j1 : (q : Int) < (zn : Int) := by omega
                                    clear cb cc e hy hb2
                                    go_wp2_with fail
                                    go_region_held3 (fun w' => w'.cell? ⟨gb, ob + q * 10, none⟩ = some (.int .u32 y0) ∧ w'.cell? ⟨gb, ob + q * 10 + 1, none⟩ = some (.int .i64 y1) ∧ w'.cell? ⟨gb, ob + q * 10 + 2, none⟩ = some (.int .u32 y2) ∧ w'.cell? ⟨gb, ob + q * 10 + 3, none⟩ = some (.int .i64 y3) ∧ w'.cell? ⟨gb, ob + q * 10 + 4, none⟩ = some (.int .i64 y4) ∧ w'.cell? ⟨gb, ob + q * 10 + 5, none⟩ = some (.int .i64 y5) ∧ w'.cell? ⟨gb, ob + q * 10 + 6, none⟩ = some (.int .i64 y6) ∧ w'.cell? ⟨gb, ob + q * 10 + 7, none⟩ = some (.int .i64 y7) ∧ w'.cell? ⟨gb, ob + q * 10 + 8, none⟩ = some (.int .i64 y8) ∧ w'.cell? ⟨gb, ob + q * 10 + 9, none⟩ = some (.bool y9) ∧ w'.cell? ⟨gc, oc + q * 10, none⟩ = some (.int .u32 y0) ∧ w'.cell? ⟨gc, oc + q * 10 + 1, none⟩ = some (.int .i64 y1) ∧ w'.cell? ⟨gc, oc + q * 10 + 2, none⟩ = some (.int .u32 y2) ∧ w'.cell? ⟨gc, oc + q * 10 + 3, none⟩ = some (.int .i64 y3) ∧ w'.cell? ⟨gc, oc + q * 10 + 4, none⟩ = some (.int .i64 y4) ∧ w'.cell? ⟨gc, oc + q * 10 + 5, none⟩ = some (.int .i64 y5) ∧ w'.cell? ⟨gc, oc + q * 10 + 6, none⟩ = some (.int .i64 y6) ∧ w'.cell? ⟨gc, oc + q * 10 + 7, none⟩ = some (.int .i64 y7) ∧ w'.cell? ⟨gc, oc + q * 10 + 8, none⟩ = some (.int .i64 y8) ∧ w'.cell? ⟨gc, oc + q * 10 + 9, none⟩ = some (.bool y9))
                                      (first | exact ⟨p0, p1, p2, p3, p4, p5, p6, p7, p8, p9, r0, r1, r2, r3, r4, r5, r6, r7, r8, r9⟩ | exact ‹_ ∧ _ ∧ _ ∧ _ ∧ _ ∧ _ ∧ _ ∧ _ ∧ _ ∧ _ ∧ _ ∧ _ ∧ _ ∧ _ ∧ _ ∧ _ ∧ _ ∧ _ ∧ _ ∧ _› | go_keep)
                                      (fail)
                                    clear EQ p0 r0 p1 r1 p2 r2 p3 r3 p4 r4 p5 r5 p6 r6 p7 r7 p8 r8 p9 r9
                                    go_wp2_with fail
                                    go_roundw
                                    case rel => exact ⟨q + 1, by omega, by go_num, ⟨HB2.out.os, HB2.out.tape, HB2.out.output, HB2.out.size, HB2.out.block⟩⟩
                                    case measure => simp [intOf]; omega
                                  · obtain rfl : q = zn := by omega
                                    have HE9 := Lib.hid (show Below w8.heap.size w8 wp from HB15.out.trans (hb2.mono HB15.out.size))
                                    clear hb2 hz2 HB2
                                    go_wp2_with fail
                                    go_roundw
                                    case rel => exact ⟨k + 1, by omega, by go_num, HE9.out⟩
                                    case measure => simp [intOf]; omega
                          · have HE9 := Lib.hid (HB8.out.trans (hb.mono HB8.out.size))
                            have hk2 : ¬ (k : Int) < (m : Int) := by omega
                            clear hb hsz HBr
                            go_wp2_with fail
                            go_ret
                            exact ⟨rfl, HE9.out⟩
theorem walk (w : World) (A0 : Option Addr) (c0 : Nat) (l0 : List Rt) (hl0 : l0.length ≤ maxLen) (hr0 : Row w w.heap.size 5 A0 l0.length (rowC Rt.cells l0)) (ho0 : ∀ a ∈ l0, a.Fit) (A1 : Option Addr) (c1 : Nat) (l1 : List Dn) (hl1 : l1.length ≤ maxLen) (hr1 : Row w w.heap.size 10 A1 l1.length (rowC Dn.cells l1)) (ho1 : ∀ a ∈ l1, a.Fit) : Calls Try.prog 4 #[.slice A0 l0.length c0, .slice A1 l1.length c1] w fun e w' => e = .returned (.bool true) ∧ Below w.heap.size w w' :=
  walk17s A0 c0 l0 A1 c1 l1 w hr0 hr1 ho0 ho1 hl0 hl1

set_option maxRecDepth 100000 in
theorem lifted (os : Os) (started : os.Started) (H : Type) (enc : TypeId × Value → H) :
    ReturnsInHanded {} Try.checked os 4 .any (Rows.tableStaysSpec.pre6 enc Try.prog Try.f4 Rows.tableStaysRow.domain false) (Rows.tableStaysSpec.post enc Try.prog Try.f4 false true false false) := by
  refine returnsInHanded_of_change (C := Try.checked) own started (by kernel_rfl) Try.func4
    (ChangeSpec.witness6 (enc := enc) (C := Try.checked) false ⟨#[], #[.slice none 0 0, .slice none 0 0], []⟩ 8 (by kernel_rfl) (by kernel_rfl) (by kernel_rfl) (by kernel_rfl)) ?_
  intro W base args ds gs before hval0 hW _ _
  have hval : ∀ (j : Nat) t v, Try.f4.params[j]? = some t → args[j]? = some v → Value.okWide Try.prog W .any base t v := hval0
  have hW' := hW
  obtain ⟨p, q, hA0, hV, _, _, _⟩ := hW
  have hA : DataW.TrodAll enc Try.prog W 0 (fun _ => true) true Try.f4.params.toList args.toList ds p := hA0
  rw [Try.params4] at hA hval
  obtain ⟨v0, vs0, d0, ds0, p0, q0, hargs, rfl, _, h0, r0⟩ := trodAll_cons hA
  obtain ⟨v1, vs1, d1, ds1, p1, q1, rfl, rfl, _, h1, r1⟩ := trodAll_cons r0
  obtain ⟨rfl, rfl, _⟩ := trodAll_nil r1
  obtain rfl : args = #[v0, v1] := by cases args; simp_all
  obtain ⟨rfl, _⟩ := trodVars_none hV
  refine law_post (s := Rows.tableStaysSpec) rfl rfl (by rw [Try.params4]; intro t ht; simp at ht; rcases ht with rfl | rfl <;> exact ⟨by kernel_rfl, of_decide_eq_true (by kernel_rfl)⟩) rfl hW' ?_
  obtain ⟨A0, c0, l0, rfl, hl0, hr0, ho0⟩ := open_routes17 (hval 0 23 v0 rfl rfl) h0
  obtain ⟨A1, c1, l1, rfl, hl1, hr1, ho1⟩ := open_downs17 (hval 1 24 v1 rfl rfl) h1
  exact walk W A0 c0 l0 hl0 hr0 ho0 A1 c1 l1 hl1 hr1 ho1

theorem over : Rows.tableStaysRow.holds Try.pinned (OpenSpec.ofChange Rows.tableStaysSpec) :=
  OpenClaim.holds_of_wide 4 Try.f4 rfl rfl rfl rfl rfl rfl rfl ⟨rfl, rfl, rfl, rfl, rfl⟩ rfl rfl rfl rfl rfl (by kernel_rfl) Try.func4 (by kernel_rfl)
    (of_decide_eq_true (by kernel_rfl)) (by unfold Func.isWrapper; first | (rw [if_pos (by decide +kernel)]; kernel_rfl) | (rw [if_neg (by decide +kernel)]; exact ⟨rfl, rfl⟩))
    (fun os started H enc _ => lifted os started H enc)

/-- The statement. -/
theorem tableStays_holds : Rows.TableStaysSaid := over

end Go.Proofs.Ytgjhcnpegaemoaa.TStays
