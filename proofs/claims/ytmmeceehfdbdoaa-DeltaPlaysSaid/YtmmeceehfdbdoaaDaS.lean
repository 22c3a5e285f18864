/-
  The document's Same (layer 18): two states that are the same plainly are told the same.
-/
import Derived.Test.YtmmeceehfdbdoaaDcY
import Derived.Test.YtmmeceehfdbdoaaDaQ
import Derived.RegionTactic
namespace Go.Proofs.Ytmmeceehfdbdoaa
open Go.RowKit
open Dl
set_option linter.unusedSimpArgs false
set_option linter.unusedVariables false
set_option maxRecDepth 100000
theorem tks_two {T U : List Tm} (h : tks T = tks U) {i : Nat} {x : Tm} (hx : T[i]? = some x) : ∃ y, U[i]? = some y ∧ y.t = x.t := by
  have e : (tks T)[i]? = some x.t := by unfold tks; rw [List.getElem?_map, hx]; rfl
  rw [h] at e
  unfold tks at e
  rw [List.getElem?_map] at e
  cases hy : U[i]? with
  | none => rw [hy] at e; cases e
  | some y => rw [hy] at e; exact ⟨y, rfl, Option.some.inj e⟩
set_option maxHeartbeats 12800000 in
theorem same18 (P : Nat → Prop) (s t : Sm) (w : World) (hs : SAt P w s) (ht : SAt P w t) (hX : t.X = s.X) :
    Calls Try.prog 15 #[.agg (smA s), .agg (smA t)] w fun e w' => e = .returned (.bool true) ∧ Below w.heap.size w w' := by
  obtain ⟨X, T, A, a, B, b, C, c⟩ := s
  obtain ⟨X2, T2, A2, a2, B2, b2, C2, c2⟩ := t
  dsimp only at hX
  subst hX
  have hsm := hs.small
  have hts := hs.ts
  have hts2 := ht.ts
  have HRP := hs.rp
  have HRP2 := ht.rp
  have HRT := hs.rt
  have HRT2 := ht.rt
  have HRB := hs.rb
  have HRB2 := ht.rb
  have HSS := hs.pS
  clear hs ht
  obtain ⟨⟨p0, p1, p2, p3⟩, ps, ts, bs⟩ := X2
  dsimp only at hsm hts hts2 HRP HRP2 HRT HRT2 HRB HRB2 HSS
  have htt : tks T = tks T2 := hts.symm.trans hts2
  have hl2 : T2.length = T.length := by have := congrArg List.length htt; unfold tks at this; simpa using this.symm
  obtain ⟨np, hnp⟩ : ∃ n, ps.length = n := ⟨_, rfl⟩
  obtain ⟨nt, hnt⟩ : ∃ n, T.length = n := ⟨_, rfl⟩
  obtain ⟨nb, hnb⟩ : ∃ n, bs.length = n := ⟨_, rfl⟩
  rw [hnt] at hl2
  rw [hnp] at hsm HRP HRP2
  rw [hnt] at hsm
  rw [hnb] at hsm HRB HRB2
  rw [show smA ⟨⟨⟨p0, p1, p2, p3⟩, ps, ts, bs⟩, T, A, a, B, b, C, c⟩ = #[.int .i64 p0, .int .i64 p1, .int .i64 p2, .int .i64 p3, .slice A np a, .slice B nt b, .slice C nb c] from by unfold smA; dsimp only; rw [hnp, hnt, hnb]]
  rw [show smA ⟨⟨⟨p0, p1, p2, p3⟩, ps, ts, bs⟩, T2, A2, a2, B2, b2, C2, c2⟩ = #[.int .i64 p0, .int .i64 p1, .int .i64 p2, .int .i64 p3, .slice A2 np a2, .slice B2 nt b2, .slice C2 nb c2] from by unfold smA; dsimp only; rw [hnp, hl2, hnb]]
  replace HRP := Lib.hid HRP
  replace HRP2 := Lib.hid HRP2
  replace HRT := Lib.hid HRT
  replace HRT2 := Lib.hid HRT2
  replace HRB := Lib.hid HRB
  replace HRB2 := Lib.hid HRB2
  replace HSS := Lib.hid HSS
  have HTT := Lib.hid htt
  have HL2 := Lib.hid hl2
  have HNP := Lib.hid hnp
  have HNT := Lib.hid hnt
  have HNB := Lib.hid hnb
  obtain ⟨sp, st, sb⟩ := hsm
  clear hts hts2 htt hl2 hnp hnt hnb
  obtain ⟨w1, hw1⟩ : ∃ z, z = (w.alloc (.cells #[.int .i64 p0, .int .i64 p1, .int .i64 p2, .int .i64 p3, .slice A np a, .slice B nt b, .slice C nb c] 37)).alloc (.cells #[.int .i64 p0, .int .i64 p1, .int .i64 p2, .int .i64 p3, .slice A2 np a2, .slice B2 nt b2, .slice C2 nb c2] 37) := ⟨_, rfl⟩
  have HB1 := Lib.hid (show Below w.heap.size w w1 by rw [hw1]; exact ((Below.refl _ _).alloc (Nat.le_refl _) _).alloc (by simp) _)
  have wa : Whole w1 w.heap.size 37 #[.int .i64 p0, .int .i64 p1, .int .i64 p2, .int .i64 p3, .slice A np a, .slice B nt b, .slice C nb c] := by rw [hw1]; exact (Whole.new w _ _).alloc _
  have wb : Whole w1 (w.heap.size + 1) 37 #[.int .i64 p0, .int .i64 p1, .int .i64 p2, .int .i64 p3, .slice A2 np a2, .slice B2 nt b2, .slice C2 nb c2] := by rw [hw1]; exact Whole.new2 w _ _ _
  have HWA := Lib.hid wa
  have HWB := Lib.hid wb
  have la := wa.lt
  have lb := wb.lt
  have HBE := Lib.hid (fun w2 (b : Below w1.heap.size w1 w2) => HB1.out.trans (b.mono HB1.out.size))
  clear wa wb
  have NM := fun wx => neq18_most wx ⟨p0, p1, p2, p3⟩
  dsimp only at NM
  go_enter Try.func15, Try.ntmps15
  go_upto_region 1 with fail
  rw [← hw1]
  clear hw1
  have c0 := (HWA.out.cell 0).trans rfl
  have d0 := (HWB.out.cell 0).trans rfl
  have c1 := (HWA.out.cell 1).trans rfl
  have d1 := (HWB.out.cell 1).trans rfl
  have c2 := (HWA.out.cell 2).trans rfl
  have d2 := (HWB.out.cell 2).trans rfl
  have c3 := (HWA.out.cell 3).trans rfl
  have d3 := (HWB.out.cell 3).trans rfl
  have c4 := (HWA.out.cell 4).trans rfl
  have d4 := (HWB.out.cell 4).trans rfl
  have c5 := (HWA.out.cell 5).trans rfl
  have d5 := (HWB.out.cell 5).trans rfl
  have c6 := (HWA.out.cell 6).trans rfl
  have d6 := (HWB.out.cell 6).trans rfl
  have HBS := Lib.hid (Below.refl w1.heap.size w1)
  go_wp2_with fail
  go_loopw [5] (fun i wr => ∃ k : Nat, k ≤ np ∧ i = .int .i64 (k : Int) ∧ Hid (Below w1.heap.size w1 wr)) (fun i _ => np - (intOf i).toNat)
  case atStart => exact ⟨0, Nat.zero_le _, rfl, HBS⟩
  case round =>
    obtain ⟨k, hk, rfl, HB⟩ := hrel
    have lwa : w.heap.size < wr.heap.size := by have := HB.out.size; omega
    have lwb : w.heap.size + 1 < wr.heap.size := by have := HB.out.size; omega
    replace c0 := (HB.out.cell (p := ⟨w.heap.size, 0, none⟩) la).trans ((HWA.out.cell 0).trans rfl)
    replace c1 := (HB.out.cell (p := ⟨w.heap.size, 1, none⟩) la).trans ((HWA.out.cell 1).trans rfl)
    replace c2 := (HB.out.cell (p := ⟨w.heap.size, 2, none⟩) la).trans ((HWA.out.cell 2).trans rfl)
    replace c3 := (HB.out.cell (p := ⟨w.heap.size, 3, none⟩) la).trans ((HWA.out.cell 3).trans rfl)
    replace c4 := (HB.out.cell (p := ⟨w.heap.size, 4, none⟩) la).trans ((HWA.out.cell 4).trans rfl)
    replace c5 := (HB.out.cell (p := ⟨w.heap.size, 5, none⟩) la).trans ((HWA.out.cell 5).trans rfl)
    replace c6 := (HB.out.cell (p := ⟨w.heap.size, 6, none⟩) la).trans ((HWA.out.cell 6).trans rfl)
    replace d0 := (HB.out.cell (p := ⟨w.heap.size + 1, 0, none⟩) lb).trans ((HWB.out.cell 0).trans rfl)
    replace d1 := (HB.out.cell (p := ⟨w.heap.size + 1, 1, none⟩) lb).trans ((HWB.out.cell 1).trans rfl)
    replace d2 := (HB.out.cell (p := ⟨w.heap.size + 1, 2, none⟩) lb).trans ((HWB.out.cell 2).trans rfl)
    replace d3 := (HB.out.cell (p := ⟨w.heap.size + 1, 3, none⟩) lb).trans ((HWB.out.cell 3).trans rfl)
    replace d4 := (HB.out.cell (p := ⟨w.heap.size + 1, 4, none⟩) lb).trans ((HWB.out.cell 4).trans rfl)
    replace d5 := (HB.out.cell (p := ⟨w.heap.size + 1, 5, none⟩) lb).trans ((HWB.out.cell 5).trans rfl)
    replace d6 := (HB.out.cell (p := ⟨w.heap.size + 1, 6, none⟩) lb).trans ((HWB.out.cell 6).trans rfl)
    by_cases hlt : k < np
    · obtain ⟨x, hx⟩ : ∃ x, ps[k]? = some x := ⟨_, List.getElem?_eq_getElem (by rw [HNP.out]; exact hlt)⟩
      obtain ⟨g1, o1, rfl, hg1, hc1⟩ := HRP.out.2 (by omega)
      obtain ⟨g2, o2, rfl, hg2, hc2⟩ := HRP2.out.2 (by omega)
      have u0 := (HB.out.cell (p := ⟨g1, o1 + (k * 3 + 0), none⟩) (Nat.lt_of_lt_of_le hg1 HB1.out.size)).trans ((HB1.out.cell (p := ⟨g1, o1 + (k * 3 + 0), none⟩) hg1).trans (hc1 _ _ ((pnC_get hx 0 (by decide)).trans rfl)))
      rw [Nat.add_zero] at u0
      have u1 := (HB.out.cell (p := ⟨g1, o1 + (k * 3 + 1), none⟩) (Nat.lt_of_lt_of_le hg1 HB1.out.size)).trans ((HB1.out.cell (p := ⟨g1, o1 + (k * 3 + 1), none⟩) hg1).trans (hc1 _ _ ((pnC_get hx 1 (by decide)).trans rfl)))
      rw [← Nat.add_assoc] at u1
      have u2 := (HB.out.cell (p := ⟨g1, o1 + (k * 3 + 2), none⟩) (Nat.lt_of_lt_of_le hg1 HB1.out.size)).trans ((HB1.out.cell (p := ⟨g1, o1 + (k * 3 + 2), none⟩) hg1).trans (hc1 _ _ ((pnC_get hx 2 (by decide)).trans rfl)))
      rw [← Nat.add_assoc] at u2
      have v0 := (HB.out.cell (p := ⟨g2, o2 + (k * 3 + 0), none⟩) (Nat.lt_of_lt_of_le hg2 HB1.out.size)).trans ((HB1.out.cell (p := ⟨g2, o2 + (k * 3 + 0), none⟩) hg2).trans (hc2 _ _ ((pnC_get hx 0 (by decide)).trans rfl)))
      rw [Nat.add_zero] at v0
      have v1 := (HB.out.cell (p := ⟨g2, o2 + (k * 3 + 1), none⟩) (Nat.lt_of_lt_of_le hg2 HB1.out.size)).trans ((HB1.out.cell (p := ⟨g2, o2 + (k * 3 + 1), none⟩) hg2).trans (hc2 _ _ ((pnC_get hx 1 (by decide)).trans rfl)))
      rw [← Nat.add_assoc] at v1
      have v2 := (HB.out.cell (p := ⟨g2, o2 + (k * 3 + 2), none⟩) (Nat.lt_of_lt_of_le hg2 HB1.out.size)).trans ((HB1.out.cell (p := ⟨g2, o2 + (k * 3 + 2), none⟩) hg2).trans (hc2 _ _ ((pnC_get hx 2 (by decide)).trans rfl)))
      rw [← Nat.add_assoc] at v2
      have i0 : (0 : Int) ≤ (k : Int) := by omega
      have i1 : (k : Int) < (np : Int) := by omega
      have l1 : g1 < wr.heap.size := by have := HB.out.size; have := HB1.out.size; omega
      have l2 : g2 < wr.heap.size := by have := HB.out.size; have := HB1.out.size; omega
      obtain ⟨x0, x1, x2⟩ := x
      have NE := fun wx => neq18_rp wx ⟨x0, x1, x2⟩ ⟨x0, x1, x2⟩
      simp only [decide_true, Bool.not_true] at NE
      try dsimp only at u0 v0 u1 v1 u2 v2
      clear hx hc1 hc2
      go_wp2_with fail
      go_region
      go_wp2_with fail
      go_roundw
      case rel => exact ⟨k + 1, by omega, by go_num, Lib.hid (by first | exact HB.out | exact HB.out.drew)⟩
      case measure => simp [intOf]; omega
    · obtain rfl : np = k := by omega
      have HBS := HB
      clear HB
      go_wp2_with fail
      go_loopw [6] (fun i wr => ∃ k : Nat, k ≤ nb ∧ i = .int .i64 (k : Int) ∧ Hid (Below w1.heap.size w1 wr)) (fun i _ => nb - (intOf i).toNat)
      case atStart => exact ⟨0, Nat.zero_le _, rfl, HBS⟩
      case round =>
        obtain ⟨k, hk, rfl, HB⟩ := hrel
        have lwa : w.heap.size < wr.heap.size := by have := HB.out.size; omega
        have lwb : w.heap.size + 1 < wr.heap.size := by have := HB.out.size; omega
        replace c0 := (HB.out.cell (p := ⟨w.heap.size, 0, none⟩) la).trans ((HWA.out.cell 0).trans rfl)
        replace c1 := (HB.out.cell (p := ⟨w.heap.size, 1, none⟩) la).trans ((HWA.out.cell 1).trans rfl)
        replace c2 := (HB.out.cell (p := ⟨w.heap.size, 2, none⟩) la).trans ((HWA.out.cell 2).trans rfl)
        replace c3 := (HB.out.cell (p := ⟨w.heap.size, 3, none⟩) la).trans ((HWA.out.cell 3).trans rfl)
        replace c4 := (HB.out.cell (p := ⟨w.heap.size, 4, none⟩) la).trans ((HWA.out.cell 4).trans rfl)
        replace c5 := (HB.out.cell (p := ⟨w.heap.size, 5, none⟩) la).trans ((HWA.out.cell 5).trans rfl)
        replace c6 := (HB.out.cell (p := ⟨w.heap.size, 6, none⟩) la).trans ((HWA.out.cell 6).trans rfl)
        replace d0 := (HB.out.cell (p := ⟨w.heap.size + 1, 0, none⟩) lb).trans ((HWB.out.cell 0).trans rfl)
        replace d1 := (HB.out.cell (p := ⟨w.heap.size + 1, 1, none⟩) lb).trans ((HWB.out.cell 1).trans rfl)
        replace d2 := (HB.out.cell (p := ⟨w.heap.size + 1, 2, none⟩) lb).trans ((HWB.out.cell 2).trans rfl)
        replace d3 := (HB.out.cell (p := ⟨w.heap.size + 1, 3, none⟩) lb).trans ((HWB.out.cell 3).trans rfl)
        replace d4 := (HB.out.cell (p := ⟨w.heap.size + 1, 4, none⟩) lb).trans ((HWB.out.cell 4).trans rfl)
        replace d5 := (HB.out.cell (p := ⟨w.heap.size + 1, 5, none⟩) lb).trans ((HWB.out.cell 5).trans rfl)
        replace d6 := (HB.out.cell (p := ⟨w.heap.size + 1, 6, none⟩) lb).trans ((HWB.out.cell 6).trans rfl)
        by_cases hlt : k < nb
        · obtain ⟨x, hx⟩ : ∃ x, bs[k]? = some x := ⟨_, List.getElem?_eq_getElem (by rw [HNB.out]; exact hlt)⟩
          obtain ⟨g1, o1, rfl, hg1, hc1⟩ := HRB.out.2 (by omega)
          obtain ⟨g2, o2, rfl, hg2, hc2⟩ := HRB2.out.2 (by omega)
          have u0 := (HB.out.cell (p := ⟨g1, o1 + (k * 5 + 0), none⟩) (Nat.lt_of_lt_of_le hg1 HB1.out.size)).trans ((HB1.out.cell (p := ⟨g1, o1 + (k * 5 + 0), none⟩) hg1).trans (hc1 _ _ ((sbC_get hx 0 (by decide)).trans rfl)))
          rw [Nat.add_zero] at u0
          have u1 := (HB.out.cell (p := ⟨g1, o1 + (k * 5 + 1), none⟩) (Nat.lt_of_lt_of_le hg1 HB1.out.size)).trans ((HB1.out.cell (p := ⟨g1, o1 + (k * 5 + 1), none⟩) hg1).trans (hc1 _ _ ((sbC_get hx 1 (by decide)).trans rfl)))
          rw [← Nat.add_assoc] at u1
          have u2 := (HB.out.cell (p := ⟨g1, o1 + (k * 5 + 2), none⟩) (Nat.lt_of_lt_of_le hg1 HB1.out.size)).trans ((HB1.out.cell (p := ⟨g1, o1 + (k * 5 + 2), none⟩) hg1).trans (hc1 _ _ ((sbC_get hx 2 (by decide)).trans rfl)))
          rw [← Nat.add_assoc] at u2
          have u3 := (HB.out.cell (p := ⟨g1, o1 + (k * 5 + 3), none⟩) (Nat.lt_of_lt_of_le hg1 HB1.out.size)).trans ((HB1.out.cell (p := ⟨g1, o1 + (k * 5 + 3), none⟩) hg1).trans (hc1 _ _ ((sbC_get hx 3 (by decide)).trans rfl)))
          rw [← Nat.add_assoc] at u3
          have u4 := (HB.out.cell (p := ⟨g1, o1 + (k * 5 + 4), none⟩) (Nat.lt_of_lt_of_le hg1 HB1.out.size)).trans ((HB1.out.cell (p := ⟨g1, o1 + (k * 5 + 4), none⟩) hg1).trans (hc1 _ _ ((sbC_get hx 4 (by decide)).trans rfl)))
          rw [← Nat.add_assoc] at u4
          have v0 := (HB.out.cell (p := ⟨g2, o2 + (k * 5 + 0), none⟩) (Nat.lt_of_lt_of_le hg2 HB1.out.size)).trans ((HB1.out.cell (p := ⟨g2, o2 + (k * 5 + 0), none⟩) hg2).trans (hc2 _ _ ((sbC_get hx 0 (by decide)).trans rfl)))
          rw [Nat.add_zero] at v0
          have v1 := (HB.out.cell (p := ⟨g2, o2 + (k * 5 + 1), none⟩) (Nat.lt_of_lt_of_le hg2 HB1.out.size)).trans ((HB1.out.cell (p := ⟨g2, o2 + (k * 5 + 1), none⟩) hg2).trans (hc2 _ _ ((sbC_get hx 1 (by decide)).trans rfl)))
          rw [← Nat.add_assoc] at v1
          have v2 := (HB.out.cell (p := ⟨g2, o2 + (k * 5 + 2), none⟩) (Nat.lt_of_lt_of_le hg2 HB1.out.size)).trans ((HB1.out.cell (p := ⟨g2, o2 + (k * 5 + 2), none⟩) hg2).trans (hc2 _ _ ((sbC_get hx 2 (by decide)).trans rfl)))
          rw [← Nat.add_assoc] at v2
          have v3 := (HB.out.cell (p := ⟨g2, o2 + (k * 5 + 3), none⟩) (Nat.lt_of_lt_of_le hg2 HB1.out.size)).trans ((HB1.out.cell (p := ⟨g2, o2 + (k * 5 + 3), none⟩) hg2).trans (hc2 _ _ ((sbC_get hx 3 (by decide)).trans rfl)))
          rw [← Nat.add_assoc] at v3
          have v4 := (HB.out.cell (p := ⟨g2, o2 + (k * 5 + 4), none⟩) (Nat.lt_of_lt_of_le hg2 HB1.out.size)).trans ((HB1.out.cell (p := ⟨g2, o2 + (k * 5 + 4), none⟩) hg2).trans (hc2 _ _ ((sbC_get hx 4 (by decide)).trans rfl)))
          rw [← Nat.add_assoc] at v4
          have i0 : (0 : Int) ≤ (k : Int) := by omega
          have i1 : (k : Int) < (nb : Int) := by omega
          have l1 : g1 < wr.heap.size := by have := HB.out.size; have := HB1.out.size; omega
          have l2 : g2 < wr.heap.size := by have := HB.out.size; have := HB1.out.size; omega
          obtain ⟨x0, x1, x2, x3, x4⟩ := x
          have NE := fun wx => neq18_rb wx ⟨x0, x1, x2, x3, x4⟩ ⟨x0, x1, x2, x3, x4⟩
          simp only [decide_true, Bool.not_true] at NE
          try dsimp only at u0 v0 u1 v1 u2 v2 u3 v3 u4 v4
          clear hx hc1 hc2
          go_wp2_with fail
          go_region
          go_wp2_with fail
          go_roundw
          case rel => exact ⟨k + 1, by omega, by go_num, Lib.hid (by first | exact HB.out | exact HB.out.drew)⟩
          case measure => simp [intOf]; omega
        · obtain rfl : nb = k := by omega
          have HBS := HB
          clear HB
          go_wp2_with fail
          go_loopw [7] (fun i wr => ∃ k : Nat, k ≤ nt ∧ i = .int .i64 (k : Int) ∧ Hid (Below w1.heap.size w1 wr)) (fun i _ => nt - (intOf i).toNat)
          case atStart => exact ⟨0, Nat.zero_le _, rfl, HBS⟩
          case round =>
            obtain ⟨k, hk, rfl, HB⟩ := hrel
            obtain ⟨wo, rfl⟩ : ∃ z, z = wr := ⟨_, rfl⟩
            have lwa : w.heap.size < wo.heap.size := by have := HB.out.size; omega
            have lwb : w.heap.size + 1 < wo.heap.size := by have := HB.out.size; omega
            replace c0 := (HB.out.cell (p := ⟨w.heap.size, 0, none⟩) la).trans ((HWA.out.cell 0).trans rfl)
            replace c1 := (HB.out.cell (p := ⟨w.heap.size, 1, none⟩) la).trans ((HWA.out.cell 1).trans rfl)
            replace c2 := (HB.out.cell (p := ⟨w.heap.size, 2, none⟩) la).trans ((HWA.out.cell 2).trans rfl)
            replace c3 := (HB.out.cell (p := ⟨w.heap.size, 3, none⟩) la).trans ((HWA.out.cell 3).trans rfl)
            replace c4 := (HB.out.cell (p := ⟨w.heap.size, 4, none⟩) la).trans ((HWA.out.cell 4).trans rfl)
            replace c5 := (HB.out.cell (p := ⟨w.heap.size, 5, none⟩) la).trans ((HWA.out.cell 5).trans rfl)
            replace c6 := (HB.out.cell (p := ⟨w.heap.size, 6, none⟩) la).trans ((HWA.out.cell 6).trans rfl)
            replace d0 := (HB.out.cell (p := ⟨w.heap.size + 1, 0, none⟩) lb).trans ((HWB.out.cell 0).trans rfl)
            replace d1 := (HB.out.cell (p := ⟨w.heap.size + 1, 1, none⟩) lb).trans ((HWB.out.cell 1).trans rfl)
            replace d2 := (HB.out.cell (p := ⟨w.heap.size + 1, 2, none⟩) lb).trans ((HWB.out.cell 2).trans rfl)
            replace d3 := (HB.out.cell (p := ⟨w.heap.size + 1, 3, none⟩) lb).trans ((HWB.out.cell 3).trans rfl)
            replace d4 := (HB.out.cell (p := ⟨w.heap.size + 1, 4, none⟩) lb).trans ((HWB.out.cell 4).trans rfl)
            replace d5 := (HB.out.cell (p := ⟨w.heap.size + 1, 5, none⟩) lb).trans ((HWB.out.cell 5).trans rfl)
            replace d6 := (HB.out.cell (p := ⟨w.heap.size + 1, 6, none⟩) lb).trans ((HWB.out.cell 6).trans rfl)
            by_cases hlt : k < nt
            · obtain ⟨x, hx⟩ : ∃ x, T[k]? = some x := ⟨_, List.getElem?_eq_getElem (by rw [HNT.out]; exact hlt)⟩
              obtain ⟨y, hy, hxy⟩ := tks_two HTT.out hx
              have hS1 := HRT.out.2 x (List.mem_of_getElem? hx)
              have hS2 := HRT2.out.2 y (List.mem_of_getElem? hy)
              have hr1 := HRT.out.1
              have hr2 := HRT2.out.1
              rw [HNT.out] at hr1
              rw [HL2.out] at hr2
              obtain ⟨g1, o1, rfl, hg1, hc1⟩ := hr1.2 (by omega)
              obtain ⟨g2, o2, rfl, hg2, hc2⟩ := hr2.2 (by omega)
              have u0 := (HB.out.cell (p := ⟨g1, o1 + (k * 4 + 0), none⟩) (Nat.lt_of_lt_of_le hg1 HB1.out.size)).trans ((HB1.out.cell (p := ⟨g1, o1 + (k * 4 + 0), none⟩) hg1).trans (hc1 _ _ ((tmC_get hx 0 (by decide)).trans rfl)))
              rw [Nat.add_zero] at u0
              have u1 := (HB.out.cell (p := ⟨g1, o1 + (k * 4 + 1), none⟩) (Nat.lt_of_lt_of_le hg1 HB1.out.size)).trans ((HB1.out.cell (p := ⟨g1, o1 + (k * 4 + 1), none⟩) hg1).trans (hc1 _ _ ((tmC_get hx 1 (by decide)).trans rfl)))
              rw [← Nat.add_assoc] at u1
              have u2 := (HB.out.cell (p := ⟨g1, o1 + (k * 4 + 2), none⟩) (Nat.lt_of_lt_of_le hg1 HB1.out.size)).trans ((HB1.out.cell (p := ⟨g1, o1 + (k * 4 + 2), none⟩) hg1).trans (hc1 _ _ ((tmC_get hx 2 (by decide)).trans rfl)))
              rw [← Nat.add_assoc] at u2
              have u3 := (HB.out.cell (p := ⟨g1, o1 + (k * 4 + 3), none⟩) (Nat.lt_of_lt_of_le hg1 HB1.out.size)).trans ((HB1.out.cell (p := ⟨g1, o1 + (k * 4 + 3), none⟩) hg1).trans (hc1 _ _ ((tmC_get hx 3 (by decide)).trans rfl)))
              rw [← Nat.add_assoc] at u3
              have v0 := (HB.out.cell (p := ⟨g2, o2 + (k * 4 + 0), none⟩) (Nat.lt_of_lt_of_le hg2 HB1.out.size)).trans ((HB1.out.cell (p := ⟨g2, o2 + (k * 4 + 0), none⟩) hg2).trans (hc2 _ _ ((tmC_get hy 0 (by decide)).trans rfl)))
              rw [Nat.add_zero] at v0
              have v1 := (HB.out.cell (p := ⟨g2, o2 + (k * 4 + 1), none⟩) (Nat.lt_of_lt_of_le hg2 HB1.out.size)).trans ((HB1.out.cell (p := ⟨g2, o2 + (k * 4 + 1), none⟩) hg2).trans (hc2 _ _ ((tmC_get hy 1 (by decide)).trans rfl)))
              rw [← Nat.add_assoc] at v1
              have v2 := (HB.out.cell (p := ⟨g2, o2 + (k * 4 + 2), none⟩) (Nat.lt_of_lt_of_le hg2 HB1.out.size)).trans ((HB1.out.cell (p := ⟨g2, o2 + (k * 4 + 2), none⟩) hg2).trans (hc2 _ _ ((tmC_get hy 2 (by decide)).trans rfl)))
              rw [← Nat.add_assoc] at v2
              have v3 := (HB.out.cell (p := ⟨g2, o2 + (k * 4 + 3), none⟩) (Nat.lt_of_lt_of_le hg2 HB1.out.size)).trans ((HB1.out.cell (p := ⟨g2, o2 + (k * 4 + 3), none⟩) hg2).trans (hc2 _ _ ((tmC_get hy 3 (by decide)).trans rfl)))
              rw [← Nat.add_assoc] at v3
              have i0 : (0 : Int) ≤ (k : Int) := by omega
              have i1 : (k : Int) < (nt : Int) := by omega
              have l1 : g1 < wo.heap.size := by have := HB.out.size; have := HB1.out.size; omega
              have l2 : g2 < wo.heap.size := by have := HB.out.size; have := HB1.out.size; omega
              obtain ⟨⟨x0, x1, x2, ss⟩, xA, xc⟩ := x
              obtain ⟨y', yA, yc⟩ := y
              dsimp only at hxy
              subst hxy
              obtain ⟨ns, hns⟩ : ∃ n, ss.length = n := ⟨_, rfl⟩
              have hs5 := hS1.2
              dsimp only at hS1 hS2 hs5 u0 v0 u1 v1 u2 v2 u3 v3
              rw [hns] at u3 v3 hS1 hS2 hs5
              have HS1 := Lib.hid hS1.1
              have HS2 := Lib.hid hS2.1
              obtain ⟨wq, hwq⟩ : ∃ z, z = (wo.alloc (.cells #[.int .i64 x0, .int .i64 x1, .int .i64 x2, .slice xA ns xc] 60)).alloc (.cells #[.int .i64 x0, .int .i64 x1, .int .i64 x2, .slice yA ns yc] 60) := ⟨_, rfl⟩
              have bq : Below w1.heap.size w1 wq := by rw [hwq]; exact (HB.out.alloc HB.out.size _).alloc (HB.out.alloc HB.out.size _).size _
              have q1 : Whole wq wo.heap.size 60 #[.int .i64 x0, .int .i64 x1, .int .i64 x2, .slice xA ns xc] := by rw [hwq]; exact (Whole.new wo _ _).alloc _
              have q2 : Whole wq (wo.heap.size + 1) 60 #[.int .i64 x0, .int .i64 x1, .int .i64 x2, .slice yA ns yc] := by rw [hwq]; exact Whole.new2 wo _ _ _
              have HBQ := Lib.hid bq
              have HQ1 := Lib.hid q1
              have HQ2 := Lib.hid q2
              have lq1 := q1.lt
              have lq2 := q2.lt
              have HNS := Lib.hid hns
              clear bq q1 q2 hx hy hc1 hc2 hS1 hS2 hr1 hr2 hns
              go_upto_region 18 with fail
              rw [← hwq]
              clear hwq
              have e0 := (HQ1.out.cell 0).trans rfl
              have e1 := (HQ1.out.cell 1).trans rfl
              have e2 := (HQ1.out.cell 2).trans rfl
              have e3 := (HQ1.out.cell 3).trans rfl
              have f0 := (HQ2.out.cell 0).trans rfl
              have f1 := (HQ2.out.cell 1).trans rfl
              have f2 := (HQ2.out.cell 2).trans rfl
              have f3 := (HQ2.out.cell 3).trans rfl
              go_wp2_with fail
              have HQS := Lib.hid (Below.refl wq.heap.size wq)
              go_loopw [10] (fun i wr2 => ∃ m : Nat, m ≤ ns ∧ i = .int .i64 (m : Int) ∧ Hid (Below wq.heap.size wq wr2)) (fun i _ => ns - (intOf i).toNat)
              case atStart => exact ⟨0, Nat.zero_le _, rfl, HQS⟩
              case round =>
                obtain ⟨m, hm, rfl, HC⟩ := hrel
                replace e0 := (HC.out.cell (p := ⟨wo.heap.size, 0, none⟩) lq1).trans ((HQ1.out.cell 0).trans rfl)
                replace e1 := (HC.out.cell (p := ⟨wo.heap.size, 1, none⟩) lq1).trans ((HQ1.out.cell 1).trans rfl)
                replace e2 := (HC.out.cell (p := ⟨wo.heap.size, 2, none⟩) lq1).trans ((HQ1.out.cell 2).trans rfl)
                replace e3 := (HC.out.cell (p := ⟨wo.heap.size, 3, none⟩) lq1).trans ((HQ1.out.cell 3).trans rfl)
                replace f0 := (HC.out.cell (p := ⟨wo.heap.size + 1, 0, none⟩) lq2).trans ((HQ2.out.cell 0).trans rfl)
                replace f1 := (HC.out.cell (p := ⟨wo.heap.size + 1, 1, none⟩) lq2).trans ((HQ2.out.cell 1).trans rfl)
                replace f2 := (HC.out.cell (p := ⟨wo.heap.size + 1, 2, none⟩) lq2).trans ((HQ2.out.cell 2).trans rfl)
                replace f3 := (HC.out.cell (p := ⟨wo.heap.size + 1, 3, none⟩) lq2).trans ((HQ2.out.cell 3).trans rfl)
                by_cases hlm : m < ns
                · obtain ⟨v, hv⟩ : ∃ v, ss[m]? = some v := ⟨_, List.getElem?_eq_getElem (by rw [HNS.out]; exact hlm)⟩
                  have hv' : (n32 ss)[m]? = some (.int .u32 v) := by unfold n32; rw [List.getElem?_map, hv]; rfl
                  obtain ⟨g3, o3, rfl, hg3, hc3⟩ := HS1.out.2 (by omega)
                  obtain ⟨g4, o4, rfl, hg4, hc4⟩ := HS2.out.2 (by omega)
                  have r1 := (HC.out.cell (p := ⟨g3, o3 + m, none⟩) (Nat.lt_of_lt_of_le hg3 (Nat.le_trans HB1.out.size HBQ.out.size))).trans ((HBQ.out.cell (p := ⟨g3, o3 + m, none⟩) (Nat.lt_of_lt_of_le hg3 HB1.out.size)).trans ((HB1.out.cell (p := ⟨g3, o3 + m, none⟩) hg3).trans (hc3 _ _ hv')))
                  have r2 := (HC.out.cell (p := ⟨g4, o4 + m, none⟩) (Nat.lt_of_lt_of_le hg4 (Nat.le_trans HB1.out.size HBQ.out.size))).trans ((HBQ.out.cell (p := ⟨g4, o4 + m, none⟩) (Nat.lt_of_lt_of_le hg4 HB1.out.size)).trans ((HB1.out.cell (p := ⟨g4, o4 + m, none⟩) hg4).trans (hc4 _ _ hv')))
                  have j0 : (0 : Int) ≤ (m : Int) := by omega
                  have j1 : (m : Int) < (ns : Int) := by omega
                  have HNSZ := HNS
                  clear hv hv' hc3 hc4
                  go_wp2_with fail
                  go_region
                  go_wp2_with fail
                  go_roundw
                  case rel => exact ⟨m + 1, by omega, by go_num, Lib.hid (by first | exact HC.out | exact HC.out.drew)⟩
                  case measure => simp [intOf]; omega
                · obtain rfl : ns = m := by omega
                  have HBR := Lib.hid (HBQ.out.trans (HC.out.mono HBQ.out.size))
                  go_wp2_with fail
                  go_roundw
                  case rel => exact ⟨k + 1, by omega, by go_num, HBR⟩
                  case measure => simp [intOf]; omega
            · obtain rfl : nt = k := by omega
              have HBF := Lib.hid (HB1.out.trans (HB.out.mono HB1.out.size))
              go_wp2_with fail
              go_ret
              exact ⟨rfl, HBF.out⟩
end Go.Proofs.Ytmmeceehfdbdoaa
