/-
  Contract of the document's answer of layer 17 (louverref17): May.
-/
import Derived.Test.YtgjhcnpegaemoaaTbR
import Derived.Test.YtgjhcnpegaemoaaArE
namespace Go.Proofs.Ytgjhcnpegaemoaa
open Go.RowKit
set_option linter.unusedSimpArgs false
set_option linter.unusedVariables false
set_option maxRecDepth 100000

set_option maxHeartbeats 6400000 in
theorem rmay17 (A : Option Addr) (c : Nat) (R0 : List Rt) (B : Option Addr) (d : Nat) (D0 : List Dn) (w : World) (hr : Row w w.heap.size 5 A R0.length (rtC R0)) (hd : Row w w.heap.size 10 B D0.length (dnC D0)) (hl : R0.length ≤ 4096) (hm : D0.length ≤ 4096) :
    Calls Try.prog 9 #[.slice A R0.length c, .slice B D0.length d] w fun e w' => e = .returned (.bool (decide (May R0 D0))) ∧ Below w.heap.size w w' := by
  have HRR := Lib.hid hr
  have HRD := Lib.hid hd
  obtain ⟨nR, hnR⟩ : ∃ n, R0.length = n := ⟨_, rfl⟩
  obtain ⟨nD, hnD⟩ : ∃ n, D0.length = n := ⟨_, rfl⟩
  have HNR := Lib.hid hnR
  have HND := Lib.hid hnD
  rw [hnR] at hl HRR ⊢
  rw [hnD] at hm HRD ⊢
  clear hr hd hnR hnD
  go_enter Try.func9, Try.ntmps9
  go_wp2_with fail
  go_loopw [5] (fun v wr => ∃ i : Nat, i ≤ nR ∧ v = .int .i64 (i : Int) ∧ Below w.heap.size w wr ∧ OkR (R0.take i)) (fun v _ => nR - (intOf v).toNat)
  case atStart => exact ⟨0, Nat.zero_le _, rfl, Below.refl _ _, OkR.nil⟩
  case round =>
    obtain ⟨i, hi, rfl, hb, hok⟩ := hrel
    have HB := Lib.hid hb
    have HOK := Lib.hid hok
    clear hb hok
    by_cases hlt : i < nR
    · obtain ⟨x, hx⟩ : ∃ x, R0[i]? = some x := ⟨_, List.getElem?_eq_getElem (by rw [HNR.out]; exact hlt)⟩
      obtain ⟨g, o, rfl, hg, hc⟩ := HRR.out.2 (by omega)
      have HC := Lib.hid hc
      have HX := Lib.hid hx
      have c0 := (HB.out.cell (p := ⟨g, o + i * 5, none⟩) hg).trans (hc _ _ ((rtC_get hx 0 (by decide)).trans rfl))
      have i0 : (0 : Int) ≤ (i : Int) := by omega
      have i1 : (i : Int) < (nR : Int) := by omega
      have lg : g < wr.heap.size := by have := HB.out.size; omega
      obtain ⟨xs, xt, xf, xl, xh⟩ := x
      dsimp only at c0
      clear hc hx
      by_cases hs : 2147483647 < xs
      · have HBD := Lib.hid (show decide (May R0 D0) = false from decide_eq_false (fun h => by have := h.1.own _ (List.mem_of_getElem? HX.out); dsimp only at this; omega))
        clear HOK
        go_wp2_with fail
        go_ret
        exact ⟨by rw [HBD.out]; rfl, HB.out⟩
      · go_wp2_with fail
        clear c0
        go_loopw [6] (fun v wq => ∃ k : Nat, k ≤ i ∧ v = .int .i64 (k : Int) ∧ Below w.heap.size w wq ∧ ∀ (j : Nat) (y : Rt), j < k → R0[j]? = some y → ¬ badR ⟨xs, xt, xf, xl, xh⟩ y) (fun v _ => i - (intOf v).toNat)
        case atStart => exact ⟨0, Nat.zero_le _, rfl, HB.out, fun j y h => by omega⟩
        case round =>
          clear HB lg
          obtain ⟨k, hk, rfl, hb, hno⟩ := hrel
          have HB := Lib.hid hb
          have HNO := Lib.hid hno
          clear hb hno
          by_cases hki : k < i
          · obtain ⟨y, hy⟩ : ∃ y, R0[k]? = some y := ⟨_, List.getElem?_eq_getElem (by rw [HNR.out]; omega)⟩
            have HY := Lib.hid hy
            have hc := HC.out
            have hx := HX.out
            have c0 := (HB.out.cell (p := ⟨g, o + (i * 5 + 0), none⟩) hg).trans (hc _ _ ((rtC_get hx 0 (by decide)).trans rfl))
            have c1 := (HB.out.cell (p := ⟨g, o + (i * 5 + 1), none⟩) hg).trans (hc _ _ ((rtC_get hx 1 (by decide)).trans rfl))
            have c3 := (HB.out.cell (p := ⟨g, o + (i * 5 + 3), none⟩) hg).trans (hc _ _ ((rtC_get hx 3 (by decide)).trans rfl))
            have d0 := (HB.out.cell (p := ⟨g, o + (k * 5 + 0), none⟩) hg).trans (hc _ _ ((rtC_get hy 0 (by decide)).trans rfl))
            have d1 := (HB.out.cell (p := ⟨g, o + (k * 5 + 1), none⟩) hg).trans (hc _ _ ((rtC_get hy 1 (by decide)).trans rfl))
            have d3 := (HB.out.cell (p := ⟨g, o + (k * 5 + 3), none⟩) hg).trans (hc _ _ ((rtC_get hy 3 (by decide)).trans rfl))
            rw [← Nat.add_assoc] at c0 d0 c1 d1 c3 d3
            rw [Nat.add_zero] at c0 d0
            have k0 : (0 : Int) ≤ (k : Int) := by omega
            have k1 : (k : Int) < (nR : Int) := by omega
            have k2 : (k : Int) < (i : Int) := by omega
            have lg : g < wr.heap.size := by have := HB.out.size; omega
            obtain ⟨ys, yt, yf, yl, yh⟩ := y
            dsimp only at c0 d0 c1 d1 c3 d3
            clear hy hc hx
            by_cases h1 : xs = ys
            · have b1 : (xs == ys) = true := by simp [h1]
              have hev : badR ⟨xs, xt, xf, xl, xh⟩ ⟨ys, yt, yf, yl, yh⟩ := .inl h1
              clear h1
              have HBD := Lib.hid (show decide (May R0 D0) = false from decide_eq_false (fun h => OkR.bad (k := k) (i := i) hki HX.out HY.out (hev) h.1))
              clear HOK HNO
              go_wp2_with fail
              go_region
              go_wp2_with fail
              go_ret
              exact ⟨by rw [HBD.out]; rfl, HB.out.drew⟩
            · have b1 : (xs == ys) = false := by simp [h1]
              by_cases h2 : xt = yt
              · have b2 : (xt == yt) = true := by simp [h2]
                by_cases h3 : xl = yl
                · have b3 : (xl == yl) = true := by simp [h3]
                  have hev : badR ⟨xs, xt, xf, xl, xh⟩ ⟨ys, yt, yf, yl, yh⟩ := .inr ⟨h2, h3⟩
                  clear h1 h2 h3
                  have HBD := Lib.hid (show decide (May R0 D0) = false from decide_eq_false (fun h => OkR.bad (k := k) (i := i) hki HX.out HY.out (hev) h.1))
                  clear HOK HNO
                  go_wp2_with fail
                  go_region
                  go_wp2_with fail
                  go_ret
                  exact ⟨by rw [HBD.out]; rfl, HB.out.drew⟩
                · have b3 : (xl == yl) = false := by simp [h3]
                  have hnb : ¬ badR ⟨xs, xt, xf, xl, xh⟩ ⟨ys, yt, yf, yl, yh⟩ := fun h => h.elim h1 (fun h => h3 h.2)
                  clear h1 h2 h3
                  go_wp2_with fail
                  go_region
                  go_wp2_with fail
                  go_roundw
                  case rel => exact ⟨k + 1, by omega, by go_num, HB.out.drew, fun j z hj hz => by
                    rcases Nat.lt_or_ge j k with h | h
                    · exact HNO.out j z h hz
                    · obtain rfl : j = k := by omega
                      rw [HY.out] at hz
                      injection hz with hz
                      rw [← hz]
                      exact hnb⟩
                  case measure => simp [intOf]; omega
              · have b2 : (xt == yt) = false := by simp [h2]
                have hnb : ¬ badR ⟨xs, xt, xf, xl, xh⟩ ⟨ys, yt, yf, yl, yh⟩ := fun h => h.elim h1 (fun h => h2 h.1)
                clear h1 h2
                go_wp2_with fail
                go_region
                go_wp2_with fail
                go_roundw
                case rel => exact ⟨k + 1, by omega, by go_num, HB.out.drew, fun j z hj hz => by
                  rcases Nat.lt_or_ge j k with h | h
                  · exact HNO.out j z h hz
                  · obtain rfl : j = k := by omega
                    rw [HY.out] at hz
                    injection hz with hz
                    rw [← hz]
                    exact hnb⟩
                case measure => simp [intOf]; omega
          · have hki' : k = i := by omega
            subst hki'
            have HOK2 := Lib.hid (show OkR (R0.take (k + 1)) by
              rw [take_add HX.out]
              refine HOK.out.add (by show xs ≤ 2147483647; omega) (fun y hy => ?_)
              obtain ⟨j, hj⟩ := List.mem_iff_getElem?.1 hy
              have hjk : j < k := by have := (List.getElem?_eq_some_iff.1 hj).1; rw [List.length_take] at this; omega
              rw [List.getElem?_take, if_pos hjk] at hj
              exact HNO.out j y hjk hj)
            clear HNO HOK
            go_wp2_with fail
            go_roundw
            case rel => exact ⟨k + 1, by omega, by go_num, HB.out, HOK2.out⟩
            case measure => simp [intOf]; omega
    · have hin : i = nR := by omega
      subst hin
      have HOKRR := Lib.hid (show OkR R0 by have h := HOK.out; rwa [List.take_of_length_le (by rw [HNR.out]; exact Nat.le_refl _)] at h)
      clear HOK
      go_wp2_with fail
      go_loopw [7] (fun v wr => ∃ i : Nat, i ≤ nD ∧ v = .int .i64 (i : Int) ∧ Below w.heap.size w wr ∧ OkD (D0.take i)) (fun v _ => nD - (intOf v).toNat)
      case atStart => exact ⟨0, Nat.zero_le _, rfl, HB.out, OkD.nil⟩
      case round =>
        obtain ⟨i, hi, rfl, hb, hok⟩ := hrel
        have HB := Lib.hid hb
        have HOK := Lib.hid hok
        clear hb hok
        by_cases hlt : i < nD
        · obtain ⟨x, hx⟩ : ∃ x, D0[i]? = some x := ⟨_, List.getElem?_eq_getElem (by rw [HND.out]; exact hlt)⟩
          obtain ⟨g, o, rfl, hg, hc⟩ := HRD.out.2 (by omega)
          have HC := Lib.hid hc
          have HX := Lib.hid hx
          have c0 := (HB.out.cell (p := ⟨g, o + i * 10, none⟩) hg).trans (hc _ _ ((dnC_get hx 0 (by decide)).trans rfl))
          have i0 : (0 : Int) ≤ (i : Int) := by omega
          have i1 : (i : Int) < (nD : Int) := by omega
          have lg : g < wr.heap.size := by have := HB.out.size; omega
          obtain ⟨xs, xsl, xtu, xw, xt, xh, xf, xl, xd, xm⟩ := x
          dsimp only at c0
          clear hc hx
          by_cases hs : xs < 2147483648
          · have HBD := Lib.hid (show decide (May R0 D0) = false from decide_eq_false (fun h => by have := h.2.own _ (List.mem_of_getElem? HX.out); dsimp only at this; omega))
            clear HOK
            go_wp2_with fail
            go_ret
            exact ⟨by rw [HBD.out]; rfl, HB.out⟩
          · go_wp2_with fail
            clear c0
            go_loopw [8] (fun v wq => ∃ k : Nat, k ≤ i ∧ v = .int .i64 (k : Int) ∧ Below w.heap.size w wq ∧ ∀ (j : Nat) (y : Dn), j < k → D0[j]? = some y → ¬ badD ⟨xs, xsl, xtu, xw, xt, xh, xf, xl, xd, xm⟩ y) (fun v _ => i - (intOf v).toNat)
            case atStart => exact ⟨0, Nat.zero_le _, rfl, HB.out, fun j y h => by omega⟩
            case round =>
              clear HB lg
              obtain ⟨k, hk, rfl, hb, hno⟩ := hrel
              have HB := Lib.hid hb
              have HNO := Lib.hid hno
              clear hb hno
              by_cases hki : k < i
              · obtain ⟨y, hy⟩ : ∃ y, D0[k]? = some y := ⟨_, List.getElem?_eq_getElem (by rw [HND.out]; omega)⟩
                have HY := Lib.hid hy
                have hc := HC.out
                have hx := HX.out
                have c0 := (HB.out.cell (p := ⟨g, o + (i * 10 + 0), none⟩) hg).trans (hc _ _ ((dnC_get hx 0 (by decide)).trans rfl))
                have c1 := (HB.out.cell (p := ⟨g, o + (i * 10 + 1), none⟩) hg).trans (hc _ _ ((dnC_get hx 1 (by decide)).trans rfl))
                have c2 := (HB.out.cell (p := ⟨g, o + (i * 10 + 2), none⟩) hg).trans (hc _ _ ((dnC_get hx 2 (by decide)).trans rfl))
                have c3 := (HB.out.cell (p := ⟨g, o + (i * 10 + 3), none⟩) hg).trans (hc _ _ ((dnC_get hx 3 (by decide)).trans rfl))
                have c4 := (HB.out.cell (p := ⟨g, o + (i * 10 + 4), none⟩) hg).trans (hc _ _ ((dnC_get hx 4 (by decide)).trans rfl))
                have d0 := (HB.out.cell (p := ⟨g, o + (k * 10 + 0), none⟩) hg).trans (hc _ _ ((dnC_get hy 0 (by decide)).trans rfl))
                have d1 := (HB.out.cell (p := ⟨g, o + (k * 10 + 1), none⟩) hg).trans (hc _ _ ((dnC_get hy 1 (by decide)).trans rfl))
                have d2 := (HB.out.cell (p := ⟨g, o + (k * 10 + 2), none⟩) hg).trans (hc _ _ ((dnC_get hy 2 (by decide)).trans rfl))
                have d3 := (HB.out.cell (p := ⟨g, o + (k * 10 + 3), none⟩) hg).trans (hc _ _ ((dnC_get hy 3 (by decide)).trans rfl))
                have d4 := (HB.out.cell (p := ⟨g, o + (k * 10 + 4), none⟩) hg).trans (hc _ _ ((dnC_get hy 4 (by decide)).trans rfl))
                rw [← Nat.add_assoc] at c0 d0 c1 d1 c2 d2 c3 d3 c4 d4
                rw [Nat.add_zero] at c0 d0
                have k0 : (0 : Int) ≤ (k : Int) := by omega
                have k1 : (k : Int) < (nD : Int) := by omega
                have k2 : (k : Int) < (i : Int) := by omega
                have lg : g < wr.heap.size := by have := HB.out.size; omega
                obtain ⟨ys, ysl, ytu, yw, yt, yh, yf, yl, yd, ym⟩ := y
                dsimp only at c0 d0 c1 d1 c2 d2 c3 d3 c4 d4
                clear hy hc hx
                by_cases h1 : xs = ys
                · have b1 : (xs == ys) = true := by simp [h1]
                  have hev : badD ⟨xs, xsl, xtu, xw, xt, xh, xf, xl, xd, xm⟩ ⟨ys, ysl, ytu, yw, yt, yh, yf, yl, yd, ym⟩ := .inl h1
                  clear h1
                  have HBD := Lib.hid (show decide (May R0 D0) = false from decide_eq_false (fun h => OkD.bad (k := k) (i := i) hki HX.out HY.out (hev) h.2))
                  clear HOK HNO
                  go_wp2_with fail
                  go_region
                  go_wp2_with fail
                  go_ret
                  exact ⟨by rw [HBD.out]; rfl, HB.out.drew⟩
                · have b1 : (xs == ys) = false := by simp [h1]
                  by_cases h2 : xsl = ysl ∧ xtu = ytu
                  · have EQ := fun w : World => eql_ref w xsl xtu ysl ytu true (by simp [h2.1, h2.2])
                    have hev : badD ⟨xs, xsl, xtu, xw, xt, xh, xf, xl, xd, xm⟩ ⟨ys, ysl, ytu, yw, yt, yh, yf, yl, yd, ym⟩ := .inr (.inl h2)
                    clear h1 h2
                    have HBD := Lib.hid (show decide (May R0 D0) = false from decide_eq_false (fun h => OkD.bad (k := k) (i := i) hki HX.out HY.out (hev) h.2))
                    clear HOK HNO
                    go_wp2_with fail
                    go_region
                    go_wp2_with fail
                    go_ret
                    exact ⟨by rw [HBD.out]; rfl, HB.out.drew⟩
                  · have EQ := fun w : World => eql_ref w xsl xtu ysl ytu false (by
                      by_cases h3 : xsl = ysl
                      · have h4 : ¬ xtu = ytu := fun h => h2 ⟨h3, h⟩
                        simp [h3, h4]
                      · simp [h3])
                    by_cases h3 : xw = yw
                    · have b3 : (xw == yw) = true := by simp [h3]
                      by_cases h4 : xt = yt
                      · have b4 : (xt == yt) = true := by simp [h4]
                        have hev : badD ⟨xs, xsl, xtu, xw, xt, xh, xf, xl, xd, xm⟩ ⟨ys, ysl, ytu, yw, yt, yh, yf, yl, yd, ym⟩ := .inr (.inr ⟨h3, h4⟩)
                        clear h1 h2 h3 h4
                        have HBD := Lib.hid (show decide (May R0 D0) = false from decide_eq_false (fun h => OkD.bad (k := k) (i := i) hki HX.out HY.out (hev) h.2))
                        clear HOK HNO
                        go_wp2_with fail
                        go_region
                        go_wp2_with fail
                        go_ret
                        exact ⟨by rw [HBD.out]; rfl, HB.out.drew⟩
                      · have b4 : (xt == yt) = false := by simp [h4]
                        have hnb : ¬ badD ⟨xs, xsl, xtu, xw, xt, xh, xf, xl, xd, xm⟩ ⟨ys, ysl, ytu, yw, yt, yh, yf, yl, yd, ym⟩ := fun h => h.elim h1 (fun h => h.elim h2 (fun h => h4 h.2))
                        clear h1 h2 h3 h4
                        go_wp2_with fail
                        go_region
                        go_wp2_with fail
                        go_roundw
                        case rel => exact ⟨k + 1, by omega, by go_num, HB.out.drew, fun j z hj hz => by
                          rcases Nat.lt_or_ge j k with h | h
                          · exact HNO.out j z h hz
                          · obtain rfl : j = k := by omega
                            rw [HY.out] at hz
                            injection hz with hz
                            rw [← hz]
                            exact hnb⟩
                        case measure => simp [intOf]; omega
                    · have b3 : (xw == yw) = false := by simp [h3]
                      have hnb : ¬ badD ⟨xs, xsl, xtu, xw, xt, xh, xf, xl, xd, xm⟩ ⟨ys, ysl, ytu, yw, yt, yh, yf, yl, yd, ym⟩ := fun h => h.elim h1 (fun h => h.elim h2 (fun h => h3 h.1))
                      clear h1 h2 h3
                      go_wp2_with fail
                      go_region
                      go_wp2_with fail
                      go_roundw
                      case rel => exact ⟨k + 1, by omega, by go_num, HB.out.drew, fun j z hj hz => by
                        rcases Nat.lt_or_ge j k with h | h
                        · exact HNO.out j z h hz
                        · obtain rfl : j = k := by omega
                          rw [HY.out] at hz
                          injection hz with hz
                          rw [← hz]
                          exact hnb⟩
                      case measure => simp [intOf]; omega
              · have hki' : k = i := by omega
                subst hki'
                have HOK2 := Lib.hid (show OkD (D0.take (k + 1)) by
                  rw [take_add HX.out]
                  refine HOK.out.add (by show 2147483648 ≤ xs; omega) (fun y hy => ?_)
                  obtain ⟨j, hj⟩ := List.mem_iff_getElem?.1 hy
                  have hjk : j < k := by have := (List.getElem?_eq_some_iff.1 hj).1; rw [List.length_take] at this; omega
                  rw [List.getElem?_take, if_pos hjk] at hj
                  exact HNO.out j y hjk hj)
                clear HNO HOK
                go_wp2_with fail
                go_roundw
                case rel => exact ⟨k + 1, by omega, by go_num, HB.out, HOK2.out⟩
                case measure => simp [intOf]; omega
        · have hin : i = nD := by omega
          subst hin
          have HOKRD := Lib.hid (show OkD D0 by have h := HOK.out; rwa [List.take_of_length_le (by rw [HND.out]; exact Nat.le_refl _)] at h)
          clear HOK
          have HTR := Lib.hid (show decide (May R0 D0) = true from decide_eq_true ⟨HOKRR.out, HOKRD.out⟩)
          clear HOKRR HOKRD
          go_wp2_with fail
          go_ret
          exact ⟨by rw [HTR.out]; rfl, HB.out⟩
end Go.Proofs.Ytgjhcnpegaemoaa
