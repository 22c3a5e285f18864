/-
  Contracts of the document's answers of layer 18 (louverref18): may, taken.
-/
import Derived.Test.YtmmeceehfdbdoaaDeR
namespace Go.Proofs.Ytmmeceehfdbdoaa
open Go.RowKit
open Dl
set_option linter.unusedSimpArgs false
set_option linter.unusedVariables false
set_option maxRecDepth 100000

namespace Dl
/-- Of the first ones all may be, and no two are the same. -/
structure Upto (l : List Int) (k : Nat) : Prop where
  ok : ∀ (j : Nat) (x : Int), j < k → l[j]? = some x → 1 ≤ x ∧ x ≤ 2147483647
  no : ∀ (j m : Nat) (x y : Int), j < k → m < j → l[j]? = some x → l[m]? = some y → ¬ y = x
theorem Upto.nil (l : List Int) : Upto l 0 := ⟨fun _ _ h => by omega, fun _ _ _ _ h => by omega⟩
theorem Upto.next {l : List Int} {k : Nat} {x : Int} (h : Upto l k) (hk : l[k]? = some x) (h1 : 1 ≤ x ∧ x ≤ 2147483647) (h2 : ∀ (m : Nat) (y : Int), m < k → l[m]? = some y → ¬ y = x) : Upto l (k + 1) := by
  refine ⟨fun j z hj hz => ?_, fun j m z y hj hm hz hy => ?_⟩
  · rcases Nat.lt_or_ge j k with a | a
    · exact h.ok j z a hz
    · obtain rfl : j = k := by omega
      rw [hk] at hz; injection hz with hz; rw [← hz]; exact h1
  · rcases Nat.lt_or_ge j k with a | a
    · exact h.no j m z y a hm hz hy
    · obtain rfl : j = k := by omega
      rw [hk] at hz; injection hz with hz; rw [← hz]; exact h2 m y hm hy
theorem mayL_all {l : List Int} (h : Upto l l.length) : mayL l = decide (0 < l.length ∧ l.length < 4) := by
  have a : (l.all fun x => decide (1 ≤ x ∧ x ≤ 2147483647)) = true := List.all_eq_true.mpr fun x hx => by
    obtain ⟨j, hj, e⟩ := List.mem_iff_getElem.mp hx
    exact decide_eq_true (h.ok j x hj (by rw [List.getElem?_eq_getElem hj, e]))
  have b : l.Nodup := List.pairwise_iff_getElem.mpr fun i j hi hj hij => h.no j i _ _ hj hij (List.getElem?_eq_getElem hj) (List.getElem?_eq_getElem hi)
  unfold mayL
  rw [a, decide_eq_true b, Bool.and_true, Bool.and_true]
  exact decide_eq_decide.mpr (by omega)
theorem mayL_bad {l : List Int} {k : Nat} {x : Int} (hk : l[k]? = some x) (h : ¬ (1 ≤ x ∧ x ≤ 2147483647)) : mayL l = false := by
  have a : (l.all fun x => decide (1 ≤ x ∧ x ≤ 2147483647)) = false := by
    cases q : (l.all fun x => decide (1 ≤ x ∧ x ≤ 2147483647)) with
    | false => rfl
    | true => exact absurd (of_decide_eq_true (List.all_eq_true.mp q x (List.mem_of_getElem? hk))) h
  unfold mayL
  rw [a, Bool.and_false, Bool.false_and]
theorem mayL_two {l : List Int} {k m : Nat} {x : Int} (hm : m < k) (hk : l[k]? = some x) (hx : l[m]? = some x) : mayL l = false := by
  have a : ¬ l.Nodup := fun h => by
    obtain ⟨i1, e1⟩ := List.getElem?_eq_some_iff.mp hk
    obtain ⟨i2, e2⟩ := List.getElem?_eq_some_iff.mp hx
    exact List.pairwise_iff_getElem.mp h m k i2 i1 hm (e2.trans e1.symm)
  unfold mayL
  rw [decide_eq_false a, Bool.and_false]
theorem n32_get {l : List Int} {i : Nat} {x : Int} (h : l[i]? = some x) : (n32 l)[i]? = some (.int .u32 x) := by
  unfold n32; rw [List.getElem?_map, h]; rfl
end Dl

set_option maxHeartbeats 3200000 in
theorem rmay18 (A : Option Addr) (c : Nat) (l : List Int) (w : World) (hr : Row w w.heap.size 1 A l.length (n32 l)) (hl : l.length ≤ 4096) :
    Calls Try.prog 51 #[.slice A l.length c] w fun e w' => e = .returned (.bool (mayL l)) ∧ Below w.heap.size w w' := by
  obtain ⟨n, hn⟩ : ∃ n, l.length = n := ⟨_, rfl⟩
  have HN := Lib.hid hn
  have HR := Lib.hid hr
  rw [hn] at hl HR ⊢
  clear hr hn
  go_enter Try.func51, Try.ntmps51
  go_wp2_with fail
  go_loopw [3] (fun v wr => ∃ i : Nat, i ≤ n ∧ v = .int .i64 (i : Int) ∧ Below w.heap.size w wr ∧ Upto l i) (fun v _ => n - (intOf v).toNat)
  case atStart => exact ⟨0, Nat.zero_le _, rfl, Below.refl _ _, Upto.nil _⟩
  case round =>
    obtain ⟨i, hi, rfl, hb, hok⟩ := hrel
    have HB := Lib.hid hb
    have HOK := Lib.hid hok
    clear hb hok
    by_cases hlt : i < n
    · obtain ⟨x, hx⟩ : ∃ x, l[i]? = some x := ⟨_, List.getElem?_eq_getElem (by rw [HN.out]; exact hlt)⟩
      obtain ⟨g, o, rfl, hg, hc⟩ := HR.out.2 (by omega)
      have HC := Lib.hid hc
      have HX := Lib.hid hx
      have c0 := (HB.out.cell (p := ⟨g, o + i, none⟩) hg).trans (hc _ _ (n32_get hx))
      have i0 : (0 : Int) ≤ (i : Int) := by omega
      have i1 : (i : Int) < (n : Int) := by omega
      have lg : g < wr.heap.size := by have := HB.out.size; omega
      clear hc hx
      by_cases h1 : x < 1
      · have HBD := Lib.hid (show mayL l = false from mayL_bad HX.out (by omega))
        clear HOK
        go_wp2_with fail
        go_ret
        exact ⟨by rw [HBD.out]; rfl, HB.out⟩
      · by_cases h2 : 2147483647 < x
        · have HBD := Lib.hid (show mayL l = false from mayL_bad HX.out (by omega))
          clear HOK
          go_wp2_with fail
          go_ret
          exact ⟨by rw [HBD.out]; rfl, HB.out⟩
        · go_wp2_with fail
          clear c0
          go_loopw [4] (fun v wq => ∃ k : Nat, k ≤ i ∧ v = .int .i64 (k : Int) ∧ Below w.heap.size w wq ∧ ∀ (m : Nat) (y : Int), m < k → l[m]? = some y → ¬ y = x) (fun v _ => i - (intOf v).toNat)
          case atStart => exact ⟨0, Nat.zero_le _, rfl, HB.out, fun j y h => by omega⟩
          case round =>
            clear HB lg
            obtain ⟨k, hk, rfl, hb, hno⟩ := hrel
            have HB := Lib.hid hb
            have HNO := Lib.hid hno
            clear hb hno
            by_cases hki : k < i
            · obtain ⟨y, hy⟩ : ∃ y, l[k]? = some y := ⟨_, List.getElem?_eq_getElem (by rw [HN.out]; omega)⟩
              have HY := Lib.hid hy
              have hc := HC.out
              have hx := HX.out
              have c0 := (HB.out.cell (p := ⟨g, o + i, none⟩) hg).trans (hc _ _ (n32_get hx))
              have d0 := (HB.out.cell (p := ⟨g, o + k, none⟩) hg).trans (hc _ _ (n32_get hy))
              have k0 : (0 : Int) ≤ (k : Int) := by omega
              have k1 : (k : Int) < (n : Int) := by omega
              have k2 : (k : Int) < (i : Int) := by omega
              have lg : g < wr.heap.size := by have := HB.out.size; omega
              clear hy hc hx
              by_cases hq : y = x
              · have b1 : (y == x) = true := by simp [hq]
                have HBD := Lib.hid (show mayL l = false from mayL_two hki HX.out (by rw [HY.out, hq]))
                clear HOK HNO hq
                go_wp2_with fail
                go_region
                go_wp2_with fail
                go_ret
                exact ⟨by rw [HBD.out]; rfl, HB.out.drew⟩
              · have b1 : (y == x) = false := by simp [hq]
                have HQ := Lib.hid hq
                clear hq
                go_wp2_with fail
                go_region
                go_wp2_with fail
                go_roundw
                case rel => exact ⟨k + 1, by omega, by go_num, HB.out.drew, fun j z hj hz => by
                  rcases Nat.lt_or_ge j k with h | h
                  · exact HNO.out j z h hz
                  · obtain rfl : j = k := by omega
                    rw [HY.out] at hz
                    injection hz with hz
                    rw [← hz]
                    exact HQ.out⟩
                case measure => simp [intOf]; omega
            · obtain rfl : k = i := by omega
              have HU := Lib.hid (HOK.out.next HX.out (by omega) HNO.out)
              clear HOK HNO
              go_wp2_with fail
              go_roundw
              case rel => exact ⟨k + 1, by omega, by go_num, HB.out, HU.out⟩
              case measure => simp [intOf]; omega
    · obtain rfl : i = n := by omega
      have HX := Lib.hid (show mayL l = decide (0 < i ∧ i < 4) by have := HOK.out; rw [← HN.out] at this ⊢; exact mayL_all this)
      clear HOK HR HN
      by_cases h0 : 0 < i
      · by_cases h4 : i < 4
        · have e0 : (0 : Int) < (i : Int) := by omega
          have e4 : (i : Int) < 4 := by omega
          go_wp2_with fail
          go_ret
          exact ⟨by rw [HX.out, decide_eq_true ⟨h0, h4⟩]; rfl, HB.out⟩
        · have e0 : (0 : Int) < (i : Int) := by omega
          have e4 : ¬ (i : Int) < 4 := by omega
          go_wp2_with fail
          go_ret
          exact ⟨by rw [HX.out, decide_eq_false (fun e => h4 e.2)]; rfl, HB.out⟩
      · have e0 : ¬ (0 : Int) < (i : Int) := by omega
        go_wp2_with fail
        go_ret
        exact ⟨by rw [HX.out, decide_eq_false (fun e => h0 e.1)]; rfl, HB.out⟩

namespace Dl
/-- Tracks in memory, below B. -/
def TsAt (w : World) (B : Nat) (A : Option Addr) (l : List Tm) : Prop := Row w B 4 A l.length (tmC l) ∧ ∀ x ∈ l, Row w B 1 x.A x.t.ss.length (n32 x.t.ss) ∧ x.t.ss.length ≤ 4096
theorem TsAt.below {w w' : World} {B : Nat} {A : Option Addr} {l : List Tm} (h : TsAt w B A l) {B' : Nat} (hb : Below B' w w') (hB : B ≤ B') : TsAt w' B A l :=
  ⟨h.1.below hb hB, fun x hx => ⟨(h.2 x hx).1.below hb hB, (h.2 x hx).2⟩⟩
theorem TsAt.more {w : World} {B B' : Nat} {A : Option Addr} {l : List Tm} (h : TsAt w B A l) (hB : B ≤ B') : TsAt w B' A l :=
  ⟨h.1.more hB, fun x hx => ⟨(h.2 x hx).1.more hB, (h.2 x hx).2⟩⟩
def takenM (l : List Tm) (q : List Int) : Bool := l.any fun x => x.t.ss.any fun y => q.contains y
theorem takenM_yes {l : List Tm} {q : List Int} {i k j : Nat} {x : Tm} {y : Int} (hx : l[i]? = some x) (hy : x.t.ss[k]? = some y) (hq : q[j]? = some y) : takenM l q = true :=
  List.any_eq_true.mpr ⟨x, List.mem_of_getElem? hx, List.any_eq_true.mpr ⟨y, List.mem_of_getElem? hy, List.contains_iff_mem.mpr (List.mem_of_getElem? hq)⟩⟩
theorem any_no {α : Type} {f : α → Bool} {l : List α} (h : ∀ (i : Nat) (x : α), l[i]? = some x → f x = false) : l.any f = false := by
  rw [List.any_eq_false]
  intro x hx
  obtain ⟨j, hj, e⟩ := List.mem_iff_getElem.mp hx
  rw [h j x (by rw [List.getElem?_eq_getElem hj, e])]; simp
theorem takenM_no {l : List Tm} {q : List Int} (h : ∀ (i : Nat) (x : Tm), l[i]? = some x → (x.t.ss.any fun y => q.contains y) = false) : takenM l q = false :=
  any_no h
theorem contains_no {q : List Int} {y : Int} (h : ∀ (i : Nat) (x : Int), q[i]? = some x → ¬ y = x) : q.contains y = false := by
  cases e : q.contains y with
  | false => rfl
  | true =>
    obtain ⟨j, hj, e⟩ := List.mem_iff_getElem.mp (List.contains_iff_mem.mp e)
    exact absurd rfl (h j y (by rw [List.getElem?_eq_getElem hj, e]))
end Dl

set_option maxHeartbeats 3200000 in
theorem rtaken18 (a1 a2 a3 a4 : Int) (P B : Value) (A : Option Addr) (c : Nat) (l : List Tm) (Q : Option Addr) (d : Nat) (q : List Int) (w : World)
    (hr : TsAt w w.heap.size A l) (hl : l.length ≤ 4096) (hq : Row w w.heap.size 1 Q q.length (n32 q)) (hm : q.length ≤ 4096) :
    Calls Try.prog 52 #[.agg #[.int .i64 a1, .int .i64 a2, .int .i64 a3, .int .i64 a4, P, .slice A l.length c, B], .slice Q q.length d] w fun e w' => e = .returned (.bool (takenM l q)) ∧ Below w.heap.size w w' := by
  obtain ⟨n, hn⟩ : ∃ n, l.length = n := ⟨_, rfl⟩
  obtain ⟨nq, hnq⟩ : ∃ n, q.length = n := ⟨_, rfl⟩
  have HN := Lib.hid hn
  have HNQ := Lib.hid hnq
  have HR := Lib.hid hr
  have HRQ := Lib.hid hq
  rw [hn] at hl ⊢
  rw [hnq] at hm ⊢
  obtain ⟨w1, hw1⟩ : ∃ z, z = w.alloc (.cells #[.int .i64 a1, .int .i64 a2, .int .i64 a3, .int .i64 a4, P, .slice A n c, B] 37) := ⟨_, rfl⟩
  have HB1 := Lib.hid (show Below w.heap.size w w1 by rw [hw1]; exact (Below.refl _ _).alloc (Nat.le_refl _) _)
  have HS := Lib.hid (show Whole w1 w.heap.size 37 #[.int .i64 a1, .int .i64 a2, .int .i64 a3, .int .i64 a4, P, .slice A n c, B] by rw [hw1]; exact Whole.new w _ _)
  have hz1 : w1.heap.size = w.heap.size + 1 := by rw [hw1]; simp
  clear hr hn hq hnq
  go_enter Try.func52, Try.ntmps52
  go_upto_region 1 with fail
  rw [← hw1]
  clear hw1
  go_wp2_with fail
  have HR1 := Lib.hid (HR.out.below HB1.out (Nat.le_refl _))
  have HQ1 := Lib.hid (HRQ.out.below HB1.out (Nat.le_refl _))
  have R5 := Lib.hid (HS.out.cell 5)
  clear HR HRQ HS
  go_loopw [5] (fun v wr => ∃ i : Nat, i ≤ n ∧ v = .int .i64 (i : Int) ∧ Below w1.heap.size w1 wr ∧ ∀ (j : Nat) (x : Tm), j < i → l[j]? = some x → (x.t.ss.any fun y => q.contains y) = false) (fun v _ => n - (intOf v).toNat)
  case atStart => exact ⟨0, Nat.zero_le _, rfl, Below.refl _ _, fun j x h => by omega⟩
  case round =>
    obtain ⟨i, hi, rfl, hb, hno⟩ := hrel
    have HB := Lib.hid hb
    have HNO := Lib.hid hno
    have hzr := hb.size
    have r5 := (hb.cell (p := ⟨w.heap.size, 5, none⟩) (by show w.heap.size < _; omega)).trans R5.out
    clear hb hno
    by_cases hlt : i < n
    · obtain ⟨x, hx⟩ : ∃ x, l[i]? = some x := ⟨_, List.getElem?_eq_getElem (by rw [HN.out]; exact hlt)⟩
      obtain ⟨g, o, rfl, hg, hc⟩ := HR1.out.1.2 (by rw [HN.out]; omega)
      obtain ⟨hs, hsl⟩ := HR1.out.2 x (List.mem_of_getElem? hx)
      have C3 := Lib.hid ((hc _ _ ((tmC_get hx 3 (by decide)).trans rfl)))
      have HX := Lib.hid hx
      have i0 : (0 : Int) ≤ (i : Int) := by omega
      have i1 : (i : Int) < (n : Int) := by omega
      obtain ⟨⟨xi, xo, xf, xs⟩, xA, xc⟩ := x
      dsimp only at hs hsl
      obtain ⟨ns, hns⟩ : ∃ n, xs.length = n := ⟨_, rfl⟩
      have HNS := Lib.hid hns
      have HSS := Lib.hid hs
      have C3 := Lib.hid (show w1.cell? ⟨g, o + i * 4 + 3, none⟩ = some (.slice xA ns xc) by have := C3.out; rw [← Nat.add_assoc] at this; rw [← hns]; exact this)
      rw [hns] at hsl
      have lg : g < wr.heap.size := by omega
      clear hc hx hs hns
      go_wp2_with fail
      clear r5
      go_loopw [6] (fun v wq => ∃ k : Nat, k ≤ ns ∧ v = .int .i64 (k : Int) ∧ Below w1.heap.size w1 wq ∧ ∀ (m : Nat) (y : Int), m < k → xs[m]? = some y → q.contains y = false) (fun v _ => ns - (intOf v).toNat)
      case atStart => exact ⟨0, Nat.zero_le _, rfl, HB.out, fun j y h => by omega⟩
      case round =>
        clear HB lg hzr
        obtain ⟨k, hk, rfl, hb, hnk⟩ := hrel
        have HB := Lib.hid hb
        have HNK := Lib.hid hnk
        have hzr := hb.size
        have r5 := (hb.cell (p := ⟨w.heap.size, 5, none⟩) (by show w.heap.size < _; omega)).trans R5.out
        have c3 := (hb.cell (p := ⟨g, o + i * 4 + 3, none⟩) (by show g < _; omega)).trans C3.out
        have lg : g < wr.heap.size := by omega
        clear hb hnk
        by_cases hks : k < ns
        · obtain ⟨y, hy⟩ : ∃ y, xs[k]? = some y := ⟨_, List.getElem?_eq_getElem (by rw [HNS.out]; exact hks)⟩
          obtain ⟨g2, o2, rfl, hg2, hc2⟩ := HSS.out.2 (by rw [HNS.out]; omega)
          have CY := Lib.hid (hc2 _ _ (n32_get hy))
          have HY := Lib.hid hy
          have k0 : (0 : Int) ≤ (k : Int) := by omega
          have k1 : (k : Int) < (ns : Int) := by omega
          clear hc2 hy
          go_wp2_with fail
          clear r5 c3
          go_loopw [7] (fun v wq => ∃ j : Nat, j ≤ nq ∧ v = .int .i64 (j : Int) ∧ Below w1.heap.size w1 wq ∧ ∀ (m : Nat) (z : Int), m < j → q[m]? = some z → ¬ z = y) (fun v _ => nq - (intOf v).toNat)
          case atStart => exact ⟨0, Nat.zero_le _, rfl, HB.out, fun j y h => by omega⟩
          case round =>
            clear HB lg hzr
            obtain ⟨j, hj, rfl, hb, hnj⟩ := hrel
            have HB := Lib.hid hb
            have HNJ := Lib.hid hnj
            have hzr := hb.size
            clear hb hnj
            by_cases hjq : j < nq
            · obtain ⟨z, hz⟩ : ∃ z, q[j]? = some z := ⟨_, List.getElem?_eq_getElem (by rw [HNQ.out]; exact hjq)⟩
              obtain ⟨g3, o3, rfl, hg3, hc3⟩ := HQ1.out.2 (by rw [HNQ.out]; omega)
              have r5 := (HB.out.cell (p := ⟨w.heap.size, 5, none⟩) (by show w.heap.size < _; omega)).trans R5.out
              have c3 := (HB.out.cell (p := ⟨g, o + i * 4 + 3, none⟩) (by show g < _; omega)).trans C3.out
              have cy := (HB.out.cell (p := ⟨g2, o2 + k, none⟩) (by show g2 < _; omega)).trans CY.out
              have cz := (HB.out.cell (p := ⟨g3, o3 + j, none⟩) (by show g3 < _; omega)).trans (hc3 _ _ (n32_get hz))
              have HZ := Lib.hid hz
              have j0 : (0 : Int) ≤ (j : Int) := by omega
              have j1 : (j : Int) < (nq : Int) := by omega
              have lg : g < wr.heap.size := by omega
              have lg2 : g2 < wr.heap.size := by omega
              have lg3 : g3 < wr.heap.size := by omega
              have lgw : w.heap.size < wr.heap.size := by omega
              clear hc3 hz
              by_cases hq : y = z
              · have b1 : (y == z) = true := by simp [hq]
                have HBD := Lib.hid (show takenM l q = true from takenM_yes HX.out HY.out (by rw [HZ.out, hq]))
                clear HNO HNK HNJ hq
                go_wp2_with fail
                go_region
                go_wp2_with fail
                go_ret
                exact ⟨by rw [HBD.out]; rfl, (HB1.out.trans (HB.out.drew.mono (by omega)))⟩
              · have b1 : (y == z) = false := by simp [hq]
                have HQN := Lib.hid hq
                clear hq
                go_wp2_with fail
                go_region
                go_wp2_with fail
                go_roundw
                case rel => exact ⟨j + 1, by omega, by go_num, HB.out.drew, fun m x hm hx => by
                  rcases Nat.lt_or_ge m j with h | h
                  · exact HNJ.out m x h hx
                  · obtain rfl : m = j := by omega
                    rw [HZ.out] at hx
                    injection hx with hx
                    rw [← hx]
                    exact fun e => HQN.out e.symm⟩
                case measure => simp [intOf]; omega
            · obtain rfl : j = nq := by omega
              have HC := Lib.hid (show q.contains y = false from contains_no fun m x hx e => HNJ.out m x (by have := (List.getElem?_eq_some_iff.1 hx).1; rw [HNQ.out] at this; exact this) hx e.symm)
              clear HNJ
              go_wp2_with fail
              go_roundw
              case rel => exact ⟨k + 1, by omega, by go_num, HB.out, fun m x hm hx => by
                rcases Nat.lt_or_ge m k with h | h
                · exact HNK.out m x h hx
                · obtain rfl : m = k := by omega
                  rw [HY.out] at hx
                  injection hx with hx
                  rw [← hx]
                  exact HC.out⟩
              case measure => simp [intOf]; omega
        · obtain rfl : k = ns := by omega
          have HC := Lib.hid (show (xs.any fun y => q.contains y) = false from any_no fun m x hx => HNK.out m x (by have := (List.getElem?_eq_some_iff.1 hx).1; rw [HNS.out] at this; exact this) hx)
          clear HNK
          go_wp2_with fail
          go_roundw
          case rel => exact ⟨i + 1, by omega, by go_num, HB.out, fun m x hm hx => by
            rcases Nat.lt_or_ge m i with h | h
            · exact HNO.out m x h hx
            · obtain rfl : m = i := by omega
              rw [HX.out] at hx
              injection hx with hx
              rw [← hx]
              exact HC.out⟩
          case measure => simp [intOf]; omega
    · obtain rfl : i = n := by omega
      have HX := Lib.hid (show takenM l q = false from takenM_no fun m x hx => HNO.out m x (by have := (List.getElem?_eq_some_iff.1 hx).1; rw [HN.out] at this; exact this) hx)
      clear HNO
      go_wp2_with fail
      go_ret
      exact ⟨by rw [HX.out]; rfl, (HB1.out.trans (HB.out.mono (by omega)))⟩
end Go.Proofs.Ytmmeceehfdbdoaa
