/-
 Proved: DeltaPlays returns true for every number of people, tracks and subs, and every row of requests: whatever is asked for, one behind the other, the state, and the error, are the document's, step by step. Conditions: none.
-/
import Derived.Conc.WalkWords
import Derived.Test.YtmmeceehfdbdoaaDaB
import Derived.Test.YtmmeceehfdbdoaaDaO
import Derived.Test.YtmmeceehfdbdoaaDaQ
import Derived.Test.YtmmeceehfdbdoaaLift
import Derived.Deep.CutBlock
import Derived.Deep.DeepCutAuto
import Derived.Test.YtmmeceehfdbdoaaHang
import Derived.Test.YtmmeceehfdbdoaaDaS
import Derived.Test.YtmmeceehfdbdoaaDaT
import Derived.RegionTactic
namespace Go.Proofs.Ytmmeceehfdbdoaa.LPlays
open Go.ChangeShapes Go.WideShapes Go.ChangeAt Go.RowKit
open Dl
set_option linter.unusedSimpArgs false
set_option linter.unusedVariables false
set_option maxRecDepth 100000

set_option maxHeartbeats 25600000 in
theorem walk (w : World) (c : Cf) (_tr : True) (A : Option Addr) (cc : Nat) (l : List Qm) (hl : l.length ≤ maxLen) (hr : Row w w.heap.size 8 A l.length (rowC qmV l)) (ho : ∀ a ∈ l, QOk w a) :
 Calls Try.prog 3 #[.agg #[.int .i64 c.ps, .int .i64 c.ts, .int .i64 c.bs, .int .i64 c.sl], .slice A l.length cc] w fun e w' => e = .returned (.bool true) ∧ Below w.heap.size w w' := by
 obtain ⟨n, hn⟩ : ∃ n, l.length = n := ⟨_, rfl⟩
 have HR := Lib.hid (show Row w w.heap.size 8 A l.length (qmC l) from hr)
 have HO := Lib.hid ho
 have HN := Lib.hid hn
 unfold maxLen at hl
 obtain ⟨w0, hw0⟩ : ∃ z, z = w.alloc (.cells #[.int .i64 c.ps, .int .i64 c.ts, .int .i64 c.bs, .int .i64 c.sl] 23) := ⟨_, rfl⟩
 have b0 : Below w.heap.size w w0 := by rw [hw0]; exact (Below.refl _ _).alloc (Nat.le_refl _) _
 have hC : Whole w0 w.heap.size 23 #[.int .i64 c.ps, .int .i64 c.ts, .int .i64 c.bs, .int .i64 c.sl] := by rw [hw0]; exact Whole.new w _ _
 have HC := Lib.hid hC
 have HB0 := Lib.hid b0
 have lC := hC.lt
 have CA := Lib.hid (awake18 w0)
 have CF := Lib.hid (fun w' (b : Below w.heap.size w w') => few18 A cc l w' ((HR.out.below b (Nat.le_refl _)).more b.size) (by unfold maxLen; omega))
 rw [hn] at hl CF ⊢
 clear hr ho hn b0 hC _tr
 cases hfw : fewS l with
 | false =>
  cases hcf : confL c with
  | false =>
   have CF2 := CF.out
   rw [hfw] at CF2
   have CB := fun w => begun18 c w
   rw [hcf] at CB
   simp only [if_true, if_false, Bool.false_eq_true, reduceIte] at CB
   have HCF2 := Lib.hid CF2
   have HCB := Lib.hid CB
   clear CF2 CB
   go_enter Try.func3, Try.ntmps3
   go_upto_region 1 with fail
   rw [← hw0]
   clear hw0
   go_wp2_with fail
   refine CA.out.mono ?_
   rintro e w1 ⟨rfl, b1⟩
   have HB1 := Lib.hid (HB0.out.trans (b1.mono HB0.out.size))
   have hC1 := HC.out.below b1 lC
   have lC1 := hC1.lt
   have HC1 := Lib.hid hC1
   clear b1 hC1 CA HC HB0
   go_wp2_with fail
   refine (HCF2.out w1 HB1.out).mono ?_
   rintro e w2 ⟨rfl, b2⟩
   have HB2 := Lib.hid (HB1.out.trans (b2.mono HB1.out.size))
   have hC2 := HC1.out.below b2 lC1
   have c0 := (hC2.cell 0).trans rfl
   have c1 := (hC2.cell 1).trans rfl
   have c2 := (hC2.cell 2).trans rfl
   have c3 := (hC2.cell 3).trans rfl
   have HC2 := Lib.hid hC2
   have lC2 := hC2.lt
   clear b2 hC2 HCF2 HC1 HB1 CF
   go_wp2_with fail
   refine (HCB.out w2).mono ?_
   rintro e w3 ⟨rfl, b3⟩
   have HB3 := Lib.hid (HB2.out.trans (b3.mono HB2.out.size))
   have HC3 := Lib.hid (HC2.out.below b3 HC2.out.lt)
   clear b3 HCB HB2 c0 c1 c2 c3
   obtain ⟨w4, hw4⟩ : ∃ z, z = (w3.alloc (.cells #[.int .i64 0, .int .i64 0, .int .i64 0, .int .i64 0, .slice none 0 0, .slice none 0 0, .slice none 0 0] 31)).alloc (.cells #[.int .i64 c.ps, .int .i64 c.ts, .int .i64 c.bs, .int .i64 c.sl, .slice none 0 0, .slice none 0 0, .slice none 0 0] 37) := ⟨_, rfl⟩
   have HB4 := Lib.hid (show Below w.heap.size w w4 by rw [hw4]; exact (HB3.out.alloc HB3.out.size _).alloc (HB3.out.alloc HB3.out.size _).size _)
   have hC4 : Whole w4 w.heap.size 23 #[.int .i64 c.ps, .int .i64 c.ts, .int .i64 c.bs, .int .i64 c.sl] := by rw [hw4]; exact (HC3.out.alloc _).alloc _
   have lC4 := hC4.lt
   have c0 : w4.cell? ⟨w.heap.size, 0, none⟩ = some (.int .i64 c.ps) := (hC4.cell 0).trans rfl
   have c1 : w4.cell? ⟨w.heap.size, 1, none⟩ = some (.int .i64 c.ts) := (hC4.cell 1).trans rfl
   have c2 : w4.cell? ⟨w.heap.size, 2, none⟩ = some (.int .i64 c.bs) := (hC4.cell 2).trans rfl
   have c3 : w4.cell? ⟨w.heap.size, 3, none⟩ = some (.int .i64 c.sl) := (hC4.cell 3).trans rfl
   clear hC4
   go_upto_region 6 with fail
   rw [← hw4]
   clear hw4 HB3 HC3
   go_cut [10] (fun v wx => v = .bool false ∧ wx = w4)
   case first =>
    by_cases a1 : 1 ≤ c.ps
    · by_cases a2 : c.ps ≤ 16
      · by_cases a3 : 1 ≤ c.ts
        · by_cases a4 : c.ts ≤ 16
          · by_cases a5 : 1 ≤ c.bs
            · by_cases a6 : c.bs ≤ 16
              · by_cases a7 : 1 ≤ c.sl
                · by_cases a8 : c.sl ≤ 64
                  · exact absurd hcf (by unfold confL; rw [decide_eq_true ⟨a1, a2, a3, a4, a5, a6, a7, a8⟩]; simp)
                  · clear hcf
                    go_wp2_with fail
                    go_meet
                    exact ⟨rfl, rfl⟩
                · clear hcf
                  go_wp2_with fail
                  go_meet
                  exact ⟨rfl, rfl⟩
              · clear hcf
                go_wp2_with fail
                go_meet
                exact ⟨rfl, rfl⟩
            · clear hcf
              go_wp2_with fail
              go_meet
              exact ⟨rfl, rfl⟩
          · clear hcf
            go_wp2_with fail
            go_meet
            exact ⟨rfl, rfl⟩
        · clear hcf
          go_wp2_with fail
          go_meet
          exact ⟨rfl, rfl⟩
      · clear hcf
        go_wp2_with fail
        go_meet
        exact ⟨rfl, rfl⟩
    · clear hcf
      go_wp2_with fail
      go_meet
      exact ⟨rfl, rfl⟩
   case rest =>
    obtain ⟨rfl, hwz⟩ := hcut
    obtain rfl : w4 = wc := hwz.symm
    have HBE := HB4
    clear HB4 c0 c1 c2 c3
    go_wp2_with fail
    go_ret
    exact ⟨rfl, HBE.out⟩
  | true =>
   have CF2 := CF.out
   rw [hfw] at CF2
   have CB := fun w => begun18 c w
   rw [hcf] at CB
   simp only [if_true, if_false, Bool.false_eq_true, reduceIte] at CB
   rw [show smA (zeroM c) = #[.int .i64 c.ps, .int .i64 c.ts, .int .i64 c.bs, .int .i64 c.sl, .slice none 0 0, .slice none 0 0, .slice none 0 0] from rfl] at CB
   have HCF2 := Lib.hid CF2
   have HCB := Lib.hid CB
   clear CF2 CB
   go_enter Try.func3, Try.ntmps3
   go_upto_region 1 with fail
   rw [← hw0]
   clear hw0
   go_wp2_with fail
   refine CA.out.mono ?_
   rintro e w1 ⟨rfl, b1⟩
   have HB1 := Lib.hid (HB0.out.trans (b1.mono HB0.out.size))
   have hC1 := HC.out.below b1 lC
   have lC1 := hC1.lt
   have HC1 := Lib.hid hC1
   clear b1 hC1 CA HC HB0
   go_wp2_with fail
   refine (HCF2.out w1 HB1.out).mono ?_
   rintro e w2 ⟨rfl, b2⟩
   have HB2 := Lib.hid (HB1.out.trans (b2.mono HB1.out.size))
   have hC2 := HC1.out.below b2 lC1
   have c0 := (hC2.cell 0).trans rfl
   have c1 := (hC2.cell 1).trans rfl
   have c2 := (hC2.cell 2).trans rfl
   have c3 := (hC2.cell 3).trans rfl
   have HC2 := Lib.hid hC2
   have lC2 := hC2.lt
   clear b2 hC2 HCF2 HC1 HB1 CF
   go_wp2_with fail
   refine (HCB.out w2).mono ?_
   rintro e w3 ⟨rfl, b3⟩
   have HB3 := Lib.hid (HB2.out.trans (b3.mono HB2.out.size))
   have HC3 := Lib.hid (HC2.out.below b3 HC2.out.lt)
   clear b3 HCB HB2 c0 c1 c2 c3
   obtain ⟨w4, hw4⟩ : ∃ z, z = (w3.alloc (.cells #[.int .i64 c.ps, .int .i64 c.ts, .int .i64 c.bs, .int .i64 c.sl, .slice none 0 0, .slice none 0 0, .slice none 0 0] 31)).alloc (.cells #[.int .i64 c.ps, .int .i64 c.ts, .int .i64 c.bs, .int .i64 c.sl, .slice none 0 0, .slice none 0 0, .slice none 0 0] 37) := ⟨_, rfl⟩
   have HB4 := Lib.hid (show Below w.heap.size w w4 by rw [hw4]; exact (HB3.out.alloc HB3.out.size _).alloc (HB3.out.alloc HB3.out.size _).size _)
   have hC4 : Whole w4 w.heap.size 23 #[.int .i64 c.ps, .int .i64 c.ts, .int .i64 c.bs, .int .i64 c.sl] := by rw [hw4]; exact (HC3.out.alloc _).alloc _
   have lC4 := hC4.lt
   have c0 : w4.cell? ⟨w.heap.size, 0, none⟩ = some (.int .i64 c.ps) := (hC4.cell 0).trans rfl
   have c1 : w4.cell? ⟨w.heap.size, 1, none⟩ = some (.int .i64 c.ts) := (hC4.cell 1).trans rfl
   have c2 : w4.cell? ⟨w.heap.size, 2, none⟩ = some (.int .i64 c.bs) := (hC4.cell 2).trans rfl
   have c3 : w4.cell? ⟨w.heap.size, 3, none⟩ = some (.int .i64 c.sl) := (hC4.cell 3).trans rfl
   obtain ⟨a1, a2, a3, a4, a5, a6, a7, a8⟩ : 1 ≤ c.ps ∧ c.ps ≤ 16 ∧ 1 ≤ c.ts ∧ c.ts ≤ 16 ∧ 1 ≤ c.bs ∧ c.bs ≤ 16 ∧ 1 ≤ c.sl ∧ c.sl ≤ 64 := by have := hcf; unfold confL at this; exact of_decide_eq_true this
   clear hC4
   go_upto_region 6 with fail
   rw [← hw4]
   clear hw4 HB3 HC3
   have HBE := HB4
   clear HB4
   go_wp2_with fail
   go_ret
   exact ⟨rfl, HBE.out⟩
 | true =>
  cases hcf : confL c with
  | false =>
   have CF2 := CF.out
   rw [hfw] at CF2
   have CB := fun w => begun18 c w
   rw [hcf] at CB
   simp only [if_true, if_false, Bool.false_eq_true, reduceIte] at CB
   have HCF2 := Lib.hid CF2
   have HCB := Lib.hid CB
   clear CF2 CB
   go_enter Try.func3, Try.ntmps3
   go_upto_region 1 with fail
   rw [← hw0]
   clear hw0
   go_wp2_with fail
   refine CA.out.mono ?_
   rintro e w1 ⟨rfl, b1⟩
   have HB1 := Lib.hid (HB0.out.trans (b1.mono HB0.out.size))
   have hC1 := HC.out.below b1 lC
   have lC1 := hC1.lt
   have HC1 := Lib.hid hC1
   clear b1 hC1 CA HC HB0
   go_wp2_with fail
   refine (HCF2.out w1 HB1.out).mono ?_
   rintro e w2 ⟨rfl, b2⟩
   have HB2 := Lib.hid (HB1.out.trans (b2.mono HB1.out.size))
   have hC2 := HC1.out.below b2 lC1
   have c0 := (hC2.cell 0).trans rfl
   have c1 := (hC2.cell 1).trans rfl
   have c2 := (hC2.cell 2).trans rfl
   have c3 := (hC2.cell 3).trans rfl
   have HC2 := Lib.hid hC2
   have lC2 := hC2.lt
   clear b2 hC2 HCF2 HC1 HB1 CF
   go_wp2_with fail
   refine (HCB.out w2).mono ?_
   rintro e w3 ⟨rfl, b3⟩
   have HB3 := Lib.hid (HB2.out.trans (b3.mono HB2.out.size))
   have HC3 := Lib.hid (HC2.out.below b3 HC2.out.lt)
   clear b3 HCB HB2 c0 c1 c2 c3
   obtain ⟨w4, hw4⟩ : ∃ z, z = (w3.alloc (.cells #[.int .i64 0, .int .i64 0, .int .i64 0, .int .i64 0, .slice none 0 0, .slice none 0 0, .slice none 0 0] 31)).alloc (.cells #[.int .i64 c.ps, .int .i64 c.ts, .int .i64 c.bs, .int .i64 c.sl, .slice none 0 0, .slice none 0 0, .slice none 0 0] 37) := ⟨_, rfl⟩
   have HB4 := Lib.hid (show Below w.heap.size w w4 by rw [hw4]; exact (HB3.out.alloc HB3.out.size _).alloc (HB3.out.alloc HB3.out.size _).size _)
   have hC4 : Whole w4 w.heap.size 23 #[.int .i64 c.ps, .int .i64 c.ts, .int .i64 c.bs, .int .i64 c.sl] := by rw [hw4]; exact (HC3.out.alloc _).alloc _
   have lC4 := hC4.lt
   have c0 : w4.cell? ⟨w.heap.size, 0, none⟩ = some (.int .i64 c.ps) := (hC4.cell 0).trans rfl
   have c1 : w4.cell? ⟨w.heap.size, 1, none⟩ = some (.int .i64 c.ts) := (hC4.cell 1).trans rfl
   have c2 : w4.cell? ⟨w.heap.size, 2, none⟩ = some (.int .i64 c.bs) := (hC4.cell 2).trans rfl
   have c3 : w4.cell? ⟨w.heap.size, 3, none⟩ = some (.int .i64 c.sl) := (hC4.cell 3).trans rfl
   clear hC4
   go_upto_region 6 with fail
   rw [← hw4]
   clear hw4 HB3 HC3
   go_cut [10] (fun v wx => v = .bool false ∧ wx = w4)
   case first =>
    by_cases a1 : 1 ≤ c.ps
    · by_cases a2 : c.ps ≤ 16
      · by_cases a3 : 1 ≤ c.ts
        · by_cases a4 : c.ts ≤ 16
          · by_cases a5 : 1 ≤ c.bs
            · by_cases a6 : c.bs ≤ 16
              · by_cases a7 : 1 ≤ c.sl
                · by_cases a8 : c.sl ≤ 64
                  · exact absurd hcf (by unfold confL; rw [decide_eq_true ⟨a1, a2, a3, a4, a5, a6, a7, a8⟩]; simp)
                  · clear hcf
                    go_wp2_with fail
                    go_meet
                    exact ⟨rfl, rfl⟩
                · clear hcf
                  go_wp2_with fail
                  go_meet
                  exact ⟨rfl, rfl⟩
              · clear hcf
                go_wp2_with fail
                go_meet
                exact ⟨rfl, rfl⟩
            · clear hcf
              go_wp2_with fail
              go_meet
              exact ⟨rfl, rfl⟩
          · clear hcf
            go_wp2_with fail
            go_meet
            exact ⟨rfl, rfl⟩
        · clear hcf
          go_wp2_with fail
          go_meet
          exact ⟨rfl, rfl⟩
      · clear hcf
        go_wp2_with fail
        go_meet
        exact ⟨rfl, rfl⟩
    · clear hcf
      go_wp2_with fail
      go_meet
      exact ⟨rfl, rfl⟩
   case rest =>
    obtain ⟨rfl, hwz⟩ := hcut
    obtain rfl : w4 = wc := hwz.symm
    have HBE := HB4
    clear HB4 c0 c1 c2 c3
    go_wp2_with fail
    go_ret
    exact ⟨rfl, HBE.out⟩
  | true =>
   have CF2 := CF.out
   rw [hfw] at CF2
   have CB := fun w => begun18 c w
   rw [hcf] at CB
   simp only [if_true, if_false, Bool.false_eq_true, reduceIte] at CB
   rw [show smA (zeroM c) = #[.int .i64 c.ps, .int .i64 c.ts, .int .i64 c.bs, .int .i64 c.sl, .slice none 0 0, .slice none 0 0, .slice none 0 0] from rfl] at CB
   have HCF2 := Lib.hid CF2
   have HCB := Lib.hid CB
   clear CF2 CB
   go_enter Try.func3, Try.ntmps3
   go_upto_region 1 with fail
   rw [← hw0]
   clear hw0
   go_wp2_with fail
   refine CA.out.mono ?_
   rintro e w1 ⟨rfl, b1⟩
   have HB1 := Lib.hid (HB0.out.trans (b1.mono HB0.out.size))
   have hC1 := HC.out.below b1 lC
   have lC1 := hC1.lt
   have HC1 := Lib.hid hC1
   clear b1 hC1 CA HC HB0
   go_wp2_with fail
   refine (HCF2.out w1 HB1.out).mono ?_
   rintro e w2 ⟨rfl, b2⟩
   have HB2 := Lib.hid (HB1.out.trans (b2.mono HB1.out.size))
   have hC2 := HC1.out.below b2 lC1
   have c0 := (hC2.cell 0).trans rfl
   have c1 := (hC2.cell 1).trans rfl
   have c2 := (hC2.cell 2).trans rfl
   have c3 := (hC2.cell 3).trans rfl
   have HC2 := Lib.hid hC2
   have lC2 := hC2.lt
   clear b2 hC2 HCF2 HC1 HB1 CF
   go_wp2_with fail
   refine (HCB.out w2).mono ?_
   rintro e w3 ⟨rfl, b3⟩
   have HB3 := Lib.hid (HB2.out.trans (b3.mono HB2.out.size))
   have HC3 := Lib.hid (HC2.out.below b3 HC2.out.lt)
   clear b3 HCB HB2 c0 c1 c2 c3
   obtain ⟨N, hN⟩ : ∃ N, w3.heap.size = N := ⟨_, rfl⟩
   obtain ⟨w4, hw4⟩ : ∃ z, z = (w3.alloc (.cells #[.int .i64 c.ps, .int .i64 c.ts, .int .i64 c.bs, .int .i64 c.sl, .slice none 0 0, .slice none 0 0, .slice none 0 0] 31)).alloc (.cells #[.int .i64 c.ps, .int .i64 c.ts, .int .i64 c.bs, .int .i64 c.sl, .slice none 0 0, .slice none 0 0, .slice none 0 0] 37) := ⟨_, rfl⟩
   have HB4 := Lib.hid (show Below w.heap.size w w4 by rw [hw4]; exact (HB3.out.alloc HB3.out.size _).alloc (HB3.out.alloc HB3.out.size _).size _)
   have hC4 : Whole w4 w.heap.size 23 #[.int .i64 c.ps, .int .i64 c.ts, .int .i64 c.bs, .int .i64 c.sl] := by rw [hw4]; exact (HC3.out.alloc _).alloc _
   have lC4 := hC4.lt
   have c0 : w4.cell? ⟨w.heap.size, 0, none⟩ = some (.int .i64 c.ps) := (hC4.cell 0).trans rfl
   have c1 : w4.cell? ⟨w.heap.size, 1, none⟩ = some (.int .i64 c.ts) := (hC4.cell 1).trans rfl
   have c2 : w4.cell? ⟨w.heap.size, 2, none⟩ = some (.int .i64 c.bs) := (hC4.cell 2).trans rfl
   have c3 : w4.cell? ⟨w.heap.size, 3, none⟩ = some (.int .i64 c.sl) := (hC4.cell 3).trans rfl
   obtain ⟨a1, a2, a3, a4, a5, a6, a7, a8⟩ : 1 ≤ c.ps ∧ c.ps ≤ 16 ∧ 1 ≤ c.ts ∧ c.ts ≤ 16 ∧ 1 ≤ c.bs ∧ c.bs ≤ 16 ∧ 1 ≤ c.sl ∧ c.sl ≤ 64 := by have := hcf; unfold confL at this; exact of_decide_eq_true this
   have HW4 := Lib.hid (show Whole w4 N 31 (smA (zeroM c)) by rw [hw4, ← hN]; exact (Whole.new w3 _ _).alloc _)
   have HV4 := Lib.hid (show Whole w4 (N + 1) 37 (smA (zeroM c)) by rw [hw4, ← hN]; exact Whole.new2 w3 _ _ _)
   have hlo : w.heap.size ≤ N := by rw [← hN]; exact HB3.out.size
   have HS4 := Lib.hid (zero_sat (fun k => k ≠ N ∧ k ≠ N + 1) hcf w4)
   clear hC4
   go_upto_region 6 with fail
   rw [← hw4]
   try rw [hN]
   clear hw4 HB3 HC3 hN
   go_upto_region 11 with fail
   clear a1 a2 a3 a4 a5 a6 a7 a8 c0 c1 c2 c3
   go_wp2_with fail
   go_loopw [11] (fun i wr => ∃ (k : Nat) (s v : Sm), k ≤ n ∧ i = .int .i64 (k : Int) ∧ Hid (Whole wr N 31 (smA s)) ∧ Hid (Whole wr (N + 1) 37 (smA v)) ∧ Hid (v.X = s.X) ∧ Hid (SAt (fun k => k ≠ N ∧ k ≠ N + 1) wr s) ∧ Hid (SAt (fun k => k ≠ N ∧ k ≠ N + 1) wr v) ∧ Hid (Below w.heap.size w wr)) (fun i _ => n - (intOf i).toNat)
   case atStart => exact ⟨0, zeroM c, zeroM c, Nat.zero_le _, rfl, HW4, HV4, Lib.hid rfl, HS4, HS4, HB4⟩
   case round =>
    obtain ⟨k, s, v, hk, rfl, HW, HV, HVX, HS, HVS, HB⟩ := hrel
    clear HW4 HV4 HS4 HB4
    have lVr : N + 1 < wr.heap.size := HV.out.lt
    by_cases hlt : k < n
    · obtain ⟨x, hx⟩ : ∃ x, l[k]? = some x := ⟨_, List.getElem?_eq_getElem (by rw [HN.out]; exact hlt)⟩
      obtain ⟨ga, oa, rfl, hga, hca⟩ := HR.out.2 (by rw [HN.out]; omega)
      have hxo := HO.out x (List.mem_of_getElem? hx)
      have HX := Lib.hid hx
      obtain ⟨q, QA, qc⟩ := x
      have lga : ga < wr.heap.size := by have := HB.out.size; omega
      have a0 := (HB.out.cell (p := ⟨ga, oa + k * 8, none⟩) hga).trans (by have := hca _ _ ((qmC_get hx 0 (by decide)).trans rfl); simpa [Nat.add_assoc] using this)
      have a1 := (HB.out.cell (p := ⟨ga, oa + k * 8 + 1, none⟩) hga).trans (by have := hca _ _ ((qmC_get hx 1 (by decide)).trans rfl); simpa [Nat.add_assoc] using this)
      have a2 := (HB.out.cell (p := ⟨ga, oa + k * 8 + 2, none⟩) hga).trans (by have := hca _ _ ((qmC_get hx 2 (by decide)).trans rfl); simpa [Nat.add_assoc] using this)
      have a3 := (HB.out.cell (p := ⟨ga, oa + k * 8 + 3, none⟩) hga).trans (by have := hca _ _ ((qmC_get hx 3 (by decide)).trans rfl); simpa [Nat.add_assoc] using this)
      have a4 := (HB.out.cell (p := ⟨ga, oa + k * 8 + 4, none⟩) hga).trans (by have := hca _ _ ((qmC_get hx 4 (by decide)).trans rfl); simpa [Nat.add_assoc] using this)
      have a5 := (HB.out.cell (p := ⟨ga, oa + k * 8 + 5, none⟩) hga).trans (by have := hca _ _ ((qmC_get hx 5 (by decide)).trans rfl); simpa [Nat.add_assoc] using this)
      have a6 := (HB.out.cell (p := ⟨ga, oa + k * 8 + 6, none⟩) hga).trans (by have := hca _ _ ((qmC_get hx 6 (by decide)).trans rfl); simpa [Nat.add_assoc] using this)
      have a7 := (HB.out.cell (p := ⟨ga, oa + k * 8 + 7, none⟩) hga).trans (by have := hca _ _ ((qmC_get hx 7 (by decide)).trans rfl); simpa [Nat.add_assoc] using this)
      try dsimp only at a0 a1 a2 a3 a4 a5 a6 a7
      have i0 : (0 : Int) ≤ (k : Int) := by omega
      have i1 : (k : Int) < (n : Int) := by omega
      have HQA := Lib.hid (show QAt (fun k => k ≠ N ∧ k ≠ N + 1) wr ⟨q, QA, qc⟩ from ⟨(hxo.row.below HB.out (Nat.le_refl _)).more HB.out.size, by have h8 := (List.all_eq_true.mp (by unfold fewS at hfw; exact (Bool.and_eq_true_iff.mp hfw).1)) _ (List.mem_of_getElem? HX.out); simp only [decide_eq_true_eq] at h8; dsimp only at h8 ⊢; omega, ⟨fun h0 a ha => by have h9 := (hxo.row.2 h0); obtain ⟨g9, o9, e9, l9, _⟩ := h9; rw [e9] at ha; injection ha with ha; subst ha; have l9' : g9 < w.heap.size := l9; exact ⟨fun e => by have e2 : g9 = N := e; omega, fun e => by have e2 : g9 = N + 1 := e; omega⟩, hxo.le, hxo.cap⟩, fun y hy => (hxo.u y hy).1⟩)
      have hW := HW.out
      have g0 : wr.cell? ⟨N, 0, none⟩ = some (.int .i64 s.X.cf.ps) := (hW.cell 0).trans rfl
      have g1 : wr.cell? ⟨N, 1, none⟩ = some (.int .i64 s.X.cf.ts) := (hW.cell 1).trans rfl
      have g2 : wr.cell? ⟨N, 2, none⟩ = some (.int .i64 s.X.cf.bs) := (hW.cell 2).trans rfl
      have g3 : wr.cell? ⟨N, 3, none⟩ = some (.int .i64 s.X.cf.sl) := (hW.cell 3).trans rfl
      have g4 : wr.cell? ⟨N, 4, none⟩ = some (.slice s.A s.X.ps.length s.a) := (hW.cell 4).trans rfl
      have g5 : wr.cell? ⟨N, 5, none⟩ = some (.slice s.B s.T.length s.b) := (hW.cell 5).trans rfl
      have g6 : wr.cell? ⟨N, 6, none⟩ = some (.slice s.C s.X.bs.length s.c) := (hW.cell 6).trans rfl
      have lN := hW.lt
      clear hW hca hxo hx
      have KD := Lib.hid (fun w' (b' : Below wr.heap.size wr w') => show (fun w' => w'.cell? ⟨N, 0, none⟩ = some (.int .i64 s.X.cf.ps) ∧ w'.cell? ⟨N, 1, none⟩ = some (.int .i64 s.X.cf.ts) ∧ w'.cell? ⟨N, 2, none⟩ = some (.int .i64 s.X.cf.bs) ∧ w'.cell? ⟨N, 3, none⟩ = some (.int .i64 s.X.cf.sl) ∧ w'.cell? ⟨N, 4, none⟩ = some (.slice s.A s.X.ps.length s.a) ∧ w'.cell? ⟨N, 5, none⟩ = some (.slice s.B s.T.length s.b) ∧ w'.cell? ⟨N, 6, none⟩ = some (.slice s.C s.X.bs.length s.c) ∧ w'.cell? ⟨ga, oa + k * 8, none⟩ = some (.int .i64 q.kind) ∧ w'.cell? ⟨ga, oa + k * 8 + 1, none⟩ = some (.int .i64 q.who) ∧ w'.cell? ⟨ga, oa + k * 8 + 2, none⟩ = some (.int .i64 q.room) ∧ w'.cell? ⟨ga, oa + k * 8 + 3, none⟩ = some (.int .i64 q.rights) ∧ w'.cell? ⟨ga, oa + k * 8 + 4, none⟩ = some (.int .i64 q.track) ∧ w'.cell? ⟨ga, oa + k * 8 + 5, none⟩ = some (.slice QA q.ss.length qc) ∧ w'.cell? ⟨ga, oa + k * 8 + 6, none⟩ = some (.int .i64 q.layer) ∧ w'.cell? ⟨ga, oa + k * 8 + 7, none⟩ = some (.int .i64 q.tid)) w' from ⟨(b'.cell (p := ⟨N, 0, none⟩) lN).trans g0, (b'.cell (p := ⟨N, 1, none⟩) lN).trans g1, (b'.cell (p := ⟨N, 2, none⟩) lN).trans g2, (b'.cell (p := ⟨N, 3, none⟩) lN).trans g3, (b'.cell (p := ⟨N, 4, none⟩) lN).trans g4, (b'.cell (p := ⟨N, 5, none⟩) lN).trans g5, (b'.cell (p := ⟨N, 6, none⟩) lN).trans g6, (b'.cell (p := ⟨ga, oa + k * 8, none⟩) lga).trans a0, (b'.cell (p := ⟨ga, oa + k * 8 + 1, none⟩) lga).trans a1, (b'.cell (p := ⟨ga, oa + k * 8 + 2, none⟩) lga).trans a2, (b'.cell (p := ⟨ga, oa + k * 8 + 3, none⟩) lga).trans a3, (b'.cell (p := ⟨ga, oa + k * 8 + 4, none⟩) lga).trans a4, (b'.cell (p := ⟨ga, oa + k * 8 + 5, none⟩) lga).trans a5, (b'.cell (p := ⟨ga, oa + k * 8 + 6, none⟩) lga).trans a6, (b'.cell (p := ⟨ga, oa + k * 8 + 7, none⟩) lga).trans a7⟩)
      have CD := Lib.hid (fun (P' : Nat → Prop) w' (hs' : SAt P' w' s) (hq' : QAt P' w' ⟨q, QA, qc⟩) (hp' : ∀ k, w'.heap.size ≤ k → P' k) => (show Calls Try.prog 12 #[.agg #[.int .i64 s.X.cf.ps, .int .i64 s.X.cf.ts, .int .i64 s.X.cf.bs, .int .i64 s.X.cf.sl, .slice s.A s.X.ps.length s.a, .slice s.B s.T.length s.b, .slice s.C s.X.bs.length s.c], .agg #[.int .i64 q.kind, .int .i64 q.who, .int .i64 q.room, .int .i64 q.rights, .int .i64 q.track, .slice QA q.ss.length qc, .int .i64 q.layer, .int .i64 q.tid]] w' (fun e w'' => Below w'.heap.size w' w'' ∧ ∃ t : Sm, t.X = (doS s.X q).1 ∧ SAt P' w'' t ∧ e = .returned (.tuple #[.agg #[.int .i64 t.X.cf.ps, .int .i64 t.X.cf.ts, .int .i64 t.X.cf.bs, .int .i64 t.X.cf.sl, .slice t.A t.X.ps.length t.a, .slice t.B t.T.length t.b, .slice t.C t.X.bs.length t.c], .int .i64 (doS s.X q).2])) from cdo_any P' s ⟨q, QA, qc⟩ w' hs' hq' hp'))
      go_upto_region 14 with fail
      go_cut [12, 13] (fun v1 v2 wx => ∃ (M : Nat) (t : Sm), v1 = .pointer (some ⟨M, 0, none⟩) ∧ v2 = .int .i64 (doS s.X q).2 ∧ wr.heap.size ≤ M ∧ Whole wx M 31 (smA t) ∧ t.X = (doS s.X q).1 ∧ SAt (fun k => k ≠ N ∧ k ≠ N + 1) wx t ∧ Below wr.heap.size wr wx)
      case first =>
       refine wp_region_X (S := fun w' => w'.cell? ⟨N, 0, none⟩ = some (.int .i64 s.X.cf.ps) ∧ w'.cell? ⟨N, 1, none⟩ = some (.int .i64 s.X.cf.ts) ∧ w'.cell? ⟨N, 2, none⟩ = some (.int .i64 s.X.cf.bs) ∧ w'.cell? ⟨N, 3, none⟩ = some (.int .i64 s.X.cf.sl) ∧ w'.cell? ⟨N, 4, none⟩ = some (.slice s.A s.X.ps.length s.a) ∧ w'.cell? ⟨N, 5, none⟩ = some (.slice s.B s.T.length s.b) ∧ w'.cell? ⟨N, 6, none⟩ = some (.slice s.C s.X.bs.length s.c) ∧ w'.cell? ⟨ga, oa + k * 8, none⟩ = some (.int .i64 q.kind) ∧ w'.cell? ⟨ga, oa + k * 8 + 1, none⟩ = some (.int .i64 q.who) ∧ w'.cell? ⟨ga, oa + k * 8 + 2, none⟩ = some (.int .i64 q.room) ∧ w'.cell? ⟨ga, oa + k * 8 + 3, none⟩ = some (.int .i64 q.rights) ∧ w'.cell? ⟨ga, oa + k * 8 + 4, none⟩ = some (.int .i64 q.track) ∧ w'.cell? ⟨ga, oa + k * 8 + 5, none⟩ = some (.slice QA q.ss.length qc) ∧ w'.cell? ⟨ga, oa + k * 8 + 6, none⟩ = some (.int .i64 q.layer) ∧ w'.cell? ⟨ga, oa + k * 8 + 7, none⟩ = some (.int .i64 q.tid)) [] (by kernel_rfl) (KD.out _ (Below.refl _ _).drew) (fun hHeld0 => ?_)
       refine tk (i := 0) [] (v := ?_) ?_ ?_
       rotate_left 1
       · (intro w hSw; obtain ⟨m0, m1, m2, m3, m4, m5, m6, m7, m8, m9, m10, m11, m12, m13, m14⟩ := hSw; go_simp; try (with_reducible rfl))
       (try walk_nrm)
       refine tk (i := 1) [] (v := ?_) ?_ ?_
       rotate_left 1
       · (intro w hSw; obtain ⟨m0, m1, m2, m3, m4, m5, m6, m7, m8, m9, m10, m11, m12, m13, m14⟩ := hSw; go_simp; try (with_reducible rfl))
       (try walk_nrm)
       refine tk (i := 2) [] (v := ?_) ?_ ?_
       rotate_left 1
       · (intro w hSw; obtain ⟨m0, m1, m2, m3, m4, m5, m6, m7, m8, m9, m10, m11, m12, m13, m14⟩ := hSw; go_simp; try (with_reducible rfl))
       (try walk_nrm)
       refine tk (i := 3) [] (v := ?_) ?_ ?_
       rotate_left 1
       · (intro w hSw; obtain ⟨m0, m1, m2, m3, m4, m5, m6, m7, m8, m9, m10, m11, m12, m13, m14⟩ := hSw; go_simp; try (with_reducible rfl))
       (try walk_nrm)
       refine tk (i := 4) [] (v := ?_) ?_ ?_
       rotate_left 1
       · (intro w hSw; obtain ⟨m0, m1, m2, m3, m4, m5, m6, m7, m8, m9, m10, m11, m12, m13, m14⟩ := hSw; go_simp; try (with_reducible rfl))
       (try walk_nrm)
       refine wpAnyX_two 5 9 (by kernel_rfl) rfl rfl (fun K hK => ?_) (fun K hK => ?_)
       · go_simp
         go_wp2_with (refine (CD.out (fun k => k ≠ N ∧ k ≠ N + 1) wr.drew (HS.out.next (Below.refl wr.heap.size wr).drew) (HQA.out.next (Below.refl wr.heap.size wr).drew) (fun k hk => by have h9 : wr.heap.size ≤ k := hk; exact ⟨by omega, by omega⟩)).mono ?_; rintro e v1 ⟨bv1, t, hX, hT, rfl⟩; replace hX := Lib.hid hX)
         have BV1 := (Below.refl wr.heap.size wr).drew.trans (bv1.mono (Below.refl wr.heap.size wr).drew.size)
         refine hK.out _ _ (.inr (KD.out _ BV1)) ?_
         have hHeld1 := KD.out _ BV1
         clear hK K
         (try walk_nrm)
         refine tk (i := 6) [] (v := ?_) ?_ ?_
         rotate_left 1
         · (intro w hSw; obtain ⟨m0, m1, m2, m3, m4, m5, m6, m7, m8, m9, m10, m11, m12, m13, m14⟩ := hSw; go_simp; try (with_reducible rfl))
         (try walk_nrm)
         refine tk (i := 7) [] (v := ?_) ?_ ?_
         rotate_left 1
         · (intro w hSw; obtain ⟨m0, m1, m2, m3, m4, m5, m6, m7, m8, m9, m10, m11, m12, m13, m14⟩ := hSw; go_simp; try (with_reducible rfl))
         (try walk_nrm)
         refine tk (i := 8) [] (v := ?_) ?_ ?_
         rotate_left 1
         · (intro w hSw; obtain ⟨m0, m1, m2, m3, m4, m5, m6, m7, m8, m9, m10, m11, m12, m13, m14⟩ := hSw; go_simp; try (with_reducible rfl))
         (try walk_nrm)
         refine wpAnyX_one 9 (by kernel_rfl) rfl (fun K hK => ?_)
         go_simp
         have BV2 : Below wr.heap.size wr (v1.alloc (.cells #[.int .i64 0, .int .i64 0, .int .i64 0, .int .i64 0, .slice none 0 0, .slice none 0 0, .slice none 0 0] 31)) := BV1.alloc BV1.size _
         have NB : Whole (v1.alloc (.cells #[.int .i64 0, .int .i64 0, .int .i64 0, .int .i64 0, .slice none 0 0, .slice none 0 0, .slice none 0 0] 31)) v1.heap.size 31 #[.int .i64 0, .int .i64 0, .int .i64 0, .int .i64 0, .slice none 0 0, .slice none 0 0, .slice none 0 0] := Whole.new v1 _ _
         refine hK.out _ _ (.inr (KD.out _ BV2)) ?_
         have hHeld2 := KD.out _ BV2
         clear hK K
         (try walk_nrm)
         refine wpAnyX_one 10 (by kernel_rfl) rfl (fun K hK => ?_)
         have z0 := NB.cell 0
         have z1 := NB.cell 1
         have z2 := NB.cell 2
         have z3 := NB.cell 3
         have z4 := NB.cell 4
         have z5 := NB.cell 5
         have z6 := NB.cell 6
         have y0 := NB.free 0
         have y1 := NB.free 1
         have y2 := NB.free 2
         have y3 := NB.free 3
         have y4 := NB.free 4
         have y5 := NB.free 5
         have y6 := NB.free 6
         have lz := NB.lt
         go_simp
         have BF : Below wr.heap.size wr (v1.alloc (.cells #[.int .i64 t.X.cf.ps, .int .i64 t.X.cf.ts, .int .i64 t.X.cf.bs, .int .i64 t.X.cf.sl, .slice t.A t.X.ps.length t.a, .slice t.B t.T.length t.b, .slice t.C t.X.bs.length t.c] 31)) := BV1.alloc BV1.size _
         refine hK.out _ _ (.inr (KD.out _ BF)) ?_
         have hHeld3 := KD.out _ BF
         clear hK K z0 z1 z2 z3 z4 z5 z6 y0 y1 y2 y3 y4 y5 y6 lz
         (try walk_nrm)
         refine tk (i := 11) [] (v := ?_) ?_ ?_
         rotate_left 1
         · (intro w hSw; obtain ⟨m0, m1, m2, m3, m4, m5, m6, m7, m8, m9, m10, m11, m12, m13, m14⟩ := hSw; go_simp; try (with_reducible rfl))
         (try walk_nrm)
         refine wpAnyX_done (by kernel_rfl) ?_ _
         go_wp2_with fail
         go_meet
         exact ⟨_, t, rfl, rfl, BV1.size, Whole.new v1 _ _, hX.out, hT.next ((Below.refl _ _).alloc (Nat.le_refl _) _), BF⟩
       · go_simp
         obtain ⟨v1, hv1⟩ : ∃ z, z = (wr.alloc (.cells #[.int .i64 0, .int .i64 0, .int .i64 0, .int .i64 0, .slice none 0 0, .slice none 0 0, .slice none 0 0] 31)).drew := ⟨_, rfl⟩
         have BV1 : Below wr.heap.size wr v1 := by rw [hv1]; exact ((Below.refl _ _).alloc (Nat.le_refl _) _).drew
         have NB : Whole v1 wr.heap.size 31 #[.int .i64 0, .int .i64 0, .int .i64 0, .int .i64 0, .slice none 0 0, .slice none 0 0, .slice none 0 0] := by rw [hv1]; exact (Whole.new wr _ _).drew
         rw [← hv1]
         clear hv1
         refine hK.out _ _ (.inr (KD.out _ BV1)) ?_
         have hHeld1 := KD.out _ BV1
         clear hK K
         (try walk_nrm)
         have lb1 := NB.lt
         refine wpAnyX_one 5 (by kernel_rfl) rfl (fun K hK => ?_)
         go_simp
         go_wp2_with (refine (CD.out (fun k => (fun k => k ≠ N ∧ k ≠ N + 1) k ∧ (fun k => k ≠ wr.heap.size) k) v1 ((SAt.with HS.out (fun k => k ≠ wr.heap.size) (fun k hk e => by omega)).next BV1) ((qat_with HQA.out (fun k => k ≠ wr.heap.size) (fun k hk e => by omega)).next BV1) (fun k hk => ⟨by have h9 := BV1.size; exact ⟨by omega, by omega⟩, fun e => by omega⟩)).mono ?_; rintro e v2 ⟨bv2, t, hX, hT, rfl⟩; replace hX := Lib.hid hX)
         have BV2 := BV1.trans (bv2.mono BV1.size)
         refine hK.out _ _ (.inr (KD.out _ BV2)) ?_
         have hHeld2 := KD.out _ BV2
         clear hK K
         (try walk_nrm)
         have NB2 := NB.below bv2 NB.lt
         refine tk (i := 6) [] (v := ?_) ?_ ?_
         rotate_left 1
         · (intro w hSw; obtain ⟨m0, m1, m2, m3, m4, m5, m6, m7, m8, m9, m10, m11, m12, m13, m14⟩ := hSw; go_simp; try (with_reducible rfl))
         (try walk_nrm)
         refine tk (i := 7) [] (v := ?_) ?_ ?_
         rotate_left 1
         · (intro w hSw; obtain ⟨m0, m1, m2, m3, m4, m5, m6, m7, m8, m9, m10, m11, m12, m13, m14⟩ := hSw; go_simp; try (with_reducible rfl))
         (try walk_nrm)
         refine tk (i := 8) [] (v := ?_) ?_ ?_
         rotate_left 1
         · (intro w hSw; obtain ⟨m0, m1, m2, m3, m4, m5, m6, m7, m8, m9, m10, m11, m12, m13, m14⟩ := hSw; go_simp; try (with_reducible rfl))
         (try walk_nrm)
         refine wpAnyX_one 10 (by kernel_rfl) rfl (fun K hK => ?_)
         have z0 := NB2.cell 0
         have z1 := NB2.cell 1
         have z2 := NB2.cell 2
         have z3 := NB2.cell 3
         have z4 := NB2.cell 4
         have z5 := NB2.cell 5
         have z6 := NB2.cell 6
         have y0 := NB2.free 0
         have y1 := NB2.free 1
         have y2 := NB2.free 2
         have y3 := NB2.free 3
         have y4 := NB2.free 4
         have y5 := NB2.free 5
         have y6 := NB2.free 6
         have lz := NB2.lt
         go_simp
         have BF : Below wr.heap.size wr (sets7 v2 wr.heap.size (.int .i64 t.X.cf.ps) (.int .i64 t.X.cf.ts) (.int .i64 t.X.cf.bs) (.int .i64 t.X.cf.sl) (.slice t.A t.X.ps.length t.a) (.slice t.B t.T.length t.b) (.slice t.C t.X.bs.length t.c)) := sets7_below BV2 (Nat.le_refl _)
         refine hK.out _ _ (.inr (KD.out _ BF)) ?_
         have hHeld3 := KD.out _ BF
         clear hK K z0 z1 z2 z3 z4 z5 z6 y0 y1 y2 y3 y4 y5 y6 lz
         (try walk_nrm)
         refine tk (i := 11) [] (v := ?_) ?_ ?_
         rotate_left 1
         · (intro w hSw; obtain ⟨m0, m1, m2, m3, m4, m5, m6, m7, m8, m9, m10, m11, m12, m13, m14⟩ := hSw; go_simp; try (with_reducible rfl))
         (try walk_nrm)
         refine wpAnyX_done (by kernel_rfl) ?_ _
         go_wp2_with fail
         go_meet
         exact ⟨_, t, rfl, rfl, Nat.le_refl _, sets7_whole NB2 rfl, hX.out, sat_weak (sets7_sat hT (fun h => h.2 rfl)), BF⟩
      case rest =>
       obtain ⟨M, t, rfl, rfl, hM, hWM, hX, hT, bc⟩ := hcut
       obtain ⟨wz, rfl⟩ : ∃ z, z = wc := ⟨_, rfl⟩
       replace hX := Lib.hid hX
       have HT := Lib.hid hT
       have HWM := Lib.hid hWM
       have HWz := Lib.hid (HW.out.below bc lN)
       have HVz := Lib.hid (HV.out.below bc lVr)
       have HSz := Lib.hid (HS.out.next bc)
       have HVSz := Lib.hid (HVS.out.next bc)
       have HQz := Lib.hid (HQA.out.next bc)
       have HBz := Lib.hid (HB.out.trans (bc.mono HB.out.size))
       have hMN : M ≠ N := by omega
       have hNM : N ≠ M := by omega
       have hMV : M ≠ N + 1 := by omega
       have hVM : N + 1 ≠ M := by omega
       replace a0 := (bc.cell (p := ⟨ga, oa + k * 8, none⟩) lga).trans a0
       replace a1 := (bc.cell (p := ⟨ga, oa + k * 8 + 1, none⟩) lga).trans a1
       replace a2 := (bc.cell (p := ⟨ga, oa + k * 8 + 2, none⟩) lga).trans a2
       replace a3 := (bc.cell (p := ⟨ga, oa + k * 8 + 3, none⟩) lga).trans a3
       replace a4 := (bc.cell (p := ⟨ga, oa + k * 8 + 4, none⟩) lga).trans a4
       replace a5 := (bc.cell (p := ⟨ga, oa + k * 8 + 5, none⟩) lga).trans a5
       replace a6 := (bc.cell (p := ⟨ga, oa + k * 8 + 6, none⟩) lga).trans a6
       replace a7 := (bc.cell (p := ⟨ga, oa + k * 8 + 7, none⟩) lga).trans a7
       have lgz : ga < wz.heap.size := Nat.lt_of_lt_of_le lga bc.size
       obtain ⟨er, her⟩ : ∃ z, (doS s.X q).2 = z := ⟨_, rfl⟩
       rw [her]
       have HER := Lib.hid her
       have v0 : wz.cell? ⟨N + 1, 0, none⟩ = some (.int .i64 v.X.cf.ps) := (HVz.out.cell 0).trans rfl
       have v1 : wz.cell? ⟨N + 1, 1, none⟩ = some (.int .i64 v.X.cf.ts) := (HVz.out.cell 1).trans rfl
       have v2 : wz.cell? ⟨N + 1, 2, none⟩ = some (.int .i64 v.X.cf.bs) := (HVz.out.cell 2).trans rfl
       have v3 : wz.cell? ⟨N + 1, 3, none⟩ = some (.int .i64 v.X.cf.sl) := (HVz.out.cell 3).trans rfl
       have v4 : wz.cell? ⟨N + 1, 4, none⟩ = some (.slice v.A v.X.ps.length v.a) := (HVz.out.cell 4).trans rfl
       have v5 : wz.cell? ⟨N + 1, 5, none⟩ = some (.slice v.B v.T.length v.b) := (HVz.out.cell 5).trans rfl
       have v6 : wz.cell? ⟨N + 1, 6, none⟩ = some (.slice v.C v.X.bs.length v.c) := (HVz.out.cell 6).trans rfl
       have lVz : N + 1 < wz.heap.size := HVz.out.lt
       have lNz : N < wz.heap.size := HWz.out.lt
       clear hWM hT bc KD CD her HW HV HS HVS HB HQA g0 g1 g2 g3 g4 g5 g6
       have KD := Lib.hid (fun w' (b' : Below wz.heap.size wz w') => show (fun w' => w'.cell? ⟨N + 1, 0, none⟩ = some (.int .i64 v.X.cf.ps) ∧ w'.cell? ⟨N + 1, 1, none⟩ = some (.int .i64 v.X.cf.ts) ∧ w'.cell? ⟨N + 1, 2, none⟩ = some (.int .i64 v.X.cf.bs) ∧ w'.cell? ⟨N + 1, 3, none⟩ = some (.int .i64 v.X.cf.sl) ∧ w'.cell? ⟨N + 1, 4, none⟩ = some (.slice v.A v.X.ps.length v.a) ∧ w'.cell? ⟨N + 1, 5, none⟩ = some (.slice v.B v.T.length v.b) ∧ w'.cell? ⟨N + 1, 6, none⟩ = some (.slice v.C v.X.bs.length v.c) ∧ w'.cell? ⟨ga, oa + k * 8, none⟩ = some (.int .i64 q.kind) ∧ w'.cell? ⟨ga, oa + k * 8 + 1, none⟩ = some (.int .i64 q.who) ∧ w'.cell? ⟨ga, oa + k * 8 + 2, none⟩ = some (.int .i64 q.room) ∧ w'.cell? ⟨ga, oa + k * 8 + 3, none⟩ = some (.int .i64 q.rights) ∧ w'.cell? ⟨ga, oa + k * 8 + 4, none⟩ = some (.int .i64 q.track) ∧ w'.cell? ⟨ga, oa + k * 8 + 5, none⟩ = some (.slice QA q.ss.length qc) ∧ w'.cell? ⟨ga, oa + k * 8 + 6, none⟩ = some (.int .i64 q.layer) ∧ w'.cell? ⟨ga, oa + k * 8 + 7, none⟩ = some (.int .i64 q.tid)) w' from ⟨(b'.cell (p := ⟨N + 1, 0, none⟩) lVz).trans v0, (b'.cell (p := ⟨N + 1, 1, none⟩) lVz).trans v1, (b'.cell (p := ⟨N + 1, 2, none⟩) lVz).trans v2, (b'.cell (p := ⟨N + 1, 3, none⟩) lVz).trans v3, (b'.cell (p := ⟨N + 1, 4, none⟩) lVz).trans v4, (b'.cell (p := ⟨N + 1, 5, none⟩) lVz).trans v5, (b'.cell (p := ⟨N + 1, 6, none⟩) lVz).trans v6, (b'.cell (p := ⟨ga, oa + k * 8, none⟩) lgz).trans a0, (b'.cell (p := ⟨ga, oa + k * 8 + 1, none⟩) lgz).trans a1, (b'.cell (p := ⟨ga, oa + k * 8 + 2, none⟩) lgz).trans a2, (b'.cell (p := ⟨ga, oa + k * 8 + 3, none⟩) lgz).trans a3, (b'.cell (p := ⟨ga, oa + k * 8 + 4, none⟩) lgz).trans a4, (b'.cell (p := ⟨ga, oa + k * 8 + 5, none⟩) lgz).trans a5, (b'.cell (p := ⟨ga, oa + k * 8 + 6, none⟩) lgz).trans a6, (b'.cell (p := ⟨ga, oa + k * 8 + 7, none⟩) lgz).trans a7⟩)
       have CR := Lib.hid (fun w' => (show Calls Try.prog 14 #[.agg #[.int .i64 q.kind, .int .i64 q.who, .int .i64 q.room, .int .i64 q.rights, .int .i64 q.track, .slice QA q.ss.length qc, .int .i64 q.layer, .int .i64 q.tid]] w' (fun e w'' => e = .returned (.agg #[.int .i64 q.kind, .int .i64 q.who, .int .i64 q.room, .int .i64 q.rights, .int .i64 q.track, .slice QA q.ss.length qc, .int .i64 q.layer, .int .i64 q.tid]) ∧ Below w'.heap.size w' w'') from req18 ⟨q, QA, qc⟩ w'))
       have CD := Lib.hid (fun (P' : Nat → Prop) w' (hs' : SAt P' w' v) (hq' : QAt P' w' ⟨q, QA, qc⟩) (hp' : ∀ k, w'.heap.size ≤ k → P' k) => (show Calls Try.prog 13 #[.agg #[.int .i64 v.X.cf.ps, .int .i64 v.X.cf.ts, .int .i64 v.X.cf.bs, .int .i64 v.X.cf.sl, .slice v.A v.X.ps.length v.a, .slice v.B v.T.length v.b, .slice v.C v.X.bs.length v.c], .agg #[.int .i64 q.kind, .int .i64 q.who, .int .i64 q.room, .int .i64 q.rights, .int .i64 q.track, .slice QA q.ss.length qc, .int .i64 q.layer, .int .i64 q.tid]] w' (fun e w'' => Below w'.heap.size w' w'' ∧ ∃ u : Sm, Hid (u.X = t.X) ∧ SAt P' w'' u ∧ e = .returned (.tuple #[.agg #[.int .i64 u.X.cf.ps, .int .i64 u.X.cf.ts, .int .i64 u.X.cf.bs, .int .i64 u.X.cf.sl, .slice u.A u.X.ps.length u.a, .slice u.B u.T.length u.b, .slice u.C u.X.bs.length u.c], .int .i64 er])) from by refine (rdo_any P' v ⟨q, QA, qc⟩ w' hs' hq' hp').mono ?_; rintro e w'' ⟨b9, u, hu, hS9, rfl⟩; rw [HVX.out] at hu; refine ⟨b9, u, Lib.hid (by rw [hX.out]; exact hu), hS9, ?_⟩; rw [HVX.out, HER.out]; rfl))
       go_upto_region 15 with fail
       go_cut [14, 15] (fun v1 v2 wx => ∃ (U : Nat) (u : Sm), v1 = .pointer (some ⟨U, 0, none⟩) ∧ v2 = .int .i64 er ∧ wz.heap.size ≤ U ∧ Whole wx U 37 (smA u) ∧ Hid (u.X = t.X) ∧ SAt (fun k => k ≠ N ∧ k ≠ N + 1) wx u ∧ Below wz.heap.size wz wx)
       case first =>
        refine wp_region_X (S := fun w' => w'.cell? ⟨N + 1, 0, none⟩ = some (.int .i64 v.X.cf.ps) ∧ w'.cell? ⟨N + 1, 1, none⟩ = some (.int .i64 v.X.cf.ts) ∧ w'.cell? ⟨N + 1, 2, none⟩ = some (.int .i64 v.X.cf.bs) ∧ w'.cell? ⟨N + 1, 3, none⟩ = some (.int .i64 v.X.cf.sl) ∧ w'.cell? ⟨N + 1, 4, none⟩ = some (.slice v.A v.X.ps.length v.a) ∧ w'.cell? ⟨N + 1, 5, none⟩ = some (.slice v.B v.T.length v.b) ∧ w'.cell? ⟨N + 1, 6, none⟩ = some (.slice v.C v.X.bs.length v.c) ∧ w'.cell? ⟨ga, oa + k * 8, none⟩ = some (.int .i64 q.kind) ∧ w'.cell? ⟨ga, oa + k * 8 + 1, none⟩ = some (.int .i64 q.who) ∧ w'.cell? ⟨ga, oa + k * 8 + 2, none⟩ = some (.int .i64 q.room) ∧ w'.cell? ⟨ga, oa + k * 8 + 3, none⟩ = some (.int .i64 q.rights) ∧ w'.cell? ⟨ga, oa + k * 8 + 4, none⟩ = some (.int .i64 q.track) ∧ w'.cell? ⟨ga, oa + k * 8 + 5, none⟩ = some (.slice QA q.ss.length qc) ∧ w'.cell? ⟨ga, oa + k * 8 + 6, none⟩ = some (.int .i64 q.layer) ∧ w'.cell? ⟨ga, oa + k * 8 + 7, none⟩ = some (.int .i64 q.tid)) [] (by kernel_rfl) (KD.out _ (Below.refl _ _).drew) (fun hHeld0 => ?_)
        refine tk (i := 0) [] (v := ?_) ?_ ?_
        rotate_left 1
        · (intro w hSw; obtain ⟨m0, m1, m2, m3, m4, m5, m6, m7, m8, m9, m10, m11, m12, m13, m14⟩ := hSw; go_simp; try (with_reducible rfl))
        (try walk_nrm)
        refine tk (i := 1) [] (v := ?_) ?_ ?_
        rotate_left 1
        · (intro w hSw; obtain ⟨m0, m1, m2, m3, m4, m5, m6, m7, m8, m9, m10, m11, m12, m13, m14⟩ := hSw; go_simp; try (with_reducible rfl))
        (try walk_nrm)
        refine tk (i := 2) [] (v := ?_) ?_ ?_
        rotate_left 1
        · (intro w hSw; obtain ⟨m0, m1, m2, m3, m4, m5, m6, m7, m8, m9, m10, m11, m12, m13, m14⟩ := hSw; go_simp; try (with_reducible rfl))
        (try walk_nrm)
        refine tk (i := 3) [] (v := ?_) ?_ ?_
        rotate_left 1
        · (intro w hSw; obtain ⟨m0, m1, m2, m3, m4, m5, m6, m7, m8, m9, m10, m11, m12, m13, m14⟩ := hSw; go_simp; try (with_reducible rfl))
        (try walk_nrm)
        refine tk (i := 4) [] (v := ?_) ?_ ?_
        rotate_left 1
        · (intro w hSw; obtain ⟨m0, m1, m2, m3, m4, m5, m6, m7, m8, m9, m10, m11, m12, m13, m14⟩ := hSw; go_simp; try (with_reducible rfl))
        (try walk_nrm)
        refine wpAnyX_two 5 10 (by kernel_rfl) rfl rfl (fun K hK => ?_) (fun K hK => ?_)
        · go_simp
          go_wp2_with (refine (CR.out wz.drew).mono ?_; rintro e v1' ⟨rfl, bv1⟩)
          have BV1 := (Below.refl wz.heap.size wz).drew.trans (bv1.mono (Below.refl wz.heap.size wz).drew.size)
          refine hK.out _ _ (.inr (KD.out _ BV1)) ?_
          have hHeld1 := KD.out _ BV1
          clear hK K
          (try walk_nrm)
          refine wpAnyX_two 6 10 (by kernel_rfl) rfl rfl (fun K hK => ?_) (fun K hK => ?_)
          · go_simp
            go_wp2_with (refine (CD.out (fun k => k ≠ N ∧ k ≠ N + 1) v1' (HVSz.out.next BV1) (HQz.out.next BV1) (fun k hk => by have h9 := BV1.size; exact ⟨by omega, by omega⟩)).mono ?_; rintro e v3' ⟨bv3, u, hU, hUS, rfl⟩)
            have BV3 := BV1.trans (bv3.mono BV1.size)
            refine hK.out _ _ (.inr (KD.out _ BV3)) ?_
            have hHeld3 := KD.out _ BV3
            clear hK K
            (try walk_nrm)
            refine tk (i := 7) [] (v := ?_) ?_ ?_
            rotate_left 1
            · (intro w hSw; obtain ⟨m0, m1, m2, m3, m4, m5, m6, m7, m8, m9, m10, m11, m12, m13, m14⟩ := hSw; go_simp; try (with_reducible rfl))
            (try walk_nrm)
            refine tk (i := 8) [] (v := ?_) ?_ ?_
            rotate_left 1
            · (intro w hSw; obtain ⟨m0, m1, m2, m3, m4, m5, m6, m7, m8, m9, m10, m11, m12, m13, m14⟩ := hSw; go_simp; try (with_reducible rfl))
            (try walk_nrm)
            refine tk (i := 9) [] (v := ?_) ?_ ?_
            rotate_left 1
            · (intro w hSw; obtain ⟨m0, m1, m2, m3, m4, m5, m6, m7, m8, m9, m10, m11, m12, m13, m14⟩ := hSw; go_simp; try (with_reducible rfl))
            (try walk_nrm)
            refine wpAnyX_one 10 (by kernel_rfl) rfl (fun K hK => ?_)
            go_simp
            have BV5 : Below wz.heap.size wz (v3'.alloc (.cells #[.int .i64 0, .int .i64 0, .int .i64 0, .int .i64 0, .slice none 0 0, .slice none 0 0, .slice none 0 0] 37)) := BV3.alloc BV3.size _
            have NB : Whole (v3'.alloc (.cells #[.int .i64 0, .int .i64 0, .int .i64 0, .int .i64 0, .slice none 0 0, .slice none 0 0, .slice none 0 0] 37)) v3'.heap.size 37 #[.int .i64 0, .int .i64 0, .int .i64 0, .int .i64 0, .slice none 0 0, .slice none 0 0, .slice none 0 0] := Whole.new v3' _ _
            refine hK.out _ _ (.inr (KD.out _ BV5)) ?_
            have hHeld5 := KD.out _ BV5
            clear hK K
            (try walk_nrm)
            refine wpAnyX_one 11 (by kernel_rfl) rfl (fun K hK => ?_)
            have z0' := NB.cell 0
            have z1' := NB.cell 1
            have z2' := NB.cell 2
            have z3' := NB.cell 3
            have z4' := NB.cell 4
            have z5' := NB.cell 5
            have z6' := NB.cell 6
            have y0' := NB.free 0
            have y1' := NB.free 1
            have y2' := NB.free 2
            have y3' := NB.free 3
            have y4' := NB.free 4
            have y5' := NB.free 5
            have y6' := NB.free 6
            have lz' := NB.lt
            go_simp
            have BF : Below wz.heap.size wz (v3'.alloc (.cells #[.int .i64 u.X.cf.ps, .int .i64 u.X.cf.ts, .int .i64 u.X.cf.bs, .int .i64 u.X.cf.sl, .slice u.A u.X.ps.length u.a, .slice u.B u.T.length u.b, .slice u.C u.X.bs.length u.c] 37)) := BV3.alloc BV3.size _
            refine hK.out _ _ (.inr (KD.out _ BF)) ?_
            have hHeld9 := KD.out _ BF
            clear hK K z0' z1' z2' z3' z4' z5' z6' y0' y1' y2' y3' y4' y5' y6' lz'
            (try walk_nrm)
            refine tk (i := 12) [] (v := ?_) ?_ ?_
            rotate_left 1
            · (intro w hSw; obtain ⟨m0, m1, m2, m3, m4, m5, m6, m7, m8, m9, m10, m11, m12, m13, m14⟩ := hSw; go_simp; try (with_reducible rfl))
            (try walk_nrm)
            refine wpAnyX_done (by kernel_rfl) ?_ _
            go_wp2_with fail
            go_meet
            exact ⟨_, u, rfl, rfl, BV3.size, Whole.new v3' _ _, hU, hUS.next ((Below.refl _ _).alloc (Nat.le_refl _) _), BF⟩
          · go_simp
            obtain ⟨v4', hv4⟩ : ∃ z, z = v1'.alloc (.cells #[.int .i64 0, .int .i64 0, .int .i64 0, .int .i64 0, .slice none 0 0, .slice none 0 0, .slice none 0 0] 37) := ⟨_, rfl⟩
            have BV4 : Below wz.heap.size wz v4' := by rw [hv4]; exact BV1.alloc BV1.size _
            have NB4 : Whole v4' v1'.heap.size 37 #[.int .i64 0, .int .i64 0, .int .i64 0, .int .i64 0, .slice none 0 0, .slice none 0 0, .slice none 0 0] := by rw [hv4]; exact Whole.new v1' _ _
            rw [← hv4]
            clear hv4
            refine hK.out _ _ (.inr (KD.out _ BV4)) ?_
            have hHeld4 := KD.out _ BV4
            clear hK K
            (try walk_nrm)
            have lb4 := NB4.lt
            have ub4 := BV1.size
            have uc4 := BV4.size
            refine wpAnyX_one 6 (by kernel_rfl) rfl (fun K hK => ?_)
            go_simp
            go_wp2_with (refine (CD.out (fun k => (fun k => k ≠ N ∧ k ≠ N + 1) k ∧ (fun k => k ≠ v1'.heap.size) k) v4' ((SAt.with HVSz.out (fun k => k ≠ v1'.heap.size) (fun k hk e => by omega)).next BV4) ((qat_with HQz.out (fun k => k ≠ v1'.heap.size) (fun k hk e => by omega)).next BV4) (fun k hk => ⟨by have h9 := BV4.size; exact ⟨by omega, by omega⟩, fun e => by omega⟩)).mono ?_; rintro e v7' ⟨bv7, u, hU, hUS, rfl⟩)
            have BV7 := BV4.trans (bv7.mono BV4.size)
            refine hK.out _ _ (.inr (KD.out _ BV7)) ?_
            have hHeld7 := KD.out _ BV7
            clear hK K
            (try walk_nrm)
            have NB7 := NB4.below bv7 NB4.lt
            have lb7 := NB7.lt
            refine tk (i := 7) [] (v := ?_) ?_ ?_
            rotate_left 1
            · (intro w hSw; obtain ⟨m0, m1, m2, m3, m4, m5, m6, m7, m8, m9, m10, m11, m12, m13, m14⟩ := hSw; go_simp; try (with_reducible rfl))
            (try walk_nrm)
            refine tk (i := 8) [] (v := ?_) ?_ ?_
            rotate_left 1
            · (intro w hSw; obtain ⟨m0, m1, m2, m3, m4, m5, m6, m7, m8, m9, m10, m11, m12, m13, m14⟩ := hSw; go_simp; try (with_reducible rfl))
            (try walk_nrm)
            refine tk (i := 9) [] (v := ?_) ?_ ?_
            rotate_left 1
            · (intro w hSw; obtain ⟨m0, m1, m2, m3, m4, m5, m6, m7, m8, m9, m10, m11, m12, m13, m14⟩ := hSw; go_simp; try (with_reducible rfl))
            (try walk_nrm)
            refine wpAnyX_one 11 (by kernel_rfl) rfl (fun K hK => ?_)
            have z0' := NB7.cell 0
            have z1' := NB7.cell 1
            have z2' := NB7.cell 2
            have z3' := NB7.cell 3
            have z4' := NB7.cell 4
            have z5' := NB7.cell 5
            have z6' := NB7.cell 6
            have y0' := NB7.free 0
            have y1' := NB7.free 1
            have y2' := NB7.free 2
            have y3' := NB7.free 3
            have y4' := NB7.free 4
            have y5' := NB7.free 5
            have y6' := NB7.free 6
            have lz' := NB7.lt
            go_simp
            have BF : Below wz.heap.size wz (sets7 v7' v1'.heap.size (.int .i64 u.X.cf.ps) (.int .i64 u.X.cf.ts) (.int .i64 u.X.cf.bs) (.int .i64 u.X.cf.sl) (.slice u.A u.X.ps.length u.a) (.slice u.B u.T.length u.b) (.slice u.C u.X.bs.length u.c)) := sets7_below BV7 (by omega)
            refine hK.out _ _ (.inr (KD.out _ BF)) ?_
            have hHeld9 := KD.out _ BF
            clear hK K z0' z1' z2' z3' z4' z5' z6' y0' y1' y2' y3' y4' y5' y6' lz'
            (try walk_nrm)
            refine tk (i := 12) [] (v := ?_) ?_ ?_
            rotate_left 1
            · (intro w hSw; obtain ⟨m0, m1, m2, m3, m4, m5, m6, m7, m8, m9, m10, m11, m12, m13, m14⟩ := hSw; go_simp; try (with_reducible rfl))
            (try walk_nrm)
            refine wpAnyX_done (by kernel_rfl) ?_ _
            go_wp2_with fail
            go_meet
            exact ⟨_, u, rfl, rfl, by omega, sets7_whole NB7 rfl, hU, sat_weak (sets7_sat hUS (fun h => h.2 rfl)), BF⟩
        · go_simp
          obtain ⟨v2', hv2⟩ : ∃ z, z = (wz.alloc (.cells #[.int .i64 0, .int .i64 0, .int .i64 0, .int .i64 0, .slice none 0 0, .slice none 0 0, .slice none 0 0] 37)).drew := ⟨_, rfl⟩
          have BV2 : Below wz.heap.size wz v2' := by rw [hv2]; exact ((Below.refl _ _).alloc (Nat.le_refl _) _).drew
          have NB2 : Whole v2' wz.heap.size 37 #[.int .i64 0, .int .i64 0, .int .i64 0, .int .i64 0, .slice none 0 0, .slice none 0 0, .slice none 0 0] := by rw [hv2]; exact (Whole.new wz _ _).drew
          rw [← hv2]
          clear hv2
          refine hK.out _ _ (.inr (KD.out _ BV2)) ?_
          have hHeld2 := KD.out _ BV2
          clear hK K
          (try walk_nrm)
          have lb2 := NB2.lt
          have ub2 := Nat.le_refl wz.heap.size
          have uc2 := BV2.size
          refine wpAnyX_one 5 (by kernel_rfl) rfl (fun K hK => ?_)
          go_simp
          go_wp2_with (refine (CR.out v2').mono ?_; rintro e v9' ⟨rfl, bv9⟩)
          have BV9 := BV2.trans (bv9.mono BV2.size)
          refine hK.out _ _ (.inr (KD.out _ BV9)) ?_
          have hHeld9 := KD.out _ BV9
          clear hK K
          (try walk_nrm)
          have NB9 := NB2.below bv9 NB2.lt
          have lb9 := NB9.lt
          refine wpAnyX_one 6 (by kernel_rfl) rfl (fun K hK => ?_)
          go_simp
          go_wp2_with (refine (CD.out (fun k => (fun k => k ≠ N ∧ k ≠ N + 1) k ∧ (fun k => k ≠ wz.heap.size) k) v9' ((SAt.with HVSz.out (fun k => k ≠ wz.heap.size) (fun k hk e => by omega)).next BV9) ((qat_with HQz.out (fun k => k ≠ wz.heap.size) (fun k hk e => by omega)).next BV9) (fun k hk => ⟨by have h9 := BV9.size; exact ⟨by omega, by omega⟩, fun e => by omega⟩)).mono ?_; rintro e v10' ⟨bv10, u, hU, hUS, rfl⟩)
          have BV10 := BV9.trans (bv10.mono BV9.size)
          refine hK.out _ _ (.inr (KD.out _ BV10)) ?_
          have hHeld10 := KD.out _ BV10
          clear hK K
          (try walk_nrm)
          have NB10 := NB9.below bv10 NB9.lt
          have lb10 := NB10.lt
          refine tk (i := 7) [] (v := ?_) ?_ ?_
          rotate_left 1
          · (intro w hSw; obtain ⟨m0, m1, m2, m3, m4, m5, m6, m7, m8, m9, m10, m11, m12, m13, m14⟩ := hSw; go_simp; try (with_reducible rfl))
          (try walk_nrm)
          refine tk (i := 8) [] (v := ?_) ?_ ?_
          rotate_left 1
          · (intro w hSw; obtain ⟨m0, m1, m2, m3, m4, m5, m6, m7, m8, m9, m10, m11, m12, m13, m14⟩ := hSw; go_simp; try (with_reducible rfl))
          (try walk_nrm)
          refine tk (i := 9) [] (v := ?_) ?_ ?_
          rotate_left 1
          · (intro w hSw; obtain ⟨m0, m1, m2, m3, m4, m5, m6, m7, m8, m9, m10, m11, m12, m13, m14⟩ := hSw; go_simp; try (with_reducible rfl))
          (try walk_nrm)
          refine wpAnyX_one 11 (by kernel_rfl) rfl (fun K hK => ?_)
          have z0' := NB10.cell 0
          have z1' := NB10.cell 1
          have z2' := NB10.cell 2
          have z3' := NB10.cell 3
          have z4' := NB10.cell 4
          have z5' := NB10.cell 5
          have z6' := NB10.cell 6
          have y0' := NB10.free 0
          have y1' := NB10.free 1
          have y2' := NB10.free 2
          have y3' := NB10.free 3
          have y4' := NB10.free 4
          have y5' := NB10.free 5
          have y6' := NB10.free 6
          have lz' := NB10.lt
          go_simp
          have BF : Below wz.heap.size wz (sets7 v10' wz.heap.size (.int .i64 u.X.cf.ps) (.int .i64 u.X.cf.ts) (.int .i64 u.X.cf.bs) (.int .i64 u.X.cf.sl) (.slice u.A u.X.ps.length u.a) (.slice u.B u.T.length u.b) (.slice u.C u.X.bs.length u.c)) := sets7_below BV10 (by omega)
          refine hK.out _ _ (.inr (KD.out _ BF)) ?_
          have hHeld9 := KD.out _ BF
          clear hK K z0' z1' z2' z3' z4' z5' z6' y0' y1' y2' y3' y4' y5' y6' lz'
          (try walk_nrm)
          refine tk (i := 12) [] (v := ?_) ?_ ?_
          rotate_left 1
          · (intro w hSw; obtain ⟨m0, m1, m2, m3, m4, m5, m6, m7, m8, m9, m10, m11, m12, m13, m14⟩ := hSw; go_simp; try (with_reducible rfl))
          (try walk_nrm)
          refine wpAnyX_done (by kernel_rfl) ?_ _
          go_wp2_with fail
          go_meet
          exact ⟨_, u, rfl, rfl, by omega, sets7_whole NB10 rfl, hU, sat_weak (sets7_sat hUS (fun h => h.2 rfl)), BF⟩
       case rest =>
        obtain ⟨U, u, rfl, rfl, hU, hWU, HUX, hUS, bd⟩ := hcut
        obtain ⟨wy, rfl⟩ : ∃ z, z = wc := ⟨_, rfl⟩
        have HUS := Lib.hid hUS
        have HWU := Lib.hid hWU
        have lMz := HWM.out.lt
        have HMy := Lib.hid (HWM.out.below bd lMz)
        have HNy := Lib.hid (HWz.out.below bd lNz)
        have HVy := Lib.hid (HVz.out.below bd lVz)
        have HSy := Lib.hid (HSz.out.next bd)
        have HVSy := Lib.hid (HVSz.out.next bd)
        have HTy := Lib.hid (HT.out.next bd)
        have HBy := Lib.hid (HBz.out.trans (bd.mono HBz.out.size))
        have hUN : U ≠ N := by omega
        have hUV : U ≠ N + 1 := by omega
        have hNU : N ≠ U := by omega
        have hVU : N + 1 ≠ U := by omega
        obtain ⟨mp, hmp⟩ : ∃ z, t.X.ps.length = z := ⟨_, rfl⟩
        obtain ⟨mt, hmt⟩ : ∃ z, t.T.length = z := ⟨_, rfl⟩
        obtain ⟨mb, hmb⟩ : ∃ z, t.X.bs.length = z := ⟨_, rfl⟩
        have HTM := Lib.hid (show #[.int .i64 t.X.cf.ps, .int .i64 t.X.cf.ts, .int .i64 t.X.cf.bs, .int .i64 t.X.cf.sl, .slice t.A mp t.a, .slice t.B mt t.b, .slice t.C mb t.c] = smA t from by unfold smA; rw [hmp, hmt, hmb])
        clear hmp hmt hmb
        obtain ⟨up, hup⟩ : ∃ z, u.X.ps.length = z := ⟨_, rfl⟩
        obtain ⟨ut, hut⟩ : ∃ z, u.T.length = z := ⟨_, rfl⟩
        obtain ⟨ub, hub⟩ : ∃ z, u.X.bs.length = z := ⟨_, rfl⟩
        have HUM := Lib.hid (show #[.int .i64 u.X.cf.ps, .int .i64 u.X.cf.ts, .int .i64 u.X.cf.bs, .int .i64 u.X.cf.sl, .slice u.A up u.a, .slice u.B ut u.b, .slice u.C ub u.c] = smA u from by unfold smA; rw [hup, hut, hub])
        clear hup hut hub
        obtain ⟨np, hnp⟩ : ∃ z, s.X.ps.length = z := ⟨_, rfl⟩
        obtain ⟨nt, hnt⟩ : ∃ z, s.T.length = z := ⟨_, rfl⟩
        obtain ⟨nb, hnb⟩ : ∃ z, s.X.bs.length = z := ⟨_, rfl⟩
        have HSM := Lib.hid (show #[.int .i64 s.X.cf.ps, .int .i64 s.X.cf.ts, .int .i64 s.X.cf.bs, .int .i64 s.X.cf.sl, .slice s.A np s.a, .slice s.B nt s.b, .slice s.C nb s.c] = smA s from by unfold smA; rw [hnp, hnt, hnb])
        clear hnp hnt hnb
        obtain ⟨vp, hvp⟩ : ∃ z, v.X.ps.length = z := ⟨_, rfl⟩
        obtain ⟨vt, hvt⟩ : ∃ z, v.T.length = z := ⟨_, rfl⟩
        obtain ⟨vb, hvb⟩ : ∃ z, v.X.bs.length = z := ⟨_, rfl⟩
        have HVM := Lib.hid (show #[.int .i64 v.X.cf.ps, .int .i64 v.X.cf.ts, .int .i64 v.X.cf.bs, .int .i64 v.X.cf.sl, .slice v.A vp v.a, .slice v.B vt v.b, .slice v.C vb v.c] = smA v from by unfold smA; rw [hvp, hvt, hvb])
        clear hvp hvt hvb
        clear v0 v1 v2 v3 v4 v5 v6 a0 a1 a2 a3 a4 a5 a6 a7
        have z0 : wy.cell? ⟨M, 0, none⟩ = some (.int .i64 t.X.cf.ps) := (HMy.out.cell 0).trans (by rw [← HTM.out]; rfl)
        have z1 : wy.cell? ⟨M, 1, none⟩ = some (.int .i64 t.X.cf.ts) := (HMy.out.cell 1).trans (by rw [← HTM.out]; rfl)
        have z2 : wy.cell? ⟨M, 2, none⟩ = some (.int .i64 t.X.cf.bs) := (HMy.out.cell 2).trans (by rw [← HTM.out]; rfl)
        have z3 : wy.cell? ⟨M, 3, none⟩ = some (.int .i64 t.X.cf.sl) := (HMy.out.cell 3).trans (by rw [← HTM.out]; rfl)
        have z4 : wy.cell? ⟨M, 4, none⟩ = some (.slice t.A mp t.a) := (HMy.out.cell 4).trans (by rw [← HTM.out]; rfl)
        have z5 : wy.cell? ⟨M, 5, none⟩ = some (.slice t.B mt t.b) := (HMy.out.cell 5).trans (by rw [← HTM.out]; rfl)
        have z6 : wy.cell? ⟨M, 6, none⟩ = some (.slice t.C mb t.c) := (HMy.out.cell 6).trans (by rw [← HTM.out]; rfl)
        have r0 : wy.cell? ⟨U, 0, none⟩ = some (.int .i64 u.X.cf.ps) := (HWU.out.cell 0).trans (by rw [← HUM.out]; rfl)
        have r1 : wy.cell? ⟨U, 1, none⟩ = some (.int .i64 u.X.cf.ts) := (HWU.out.cell 1).trans (by rw [← HUM.out]; rfl)
        have r2 : wy.cell? ⟨U, 2, none⟩ = some (.int .i64 u.X.cf.bs) := (HWU.out.cell 2).trans (by rw [← HUM.out]; rfl)
        have r3 : wy.cell? ⟨U, 3, none⟩ = some (.int .i64 u.X.cf.sl) := (HWU.out.cell 3).trans (by rw [← HUM.out]; rfl)
        have r4 : wy.cell? ⟨U, 4, none⟩ = some (.slice u.A up u.a) := (HWU.out.cell 4).trans (by rw [← HUM.out]; rfl)
        have r5 : wy.cell? ⟨U, 5, none⟩ = some (.slice u.B ut u.b) := (HWU.out.cell 5).trans (by rw [← HUM.out]; rfl)
        have r6 : wy.cell? ⟨U, 6, none⟩ = some (.slice u.C ub u.c) := (HWU.out.cell 6).trans (by rw [← HUM.out]; rfl)
        have lMy := HMy.out.lt
        have lUy := HWU.out.lt
        clear hWU hUS bd KD CD CR HT HWM HWz HVz HSz HVSz HQz HBz
        have KD := Lib.hid (fun w' (b' : Below wy.heap.size wy w') => show (fun w' => w'.cell? ⟨M, 0, none⟩ = some (.int .i64 t.X.cf.ps) ∧ w'.cell? ⟨M, 1, none⟩ = some (.int .i64 t.X.cf.ts) ∧ w'.cell? ⟨M, 2, none⟩ = some (.int .i64 t.X.cf.bs) ∧ w'.cell? ⟨M, 3, none⟩ = some (.int .i64 t.X.cf.sl) ∧ w'.cell? ⟨M, 4, none⟩ = some (.slice t.A mp t.a) ∧ w'.cell? ⟨M, 5, none⟩ = some (.slice t.B mt t.b) ∧ w'.cell? ⟨M, 6, none⟩ = some (.slice t.C mb t.c) ∧ w'.cell? ⟨U, 0, none⟩ = some (.int .i64 u.X.cf.ps) ∧ w'.cell? ⟨U, 1, none⟩ = some (.int .i64 u.X.cf.ts) ∧ w'.cell? ⟨U, 2, none⟩ = some (.int .i64 u.X.cf.bs) ∧ w'.cell? ⟨U, 3, none⟩ = some (.int .i64 u.X.cf.sl) ∧ w'.cell? ⟨U, 4, none⟩ = some (.slice u.A up u.a) ∧ w'.cell? ⟨U, 5, none⟩ = some (.slice u.B ut u.b) ∧ w'.cell? ⟨U, 6, none⟩ = some (.slice u.C ub u.c)) w' from ⟨(b'.cell (p := ⟨M, 0, none⟩) lMy).trans z0, (b'.cell (p := ⟨M, 1, none⟩) lMy).trans z1, (b'.cell (p := ⟨M, 2, none⟩) lMy).trans z2, (b'.cell (p := ⟨M, 3, none⟩) lMy).trans z3, (b'.cell (p := ⟨M, 4, none⟩) lMy).trans z4, (b'.cell (p := ⟨M, 5, none⟩) lMy).trans z5, (b'.cell (p := ⟨M, 6, none⟩) lMy).trans z6, (b'.cell (p := ⟨U, 0, none⟩) lUy).trans r0, (b'.cell (p := ⟨U, 1, none⟩) lUy).trans r1, (b'.cell (p := ⟨U, 2, none⟩) lUy).trans r2, (b'.cell (p := ⟨U, 3, none⟩) lUy).trans r3, (b'.cell (p := ⟨U, 4, none⟩) lUy).trans r4, (b'.cell (p := ⟨U, 5, none⟩) lUy).trans r5, (b'.cell (p := ⟨U, 6, none⟩) lUy).trans r6⟩)
        have CO := Lib.hid (fun w' (hu : SAt (fun k => k ≠ N ∧ k ≠ N + 1) w' t) (hp : N + 1 < w'.heap.size) => (show Calls Try.prog 16 #[.agg #[.int .i64 t.X.cf.ps, .int .i64 t.X.cf.ts, .int .i64 t.X.cf.bs, .int .i64 t.X.cf.sl, .slice t.A mp t.a, .slice t.B mt t.b, .slice t.C mb t.c]] w' (fun e w'' => Below w'.heap.size w' w'' ∧ ∃ y : Sm, y.X = t.X ∧ y.T = t.T ∧ SAt (fun k => k ≠ N ∧ k ≠ N + 1) w'' y ∧ e = .returned (.agg (smA y))) from by rw [HTM.out]; exact of18s (fun k => k ≠ N ∧ k ≠ N + 1) t w' hu (fun k hk => ⟨by omega, by omega⟩)))
        have CS := Lib.hid (fun (y : Sm) w' (hy : SAt (fun k => k ≠ N ∧ k ≠ N + 1) w' y) (hv : SAt (fun k => k ≠ N ∧ k ≠ N + 1) w' u) (e : u.X = y.X) => (show Calls Try.prog 15 #[.agg (smA y), .agg #[.int .i64 u.X.cf.ps, .int .i64 u.X.cf.ts, .int .i64 u.X.cf.bs, .int .i64 u.X.cf.sl, .slice u.A up u.a, .slice u.B ut u.b, .slice u.C ub u.c]] w' (fun e w'' => e = .returned (.bool true) ∧ Below w'.heap.size w' w'') from by rw [HUM.out]; exact same18 (fun k => k ≠ N ∧ k ≠ N + 1) y u w' hy hv e))
        go_upto_region 16 with fail
        go_cut [111] (fun b wx => b = .bool false ∧ Below wy.heap.size wy wx)
        case first =>
         refine wp_region_X (S := fun w' => w'.cell? ⟨M, 0, none⟩ = some (.int .i64 t.X.cf.ps) ∧ w'.cell? ⟨M, 1, none⟩ = some (.int .i64 t.X.cf.ts) ∧ w'.cell? ⟨M, 2, none⟩ = some (.int .i64 t.X.cf.bs) ∧ w'.cell? ⟨M, 3, none⟩ = some (.int .i64 t.X.cf.sl) ∧ w'.cell? ⟨M, 4, none⟩ = some (.slice t.A mp t.a) ∧ w'.cell? ⟨M, 5, none⟩ = some (.slice t.B mt t.b) ∧ w'.cell? ⟨M, 6, none⟩ = some (.slice t.C mb t.c) ∧ w'.cell? ⟨U, 0, none⟩ = some (.int .i64 u.X.cf.ps) ∧ w'.cell? ⟨U, 1, none⟩ = some (.int .i64 u.X.cf.ts) ∧ w'.cell? ⟨U, 2, none⟩ = some (.int .i64 u.X.cf.bs) ∧ w'.cell? ⟨U, 3, none⟩ = some (.int .i64 u.X.cf.sl) ∧ w'.cell? ⟨U, 4, none⟩ = some (.slice u.A up u.a) ∧ w'.cell? ⟨U, 5, none⟩ = some (.slice u.B ut u.b) ∧ w'.cell? ⟨U, 6, none⟩ = some (.slice u.C ub u.c)) [] (by kernel_rfl) (KD.out _ (Below.refl _ _).drew) (fun hHeld0 => ?_)
         refine tk (i := 0) [] (v := ?_) ?_ ?_
         rotate_left 1
         · (intro w hSw; obtain ⟨m0, m1, m2, m3, m4, m5, m6, m7, m8, m9, m10, m11, m12, m13⟩ := hSw; go_simp; try (with_reducible rfl))
         (try walk_nrm)
         refine tk (i := 1) [] (v := ?_) ?_ ?_
         rotate_left 1
         · (intro w hSw; obtain ⟨m0, m1, m2, m3, m4, m5, m6, m7, m8, m9, m10, m11, m12, m13⟩ := hSw; go_simp; try (with_reducible rfl))
         (try walk_nrm)
         refine tk (i := 2) [] (v := ?_) ?_ ?_
         rotate_left 1
         · (intro w hSw; obtain ⟨m0, m1, m2, m3, m4, m5, m6, m7, m8, m9, m10, m11, m12, m13⟩ := hSw; go_simp; try (with_reducible rfl))
         (try walk_nrm)
         refine tk (i := 3) [] (v := ?_) ?_ ?_
         rotate_left 1
         · (intro w hSw; obtain ⟨m0, m1, m2, m3, m4, m5, m6, m7, m8, m9, m10, m11, m12, m13⟩ := hSw; go_simp; try (with_reducible rfl))
         (try walk_nrm)
         refine tk (i := 4) [] (v := ?_) ?_ ?_
         rotate_left 1
         · (intro w hSw; obtain ⟨m0, m1, m2, m3, m4, m5, m6, m7, m8, m9, m10, m11, m12, m13⟩ := hSw; go_simp; try (with_reducible rfl))
         (try walk_nrm)
         refine tk (i := 6) [] (v := ?_) ?_ ?_
         rotate_left 1
         · (intro w hSw; obtain ⟨m0, m1, m2, m3, m4, m5, m6, m7, m8, m9, m10, m11, m12, m13⟩ := hSw; go_simp; try (with_reducible rfl))
         (try walk_nrm)
         refine wpAnyX_one 5 (by kernel_rfl) rfl (fun K hK => ?_)
         go_simp
         go_wp2_with (refine (CO.out wy.drew (HTy.out.next (Below.refl wy.heap.size wy).drew) (by show N + 1 < wy.heap.size; have := HVy.out.lt; omega)).mono ?_; rintro e v1' ⟨bv1, y, hyX, _, hyS, rfl⟩; replace hyX := Lib.hid hyX)
         have BV1 := (Below.refl wy.heap.size wy).drew.trans (bv1.mono (Below.refl wy.heap.size wy).drew.size)
         refine hK.out _ _ (.inr (KD.out _ BV1)) ?_
         have hHeld1 := KD.out _ BV1
         clear hK K
         (try walk_nrm)
         refine wpAnyX_one 7 (by kernel_rfl) rfl (fun K hK => ?_)
         go_simp
         go_wp2_with (refine (CS.out y v1' hyS (HUS.out.next BV1) (by rw [HUX.out, hyX.out])).mono ?_; rintro e v2' ⟨rfl, bv2⟩)
         have BV2 := BV1.trans (bv2.mono BV1.size)
         refine hK.out _ _ (.inr (KD.out _ BV2)) ?_
         have hHeld2 := KD.out _ BV2
         clear hK K
         (try walk_nrm)
         refine tk (i := 8) [] (v := ?_) ?_ ?_
         rotate_left 1
         · (intro w hSw; obtain ⟨m0, m1, m2, m3, m4, m5, m6, m7, m8, m9, m10, m11, m12, m13⟩ := hSw; go_simp; try (with_reducible rfl))
         (try walk_nrm)
         refine tk (i := 9) [] (v := ?_) ?_ ?_
         rotate_left 1
         · (intro w hSw; obtain ⟨m0, m1, m2, m3, m4, m5, m6, m7, m8, m9, m10, m11, m12, m13⟩ := hSw; go_simp; try (with_reducible rfl))
         (try walk_nrm)
         refine wpAnyX_done (by kernel_rfl) ?_ _
         go_wp2_with fail
         go_meet
         exact ⟨rfl, BV2⟩
        case rest =>
         obtain ⟨rfl, b6⟩ := hcut
         obtain ⟨w5, rfl⟩ : ∃ z, z = wc := ⟨_, rfl⟩
         have HUy := HWU
         have HUSy := HUS
         have HM5 := Lib.hid (HMy.out.below b6 HMy.out.lt)
         have HN5 := Lib.hid (HNy.out.below b6 HNy.out.lt)
         have HV5 := Lib.hid (HVy.out.below b6 HVy.out.lt)
         have HU5 := Lib.hid (HUy.out.below b6 HUy.out.lt)
         have HS5 := Lib.hid (HSy.out.next b6)
         have HVS5 := Lib.hid (HVSy.out.next b6)
         have HT5 := Lib.hid (HTy.out.next b6)
         have HUS5 := Lib.hid (HUSy.out.next b6)
         have HB5 := Lib.hid (HBy.out.trans (b6.mono HBy.out.size))
         clear b6 KD CO CS HUy HUSy HWU HUS z0 z1 z2 z3 z4 z5 z6 r0 r1 r2 r3 r4 r5 r6
         clear HMy HNy HVy HSy HVSy HTy HBy
         have g0 : w5.cell? ⟨N, 0, none⟩ = some (.int .i64 s.X.cf.ps) := (HN5.out.cell 0).trans (by rw [← HSM.out]; rfl)
         have g1 : w5.cell? ⟨N, 1, none⟩ = some (.int .i64 s.X.cf.ts) := (HN5.out.cell 1).trans (by rw [← HSM.out]; rfl)
         have g2 : w5.cell? ⟨N, 2, none⟩ = some (.int .i64 s.X.cf.bs) := (HN5.out.cell 2).trans (by rw [← HSM.out]; rfl)
         have g3 : w5.cell? ⟨N, 3, none⟩ = some (.int .i64 s.X.cf.sl) := (HN5.out.cell 3).trans (by rw [← HSM.out]; rfl)
         have g4 : w5.cell? ⟨N, 4, none⟩ = some (.slice s.A np s.a) := (HN5.out.cell 4).trans (by rw [← HSM.out]; rfl)
         have g5 : w5.cell? ⟨N, 5, none⟩ = some (.slice s.B nt s.b) := (HN5.out.cell 5).trans (by rw [← HSM.out]; rfl)
         have g6 : w5.cell? ⟨N, 6, none⟩ = some (.slice s.C nb s.c) := (HN5.out.cell 6).trans (by rw [← HSM.out]; rfl)
         have z0 : w5.cell? ⟨M, 0, none⟩ = some (.int .i64 t.X.cf.ps) := (HM5.out.cell 0).trans (by rw [← HTM.out]; rfl)
         have z1 : w5.cell? ⟨M, 1, none⟩ = some (.int .i64 t.X.cf.ts) := (HM5.out.cell 1).trans (by rw [← HTM.out]; rfl)
         have z2 : w5.cell? ⟨M, 2, none⟩ = some (.int .i64 t.X.cf.bs) := (HM5.out.cell 2).trans (by rw [← HTM.out]; rfl)
         have z3 : w5.cell? ⟨M, 3, none⟩ = some (.int .i64 t.X.cf.sl) := (HM5.out.cell 3).trans (by rw [← HTM.out]; rfl)
         have z4 : w5.cell? ⟨M, 4, none⟩ = some (.slice t.A mp t.a) := (HM5.out.cell 4).trans (by rw [← HTM.out]; rfl)
         have z5 : w5.cell? ⟨M, 5, none⟩ = some (.slice t.B mt t.b) := (HM5.out.cell 5).trans (by rw [← HTM.out]; rfl)
         have z6 : w5.cell? ⟨M, 6, none⟩ = some (.slice t.C mb t.c) := (HM5.out.cell 6).trans (by rw [← HTM.out]; rfl)
         have CG := Lib.hid (show Calls Try.prog 17 #[.agg #[.int .i64 s.X.cf.ps, .int .i64 s.X.cf.ts, .int .i64 s.X.cf.bs, .int .i64 s.X.cf.sl, .slice s.A np s.a, .slice s.B nt s.b, .slice s.C nb s.c], .agg #[.int .i64 t.X.cf.ps, .int .i64 t.X.cf.ts, .int .i64 t.X.cf.bs, .int .i64 t.X.cf.sl, .slice t.A mp t.a, .slice t.B mt t.b, .slice t.C mb t.c]] w5 (fun e w' => ∃ A' c', e = .returned (.slice A' (goneS s.X t.X).length c') ∧ w'.ownsRow w5.heap.size 55 5 (.slice A' (goneS s.X t.X).length c') (goneS s.X t.X).length (sbC (goneS s.X t.X)) ∧ Below w5.heap.size w5 w') from by rw [HSM.out, HTM.out]; exact cgone_any (fun k => k ≠ N ∧ k ≠ N + 1) s t w5 HS5.out HT5.out)
         have lN5 := HN5.out.lt
         have lM5 := HM5.out.lt
         go_wp2_with fail
         refine CG.out.mono ?_
         rintro e w6 ⟨G, gc, rfl, ho6, b6⟩
         obtain ⟨ng, hng⟩ : ∃ z, (goneS s.X t.X).length = z := ⟨_, rfl⟩
         have HNG := Lib.hid hng
         have HG6 := Lib.hid (show Row w6 w6.heap.size 5 G ng (sbC (goneS s.X t.X)) from by rw [← hng]; exact Row.of_own ho6)
         rw [hng]
         clear hng ho6 CG
         have HM6 := Lib.hid (HM5.out.below b6 HM5.out.lt)
         have HN6 := Lib.hid (HN5.out.below b6 HN5.out.lt)
         have HV6 := Lib.hid (HV5.out.below b6 HV5.out.lt)
         have HU6 := Lib.hid (HU5.out.below b6 HU5.out.lt)
         have HS6 := Lib.hid (HS5.out.next b6)
         have HVS6 := Lib.hid (HVS5.out.next b6)
         have HT6 := Lib.hid (HT5.out.next b6)
         have HUS6 := Lib.hid (HUS5.out.next b6)
         have HB6 := Lib.hid (HB5.out.trans (b6.mono HB5.out.size))
         clear b6 g0 g1 g2 g3 g4 g5 g6 z0 z1 z2 z3 z4 z5 z6
         clear HM5 HN5 HV5 HU5 HS5 HVS5 HT5 HUS5 HB5
         have v0 : w6.cell? ⟨(N + 1), 0, none⟩ = some (.int .i64 v.X.cf.ps) := (HV6.out.cell 0).trans (by rw [← HVM.out]; rfl)
         have v1 : w6.cell? ⟨(N + 1), 1, none⟩ = some (.int .i64 v.X.cf.ts) := (HV6.out.cell 1).trans (by rw [← HVM.out]; rfl)
         have v2 : w6.cell? ⟨(N + 1), 2, none⟩ = some (.int .i64 v.X.cf.bs) := (HV6.out.cell 2).trans (by rw [← HVM.out]; rfl)
         have v3 : w6.cell? ⟨(N + 1), 3, none⟩ = some (.int .i64 v.X.cf.sl) := (HV6.out.cell 3).trans (by rw [← HVM.out]; rfl)
         have v4 : w6.cell? ⟨(N + 1), 4, none⟩ = some (.slice v.A vp v.a) := (HV6.out.cell 4).trans (by rw [← HVM.out]; rfl)
         have v5 : w6.cell? ⟨(N + 1), 5, none⟩ = some (.slice v.B vt v.b) := (HV6.out.cell 5).trans (by rw [← HVM.out]; rfl)
         have v6 : w6.cell? ⟨(N + 1), 6, none⟩ = some (.slice v.C vb v.c) := (HV6.out.cell 6).trans (by rw [← HVM.out]; rfl)
         have r0 : w6.cell? ⟨U, 0, none⟩ = some (.int .i64 u.X.cf.ps) := (HU6.out.cell 0).trans (by rw [← HUM.out]; rfl)
         have r1 : w6.cell? ⟨U, 1, none⟩ = some (.int .i64 u.X.cf.ts) := (HU6.out.cell 1).trans (by rw [← HUM.out]; rfl)
         have r2 : w6.cell? ⟨U, 2, none⟩ = some (.int .i64 u.X.cf.bs) := (HU6.out.cell 2).trans (by rw [← HUM.out]; rfl)
         have r3 : w6.cell? ⟨U, 3, none⟩ = some (.int .i64 u.X.cf.sl) := (HU6.out.cell 3).trans (by rw [← HUM.out]; rfl)
         have r4 : w6.cell? ⟨U, 4, none⟩ = some (.slice u.A up u.a) := (HU6.out.cell 4).trans (by rw [← HUM.out]; rfl)
         have r5 : w6.cell? ⟨U, 5, none⟩ = some (.slice u.B ut u.b) := (HU6.out.cell 5).trans (by rw [← HUM.out]; rfl)
         have r6 : w6.cell? ⟨U, 6, none⟩ = some (.slice u.C ub u.c) := (HU6.out.cell 6).trans (by rw [← HUM.out]; rfl)
         have lV6 : N + 1 < w6.heap.size := HV6.out.lt
         have lU6 := HU6.out.lt
         have CG := Lib.hid (show Calls Try.prog 18 #[.agg #[.int .i64 v.X.cf.ps, .int .i64 v.X.cf.ts, .int .i64 v.X.cf.bs, .int .i64 v.X.cf.sl, .slice v.A vp v.a, .slice v.B vt v.b, .slice v.C vb v.c], .agg #[.int .i64 u.X.cf.ps, .int .i64 u.X.cf.ts, .int .i64 u.X.cf.bs, .int .i64 u.X.cf.sl, .slice u.A up u.a, .slice u.B ut u.b, .slice u.C ub u.c]] w6 (fun e w' => ∃ A' c', e = .returned (.slice A' ng c') ∧ Row w' w'.heap.size 5 A' ng (sbC (goneS s.X t.X)) ∧ Below w6.heap.size w6 w') from by rw [HVM.out, HUM.out]; refine (rgone18s (fun k => k ≠ N ∧ k ≠ N + 1) v u w6 HVS6.out HUS6.out).mono ?_; rintro e w' ⟨A', c', rfl, ho, hb⟩; rw [HVX.out, HUX.out, HNG.out] at ho ⊢; exact ⟨A', c', rfl, Row.of_own ho, hb⟩)
         go_wp2_with fail
         refine CG.out.mono ?_
         rintro e w7 ⟨H, hc, rfl, hrH, b7⟩
         have HH7 := Lib.hid hrH
         have HG7 := Lib.hid ((HG6.out.below b7 (Nat.le_refl _)).more b7.size)
         have HM7 := Lib.hid (HM6.out.below b7 HM6.out.lt)
         have HN7 := Lib.hid (HN6.out.below b7 HN6.out.lt)
         have HV7 := Lib.hid (HV6.out.below b7 HV6.out.lt)
         have HU7 := Lib.hid (HU6.out.below b7 HU6.out.lt)
         have HS7 := Lib.hid (HS6.out.next b7)
         have HVS7 := Lib.hid (HVS6.out.next b7)
         have HT7 := Lib.hid (HT6.out.next b7)
         have HUS7 := Lib.hid (HUS6.out.next b7)
         have HB7 := Lib.hid (HB6.out.trans (b7.mono HB6.out.size))
         clear b7 hrH HG6 CG v0 v1 v2 v3 v4 v5 v6 r0 r1 r2 r3 r4 r5 r6
         clear HM6 HN6 HV6 HU6 HS6 HVS6 HT6 HUS6 HB6
         have HZ7 := Lib.hid (Below.refl w7.heap.size w7)
         have hgl : ng ≤ 64 := by rw [← HNG.out]; exact Nat.le_trans (List.length_filter_le _ _) HS7.out.small.2.2
         go_wp2_with fail
         go_loopw [18] (fun iv wr => ∃ j : Nat, j ≤ ng ∧ iv = .int .i64 (j : Int) ∧ Hid (Below w7.heap.size w7 wr)) (fun iv _ => ng - (intOf iv).toNat)
         case atStart => exact ⟨0, Nat.zero_le _, rfl, HZ7⟩
         case round =>
          obtain ⟨j, hj, rfl, HJ⟩ := hrel
          by_cases hjl : j < ng
          · obtain ⟨x, hx⟩ : ∃ x, (goneS s.X t.X)[j]? = some x := ⟨_, List.getElem?_eq_getElem (by rw [HNG.out]; exact hjl)⟩
            obtain ⟨gG, oG, rfl, hgG, hcG⟩ := HG7.out.2 (by omega)
            obtain ⟨gH, oH, rfl, hgH, hcH⟩ := HH7.out.2 (by omega)
            have p0 := (HJ.out.cell (p := ⟨gG, oG + (j * 5 + 0), none⟩) hgG).trans (hcG _ _ ((sbC_get hx 0 (by decide)).trans rfl))
            have p1 := (HJ.out.cell (p := ⟨gG, oG + (j * 5 + 1), none⟩) hgG).trans (hcG _ _ ((sbC_get hx 1 (by decide)).trans rfl))
            rw [Nat.add_zero] at p0
            rw [← Nat.add_assoc] at p1
            have o0 := (HJ.out.cell (p := ⟨gH, oH + (j * 5 + 0), none⟩) hgH).trans (hcH _ _ ((sbC_get hx 0 (by decide)).trans rfl))
            have o1 := (HJ.out.cell (p := ⟨gH, oH + (j * 5 + 1), none⟩) hgH).trans (hcH _ _ ((sbC_get hx 1 (by decide)).trans rfl))
            rw [Nat.add_zero] at o0
            rw [← Nat.add_assoc] at o1
            try dsimp only at p0 p1 o0 o1
            have j0 : (0 : Int) ≤ (j : Int) := by omega
            have j1 : (j : Int) < (ng : Int) := by omega
            have lgG : gG < wr.heap.size := by have := HJ.out.size; omega
            have lgH : gH < wr.heap.size := by have := HJ.out.size; omega
            clear hx hcG hcH
            go_wp2_with fail
            try (go_region; go_wp2_with fail)
            all_goals (first | exact ⟨⟨j + 1, by omega, by go_num, Lib.hid (by first | exact HJ.out | exact HJ.out.drew)⟩, by simp [intOf]; omega⟩ | (go_roundw; (case rel => exact ⟨j + 1, by omega, by go_num, Lib.hid (by first | exact HJ.out | exact HJ.out.drew)⟩); (case measure => simp [intOf]; omega)))
          · obtain rfl : ng = j := by omega
            obtain ⟨wq, rfl⟩ : ∃ z, z = wr := ⟨_, rfl⟩
            have bj := HJ.out
            have HM8 := Lib.hid (HM7.out.below bj HM7.out.lt)
            have HN8 := Lib.hid (HN7.out.below bj HN7.out.lt)
            have HV8 := Lib.hid (HV7.out.below bj HV7.out.lt)
            have HU8 := Lib.hid (HU7.out.below bj HU7.out.lt)
            have HS8 := Lib.hid (HS7.out.next bj)
            have HVS8 := Lib.hid (HVS7.out.next bj)
            have HT8 := Lib.hid (HT7.out.next bj)
            have HUS8 := Lib.hid (HUS7.out.next bj)
            have HB8 := Lib.hid (HB7.out.trans (bj.mono HB7.out.size))
            clear HM7 HN7 HV7 HU7 HS7 HVS7 HT7 HUS7 HB7
            clear bj HJ HG7 HH7
            have z0 : wq.cell? ⟨M, 0, none⟩ = some (.int .i64 t.X.cf.ps) := (HM8.out.cell 0).trans (by rw [← HTM.out]; rfl)
            have z1 : wq.cell? ⟨M, 1, none⟩ = some (.int .i64 t.X.cf.ts) := (HM8.out.cell 1).trans (by rw [← HTM.out]; rfl)
            have z2 : wq.cell? ⟨M, 2, none⟩ = some (.int .i64 t.X.cf.bs) := (HM8.out.cell 2).trans (by rw [← HTM.out]; rfl)
            have z3 : wq.cell? ⟨M, 3, none⟩ = some (.int .i64 t.X.cf.sl) := (HM8.out.cell 3).trans (by rw [← HTM.out]; rfl)
            have z4 : wq.cell? ⟨M, 4, none⟩ = some (.slice t.A mp t.a) := (HM8.out.cell 4).trans (by rw [← HTM.out]; rfl)
            have z5 : wq.cell? ⟨M, 5, none⟩ = some (.slice t.B mt t.b) := (HM8.out.cell 5).trans (by rw [← HTM.out]; rfl)
            have z6 : wq.cell? ⟨M, 6, none⟩ = some (.slice t.C mb t.c) := (HM8.out.cell 6).trans (by rw [← HTM.out]; rfl)
            have g0 : wq.cell? ⟨N, 0, none⟩ = some (.int .i64 s.X.cf.ps) := (HN8.out.cell 0).trans (by rw [← HSM.out]; rfl)
            have g1 : wq.cell? ⟨N, 1, none⟩ = some (.int .i64 s.X.cf.ts) := (HN8.out.cell 1).trans (by rw [← HSM.out]; rfl)
            have g2 : wq.cell? ⟨N, 2, none⟩ = some (.int .i64 s.X.cf.bs) := (HN8.out.cell 2).trans (by rw [← HSM.out]; rfl)
            have g3 : wq.cell? ⟨N, 3, none⟩ = some (.int .i64 s.X.cf.sl) := (HN8.out.cell 3).trans (by rw [← HSM.out]; rfl)
            have g4 : wq.cell? ⟨N, 4, none⟩ = some (.slice s.A np s.a) := (HN8.out.cell 4).trans (by rw [← HSM.out]; rfl)
            have g5 : wq.cell? ⟨N, 5, none⟩ = some (.slice s.B nt s.b) := (HN8.out.cell 5).trans (by rw [← HSM.out]; rfl)
            have g6 : wq.cell? ⟨N, 6, none⟩ = some (.slice s.C nb s.c) := (HN8.out.cell 6).trans (by rw [← HSM.out]; rfl)
            have lM8 := HM8.out.lt
            have lN8 := HN8.out.lt
            have f0 := HN8.out.free 0
            have f1 := HN8.out.free 1
            have f2 := HN8.out.free 2
            have f3 := HN8.out.free 3
            have f4 := HN8.out.free 4
            have f5 := HN8.out.free 5
            have f6 := HN8.out.free 6
            obtain ⟨wp, hwp⟩ : ∃ z, z = (sets7 wq N (.int .i64 t.X.cf.ps) (.int .i64 t.X.cf.ts) (.int .i64 t.X.cf.bs) (.int .i64 t.X.cf.sl) (.slice t.A mp t.a) (.slice t.B mt t.b) (.slice t.C mb t.c)) := ⟨_, rfl⟩
            have HN9 := Lib.hid (show Whole wp N 31 (smA t) by rw [hwp, ← HTM.out]; exact sets7_whole HN8.out rfl)
            have HV9 := Lib.hid (show Whole wp (N + 1) 37 (smA v) by rw [hwp]; exact sets7_far HV8.out (by omega))
            have HU9 := Lib.hid (show Whole wp U 37 (smA u) by rw [hwp]; exact sets7_far HU8.out hUN)
            have HT9 := Lib.hid (show SAt (fun k => k ≠ N ∧ k ≠ N + 1) wp t by rw [hwp]; exact sets7_sat HT8.out (fun h => h.1 rfl))
            have HUS9 := Lib.hid (show SAt (fun k => k ≠ N ∧ k ≠ N + 1) wp u by rw [hwp]; exact sets7_sat HUS8.out (fun h => h.1 rfl))
            have HB9 := Lib.hid (show Below w.heap.size w wp by rw [hwp]; exact sets7_below HB8.out hlo)
            have hwp2 := hwp
            unfold sets7 at hwp2
            clear hwp
            go_upto_region 28 with fail
            rw [← hwp2]
            clear hwp2 z0 z1 z2 z3 z4 z5 z6 g0 g1 g2 g3 g4 g5 g6 f0 f1 f2 f3 f4 f5 f6
            clear HM8 HN8 HV8 HU8 HS8 HVS8 HT8 HUS8 HB8
            have r0 : wp.cell? ⟨U, 0, none⟩ = some (.int .i64 u.X.cf.ps) := (HU9.out.cell 0).trans (by rw [← HUM.out]; rfl)
            have r1 : wp.cell? ⟨U, 1, none⟩ = some (.int .i64 u.X.cf.ts) := (HU9.out.cell 1).trans (by rw [← HUM.out]; rfl)
            have r2 : wp.cell? ⟨U, 2, none⟩ = some (.int .i64 u.X.cf.bs) := (HU9.out.cell 2).trans (by rw [← HUM.out]; rfl)
            have r3 : wp.cell? ⟨U, 3, none⟩ = some (.int .i64 u.X.cf.sl) := (HU9.out.cell 3).trans (by rw [← HUM.out]; rfl)
            have r4 : wp.cell? ⟨U, 4, none⟩ = some (.slice u.A up u.a) := (HU9.out.cell 4).trans (by rw [← HUM.out]; rfl)
            have r5 : wp.cell? ⟨U, 5, none⟩ = some (.slice u.B ut u.b) := (HU9.out.cell 5).trans (by rw [← HUM.out]; rfl)
            have r6 : wp.cell? ⟨U, 6, none⟩ = some (.slice u.C ub u.c) := (HU9.out.cell 6).trans (by rw [← HUM.out]; rfl)
            have v0 : wp.cell? ⟨(N + 1), 0, none⟩ = some (.int .i64 v.X.cf.ps) := (HV9.out.cell 0).trans (by rw [← HVM.out]; rfl)
            have v1 : wp.cell? ⟨(N + 1), 1, none⟩ = some (.int .i64 v.X.cf.ts) := (HV9.out.cell 1).trans (by rw [← HVM.out]; rfl)
            have v2 : wp.cell? ⟨(N + 1), 2, none⟩ = some (.int .i64 v.X.cf.bs) := (HV9.out.cell 2).trans (by rw [← HVM.out]; rfl)
            have v3 : wp.cell? ⟨(N + 1), 3, none⟩ = some (.int .i64 v.X.cf.sl) := (HV9.out.cell 3).trans (by rw [← HVM.out]; rfl)
            have v4 : wp.cell? ⟨(N + 1), 4, none⟩ = some (.slice v.A vp v.a) := (HV9.out.cell 4).trans (by rw [← HVM.out]; rfl)
            have v5 : wp.cell? ⟨(N + 1), 5, none⟩ = some (.slice v.B vt v.b) := (HV9.out.cell 5).trans (by rw [← HVM.out]; rfl)
            have v6 : wp.cell? ⟨(N + 1), 6, none⟩ = some (.slice v.C vb v.c) := (HV9.out.cell 6).trans (by rw [← HVM.out]; rfl)
            have lU9 := HU9.out.lt
            have lV9 : N + 1 < wp.heap.size := HV9.out.lt
            have f0 := HV9.out.free 0
            have f1 := HV9.out.free 1
            have f2 := HV9.out.free 2
            have f3 := HV9.out.free 3
            have f4 := HV9.out.free 4
            have f5 := HV9.out.free 5
            have f6 := HV9.out.free 6
            go_wp2_with fail
            go_roundw
            case rel =>
             have K1 : Whole (sets7 wp (N + 1) (.int .i64 u.X.cf.ps) (.int .i64 u.X.cf.ts) (.int .i64 u.X.cf.bs) (.int .i64 u.X.cf.sl) (.slice u.A up u.a) (.slice u.B ut u.b) (.slice u.C ub u.c)) N 31 (smA t) := sets7_far HN9.out (by omega)
             have K2 : Whole (sets7 wp (N + 1) (.int .i64 u.X.cf.ps) (.int .i64 u.X.cf.ts) (.int .i64 u.X.cf.bs) (.int .i64 u.X.cf.sl) (.slice u.A up u.a) (.slice u.B ut u.b) (.slice u.C ub u.c)) (N + 1) 37 (smA u) := by rw [← HUM.out]; exact sets7_whole HV9.out rfl
             have K3 : SAt (fun k => k ≠ N ∧ k ≠ N + 1) (sets7 wp (N + 1) (.int .i64 u.X.cf.ps) (.int .i64 u.X.cf.ts) (.int .i64 u.X.cf.bs) (.int .i64 u.X.cf.sl) (.slice u.A up u.a) (.slice u.B ut u.b) (.slice u.C ub u.c)) t := sets7_sat HT9.out (fun h => h.2 rfl)
             have K4 : SAt (fun k => k ≠ N ∧ k ≠ N + 1) (sets7 wp (N + 1) (.int .i64 u.X.cf.ps) (.int .i64 u.X.cf.ts) (.int .i64 u.X.cf.bs) (.int .i64 u.X.cf.sl) (.slice u.A up u.a) (.slice u.B ut u.b) (.slice u.C ub u.c)) u := sets7_sat HUS9.out (fun h => h.2 rfl)
             have K5 : Below w.heap.size w (sets7 wp (N + 1) (.int .i64 u.X.cf.ps) (.int .i64 u.X.cf.ts) (.int .i64 u.X.cf.bs) (.int .i64 u.X.cf.sl) (.slice u.A up u.a) (.slice u.B ut u.b) (.slice u.C ub u.c)) := sets7_below HB9.out (by omega)
             exact ⟨k + 1, t, u, by omega, by go_num, Lib.hid K1, Lib.hid K2, HUX, Lib.hid K3, Lib.hid K4, Lib.hid K5⟩
            case measure => simp [intOf]; omega
    · obtain rfl : n = k := by omega
      have HBE := HB
      clear HB
      go_wp2_with fail
      go_ret
      exact ⟨rfl, HBE.out⟩

set_option maxRecDepth 100000 in
theorem lifted (os : Os) (started : os.Started) (H : Type) (enc : TypeId × Value → H) :
 ReturnsInHanded {} Try.checked os 3 .any (Rows.deltaPlaysSpec.pre6 enc Try.prog Try.f3 Rows.deltaPlaysRow.domain false) (Rows.deltaPlaysSpec.post enc Try.prog Try.f3 false true false false) := by
 refine returnsInHanded_of_change (C := Try.checked) own started (by kernel_rfl) Try.func3
  (ChangeSpec.witness6 (enc := enc) (C := Try.checked) false ⟨#[], #[.agg #[.int .i64 0, .int .i64 0, .int .i64 0, .int .i64 0], .slice none 0 0], []⟩ 8 (by kernel_rfl) (by kernel_rfl) (by kernel_rfl) (by kernel_rfl)) ?_
 intro W base args ds gs before hval0 hW _ _
 have hval : ∀ (j : Nat) t v, Try.f3.params[j]? = some t → args[j]? = some v → Value.okWide Try.prog W .any base t v := hval0
 have hW' := hW
 obtain ⟨p, q, hA0, hV, _, _, _⟩ := hW
 have hA : DataW.TrodAll enc Try.prog W 0 (fun _ => true) true Try.f3.params.toList args.toList ds p := hA0
 rw [Try.params3] at hA hval
 obtain ⟨v0, vs0, d0, ds0, p0, q0, hargs, rfl, _, h0, r0⟩ := trodAll_cons hA
 obtain ⟨v1, vs1, d1, ds1, p1, q1, rfl, rfl, _, h1, r1⟩ := trodAll_cons r0
 obtain ⟨rfl, rfl, _⟩ := trodAll_nil r1
 obtain rfl : args = #[v0, v1] := by cases args; simp_all
 obtain ⟨rfl, _⟩ := trodVars_none hV
 refine law_post (s := Rows.deltaPlaysSpec) rfl rfl (by rw [Try.params3]; intro t ht; simp at ht; rcases ht with rfl | rfl <;> exact ⟨by kernel_rfl, of_decide_eq_true (by kernel_rfl)⟩) rfl hW' ?_
 obtain ⟨cf0, rfl, tr0⟩ := open_conf (hval 0 23 v0 rfl rfl) h0
 obtain ⟨A1, c1, l1, rfl, hl1, hr1, ho1⟩ := open_reqs (hval 1 24 v1 rfl rfl) h1
 exact walk W cf0 tr0 A1 c1 l1 hl1 hr1 ho1

theorem over : Rows.deltaPlaysRow.holds Try.pinned (OpenSpec.ofChange Rows.deltaPlaysSpec) :=
 OpenClaim.holds_of_wide 3 Try.f3 rfl rfl rfl rfl rfl rfl rfl ⟨rfl, rfl, rfl, rfl, rfl⟩ rfl rfl rfl rfl rfl (by kernel_rfl) Try.func3 (by kernel_rfl)
  (of_decide_eq_true (by kernel_rfl)) (by unfold Func.isWrapper; first | (rw [if_pos (by decide +kernel)]; kernel_rfl) | (rw [if_neg (by decide +kernel)]; exact ⟨rfl, rfl⟩))
  (fun os started H enc _ => lifted os started H enc)

/-- The statement. -/
theorem deltaPlays_holds : Rows.DeltaPlaysSaid := over

end Go.Proofs.Ytmmeceehfdbdoaa.LPlays
