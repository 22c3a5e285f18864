/-
  Proved: DeltaBack returns true for every number of people, tracks and subs, and every row of requests: who joins and leaves, publishes and unpublishes, subscribes and unsubscribes, mutes and unmutes leaves all as it was. Conditions: none.
-/
import Derived.Conc.WalkWords
import Derived.Test.YtmmeceehfdbdoaaDaB
import Derived.Test.YtmmeceehfdbdoaaDaO
import Derived.Test.YtmmeceehfdbdoaaDaQ
import Derived.Test.YtmmeceehfdbdoaaLift
import Derived.Deep.CutBlock
import Derived.Deep.DeepCutAuto
import Derived.Test.YtmmeceehfdbdoaaHang
import Derived.Test.YtmmeceehfdbdoaaDaS
import Derived.Test.YtmmeceehfdbdoaaDaTo
namespace Go.Proofs.Ytmmeceehfdbdoaa.LBack
open Go.ChangeShapes Go.WideShapes Go.ChangeAt Go.RowKit
open Dl
set_option linter.unusedSimpArgs false
set_option linter.unusedVariables false
set_option maxRecDepth 100000

theorem sat_weak {P R : Nat → Prop} {w : World} {s : Sm} (h : SAt (fun k => P k ∧ R k) w s) : SAt P w s := ⟨h.rp, h.rt, h.rb, h.ts, h.inv, impP h.pA, impP h.pB, impP h.pC, fun x hx => impQ (h.pS x hx)⟩
theorem qat_with {P : Nat → Prop} {w : World} {x : Qm} (h : QAt P w x) (R : Nat → Prop) (hR : ∀ k, k < w.heap.size → R k) : QAt (fun k => P k ∧ R k) w x := ⟨h.r, h.len, inq_with h.r h.p hR, h.u⟩
theorem qat_set {P : Nat → Prop} {w : World} {x : Qm} (h : QAt P w x) {p : Addr} (hp : ¬ P p.block) (u : Value) : QAt P (w.setCell p u) x := ⟨row_setP h.r h.p hp, h.len, h.p, h.u⟩
theorem qat_as {P : Nat → Prop} {w : World} {x : Qm} (h : QAt P w x) (k : Int) : QAt P w ⟨x.q.as k, x.A, x.c⟩ := ⟨h.r, h.len, h.p, h.u⟩
def kindsL : List Int := [0, 2, 5, 7, 8]
def backsL : List Int := [1, 3, 6, 8, 7]
theorem kinds_cell {i : Nat} {K : Int} (hi : i < 5) (h : kindsL[i]? = some K) : (#[.int .i64 0, .int .i64 2, .int .i64 5, .int .i64 7, .int .i64 8] : Array Value)[i]? = some (.int .i64 K) := by
  have hi' : i = 0 ∨ i = 1 ∨ i = 2 ∨ i = 3 ∨ i = 4 := by omega
  rcases hi' with rfl | rfl | rfl | rfl | rfl <;> simp [kindsL] at h <;> subst h <;> rfl
theorem backs_cell {i : Nat} {K : Int} (hi : i < 5) (h : backsL[i]? = some K) : (#[.int .i64 1, .int .i64 3, .int .i64 6, .int .i64 8, .int .i64 7] : Array Value)[i]? = some (.int .i64 K) := by
  have hi' : i = 0 ∨ i = 1 ∨ i = 2 ∨ i = 3 ∨ i = 4 := by omega
  rcases hi' with rfl | rfl | rfl | rfl | rfl <;> simp [backsL] at h <;> subst h <;> rfl
theorem back_at {X : St} (h : Inv X) (q : Rq) {i : Nat} (hi : i < 5) {K B : Int} (hk : kindsL[i]? = some K) (hb : backsL[i]? = some B) (e : (doS X (q.as K)).2 = 0) : doS (doS X (q.as K)).1 (q.as B) = (X, 0) ∧ (doS (doS X (q.as K)).1 (q.as K)).2 ≠ 0 := by
  have hi' : i = 0 ∨ i = 1 ∨ i = 2 ∨ i = 3 ∨ i = 4 := by omega
  rcases hi' with rfl | rfl | rfl | rfl | rfl <;> simp [kindsL, backsL] at hk hb <;> subst hk <;> subst hb
  · exact back_join h (q := q.as 0) rfl e
  · exact back_publish h (q := q.as 2) rfl e
  · exact back_subscribe h (q := q.as 5) rfl e
  · exact back_mute h (q := q.as 7) (.inl ⟨rfl, rfl⟩) e
  · exact back_mute h (q := q.as 8) (.inr ⟨rfl, rfl⟩) e
set_option maxHeartbeats 12800000 in
theorem walk (w : World) (c : Cf) (_tr : True) (A : Option Addr) (cc : Nat) (l : List Qm) (hl : l.length ≤ maxLen) (hr : Row w w.heap.size 8 A l.length (rowC qmV l)) (ho : ∀ a ∈ l, QOk w a) (x : Qm) (hx : QOk w x) :
    Calls Try.prog 6 #[.agg #[.int .i64 c.ps, .int .i64 c.ts, .int .i64 c.bs, .int .i64 c.sl], .slice A l.length cc, .agg (qmV x).toArray] w fun e w' => e = .returned (.bool true) ∧ Below w.heap.size w w' := by
  obtain ⟨⟨xk, xw, xr, xg, xt, xs, xl, xd⟩, XA, xc⟩ := x
  obtain ⟨nx, hnx⟩ : ∃ z, xs.length = z := ⟨_, rfl⟩
  rw [show (qmV ⟨⟨xk, xw, xr, xg, xt, xs, xl, xd⟩, XA, xc⟩).toArray = #[.int .i64 xk, .int .i64 xw, .int .i64 xr, .int .i64 xg, .int .i64 xt, .slice XA nx xc, .int .i64 xl, .int .i64 xd] from by rw [← hnx]; rfl]
  have HOX := Lib.hid hx
  have HNX := Lib.hid hnx
  have hnx2 := hx.cap
  have hnx3 := hx.le
  dsimp only at hnx2 hnx3
  rw [hnx] at hnx3
  unfold maxLen at hnx2
  clear hnx
  obtain ⟨n, hn⟩ : ∃ n, l.length = n := ⟨_, rfl⟩
  have HR := Lib.hid (show Row w w.heap.size 8 A l.length (qmC l) from hr)
  have HO := Lib.hid ho
  have HN := Lib.hid hn
  unfold maxLen at hl
  obtain ⟨w0, hw0⟩ : ∃ z, z = (w.alloc (.cells #[.int .i64 c.ps, .int .i64 c.ts, .int .i64 c.bs, .int .i64 c.sl] 23)).alloc (.cells #[.int .i64 xk, .int .i64 xw, .int .i64 xr, .int .i64 xg, .int .i64 xt, .slice XA nx xc, .int .i64 xl, .int .i64 xd] 45) := ⟨_, rfl⟩
  have b0 : Below w.heap.size w w0 := by rw [hw0]; exact ((Below.refl _ _).alloc (Nat.le_refl _) _).alloc (by simp) _
  have hC : Whole w0 w.heap.size 23 #[.int .i64 c.ps, .int .i64 c.ts, .int .i64 c.bs, .int .i64 c.sl] := by rw [hw0]; exact (Whole.new w _ _).alloc _
  have HWX := Lib.hid (show Whole w0 (w.heap.size + 1) 45 #[.int .i64 xk, .int .i64 xw, .int .i64 xr, .int .i64 xg, .int .i64 xt, .slice XA nx xc, .int .i64 xl, .int .i64 xd] by rw [hw0]; exact Whole.new2 w _ _ _)
  have HC := Lib.hid hC
  have HB0 := Lib.hid b0
  have lC := hC.lt
  have CA := Lib.hid (awake18 w0)
  have CF := Lib.hid (fun w' (b : Below w.heap.size w w') => few18 A cc l w' ((HR.out.below b (Nat.le_refl _)).more b.size) (by unfold maxLen; omega))
  rw [hn] at hl CF ⊢
  clear hr ho hn b0 hC _tr hx
  cases hfw : fewS l with
  | false =>
    cases hcf : confL c with
    | false =>
      have CF2 := CF.out
      rw [hfw] at CF2
      have CB := fun w => begun18 c w
      rw [hcf] at CB
      simp only [if_true, if_false, Bool.false_eq_true, reduceIte] at CB
      have HCF2 := Lib.hid CF2
      have HCB := Lib.hid CB
      clear CF2 CB
      go_enter Try.func6, Try.ntmps6
      go_upto_region 1 with fail
      rw [← hw0]
      clear hw0
      go_wp2_with fail
      refine CA.out.mono ?_
      rintro e w1 ⟨rfl, b1⟩
      have HB1 := Lib.hid (HB0.out.trans (b1.mono HB0.out.size))
      have hC1 := HC.out.below b1 lC
      have HWX1 := Lib.hid (HWX.out.below b1 HWX.out.lt)
      have lC1 := hC1.lt
      have HC1 := Lib.hid hC1
      clear b1 hC1 CA HC HB0
      go_wp2_with fail
      refine (HCF2.out w1 HB1.out).mono ?_
      rintro e w2 ⟨rfl, b2⟩
      have HB2 := Lib.hid (HB1.out.trans (b2.mono HB1.out.size))
      have hC2 := HC1.out.below b2 lC1
      have HWX2 := Lib.hid (HWX1.out.below b2 HWX1.out.lt)
      have c0 := (hC2.cell 0).trans rfl
      have c1 := (hC2.cell 1).trans rfl
      have c2 := (hC2.cell 2).trans rfl
      have c3 := (hC2.cell 3).trans rfl
      have lC2 := hC2.lt
      clear b2 hC2 HCF2 HC1 HB1 CF
      go_wp2_with fail
      refine (HCB.out w2).mono ?_
      rintro e w3 ⟨rfl, b3⟩
      have HB3 := Lib.hid (HB2.out.trans (b3.mono HB2.out.size))
      have HWX3 := Lib.hid (HWX2.out.below b3 HWX2.out.lt)
      have hX3 := HWX3.out.lt
      clear b3 HCB HB2 c0 c1 c2 c3
      have HBF := Lib.hid (fun (o p : Obj) => (HB3.out.alloc HB3.out.size o).alloc (HB3.out.alloc HB3.out.size o).size p)
      go_wp2_with fail
      go_ret
      exact ⟨rfl, HBF.out _ _⟩
    | true =>
      have CF2 := CF.out
      rw [hfw] at CF2
      have CB := fun w => begun18 c w
      rw [hcf] at CB
      simp only [if_true, if_false, Bool.false_eq_true, reduceIte] at CB
      rw [show smA (zeroM c) = #[.int .i64 c.ps, .int .i64 c.ts, .int .i64 c.bs, .int .i64 c.sl, .slice none 0 0, .slice none 0 0, .slice none 0 0] from rfl] at CB
      have HCF2 := Lib.hid CF2
      have HCB := Lib.hid CB
      clear CF2 CB
      go_enter Try.func6, Try.ntmps6
      go_upto_region 1 with fail
      rw [← hw0]
      clear hw0
      go_wp2_with fail
      refine CA.out.mono ?_
      rintro e w1 ⟨rfl, b1⟩
      have HB1 := Lib.hid (HB0.out.trans (b1.mono HB0.out.size))
      have hC1 := HC.out.below b1 lC
      have HWX1 := Lib.hid (HWX.out.below b1 HWX.out.lt)
      have lC1 := hC1.lt
      have HC1 := Lib.hid hC1
      clear b1 hC1 CA HC HB0
      go_wp2_with fail
      refine (HCF2.out w1 HB1.out).mono ?_
      rintro e w2 ⟨rfl, b2⟩
      have HB2 := Lib.hid (HB1.out.trans (b2.mono HB1.out.size))
      have hC2 := HC1.out.below b2 lC1
      have HWX2 := Lib.hid (HWX1.out.below b2 HWX1.out.lt)
      have c0 := (hC2.cell 0).trans rfl
      have c1 := (hC2.cell 1).trans rfl
      have c2 := (hC2.cell 2).trans rfl
      have c3 := (hC2.cell 3).trans rfl
      have lC2 := hC2.lt
      clear b2 hC2 HCF2 HC1 HB1 CF
      go_wp2_with fail
      refine (HCB.out w2).mono ?_
      rintro e w3 ⟨rfl, b3⟩
      have HB3 := Lib.hid (HB2.out.trans (b3.mono HB2.out.size))
      have HWX3 := Lib.hid (HWX2.out.below b3 HWX2.out.lt)
      have hX3 := HWX3.out.lt
      clear b3 HCB HB2 c0 c1 c2 c3
      have HBF := Lib.hid (fun (o p : Obj) => (HB3.out.alloc HB3.out.size o).alloc (HB3.out.alloc HB3.out.size o).size p)
      go_wp2_with fail
      go_ret
      exact ⟨rfl, HBF.out _ _⟩
  | true =>
    cases hcf : confL c with
    | false =>
      have CF2 := CF.out
      rw [hfw] at CF2
      have CB := fun w => begun18 c w
      rw [hcf] at CB
      simp only [if_true, if_false, Bool.false_eq_true, reduceIte] at CB
      have HCF2 := Lib.hid CF2
      have HCB := Lib.hid CB
      clear CF2 CB
      go_enter Try.func6, Try.ntmps6
      go_upto_region 1 with fail
      rw [← hw0]
      clear hw0
      go_wp2_with fail
      refine CA.out.mono ?_
      rintro e w1 ⟨rfl, b1⟩
      have HB1 := Lib.hid (HB0.out.trans (b1.mono HB0.out.size))
      have hC1 := HC.out.below b1 lC
      have HWX1 := Lib.hid (HWX.out.below b1 HWX.out.lt)
      have lC1 := hC1.lt
      have HC1 := Lib.hid hC1
      clear b1 hC1 CA HC HB0
      go_wp2_with fail
      refine (HCF2.out w1 HB1.out).mono ?_
      rintro e w2 ⟨rfl, b2⟩
      have HB2 := Lib.hid (HB1.out.trans (b2.mono HB1.out.size))
      have hC2 := HC1.out.below b2 lC1
      have HWX2 := Lib.hid (HWX1.out.below b2 HWX1.out.lt)
      have c0 := (hC2.cell 0).trans rfl
      have c1 := (hC2.cell 1).trans rfl
      have c2 := (hC2.cell 2).trans rfl
      have c3 := (hC2.cell 3).trans rfl
      have lC2 := hC2.lt
      clear b2 hC2 HCF2 HC1 HB1 CF
      go_wp2_with fail
      refine (HCB.out w2).mono ?_
      rintro e w3 ⟨rfl, b3⟩
      have HB3 := Lib.hid (HB2.out.trans (b3.mono HB2.out.size))
      have HWX3 := Lib.hid (HWX2.out.below b3 HWX2.out.lt)
      have hX3 := HWX3.out.lt
      clear b3 HCB HB2 c0 c1 c2 c3
      have HBF := Lib.hid (fun (o p : Obj) => (HB3.out.alloc HB3.out.size o).alloc (HB3.out.alloc HB3.out.size o).size p)
      go_wp2_with fail
      go_ret
      exact ⟨rfl, HBF.out _ _⟩
    | true =>
      have CF2 := CF.out
      rw [hfw] at CF2
      have CB := fun w => begun18 c w
      rw [hcf] at CB
      simp only [if_true, if_false, Bool.false_eq_true, reduceIte] at CB
      rw [show smA (zeroM c) = #[.int .i64 c.ps, .int .i64 c.ts, .int .i64 c.bs, .int .i64 c.sl, .slice none 0 0, .slice none 0 0, .slice none 0 0] from rfl] at CB
      have HCF2 := Lib.hid CF2
      have HCB := Lib.hid CB
      clear CF2 CB
      go_enter Try.func6, Try.ntmps6
      go_upto_region 1 with fail
      rw [← hw0]
      clear hw0
      go_wp2_with fail
      refine CA.out.mono ?_
      rintro e w1 ⟨rfl, b1⟩
      have HB1 := Lib.hid (HB0.out.trans (b1.mono HB0.out.size))
      have hC1 := HC.out.below b1 lC
      have HWX1 := Lib.hid (HWX.out.below b1 HWX.out.lt)
      have lC1 := hC1.lt
      have HC1 := Lib.hid hC1
      clear b1 hC1 CA HC HB0
      go_wp2_with fail
      refine (HCF2.out w1 HB1.out).mono ?_
      rintro e w2 ⟨rfl, b2⟩
      have HB2 := Lib.hid (HB1.out.trans (b2.mono HB1.out.size))
      have hC2 := HC1.out.below b2 lC1
      have HWX2 := Lib.hid (HWX1.out.below b2 HWX1.out.lt)
      have c0 := (hC2.cell 0).trans rfl
      have c1 := (hC2.cell 1).trans rfl
      have c2 := (hC2.cell 2).trans rfl
      have c3 := (hC2.cell 3).trans rfl
      have lC2 := hC2.lt
      clear b2 hC2 HCF2 HC1 HB1 CF
      go_wp2_with fail
      refine (HCB.out w2).mono ?_
      rintro e w3 ⟨rfl, b3⟩
      have HB3 := Lib.hid (HB2.out.trans (b3.mono HB2.out.size))
      have HWX3 := Lib.hid (HWX2.out.below b3 HWX2.out.lt)
      have hX3 := HWX3.out.lt
      clear b3 HCB HB2 c0 c1 c2 c3
      obtain ⟨N, hN⟩ : ∃ N, w3.heap.size = N := ⟨_, rfl⟩
      obtain ⟨w4, hw4⟩ : ∃ z, z = (w3.alloc (.cells #[.int .i64 c.ps, .int .i64 c.ts, .int .i64 c.bs, .int .i64 c.sl, .slice none 0 0, .slice none 0 0, .slice none 0 0] 31)).alloc (.cells #[.int .i64 c.ps, .int .i64 c.ts, .int .i64 c.bs, .int .i64 c.sl, .slice none 0 0, .slice none 0 0, .slice none 0 0] 37) := ⟨_, rfl⟩
      have W4 : Whole w4 N 31 (smA (zeroM c)) := by rw [hw4, ← hN]; exact (Whole.new w3 _ _).alloc _
      have HW4 := Lib.hid W4
      have hlo : w.heap.size ≤ N := by rw [← hN]; exact HB3.out.size
      have hNX : N ≠ w.heap.size + 1 := by omega
      have hXN : w.heap.size + 1 ≠ N := by omega
      have HWX4 := Lib.hid (show Whole w4 (w.heap.size + 1) 45 #[.int .i64 xk, .int .i64 xw, .int .i64 xr, .int .i64 xg, .int .i64 xt, .slice XA nx xc, .int .i64 xl, .int .i64 xd] by rw [hw4]; exact (HWX3.out.alloc _).alloc _)
      have HB4 := Lib.hid (show Below w.heap.size w w4 by rw [hw4]; exact (HB3.out.alloc HB3.out.size _).alloc (HB3.out.alloc HB3.out.size _).size _)
      have HS4 := Lib.hid (zero_sat (fun k => k ≠ N ∧ k ≠ w.heap.size + 1) hcf w4)
      have xc5 := (HWX4.out.cell 5).trans rfl
      go_upto_region 6 with fail
      rw [← hw4]
      clear hw4 hN W4 HB3
      by_cases hx6 : (6 : Int) < (nx : Int)
      · have HBE := HB4
        clear HB4 HS4 HW4 HWX4
        go_wp2_with fail
        go_ret
        exact ⟨rfl, HBE.out⟩
      go_wp2_with fail
      go_loopw [12] (fun i wr => ∃ (k : Nat) (s : Sm), k ≤ n ∧ i = .int .i64 (k : Int) ∧ Hid (Whole wr N 31 (smA s)) ∧ Hid (Whole wr (w.heap.size + 1) 45 #[.int .i64 xk, .int .i64 xw, .int .i64 xr, .int .i64 xg, .int .i64 xt, .slice XA nx xc, .int .i64 xl, .int .i64 xd]) ∧ Hid (SAt (fun k => k ≠ N ∧ k ≠ w.heap.size + 1) wr s) ∧ Hid (Below w.heap.size w wr)) (fun i _ => n - (intOf i).toNat)
      case atStart => exact ⟨0, zeroM c, Nat.zero_le _, rfl, HW4, HWX4, HS4, HB4⟩
      case round =>
        obtain ⟨k, s, hk, rfl, HW, HWX, HS, HB⟩ := hrel
        clear HW4 HWX4 HS4 HB4 xc5
        have lXr : w.heap.size + 1 < wr.heap.size := HWX.out.lt
        by_cases hlt : k < n
        · obtain ⟨x, hx⟩ : ∃ x, l[k]? = some x := ⟨_, List.getElem?_eq_getElem (by rw [HN.out]; exact hlt)⟩
          obtain ⟨ga, oa, rfl, hga, hca⟩ := HR.out.2 (by rw [HN.out]; omega)
          have hxo := HO.out x (List.mem_of_getElem? hx)
          have HX := Lib.hid hx
          obtain ⟨q, QA, qc⟩ := x
          have lga : ga < wr.heap.size := by have := HB.out.size; omega
          have a0 := (HB.out.cell (p := ⟨ga, oa + k * 8, none⟩) hga).trans (by have := hca _ _ ((qmC_get hx 0 (by decide)).trans rfl); simpa [Nat.add_assoc] using this)
          have a1 := (HB.out.cell (p := ⟨ga, oa + k * 8 + 1, none⟩) hga).trans (by have := hca _ _ ((qmC_get hx 1 (by decide)).trans rfl); simpa [Nat.add_assoc] using this)
          have a2 := (HB.out.cell (p := ⟨ga, oa + k * 8 + 2, none⟩) hga).trans (by have := hca _ _ ((qmC_get hx 2 (by decide)).trans rfl); simpa [Nat.add_assoc] using this)
          have a3 := (HB.out.cell (p := ⟨ga, oa + k * 8 + 3, none⟩) hga).trans (by have := hca _ _ ((qmC_get hx 3 (by decide)).trans rfl); simpa [Nat.add_assoc] using this)
          have a4 := (HB.out.cell (p := ⟨ga, oa + k * 8 + 4, none⟩) hga).trans (by have := hca _ _ ((qmC_get hx 4 (by decide)).trans rfl); simpa [Nat.add_assoc] using this)
          have a5 := (HB.out.cell (p := ⟨ga, oa + k * 8 + 5, none⟩) hga).trans (by have := hca _ _ ((qmC_get hx 5 (by decide)).trans rfl); simpa [Nat.add_assoc] using this)
          have a6 := (HB.out.cell (p := ⟨ga, oa + k * 8 + 6, none⟩) hga).trans (by have := hca _ _ ((qmC_get hx 6 (by decide)).trans rfl); simpa [Nat.add_assoc] using this)
          have a7 := (HB.out.cell (p := ⟨ga, oa + k * 8 + 7, none⟩) hga).trans (by have := hca _ _ ((qmC_get hx 7 (by decide)).trans rfl); simpa [Nat.add_assoc] using this)
          try dsimp only at a0 a1 a2 a3 a4 a5 a6 a7
          have i0 : (0 : Int) ≤ (k : Int) := by omega
          have i1 : (k : Int) < (n : Int) := by omega
          have HQA := Lib.hid (show QAt (fun k => k ≠ N ∧ k ≠ w.heap.size + 1) wr ⟨q, QA, qc⟩ from ⟨(hxo.row.below HB.out (Nat.le_refl _)).more HB.out.size, by have h8 := (List.all_eq_true.mp (by unfold fewS at hfw; exact (Bool.and_eq_true_iff.mp hfw).1)) _ (List.mem_of_getElem? HX.out); simp only [decide_eq_true_eq] at h8; dsimp only at h8 ⊢; omega, ⟨fun h0 a ha => by have h9 := (hxo.row.2 h0); obtain ⟨g9, o9, e9, l9, _⟩ := h9; rw [e9] at ha; injection ha with ha; subst ha; have l9' : g9 < w.heap.size := l9; exact ⟨fun e => by have e2 : g9 = N := e; omega, fun e => by have e2 : g9 = w.heap.size + 1 := e; omega⟩, hxo.le, hxo.cap⟩, fun y hy => (hxo.u y hy).1⟩)
          have hW := HW.out
          have g0 : wr.cell? ⟨N, 0, none⟩ = some (.int .i64 s.X.cf.ps) := (hW.cell 0).trans rfl
          have g1 : wr.cell? ⟨N, 1, none⟩ = some (.int .i64 s.X.cf.ts) := (hW.cell 1).trans rfl
          have g2 : wr.cell? ⟨N, 2, none⟩ = some (.int .i64 s.X.cf.bs) := (hW.cell 2).trans rfl
          have g3 : wr.cell? ⟨N, 3, none⟩ = some (.int .i64 s.X.cf.sl) := (hW.cell 3).trans rfl
          have g4 : wr.cell? ⟨N, 4, none⟩ = some (.slice s.A s.X.ps.length s.a) := (hW.cell 4).trans rfl
          have g5 : wr.cell? ⟨N, 5, none⟩ = some (.slice s.B s.T.length s.b) := (hW.cell 5).trans rfl
          have g6 : wr.cell? ⟨N, 6, none⟩ = some (.slice s.C s.X.bs.length s.c) := (hW.cell 6).trans rfl
          have lN := hW.lt
          clear hW hca hxo hx
          have KD := Lib.hid (fun w' (b' : Below wr.heap.size wr w') => show (fun w' => w'.cell? ⟨N, 0, none⟩ = some (.int .i64 s.X.cf.ps) ∧ w'.cell? ⟨N, 1, none⟩ = some (.int .i64 s.X.cf.ts) ∧ w'.cell? ⟨N, 2, none⟩ = some (.int .i64 s.X.cf.bs) ∧ w'.cell? ⟨N, 3, none⟩ = some (.int .i64 s.X.cf.sl) ∧ w'.cell? ⟨N, 4, none⟩ = some (.slice s.A s.X.ps.length s.a) ∧ w'.cell? ⟨N, 5, none⟩ = some (.slice s.B s.T.length s.b) ∧ w'.cell? ⟨N, 6, none⟩ = some (.slice s.C s.X.bs.length s.c) ∧ w'.cell? ⟨ga, oa + k * 8, none⟩ = some (.int .i64 q.kind) ∧ w'.cell? ⟨ga, oa + k * 8 + 1, none⟩ = some (.int .i64 q.who) ∧ w'.cell? ⟨ga, oa + k * 8 + 2, none⟩ = some (.int .i64 q.room) ∧ w'.cell? ⟨ga, oa + k * 8 + 3, none⟩ = some (.int .i64 q.rights) ∧ w'.cell? ⟨ga, oa + k * 8 + 4, none⟩ = some (.int .i64 q.track) ∧ w'.cell? ⟨ga, oa + k * 8 + 5, none⟩ = some (.slice QA q.ss.length qc) ∧ w'.cell? ⟨ga, oa + k * 8 + 6, none⟩ = some (.int .i64 q.layer) ∧ w'.cell? ⟨ga, oa + k * 8 + 7, none⟩ = some (.int .i64 q.tid)) w' from ⟨(b'.cell (p := ⟨N, 0, none⟩) lN).trans g0, (b'.cell (p := ⟨N, 1, none⟩) lN).trans g1, (b'.cell (p := ⟨N, 2, none⟩) lN).trans g2, (b'.cell (p := ⟨N, 3, none⟩) lN).trans g3, (b'.cell (p := ⟨N, 4, none⟩) lN).trans g4, (b'.cell (p := ⟨N, 5, none⟩) lN).trans g5, (b'.cell (p := ⟨N, 6, none⟩) lN).trans g6, (b'.cell (p := ⟨ga, oa + k * 8, none⟩) lga).trans a0, (b'.cell (p := ⟨ga, oa + k * 8 + 1, none⟩) lga).trans a1, (b'.cell (p := ⟨ga, oa + k * 8 + 2, none⟩) lga).trans a2, (b'.cell (p := ⟨ga, oa + k * 8 + 3, none⟩) lga).trans a3, (b'.cell (p := ⟨ga, oa + k * 8 + 4, none⟩) lga).trans a4, (b'.cell (p := ⟨ga, oa + k * 8 + 5, none⟩) lga).trans a5, (b'.cell (p := ⟨ga, oa + k * 8 + 6, none⟩) lga).trans a6, (b'.cell (p := ⟨ga, oa + k * 8 + 7, none⟩) lga).trans a7⟩)
          have CD := Lib.hid (fun (P' : Nat → Prop) w' (hs' : SAt P' w' s) (hq' : QAt P' w' ⟨q, QA, qc⟩) (hp' : ∀ k, w'.heap.size ≤ k → P' k) => (show Calls Try.prog 12 #[.agg #[.int .i64 s.X.cf.ps, .int .i64 s.X.cf.ts, .int .i64 s.X.cf.bs, .int .i64 s.X.cf.sl, .slice s.A s.X.ps.length s.a, .slice s.B s.T.length s.b, .slice s.C s.X.bs.length s.c], .agg #[.int .i64 q.kind, .int .i64 q.who, .int .i64 q.room, .int .i64 q.rights, .int .i64 q.track, .slice QA q.ss.length qc, .int .i64 q.layer, .int .i64 q.tid]] w' (fun e w'' => Below w'.heap.size w' w'' ∧ ∃ t : Sm, t.X = (doS s.X q).1 ∧ SAt P' w'' t ∧ e = .returned (.tuple #[.agg #[.int .i64 t.X.cf.ps, .int .i64 t.X.cf.ts, .int .i64 t.X.cf.bs, .int .i64 t.X.cf.sl, .slice t.A t.X.ps.length t.a, .slice t.B t.T.length t.b, .slice t.C t.X.bs.length t.c], .int .i64 (doS s.X q).2])) from cdo_any P' s ⟨q, QA, qc⟩ w' hs' hq' hp'))
          go_upto_region 11 with fail
          go_cut [13, 14] (fun v1 v2 wx => ∃ (M : Nat) (t : Sm), v1 = .pointer (some ⟨M, 0, none⟩) ∧ v2 = .int .i64 (doS s.X q).2 ∧ wr.heap.size ≤ M ∧ Whole wx M 31 (smA t) ∧ t.X = (doS s.X q).1 ∧ SAt (fun k => k ≠ N ∧ k ≠ w.heap.size + 1) wx t ∧ Below wr.heap.size wr wx)
          case first =>
            refine wp_region_X (S := fun w' => w'.cell? ⟨N, 0, none⟩ = some (.int .i64 s.X.cf.ps) ∧ w'.cell? ⟨N, 1, none⟩ = some (.int .i64 s.X.cf.ts) ∧ w'.cell? ⟨N, 2, none⟩ = some (.int .i64 s.X.cf.bs) ∧ w'.cell? ⟨N, 3, none⟩ = some (.int .i64 s.X.cf.sl) ∧ w'.cell? ⟨N, 4, none⟩ = some (.slice s.A s.X.ps.length s.a) ∧ w'.cell? ⟨N, 5, none⟩ = some (.slice s.B s.T.length s.b) ∧ w'.cell? ⟨N, 6, none⟩ = some (.slice s.C s.X.bs.length s.c) ∧ w'.cell? ⟨ga, oa + k * 8, none⟩ = some (.int .i64 q.kind) ∧ w'.cell? ⟨ga, oa + k * 8 + 1, none⟩ = some (.int .i64 q.who) ∧ w'.cell? ⟨ga, oa + k * 8 + 2, none⟩ = some (.int .i64 q.room) ∧ w'.cell? ⟨ga, oa + k * 8 + 3, none⟩ = some (.int .i64 q.rights) ∧ w'.cell? ⟨ga, oa + k * 8 + 4, none⟩ = some (.int .i64 q.track) ∧ w'.cell? ⟨ga, oa + k * 8 + 5, none⟩ = some (.slice QA q.ss.length qc) ∧ w'.cell? ⟨ga, oa + k * 8 + 6, none⟩ = some (.int .i64 q.layer) ∧ w'.cell? ⟨ga, oa + k * 8 + 7, none⟩ = some (.int .i64 q.tid)) [] (by kernel_rfl) (KD.out _ (Below.refl _ _).drew) (fun hHeld0 => ?_)
            refine tk (i := 0) [] (v := ?_) ?_ ?_
            rotate_left 1
            · (intro w hSw; obtain ⟨m0, m1, m2, m3, m4, m5, m6, m7, m8, m9, m10, m11, m12, m13, m14⟩ := hSw; go_simp; try (with_reducible rfl))
            (try walk_nrm)
            refine tk (i := 1) [] (v := ?_) ?_ ?_
            rotate_left 1
            · (intro w hSw; obtain ⟨m0, m1, m2, m3, m4, m5, m6, m7, m8, m9, m10, m11, m12, m13, m14⟩ := hSw; go_simp; try (with_reducible rfl))
            (try walk_nrm)
            refine tk (i := 2) [] (v := ?_) ?_ ?_
            rotate_left 1
            · (intro w hSw; obtain ⟨m0, m1, m2, m3, m4, m5, m6, m7, m8, m9, m10, m11, m12, m13, m14⟩ := hSw; go_simp; try (with_reducible rfl))
            (try walk_nrm)
            refine tk (i := 3) [] (v := ?_) ?_ ?_
            rotate_left 1
            · (intro w hSw; obtain ⟨m0, m1, m2, m3, m4, m5, m6, m7, m8, m9, m10, m11, m12, m13, m14⟩ := hSw; go_simp; try (with_reducible rfl))
            (try walk_nrm)
            refine tk (i := 4) [] (v := ?_) ?_ ?_
            rotate_left 1
            · (intro w hSw; obtain ⟨m0, m1, m2, m3, m4, m5, m6, m7, m8, m9, m10, m11, m12, m13, m14⟩ := hSw; go_simp; try (with_reducible rfl))
            (try walk_nrm)
            refine wpAnyX_two 5 9 (by kernel_rfl) rfl rfl (fun K hK => ?_) (fun K hK => ?_)
            · go_simp
              go_wp2_with (refine (CD.out (fun k => k ≠ N ∧ k ≠ w.heap.size + 1) wr.drew (HS.out.next (Below.refl wr.heap.size wr).drew) (HQA.out.next (Below.refl wr.heap.size wr).drew) (fun k hk => by have h9 : wr.heap.size ≤ k := hk; exact ⟨by omega, by omega⟩)).mono ?_; rintro e v1 ⟨bv1, t, hX, hT, rfl⟩; replace hX := Lib.hid hX)
              have BV1 := (Below.refl wr.heap.size wr).drew.trans (bv1.mono (Below.refl wr.heap.size wr).drew.size)
              refine hK.out _ _ (.inr (KD.out _ BV1)) ?_
              have hHeld1 := KD.out _ BV1
              clear hK K
              (try walk_nrm)
              refine tk (i := 6) [] (v := ?_) ?_ ?_
              rotate_left 1
              · (intro w hSw; obtain ⟨m0, m1, m2, m3, m4, m5, m6, m7, m8, m9, m10, m11, m12, m13, m14⟩ := hSw; go_simp; try (with_reducible rfl))
              (try walk_nrm)
              refine tk (i := 7) [] (v := ?_) ?_ ?_
              rotate_left 1
              · (intro w hSw; obtain ⟨m0, m1, m2, m3, m4, m5, m6, m7, m8, m9, m10, m11, m12, m13, m14⟩ := hSw; go_simp; try (with_reducible rfl))
              (try walk_nrm)
              refine tk (i := 8) [] (v := ?_) ?_ ?_
              rotate_left 1
              · (intro w hSw; obtain ⟨m0, m1, m2, m3, m4, m5, m6, m7, m8, m9, m10, m11, m12, m13, m14⟩ := hSw; go_simp; try (with_reducible rfl))
              (try walk_nrm)
              refine wpAnyX_one 9 (by kernel_rfl) rfl (fun K hK => ?_)
              go_simp
              have BV2 : Below wr.heap.size wr (v1.alloc (.cells #[.int .i64 0, .int .i64 0, .int .i64 0, .int .i64 0, .slice none 0 0, .slice none 0 0, .slice none 0 0] 31)) := BV1.alloc BV1.size _
              have NB : Whole (v1.alloc (.cells #[.int .i64 0, .int .i64 0, .int .i64 0, .int .i64 0, .slice none 0 0, .slice none 0 0, .slice none 0 0] 31)) v1.heap.size 31 #[.int .i64 0, .int .i64 0, .int .i64 0, .int .i64 0, .slice none 0 0, .slice none 0 0, .slice none 0 0] := Whole.new v1 _ _
              refine hK.out _ _ (.inr (KD.out _ BV2)) ?_
              have hHeld2 := KD.out _ BV2
              clear hK K
              (try walk_nrm)
              refine wpAnyX_one 10 (by kernel_rfl) rfl (fun K hK => ?_)
              have z0 := NB.cell 0
              have z1 := NB.cell 1
              have z2 := NB.cell 2
              have z3 := NB.cell 3
              have z4 := NB.cell 4
              have z5 := NB.cell 5
              have z6 := NB.cell 6
              have y0 := NB.free 0
              have y1 := NB.free 1
              have y2 := NB.free 2
              have y3 := NB.free 3
              have y4 := NB.free 4
              have y5 := NB.free 5
              have y6 := NB.free 6
              have lz := NB.lt
              go_simp
              have BF : Below wr.heap.size wr (v1.alloc (.cells #[.int .i64 t.X.cf.ps, .int .i64 t.X.cf.ts, .int .i64 t.X.cf.bs, .int .i64 t.X.cf.sl, .slice t.A t.X.ps.length t.a, .slice t.B t.T.length t.b, .slice t.C t.X.bs.length t.c] 31)) := BV1.alloc BV1.size _
              refine hK.out _ _ (.inr (KD.out _ BF)) ?_
              have hHeld3 := KD.out _ BF
              clear hK K z0 z1 z2 z3 z4 z5 z6 y0 y1 y2 y3 y4 y5 y6 lz
              (try walk_nrm)
              refine tk (i := 11) [] (v := ?_) ?_ ?_
              rotate_left 1
              · (intro w hSw; obtain ⟨m0, m1, m2, m3, m4, m5, m6, m7, m8, m9, m10, m11, m12, m13, m14⟩ := hSw; go_simp; try (with_reducible rfl))
              (try walk_nrm)
              refine wpAnyX_done (by kernel_rfl) ?_ _
              go_wp2_with fail
              go_meet
              exact ⟨_, t, rfl, rfl, BV1.size, Whole.new v1 _ _, hX.out, hT.next ((Below.refl _ _).alloc (Nat.le_refl _) _), BF⟩
            · go_simp
              obtain ⟨v1, hv1⟩ : ∃ z, z = (wr.alloc (.cells #[.int .i64 0, .int .i64 0, .int .i64 0, .int .i64 0, .slice none 0 0, .slice none 0 0, .slice none 0 0] 31)).drew := ⟨_, rfl⟩
              have BV1 : Below wr.heap.size wr v1 := by rw [hv1]; exact ((Below.refl _ _).alloc (Nat.le_refl _) _).drew
              have NB : Whole v1 wr.heap.size 31 #[.int .i64 0, .int .i64 0, .int .i64 0, .int .i64 0, .slice none 0 0, .slice none 0 0, .slice none 0 0] := by rw [hv1]; exact (Whole.new wr _ _).drew
              rw [← hv1]
              clear hv1
              refine hK.out _ _ (.inr (KD.out _ BV1)) ?_
              have hHeld1 := KD.out _ BV1
              clear hK K
              (try walk_nrm)
              have lb1 := NB.lt
              refine wpAnyX_one 5 (by kernel_rfl) rfl (fun K hK => ?_)
              go_simp
              go_wp2_with (refine (CD.out (fun k => (fun k => k ≠ N ∧ k ≠ w.heap.size + 1) k ∧ (fun k => k ≠ wr.heap.size) k) v1 ((SAt.with HS.out (fun k => k ≠ wr.heap.size) (fun k hk e => by omega)).next BV1) ((qat_with HQA.out (fun k => k ≠ wr.heap.size) (fun k hk e => by omega)).next BV1) (fun k hk => ⟨by have h9 := BV1.size; exact ⟨by omega, by omega⟩, fun e => by omega⟩)).mono ?_; rintro e v2 ⟨bv2, t, hX, hT, rfl⟩; replace hX := Lib.hid hX)
              have BV2 := BV1.trans (bv2.mono BV1.size)
              refine hK.out _ _ (.inr (KD.out _ BV2)) ?_
              have hHeld2 := KD.out _ BV2
              clear hK K
              (try walk_nrm)
              have NB2 := NB.below bv2 NB.lt
              refine tk (i := 6) [] (v := ?_) ?_ ?_
              rotate_left 1
              · (intro w hSw; obtain ⟨m0, m1, m2, m3, m4, m5, m6, m7, m8, m9, m10, m11, m12, m13, m14⟩ := hSw; go_simp; try (with_reducible rfl))
              (try walk_nrm)
              refine tk (i := 7) [] (v := ?_) ?_ ?_
              rotate_left 1
              · (intro w hSw; obtain ⟨m0, m1, m2, m3, m4, m5, m6, m7, m8, m9, m10, m11, m12, m13, m14⟩ := hSw; go_simp; try (with_reducible rfl))
              (try walk_nrm)
              refine tk (i := 8) [] (v := ?_) ?_ ?_
              rotate_left 1
              · (intro w hSw; obtain ⟨m0, m1, m2, m3, m4, m5, m6, m7, m8, m9, m10, m11, m12, m13, m14⟩ := hSw; go_simp; try (with_reducible rfl))
              (try walk_nrm)
              refine wpAnyX_one 10 (by kernel_rfl) rfl (fun K hK => ?_)
              have z0 := NB2.cell 0
              have z1 := NB2.cell 1
              have z2 := NB2.cell 2
              have z3 := NB2.cell 3
              have z4 := NB2.cell 4
              have z5 := NB2.cell 5
              have z6 := NB2.cell 6
              have y0 := NB2.free 0
              have y1 := NB2.free 1
              have y2 := NB2.free 2
              have y3 := NB2.free 3
              have y4 := NB2.free 4
              have y5 := NB2.free 5
              have y6 := NB2.free 6
              have lz := NB2.lt
              go_simp
              have BF : Below wr.heap.size wr (sets7 v2 wr.heap.size (.int .i64 t.X.cf.ps) (.int .i64 t.X.cf.ts) (.int .i64 t.X.cf.bs) (.int .i64 t.X.cf.sl) (.slice t.A t.X.ps.length t.a) (.slice t.B t.T.length t.b) (.slice t.C t.X.bs.length t.c)) := sets7_below BV2 (Nat.le_refl _)
              refine hK.out _ _ (.inr (KD.out _ BF)) ?_
              have hHeld3 := KD.out _ BF
              clear hK K z0 z1 z2 z3 z4 z5 z6 y0 y1 y2 y3 y4 y5 y6 lz
              (try walk_nrm)
              refine tk (i := 11) [] (v := ?_) ?_ ?_
              rotate_left 1
              · (intro w hSw; obtain ⟨m0, m1, m2, m3, m4, m5, m6, m7, m8, m9, m10, m11, m12, m13, m14⟩ := hSw; go_simp; try (with_reducible rfl))
              (try walk_nrm)
              refine wpAnyX_done (by kernel_rfl) ?_ _
              go_wp2_with fail
              go_meet
              exact ⟨_, t, rfl, rfl, Nat.le_refl _, sets7_whole NB2 rfl, hX.out, sat_weak (sets7_sat hT (fun h => h.2 rfl)), BF⟩
          case rest =>
            obtain ⟨M, t, rfl, rfl, hM, hWM, hX, hT, bc⟩ := hcut
            obtain ⟨wz, rfl⟩ : ∃ z, z = wc := ⟨_, rfl⟩
            clear hX
            have HT := Lib.hid hT
            have HWN := Lib.hid (HW.out.below bc lN)
            have HWXz := Lib.hid (HWX.out.below bc HWX.out.lt)
            have hMN : M ≠ N := by omega
            have hNM : N ≠ M := by omega
            have HBz := Lib.hid (HB.out.trans (bc.mono HB.out.size))
            have lM := hWM.lt
            have z0 : wz.cell? ⟨M, 0, none⟩ = some (.int .i64 t.X.cf.ps) := (hWM.cell 0).trans rfl
            have z1 : wz.cell? ⟨M, 1, none⟩ = some (.int .i64 t.X.cf.ts) := (hWM.cell 1).trans rfl
            have z2 : wz.cell? ⟨M, 2, none⟩ = some (.int .i64 t.X.cf.bs) := (hWM.cell 2).trans rfl
            have z3 : wz.cell? ⟨M, 3, none⟩ = some (.int .i64 t.X.cf.sl) := (hWM.cell 3).trans rfl
            have z4 : wz.cell? ⟨M, 4, none⟩ = some (.slice t.A t.X.ps.length t.a) := (hWM.cell 4).trans rfl
            have z5 : wz.cell? ⟨M, 5, none⟩ = some (.slice t.B t.T.length t.b) := (hWM.cell 5).trans rfl
            have z6 : wz.cell? ⟨M, 6, none⟩ = some (.slice t.C t.X.bs.length t.c) := (hWM.cell 6).trans rfl
            have g0 : wz.cell? ⟨N, 0, none⟩ = some (.int .i64 s.X.cf.ps) := (HWN.out.cell 0).trans rfl
            have g1 : wz.cell? ⟨N, 1, none⟩ = some (.int .i64 s.X.cf.ts) := (HWN.out.cell 1).trans rfl
            have g2 : wz.cell? ⟨N, 2, none⟩ = some (.int .i64 s.X.cf.bs) := (HWN.out.cell 2).trans rfl
            have g3 : wz.cell? ⟨N, 3, none⟩ = some (.int .i64 s.X.cf.sl) := (HWN.out.cell 3).trans rfl
            have g4 : wz.cell? ⟨N, 4, none⟩ = some (.slice s.A s.X.ps.length s.a) := (HWN.out.cell 4).trans rfl
            have g5 : wz.cell? ⟨N, 5, none⟩ = some (.slice s.B s.T.length s.b) := (HWN.out.cell 5).trans rfl
            have g6 : wz.cell? ⟨N, 6, none⟩ = some (.slice s.C s.X.bs.length s.c) := (HWN.out.cell 6).trans rfl
            clear hWM hT bc a0 a1 a2 a3 a4 a5 a6 a7 KD CD HQA
            go_upto_region 12 with fail
            have f0 := HWN.out.free 0
            have f1 := HWN.out.free 1
            have f2 := HWN.out.free 2
            have f3 := HWN.out.free 3
            have f4 := HWN.out.free 4
            have f5 := HWN.out.free 5
            have f6 := HWN.out.free 6
            have lNz := HWN.out.lt
            go_wp2_with fail
            go_roundw
            case rel =>
              have HFW : Whole (sets7 wz N (.int .i64 t.X.cf.ps) (.int .i64 t.X.cf.ts) (.int .i64 t.X.cf.bs) (.int .i64 t.X.cf.sl) (.slice t.A t.X.ps.length t.a) (.slice t.B t.T.length t.b) (.slice t.C t.X.bs.length t.c)) N 31 (smA t) := sets7_whole HWN.out rfl
              have HFX : Whole (sets7 wz N (.int .i64 t.X.cf.ps) (.int .i64 t.X.cf.ts) (.int .i64 t.X.cf.bs) (.int .i64 t.X.cf.sl) (.slice t.A t.X.ps.length t.a) (.slice t.B t.T.length t.b) (.slice t.C t.X.bs.length t.c)) (w.heap.size + 1) 45 #[.int .i64 xk, .int .i64 xw, .int .i64 xr, .int .i64 xg, .int .i64 xt, .slice XA nx xc, .int .i64 xl, .int .i64 xd] := sets7_far HWXz.out hXN
              have HFS : SAt (fun k => k ≠ N ∧ k ≠ w.heap.size + 1) (sets7 wz N (.int .i64 t.X.cf.ps) (.int .i64 t.X.cf.ts) (.int .i64 t.X.cf.bs) (.int .i64 t.X.cf.sl) (.slice t.A t.X.ps.length t.a) (.slice t.B t.T.length t.b) (.slice t.C t.X.bs.length t.c)) t := sets7_sat HT.out (fun h => h.1 rfl)
              have HFB : Below w.heap.size w (sets7 wz N (.int .i64 t.X.cf.ps) (.int .i64 t.X.cf.ts) (.int .i64 t.X.cf.bs) (.int .i64 t.X.cf.sl) (.slice t.A t.X.ps.length t.a) (.slice t.B t.T.length t.b) (.slice t.C t.X.bs.length t.c)) := sets7_below HBz.out hlo
              exact ⟨k + 1, t, by omega, by go_num, Lib.hid HFW, Lib.hid HFX, Lib.hid HFS, Lib.hid HFB⟩
            case measure => simp [intOf]; omega
        · obtain rfl : n = k := by omega
          obtain ⟨np, hnp⟩ : ∃ z, s.X.ps.length = z := ⟨_, rfl⟩
          obtain ⟨nt, hnt⟩ : ∃ z, s.T.length = z := ⟨_, rfl⟩
          obtain ⟨nb, hnb⟩ : ∃ z, s.X.bs.length = z := ⟨_, rfl⟩
          have HSM := Lib.hid (show #[.int .i64 s.X.cf.ps, .int .i64 s.X.cf.ts, .int .i64 s.X.cf.bs, .int .i64 s.X.cf.sl, .slice s.A np s.a, .slice s.B nt s.b, .slice s.C nb s.c] = smA s from by unfold smA; rw [hnp, hnt, hnb])
          clear hnp hnt hnb
          have g0 : wr.cell? ⟨N, 0, none⟩ = some (.int .i64 s.X.cf.ps) := (HW.out.cell 0).trans (by rw [← HSM.out]; rfl)
          have g1 : wr.cell? ⟨N, 1, none⟩ = some (.int .i64 s.X.cf.ts) := (HW.out.cell 1).trans (by rw [← HSM.out]; rfl)
          have g2 : wr.cell? ⟨N, 2, none⟩ = some (.int .i64 s.X.cf.bs) := (HW.out.cell 2).trans (by rw [← HSM.out]; rfl)
          have g3 : wr.cell? ⟨N, 3, none⟩ = some (.int .i64 s.X.cf.sl) := (HW.out.cell 3).trans (by rw [← HSM.out]; rfl)
          have g4 : wr.cell? ⟨N, 4, none⟩ = some (.slice s.A np s.a) := (HW.out.cell 4).trans (by rw [← HSM.out]; rfl)
          have g5 : wr.cell? ⟨N, 5, none⟩ = some (.slice s.B nt s.b) := (HW.out.cell 5).trans (by rw [← HSM.out]; rfl)
          have g6 : wr.cell? ⟨N, 6, none⟩ = some (.slice s.C nb s.c) := (HW.out.cell 6).trans (by rw [← HSM.out]; rfl)
          have lN := HW.out.lt
          have lX := HWX.out.lt
          have CO := Lib.hid (show Calls Try.prog 16 #[.agg #[.int .i64 s.X.cf.ps, .int .i64 s.X.cf.ts, .int .i64 s.X.cf.bs, .int .i64 s.X.cf.sl, .slice s.A np s.a, .slice s.B nt s.b, .slice s.C nb s.c]] wr (fun e w' => Below wr.heap.size wr w' ∧ ∃ v : Sm, v.X = s.X ∧ v.T = s.T ∧ SAt (fun k => k ≠ N ∧ k ≠ w.heap.size + 1) w' v ∧ e = .returned (.agg (smA v))) from by rw [HSM.out]; exact of18s (fun k => k ≠ N ∧ k ≠ w.heap.size + 1) s wr HS.out (fun k hk => ⟨by omega, by omega⟩))
          go_wp2_with fail
          refine CO.out.mono ?_
          rintro e w5 ⟨b5, v, hvX, _, hv, rfl⟩
          obtain ⟨vp, hvp⟩ : ∃ z, v.X.ps.length = z := ⟨_, rfl⟩
          obtain ⟨vt, hvt⟩ : ∃ z, v.T.length = z := ⟨_, rfl⟩
          obtain ⟨vb, hvb⟩ : ∃ z, v.X.bs.length = z := ⟨_, rfl⟩
          have HVM := Lib.hid (show #[.int .i64 v.X.cf.ps, .int .i64 v.X.cf.ts, .int .i64 v.X.cf.bs, .int .i64 v.X.cf.sl, .slice v.A vp v.a, .slice v.B vt v.b, .slice v.C vb v.c] = smA v from by unfold smA; rw [hvp, hvt, hvb])
          clear hvp hvt hvb
          rw [← HVM.out]
          have HVX := Lib.hid hvX
          obtain ⟨W, hW⟩ : ∃ z, w5.heap.size = z := ⟨_, rfl⟩
          clear g0 g1 g2 g3 g4 g5 g6 CO hvX
          obtain ⟨w8, hw8⟩ : ∃ z, z = ((w5.alloc (.cells #[.int .i64 v.X.cf.ps, .int .i64 v.X.cf.ts, .int .i64 v.X.cf.bs, .int .i64 v.X.cf.sl, .slice v.A vp v.a, .slice v.B vt v.b, .slice v.C vb v.c] 37)).alloc (.cells #[.int .i64 0, .int .i64 2, .int .i64 5, .int .i64 7, .int .i64 8] 3)).alloc (.cells #[.int .i64 1, .int .i64 3, .int .i64 6, .int .i64 8, .int .i64 7] 3) := ⟨_, rfl⟩
          have b58 : Below w5.heap.size w5 w8 := by rw [hw8]; exact (((Below.refl _ _).alloc (Nat.le_refl _) _).alloc (by simp) _).alloc (by simp; omega) _
          have hWW : Whole w8 W 37 #[.int .i64 v.X.cf.ps, .int .i64 v.X.cf.ts, .int .i64 v.X.cf.bs, .int .i64 v.X.cf.sl, .slice v.A vp v.a, .slice v.B vt v.b, .slice v.C vb v.c] := by rw [hw8, ← hW]; exact ((Whole.new w5 _ _).alloc _).alloc _
          have hWK : Whole w8 (W + 1) 3 #[.int .i64 0, .int .i64 2, .int .i64 5, .int .i64 7, .int .i64 8] := by rw [hw8, ← hW]; exact (Whole.new2 w5 _ _ _).alloc _
          have hWB : Whole w8 (W + 1 + 1) 3 #[.int .i64 1, .int .i64 3, .int .i64 6, .int .i64 8, .int .i64 7] := by rw [hw8, ← hW]; have := Whole.new2 (w5.alloc (.cells #[.int .i64 v.X.cf.ps, .int .i64 v.X.cf.ts, .int .i64 v.X.cf.bs, .int .i64 v.X.cf.sl, .slice v.A vp v.a, .slice v.B vt v.b, .slice v.C vb v.c] 37)) (.cells #[.int .i64 0, .int .i64 2, .int .i64 5, .int .i64 7, .int .i64 8] 3) 3 #[.int .i64 1, .int .i64 3, .int .i64 6, .int .i64 8, .int .i64 7]; simpa using this
          have b8 := b5.trans (b58.mono b5.size)
          have HWN8 := Lib.hid (HW.out.below b8 lN)
          have HWX8 := Lib.hid (HWX.out.below b8 lX)
          have HS8 := Lib.hid (HS.out.next b8)
          have HV8 := Lib.hid (hv.next b58)
          have HB8 := Lib.hid (HB.out.trans (b8.mono HB.out.size))
          have hWlo : wr.heap.size ≤ W := by rw [← hW]; exact b5.size
          have HWW8 := Lib.hid hWW
          have HWK8 := Lib.hid hWK
          have HWB8 := Lib.hid hWB
          have HQ8 := Lib.hid (show QAt (fun k => k ≠ N ∧ k ≠ w.heap.size + 1) w8 ⟨⟨xk, xw, xr, xg, xt, xs, xl, xd⟩, XA, xc⟩ from ⟨(HOX.out.row.below HB8.out (Nat.le_refl _)).more HB8.out.size, by dsimp only; rw [HNX.out]; omega, ⟨fun h0 a ha => by have h9 := (HOX.out.row.2 h0); obtain ⟨g9, o9, e9, l9, _⟩ := h9; rw [e9] at ha; injection ha with ha; subst ha; have l9' : g9 < w.heap.size := l9; exact ⟨fun e => by have e2 : g9 = N := e; omega, fun e => by have e2 : g9 = w.heap.size + 1 := e; omega⟩, HOX.out.le, HOX.out.cap⟩, fun y hy => (HOX.out.u y hy).1⟩)
          clear hWW hWK hWB b58 b8 b5 hv HW HWX HS HB
          go_upto_region 16 with fail
          rw [← hw8]
          clear hw8
          try rw [hW]
          have HWNa := Lib.hid (show Whole w8 N 31 #[.int .i64 s.X.cf.ps, .int .i64 s.X.cf.ts, .int .i64 s.X.cf.bs, .int .i64 s.X.cf.sl, .slice s.A np s.a, .slice s.B nt s.b, .slice s.C nb s.c] by rw [HSM.out]; exact HWN8.out)
          clear HWN8
          go_wp2_with fail
          go_loopw [18] (fun iv wr => ∃ (i : Nat) (K : Int), i ≤ 5 ∧ iv = .int .i64 (i : Int) ∧ Hid (Whole wr (w.heap.size + 1) 45 #[.int .i64 K, .int .i64 xw, .int .i64 xr, .int .i64 xg, .int .i64 xt, .slice XA nx xc, .int .i64 xl, .int .i64 xd]) ∧ Hid (Whole wr N 31 #[.int .i64 s.X.cf.ps, .int .i64 s.X.cf.ts, .int .i64 s.X.cf.bs, .int .i64 s.X.cf.sl, .slice s.A np s.a, .slice s.B nt s.b, .slice s.C nb s.c]) ∧ Hid (Whole wr W 37 #[.int .i64 v.X.cf.ps, .int .i64 v.X.cf.ts, .int .i64 v.X.cf.bs, .int .i64 v.X.cf.sl, .slice v.A vp v.a, .slice v.B vt v.b, .slice v.C vb v.c]) ∧ Hid (Whole wr (W + 1) 3 #[.int .i64 0, .int .i64 2, .int .i64 5, .int .i64 7, .int .i64 8]) ∧ Hid (Whole wr (W + 1 + 1) 3 #[.int .i64 1, .int .i64 3, .int .i64 6, .int .i64 8, .int .i64 7]) ∧ Hid (SAt (fun k => k ≠ N ∧ k ≠ w.heap.size + 1) wr s) ∧ Hid (SAt (fun k => k ≠ N ∧ k ≠ w.heap.size + 1) wr v) ∧ Hid (QAt (fun k => k ≠ N ∧ k ≠ w.heap.size + 1) wr ⟨⟨xk, xw, xr, xg, xt, xs, xl, xd⟩, XA, xc⟩) ∧ Hid (Below w.heap.size w wr)) (fun iv _ => 5 - (intOf iv).toNat)
          case atStart => exact ⟨0, xk, Nat.zero_le _, rfl, HWX8, HWNa, HWW8, HWK8, HWB8, HS8, HV8, HQ8, HB8⟩
          case round =>
            obtain ⟨i, K, hi, rfl, HX0, HN0, HW0, HK0, HB0', HS0, HV0, HQ0, HB0⟩ := hrel
            clear HWX8 HWNa HWW8 HWK8 HWB8 HS8 HV8 HQ8 HB8
            obtain ⟨wo, rfl⟩ : ∃ z, z = wr := ⟨_, rfl⟩
            by_cases hi5 : i < 5
            · obtain ⟨K1, hK1⟩ : ∃ z, kindsL[i]? = some z := ⟨_, List.getElem?_eq_getElem (by simp [kindsL]; omega)⟩
              obtain ⟨K2, hK2⟩ : ∃ z, backsL[i]? = some z := ⟨_, List.getElem?_eq_getElem (by simp [backsL]; omega)⟩
              have HBK := Lib.hid (back_at HS0.out.inv ⟨xk, xw, xr, xg, xt, xs, xl, xd⟩ hi5 hK1 hK2)
              have ck : wo.cell? ⟨W + 1, i, none⟩ = some (.int .i64 K1) := (HK0.out.cell i).trans (kinds_cell hi5 hK1)
              have HCB := Lib.hid (backs_cell hi5 hK2)
              clear hK1 hK2
              have i0 : (0 : Int) ≤ (i : Int) := by omega
              have i1 : (i : Int) < (5 : Int) := by omega
              have lX := HX0.out.lt
              have lN0 := HN0.out.lt
              have lW := HW0.out.lt
              have lK := HK0.out.lt
              have lB := HB0'.out.lt
              have lX : w.heap.size + 1 < wo.heap.size := HX0.out.lt
              have hXW : w.heap.size + 1 ≠ W := by omega
              have hXK : w.heap.size + 1 ≠ W + 1 := by omega
              have hXB : w.heap.size + 1 ≠ W + 1 + 1 := by omega
              have hnP : ¬ (fun k => k ≠ N ∧ k ≠ w.heap.size + 1) (w.heap.size + 1) := fun h => h.2 rfl
              have x0 := HX0.out.cell 0
              have f0 := HX0.out.free 0
              obtain ⟨wa, hwa⟩ : ∃ z, z = wo.setCell ⟨w.heap.size + 1, 0, none⟩ (.int .i64 K1) := ⟨_, rfl⟩
              have HX1 := Lib.hid (show Whole wa (w.heap.size + 1) 45 #[.int .i64 K1, .int .i64 xw, .int .i64 xr, .int .i64 xg, .int .i64 xt, .slice XA nx xc, .int .i64 xl, .int .i64 xd] by rw [hwa]; exact HX0.out.set 0 (.int .i64 K1))
              have HN1 := Lib.hid (show Whole wa N 31 #[.int .i64 s.X.cf.ps, .int .i64 s.X.cf.ts, .int .i64 s.X.cf.bs, .int .i64 s.X.cf.sl, .slice s.A np s.a, .slice s.B nt s.b, .slice s.C nb s.c] by rw [hwa]; exact HN0.out.far (p := ⟨w.heap.size + 1, 0, none⟩) hNX _)
              have HW1 := Lib.hid (show Whole wa W 37 #[.int .i64 v.X.cf.ps, .int .i64 v.X.cf.ts, .int .i64 v.X.cf.bs, .int .i64 v.X.cf.sl, .slice v.A vp v.a, .slice v.B vt v.b, .slice v.C vb v.c] by rw [hwa]; exact HW0.out.far (p := ⟨w.heap.size + 1, 0, none⟩) (Ne.symm hXW) _)
              have HK1 := Lib.hid (show Whole wa (W + 1) 3 #[.int .i64 0, .int .i64 2, .int .i64 5, .int .i64 7, .int .i64 8] by rw [hwa]; exact HK0.out.far (p := ⟨w.heap.size + 1, 0, none⟩) (Ne.symm hXK) _)
              have HB1' := Lib.hid (show Whole wa (W + 1 + 1) 3 #[.int .i64 1, .int .i64 3, .int .i64 6, .int .i64 8, .int .i64 7] by rw [hwa]; exact HB0'.out.far (p := ⟨w.heap.size + 1, 0, none⟩) (Ne.symm hXB) _)
              have HS1 := Lib.hid (show SAt (fun k => k ≠ N ∧ k ≠ w.heap.size + 1) wa s by rw [hwa]; exact HS0.out.set (p := ⟨w.heap.size + 1, 0, none⟩) hnP _)
              have HV1 := Lib.hid (show SAt (fun k => k ≠ N ∧ k ≠ w.heap.size + 1) wa v by rw [hwa]; exact HV0.out.set (p := ⟨w.heap.size + 1, 0, none⟩) hnP _)
              have HQ1 := Lib.hid (show QAt (fun k => k ≠ N ∧ k ≠ w.heap.size + 1) wa ⟨⟨xk, xw, xr, xg, xt, xs, xl, xd⟩, XA, xc⟩ by rw [hwa]; exact qat_set HQ0.out (p := ⟨w.heap.size + 1, 0, none⟩) hnP _)
              have HB1 := Lib.hid (show Below w.heap.size w wa by rw [hwa]; exact HB0.out.setCell (p := ⟨w.heap.size + 1, 0, none⟩) (by show w.heap.size ≤ w.heap.size + 1; omega) _)
              clear HX0 HN0 HW0 HK0 HB0' HS0 HV0 HQ0 HB0
              go_upto_region 20 with fail
              rw [← hwa]
              clear hwa x0 f0 ck
              have g0 : wa.cell? ⟨N, 0, none⟩ = some (.int .i64 s.X.cf.ps) := (HN1.out.cell 0).trans rfl
              have g1 : wa.cell? ⟨N, 1, none⟩ = some (.int .i64 s.X.cf.ts) := (HN1.out.cell 1).trans rfl
              have g2 : wa.cell? ⟨N, 2, none⟩ = some (.int .i64 s.X.cf.bs) := (HN1.out.cell 2).trans rfl
              have g3 : wa.cell? ⟨N, 3, none⟩ = some (.int .i64 s.X.cf.sl) := (HN1.out.cell 3).trans rfl
              have g4 : wa.cell? ⟨N, 4, none⟩ = some (.slice s.A np s.a) := (HN1.out.cell 4).trans rfl
              have g5 : wa.cell? ⟨N, 5, none⟩ = some (.slice s.B nt s.b) := (HN1.out.cell 5).trans rfl
              have g6 : wa.cell? ⟨N, 6, none⟩ = some (.slice s.C nb s.c) := (HN1.out.cell 6).trans rfl
              have x0 : wa.cell? ⟨(w.heap.size + 1), 0, none⟩ = some (.int .i64 K1) := (HX1.out.cell 0).trans rfl
              have x1 : wa.cell? ⟨(w.heap.size + 1), 1, none⟩ = some (.int .i64 xw) := (HX1.out.cell 1).trans rfl
              have x2 : wa.cell? ⟨(w.heap.size + 1), 2, none⟩ = some (.int .i64 xr) := (HX1.out.cell 2).trans rfl
              have x3 : wa.cell? ⟨(w.heap.size + 1), 3, none⟩ = some (.int .i64 xg) := (HX1.out.cell 3).trans rfl
              have x4 : wa.cell? ⟨(w.heap.size + 1), 4, none⟩ = some (.int .i64 xt) := (HX1.out.cell 4).trans rfl
              have x5 : wa.cell? ⟨(w.heap.size + 1), 5, none⟩ = some (.slice XA nx xc) := (HX1.out.cell 5).trans rfl
              have x6 : wa.cell? ⟨(w.heap.size + 1), 6, none⟩ = some (.int .i64 xl) := (HX1.out.cell 6).trans rfl
              have x7 : wa.cell? ⟨(w.heap.size + 1), 7, none⟩ = some (.int .i64 xd) := (HX1.out.cell 7).trans rfl
              have lN1 : N < wa.heap.size := HN1.out.lt
              have lX1 : w.heap.size + 1 < wa.heap.size := HX1.out.lt
              have CD := Lib.hid (show Calls Try.prog 12 #[.agg #[.int .i64 s.X.cf.ps, .int .i64 s.X.cf.ts, .int .i64 s.X.cf.bs, .int .i64 s.X.cf.sl, .slice s.A np s.a, .slice s.B nt s.b, .slice s.C nb s.c], .agg #[.int .i64 K1, .int .i64 xw, .int .i64 xr, .int .i64 xg, .int .i64 xt, .slice XA nx xc, .int .i64 xl, .int .i64 xd]] wa (fun e w'' => Below wa.heap.size wa w'' ∧ ∃ t9 : Sm, t9.X = (doS s.X ⟨K1, xw, xr, xg, xt, xs, xl, xd⟩).1 ∧ SAt (fun k => k ≠ N ∧ k ≠ w.heap.size + 1) w'' t9 ∧ e = .returned (.tuple #[.agg (smA t9), .int .i64 (doS s.X ⟨K1, xw, xr, xg, xt, xs, xl, xd⟩).2])) from by rw [HSM.out, show #[.int .i64 K1, .int .i64 xw, .int .i64 xr, .int .i64 xg, .int .i64 xt, .slice XA nx xc, .int .i64 xl, .int .i64 xd] = (qmV ⟨⟨K1, xw, xr, xg, xt, xs, xl, xd⟩, XA, xc⟩).toArray from by rw [← HNX.out]; rfl]; exact cdo_any (fun k => k ≠ N ∧ k ≠ w.heap.size + 1) s ⟨⟨K1, xw, xr, xg, xt, xs, xl, xd⟩, XA, xc⟩ wa HS1.out (qat_as HQ1.out K1) (fun k hk => ⟨by omega, by omega⟩))
              go_wp2_with fail
              refine CD.out.mono ?_
              rintro e wb ⟨bb, t, hX, hT, rfl⟩
              replace hX := Lib.hid hX
              obtain ⟨mp, hmp⟩ : ∃ z, t.X.ps.length = z := ⟨_, rfl⟩
              obtain ⟨mt, hmt⟩ : ∃ z, t.T.length = z := ⟨_, rfl⟩
              obtain ⟨mb, hmb⟩ : ∃ z, t.X.bs.length = z := ⟨_, rfl⟩
              have HTM := Lib.hid (show #[.int .i64 t.X.cf.ps, .int .i64 t.X.cf.ts, .int .i64 t.X.cf.bs, .int .i64 t.X.cf.sl, .slice t.A mp t.a, .slice t.B mt t.b, .slice t.C mb t.c] = smA t from by unfold smA; rw [hmp, hmt, hmb])
              clear hmp hmt hmb
              rw [← HTM.out]
              obtain ⟨e1, he1⟩ : ∃ z, (doS s.X ⟨K1, xw, xr, xg, xt, xs, xl, xd⟩).2 = z := ⟨_, rfl⟩
              rw [he1]
              have HE1 := Lib.hid he1
              clear he1 CD
              obtain ⟨T, hTT⟩ : ∃ z, wb.heap.size = z := ⟨_, rfl⟩
              obtain ⟨wc', hwc⟩ : ∃ z, z = wb.alloc (.cells #[.int .i64 t.X.cf.ps, .int .i64 t.X.cf.ts, .int .i64 t.X.cf.bs, .int .i64 t.X.cf.sl, .slice t.A mp t.a, .slice t.B mt t.b, .slice t.C mb t.c] 31) := ⟨_, rfl⟩
              have b2 : Below wa.heap.size wa wc' := by rw [hwc]; exact bb.alloc bb.size _
              have b2' : Below wb.heap.size wb wc' := by rw [hwc]; exact (Below.refl _ _).alloc (Nat.le_refl _) _
              have HT2 := Lib.hid (show Whole wc' T 31 #[.int .i64 t.X.cf.ps, .int .i64 t.X.cf.ts, .int .i64 t.X.cf.bs, .int .i64 t.X.cf.sl, .slice t.A mp t.a, .slice t.B mt t.b, .slice t.C mb t.c] by rw [hwc, ← hTT]; exact Whole.new wb _ _)
              have HTS2 := Lib.hid (hT.next b2')
              have hTlo : wa.heap.size ≤ T := by rw [← hTT]; exact bb.size
              have HX2 := Lib.hid (HX1.out.below b2 HX1.out.lt)
              have HN2 := Lib.hid (HN1.out.below b2 HN1.out.lt)
              have HW2 := Lib.hid (HW1.out.below b2 HW1.out.lt)
              have HK2 := Lib.hid (HK1.out.below b2 HK1.out.lt)
              have HB2' := Lib.hid (HB1'.out.below b2 HB1'.out.lt)
              have HS2 := Lib.hid (HS1.out.next b2)
              have HV2 := Lib.hid (HV1.out.next b2)
              have HQ2 := Lib.hid (HQ1.out.next b2)
              have HB2 := Lib.hid (HB1.out.trans (b2.mono HB1.out.size))
              clear g0 g1 g2 g3 g4 g5 g6 x0 x1 x2 x3 x4 x5 x6 x7
              clear HX1 HN1 HW1 HK1 HB1' HS1 HV1 HQ1 HB1
              clear b2 b2' bb hT
              go_upto_region 21 with fail
              rw [← hwc]
              clear hwc
              try rw [hTT]
              clear hTT
              by_cases ez : e1 = 0
              · subst ez
                have HBK2 := Lib.hid (HBK.out HE1.out)
                have z0 : wc'.cell? ⟨T, 0, none⟩ = some (.int .i64 t.X.cf.ps) := (HT2.out.cell 0).trans rfl
                have z1 : wc'.cell? ⟨T, 1, none⟩ = some (.int .i64 t.X.cf.ts) := (HT2.out.cell 1).trans rfl
                have z2 : wc'.cell? ⟨T, 2, none⟩ = some (.int .i64 t.X.cf.bs) := (HT2.out.cell 2).trans rfl
                have z3 : wc'.cell? ⟨T, 3, none⟩ = some (.int .i64 t.X.cf.sl) := (HT2.out.cell 3).trans rfl
                have z4 : wc'.cell? ⟨T, 4, none⟩ = some (.slice t.A mp t.a) := (HT2.out.cell 4).trans rfl
                have z5 : wc'.cell? ⟨T, 5, none⟩ = some (.slice t.B mt t.b) := (HT2.out.cell 5).trans rfl
                have z6 : wc'.cell? ⟨T, 6, none⟩ = some (.slice t.C mb t.c) := (HT2.out.cell 6).trans rfl
                have x0 : wc'.cell? ⟨(w.heap.size + 1), 0, none⟩ = some (.int .i64 K1) := (HX2.out.cell 0).trans rfl
                have x1 : wc'.cell? ⟨(w.heap.size + 1), 1, none⟩ = some (.int .i64 xw) := (HX2.out.cell 1).trans rfl
                have x2 : wc'.cell? ⟨(w.heap.size + 1), 2, none⟩ = some (.int .i64 xr) := (HX2.out.cell 2).trans rfl
                have x3 : wc'.cell? ⟨(w.heap.size + 1), 3, none⟩ = some (.int .i64 xg) := (HX2.out.cell 3).trans rfl
                have x4 : wc'.cell? ⟨(w.heap.size + 1), 4, none⟩ = some (.int .i64 xt) := (HX2.out.cell 4).trans rfl
                have x5 : wc'.cell? ⟨(w.heap.size + 1), 5, none⟩ = some (.slice XA nx xc) := (HX2.out.cell 5).trans rfl
                have x6 : wc'.cell? ⟨(w.heap.size + 1), 6, none⟩ = some (.int .i64 xl) := (HX2.out.cell 6).trans rfl
                have x7 : wc'.cell? ⟨(w.heap.size + 1), 7, none⟩ = some (.int .i64 xd) := (HX2.out.cell 7).trans rfl
                have lT2 : T < wc'.heap.size := HT2.out.lt
                have lX2 : w.heap.size + 1 < wc'.heap.size := HX2.out.lt
                have lN2 : N < wc'.heap.size := HN2.out.lt
                have CD := Lib.hid (show Calls Try.prog 12 #[.agg #[.int .i64 t.X.cf.ps, .int .i64 t.X.cf.ts, .int .i64 t.X.cf.bs, .int .i64 t.X.cf.sl, .slice t.A mp t.a, .slice t.B mt t.b, .slice t.C mb t.c], .agg #[.int .i64 K1, .int .i64 xw, .int .i64 xr, .int .i64 xg, .int .i64 xt, .slice XA nx xc, .int .i64 xl, .int .i64 xd]] wc' (fun e w'' => Below wc'.heap.size wc' w'' ∧ ∃ t9 : Sm, t9.X = (doS t.X ⟨K1, xw, xr, xg, xt, xs, xl, xd⟩).1 ∧ SAt (fun k => k ≠ N ∧ k ≠ w.heap.size + 1) w'' t9 ∧ e = .returned (.tuple #[.agg (smA t9), .int .i64 (doS t.X ⟨K1, xw, xr, xg, xt, xs, xl, xd⟩).2])) from by rw [HTM.out, show #[.int .i64 K1, .int .i64 xw, .int .i64 xr, .int .i64 xg, .int .i64 xt, .slice XA nx xc, .int .i64 xl, .int .i64 xd] = (qmV ⟨⟨K1, xw, xr, xg, xt, xs, xl, xd⟩, XA, xc⟩).toArray from by rw [← HNX.out]; rfl]; exact cdo_any (fun k => k ≠ N ∧ k ≠ w.heap.size + 1) t ⟨⟨K1, xw, xr, xg, xt, xs, xl, xd⟩, XA, xc⟩ wc' HTS2.out (qat_as HQ2.out K1) (fun k hk => ⟨by omega, by omega⟩))
                go_wp2_with fail
                refine CD.out.mono ?_
                rintro e wd ⟨bd, t2, hX9, hS9, rfl⟩
                clear hX9 hS9
                obtain ⟨yp, hyp⟩ : ∃ z, t2.X.ps.length = z := ⟨_, rfl⟩
                obtain ⟨yt, hyt⟩ : ∃ z, t2.T.length = z := ⟨_, rfl⟩
                obtain ⟨yb, hyb⟩ : ∃ z, t2.X.bs.length = z := ⟨_, rfl⟩
                have HTM2 := Lib.hid (show #[.int .i64 t2.X.cf.ps, .int .i64 t2.X.cf.ts, .int .i64 t2.X.cf.bs, .int .i64 t2.X.cf.sl, .slice t2.A yp t2.a, .slice t2.B yt t2.b, .slice t2.C yb t2.c] = smA t2 from by unfold smA; rw [hyp, hyt, hyb])
                clear hyp hyt hyb
                rw [← HTM2.out]
                obtain ⟨ag, hag⟩ : ∃ z, (doS t.X ⟨K1, xw, xr, xg, xt, xs, xl, xd⟩).2 = z := ⟨_, rfl⟩
                rw [hag]
                have HAG := Lib.hid (show ag ≠ 0 from by rw [← hag, hX.out]; exact HBK2.out.2)
                clear hag CD
                obtain ⟨we, hwe⟩ : ∃ z, z = wd.alloc (.cells #[.int .i64 t2.X.cf.ps, .int .i64 t2.X.cf.ts, .int .i64 t2.X.cf.bs, .int .i64 t2.X.cf.sl, .slice t2.A yp t2.a, .slice t2.B yt t2.b, .slice t2.C yb t2.c] 31) := ⟨_, rfl⟩
                have b3 : Below wc'.heap.size wc' we := by rw [hwe]; exact bd.alloc bd.size _
                have HX3 := Lib.hid (HX2.out.below b3 HX2.out.lt)
                have HN3 := Lib.hid (HN2.out.below b3 HN2.out.lt)
                have HW3 := Lib.hid (HW2.out.below b3 HW2.out.lt)
                have HK3 := Lib.hid (HK2.out.below b3 HK2.out.lt)
                have HB3' := Lib.hid (HB2'.out.below b3 HB2'.out.lt)
                have HS3 := Lib.hid (HS2.out.next b3)
                have HV3 := Lib.hid (HV2.out.next b3)
                have HQ3 := Lib.hid (HQ2.out.next b3)
                have HB3 := Lib.hid (HB2.out.trans (b3.mono HB2.out.size))
                have HT3 := Lib.hid (HT2.out.below b3 lT2)
                have HTS3 := Lib.hid (HTS2.out.next b3)
                clear z0 z1 z2 z3 z4 z5 z6 x0 x1 x2 x3 x4 x5 x6 x7
                clear HX2 HN2 HW2 HK2 HB2' HS2 HV2 HQ2 HB2
                clear HT2 HTS2 b3 bd
                go_upto_region 23 with fail
                rw [← hwe]
                clear hwe
                have lB3 : W + 1 + 1 < we.heap.size := HB3'.out.lt
                have lX3 : w.heap.size + 1 < we.heap.size := HX3.out.lt
                have cb : we.cell? ⟨W + 1 + 1, i, none⟩ = some (.int .i64 K2) := (HB3'.out.cell i).trans HCB.out
                have x0 := HX3.out.cell 0
                have f0 := HX3.out.free 0
                obtain ⟨wf, hwf⟩ : ∃ z, z = we.setCell ⟨w.heap.size + 1, 0, none⟩ (.int .i64 K2) := ⟨_, rfl⟩
                have hTX : T ≠ w.heap.size + 1 := by omega
                have HX4 := Lib.hid (show Whole wf (w.heap.size + 1) 45 #[.int .i64 K2, .int .i64 xw, .int .i64 xr, .int .i64 xg, .int .i64 xt, .slice XA nx xc, .int .i64 xl, .int .i64 xd] by rw [hwf]; exact HX3.out.set 0 (.int .i64 K2))
                have HN4 := Lib.hid (show Whole wf N 31 #[.int .i64 s.X.cf.ps, .int .i64 s.X.cf.ts, .int .i64 s.X.cf.bs, .int .i64 s.X.cf.sl, .slice s.A np s.a, .slice s.B nt s.b, .slice s.C nb s.c] by rw [hwf]; exact HN3.out.far (p := ⟨w.heap.size + 1, 0, none⟩) hNX _)
                have HW4 := Lib.hid (show Whole wf W 37 #[.int .i64 v.X.cf.ps, .int .i64 v.X.cf.ts, .int .i64 v.X.cf.bs, .int .i64 v.X.cf.sl, .slice v.A vp v.a, .slice v.B vt v.b, .slice v.C vb v.c] by rw [hwf]; exact HW3.out.far (p := ⟨w.heap.size + 1, 0, none⟩) (Ne.symm hXW) _)
                have HK4 := Lib.hid (show Whole wf (W + 1) 3 #[.int .i64 0, .int .i64 2, .int .i64 5, .int .i64 7, .int .i64 8] by rw [hwf]; exact HK3.out.far (p := ⟨w.heap.size + 1, 0, none⟩) (Ne.symm hXK) _)
                have HB4' := Lib.hid (show Whole wf (W + 1 + 1) 3 #[.int .i64 1, .int .i64 3, .int .i64 6, .int .i64 8, .int .i64 7] by rw [hwf]; exact HB3'.out.far (p := ⟨w.heap.size + 1, 0, none⟩) (Ne.symm hXB) _)
                have HS4 := Lib.hid (show SAt (fun k => k ≠ N ∧ k ≠ w.heap.size + 1) wf s by rw [hwf]; exact HS3.out.set (p := ⟨w.heap.size + 1, 0, none⟩) hnP _)
                have HV4 := Lib.hid (show SAt (fun k => k ≠ N ∧ k ≠ w.heap.size + 1) wf v by rw [hwf]; exact HV3.out.set (p := ⟨w.heap.size + 1, 0, none⟩) hnP _)
                have HQ4 := Lib.hid (show QAt (fun k => k ≠ N ∧ k ≠ w.heap.size + 1) wf ⟨⟨xk, xw, xr, xg, xt, xs, xl, xd⟩, XA, xc⟩ by rw [hwf]; exact qat_set HQ3.out (p := ⟨w.heap.size + 1, 0, none⟩) hnP _)
                have HB4 := Lib.hid (show Below w.heap.size w wf by rw [hwf]; exact HB3.out.setCell (p := ⟨w.heap.size + 1, 0, none⟩) (by show w.heap.size ≤ w.heap.size + 1; omega) _)
                have HT4 := Lib.hid (show Whole wf T 31 #[.int .i64 t.X.cf.ps, .int .i64 t.X.cf.ts, .int .i64 t.X.cf.bs, .int .i64 t.X.cf.sl, .slice t.A mp t.a, .slice t.B mt t.b, .slice t.C mb t.c] by rw [hwf]; exact HT3.out.far (p := ⟨w.heap.size + 1, 0, none⟩) hTX _)
                have HTS4 := Lib.hid (show SAt (fun k => k ≠ N ∧ k ≠ w.heap.size + 1) wf t by rw [hwf]; exact HTS3.out.set (p := ⟨w.heap.size + 1, 0, none⟩) hnP _)
                clear HX3 HN3 HW3 HK3 HB3' HS3 HV3 HQ3 HB3
                clear HT3 HTS3
                go_upto_region 24 with fail
                rw [← hwf]
                clear hwf x0 f0 cb
                have z0 : wf.cell? ⟨T, 0, none⟩ = some (.int .i64 t.X.cf.ps) := (HT4.out.cell 0).trans rfl
                have z1 : wf.cell? ⟨T, 1, none⟩ = some (.int .i64 t.X.cf.ts) := (HT4.out.cell 1).trans rfl
                have z2 : wf.cell? ⟨T, 2, none⟩ = some (.int .i64 t.X.cf.bs) := (HT4.out.cell 2).trans rfl
                have z3 : wf.cell? ⟨T, 3, none⟩ = some (.int .i64 t.X.cf.sl) := (HT4.out.cell 3).trans rfl
                have z4 : wf.cell? ⟨T, 4, none⟩ = some (.slice t.A mp t.a) := (HT4.out.cell 4).trans rfl
                have z5 : wf.cell? ⟨T, 5, none⟩ = some (.slice t.B mt t.b) := (HT4.out.cell 5).trans rfl
                have z6 : wf.cell? ⟨T, 6, none⟩ = some (.slice t.C mb t.c) := (HT4.out.cell 6).trans rfl
                have x0 : wf.cell? ⟨(w.heap.size + 1), 0, none⟩ = some (.int .i64 K2) := (HX4.out.cell 0).trans rfl
                have x1 : wf.cell? ⟨(w.heap.size + 1), 1, none⟩ = some (.int .i64 xw) := (HX4.out.cell 1).trans rfl
                have x2 : wf.cell? ⟨(w.heap.size + 1), 2, none⟩ = some (.int .i64 xr) := (HX4.out.cell 2).trans rfl
                have x3 : wf.cell? ⟨(w.heap.size + 1), 3, none⟩ = some (.int .i64 xg) := (HX4.out.cell 3).trans rfl
                have x4 : wf.cell? ⟨(w.heap.size + 1), 4, none⟩ = some (.int .i64 xt) := (HX4.out.cell 4).trans rfl
                have x5 : wf.cell? ⟨(w.heap.size + 1), 5, none⟩ = some (.slice XA nx xc) := (HX4.out.cell 5).trans rfl
                have x6 : wf.cell? ⟨(w.heap.size + 1), 6, none⟩ = some (.int .i64 xl) := (HX4.out.cell 6).trans rfl
                have x7 : wf.cell? ⟨(w.heap.size + 1), 7, none⟩ = some (.int .i64 xd) := (HX4.out.cell 7).trans rfl
                have lT4 : T < wf.heap.size := HT4.out.lt
                have lX4 : w.heap.size + 1 < wf.heap.size := HX4.out.lt
                have lN4 : N < wf.heap.size := HN4.out.lt
                have CD := Lib.hid (show Calls Try.prog 12 #[.agg #[.int .i64 t.X.cf.ps, .int .i64 t.X.cf.ts, .int .i64 t.X.cf.bs, .int .i64 t.X.cf.sl, .slice t.A mp t.a, .slice t.B mt t.b, .slice t.C mb t.c], .agg #[.int .i64 K2, .int .i64 xw, .int .i64 xr, .int .i64 xg, .int .i64 xt, .slice XA nx xc, .int .i64 xl, .int .i64 xd]] wf (fun e w'' => Below wf.heap.size wf w'' ∧ ∃ t9 : Sm, t9.X = (doS t.X ⟨K2, xw, xr, xg, xt, xs, xl, xd⟩).1 ∧ SAt (fun k => k ≠ N ∧ k ≠ w.heap.size + 1) w'' t9 ∧ e = .returned (.tuple #[.agg (smA t9), .int .i64 (doS t.X ⟨K2, xw, xr, xg, xt, xs, xl, xd⟩).2])) from by rw [HTM.out, show #[.int .i64 K2, .int .i64 xw, .int .i64 xr, .int .i64 xg, .int .i64 xt, .slice XA nx xc, .int .i64 xl, .int .i64 xd] = (qmV ⟨⟨K2, xw, xr, xg, xt, xs, xl, xd⟩, XA, xc⟩).toArray from by rw [← HNX.out]; rfl]; exact cdo_any (fun k => k ≠ N ∧ k ≠ w.heap.size + 1) t ⟨⟨K2, xw, xr, xg, xt, xs, xl, xd⟩, XA, xc⟩ wf HTS4.out (qat_as HQ4.out K2) (fun k hk => ⟨by omega, by omega⟩))
                go_wp2_with fail
                refine CD.out.mono ?_
                rintro e wg ⟨bg, u, hU, hUS, rfl⟩
                have hE2 : (doS t.X ⟨K2, xw, xr, xg, xt, xs, xl, xd⟩).2 = 0 := by rw [hX.out]; exact congrArg Prod.snd HBK2.out.1
                rw [hE2]
                have HUX := Lib.hid (show u.X = s.X by rw [hU, hX.out]; exact congrArg Prod.fst HBK2.out.1)
                clear hE2 hU CD
                obtain ⟨up, hup⟩ : ∃ z, u.X.ps.length = z := ⟨_, rfl⟩
                obtain ⟨ut, hut⟩ : ∃ z, u.T.length = z := ⟨_, rfl⟩
                obtain ⟨ub, hub⟩ : ∃ z, u.X.bs.length = z := ⟨_, rfl⟩
                have HUM := Lib.hid (show #[.int .i64 u.X.cf.ps, .int .i64 u.X.cf.ts, .int .i64 u.X.cf.bs, .int .i64 u.X.cf.sl, .slice u.A up u.a, .slice u.B ut u.b, .slice u.C ub u.c] = smA u from by unfold smA; rw [hup, hut, hub])
                clear hup hut hub
                rw [← HUM.out]
                obtain ⟨U, hUU⟩ : ∃ z, wg.heap.size = z := ⟨_, rfl⟩
                obtain ⟨wh, hwh⟩ : ∃ z, z = wg.alloc (.cells #[.int .i64 u.X.cf.ps, .int .i64 u.X.cf.ts, .int .i64 u.X.cf.bs, .int .i64 u.X.cf.sl, .slice u.A up u.a, .slice u.B ut u.b, .slice u.C ub u.c] 31) := ⟨_, rfl⟩
                have b5 : Below wf.heap.size wf wh := by rw [hwh]; exact bg.alloc bg.size _
                have b5' : Below wg.heap.size wg wh := by rw [hwh]; exact (Below.refl _ _).alloc (Nat.le_refl _) _
                have HU5 := Lib.hid (show Whole wh U 31 #[.int .i64 u.X.cf.ps, .int .i64 u.X.cf.ts, .int .i64 u.X.cf.bs, .int .i64 u.X.cf.sl, .slice u.A up u.a, .slice u.B ut u.b, .slice u.C ub u.c] by rw [hwh, ← hUU]; exact Whole.new wg _ _)
                have HUS5 := Lib.hid (hUS.next b5')
                have HX5 := Lib.hid (HX4.out.below b5 HX4.out.lt)
                have HN5 := Lib.hid (HN4.out.below b5 HN4.out.lt)
                have HW5 := Lib.hid (HW4.out.below b5 HW4.out.lt)
                have HK5 := Lib.hid (HK4.out.below b5 HK4.out.lt)
                have HB5' := Lib.hid (HB4'.out.below b5 HB4'.out.lt)
                have HS5 := Lib.hid (HS4.out.next b5)
                have HV5 := Lib.hid (HV4.out.next b5)
                have HQ5 := Lib.hid (HQ4.out.next b5)
                have HB5 := Lib.hid (HB4.out.trans (b5.mono HB4.out.size))
                clear z0 z1 z2 z3 z4 z5 z6 x0 x1 x2 x3 x4 x5 x6 x7
                clear HX4 HN4 HW4 HK4 HB4' HS4 HV4 HQ4 HB4
                clear HT4 HTS4 b5 b5' bg hUS
                go_upto_region 25 with fail
                rw [← hwh]
                clear hwh
                try rw [hUU]
                clear hUU
                have lU5 := HU5.out.lt
                have lW5 := HW5.out.lt
                have u0 : wh.cell? ⟨U, 0, none⟩ = some (.int .i64 u.X.cf.ps) := (HU5.out.cell 0).trans rfl
                have u1 : wh.cell? ⟨U, 1, none⟩ = some (.int .i64 u.X.cf.ts) := (HU5.out.cell 1).trans rfl
                have u2 : wh.cell? ⟨U, 2, none⟩ = some (.int .i64 u.X.cf.bs) := (HU5.out.cell 2).trans rfl
                have u3 : wh.cell? ⟨U, 3, none⟩ = some (.int .i64 u.X.cf.sl) := (HU5.out.cell 3).trans rfl
                have u4 : wh.cell? ⟨U, 4, none⟩ = some (.slice u.A up u.a) := (HU5.out.cell 4).trans rfl
                have u5 : wh.cell? ⟨U, 5, none⟩ = some (.slice u.B ut u.b) := (HU5.out.cell 5).trans rfl
                have u6 : wh.cell? ⟨U, 6, none⟩ = some (.slice u.C ub u.c) := (HU5.out.cell 6).trans rfl
                have v0 : wh.cell? ⟨W, 0, none⟩ = some (.int .i64 v.X.cf.ps) := (HW5.out.cell 0).trans rfl
                have v1 : wh.cell? ⟨W, 1, none⟩ = some (.int .i64 v.X.cf.ts) := (HW5.out.cell 1).trans rfl
                have v2 : wh.cell? ⟨W, 2, none⟩ = some (.int .i64 v.X.cf.bs) := (HW5.out.cell 2).trans rfl
                have v3 : wh.cell? ⟨W, 3, none⟩ = some (.int .i64 v.X.cf.sl) := (HW5.out.cell 3).trans rfl
                have v4 : wh.cell? ⟨W, 4, none⟩ = some (.slice v.A vp v.a) := (HW5.out.cell 4).trans rfl
                have v5 : wh.cell? ⟨W, 5, none⟩ = some (.slice v.B vt v.b) := (HW5.out.cell 5).trans rfl
                have v6 : wh.cell? ⟨W, 6, none⟩ = some (.slice v.C vb v.c) := (HW5.out.cell 6).trans rfl
                have hag : ¬ ag = 0 := HAG.out
                have hag2 : (ag == 0) = false := by simp [hag]
                have KD := Lib.hid (fun w' (b' : Below wh.heap.size wh w') => show (fun w' => w'.cell? ⟨U, 0, none⟩ = some (.int .i64 u.X.cf.ps) ∧ w'.cell? ⟨U, 1, none⟩ = some (.int .i64 u.X.cf.ts) ∧ w'.cell? ⟨U, 2, none⟩ = some (.int .i64 u.X.cf.bs) ∧ w'.cell? ⟨U, 3, none⟩ = some (.int .i64 u.X.cf.sl) ∧ w'.cell? ⟨U, 4, none⟩ = some (.slice u.A up u.a) ∧ w'.cell? ⟨U, 5, none⟩ = some (.slice u.B ut u.b) ∧ w'.cell? ⟨U, 6, none⟩ = some (.slice u.C ub u.c) ∧ w'.cell? ⟨W, 0, none⟩ = some (.int .i64 v.X.cf.ps) ∧ w'.cell? ⟨W, 1, none⟩ = some (.int .i64 v.X.cf.ts) ∧ w'.cell? ⟨W, 2, none⟩ = some (.int .i64 v.X.cf.bs) ∧ w'.cell? ⟨W, 3, none⟩ = some (.int .i64 v.X.cf.sl) ∧ w'.cell? ⟨W, 4, none⟩ = some (.slice v.A vp v.a) ∧ w'.cell? ⟨W, 5, none⟩ = some (.slice v.B vt v.b) ∧ w'.cell? ⟨W, 6, none⟩ = some (.slice v.C vb v.c)) w' from ⟨(b'.cell (p := ⟨U, 0, none⟩) lU5).trans u0, (b'.cell (p := ⟨U, 1, none⟩) lU5).trans u1, (b'.cell (p := ⟨U, 2, none⟩) lU5).trans u2, (b'.cell (p := ⟨U, 3, none⟩) lU5).trans u3, (b'.cell (p := ⟨U, 4, none⟩) lU5).trans u4, (b'.cell (p := ⟨U, 5, none⟩) lU5).trans u5, (b'.cell (p := ⟨U, 6, none⟩) lU5).trans u6, (b'.cell (p := ⟨W, 0, none⟩) lW5).trans v0, (b'.cell (p := ⟨W, 1, none⟩) lW5).trans v1, (b'.cell (p := ⟨W, 2, none⟩) lW5).trans v2, (b'.cell (p := ⟨W, 3, none⟩) lW5).trans v3, (b'.cell (p := ⟨W, 4, none⟩) lW5).trans v4, (b'.cell (p := ⟨W, 5, none⟩) lW5).trans v5, (b'.cell (p := ⟨W, 6, none⟩) lW5).trans v6⟩)
                have CO := Lib.hid (fun w' (hu : SAt (fun k => k ≠ N ∧ k ≠ w.heap.size + 1) w' u) (hp : N < w'.heap.size) (hq : w.heap.size + 1 < w'.heap.size) => (show Calls Try.prog 16 #[.agg #[.int .i64 u.X.cf.ps, .int .i64 u.X.cf.ts, .int .i64 u.X.cf.bs, .int .i64 u.X.cf.sl, .slice u.A up u.a, .slice u.B ut u.b, .slice u.C ub u.c]] w' (fun e w'' => Below w'.heap.size w' w'' ∧ ∃ y : Sm, y.X = u.X ∧ y.T = u.T ∧ SAt (fun k => k ≠ N ∧ k ≠ w.heap.size + 1) w'' y ∧ e = .returned (.agg (smA y))) from by rw [HUM.out]; exact of18s (fun k => k ≠ N ∧ k ≠ w.heap.size + 1) u w' hu (fun k hk => ⟨by omega, by omega⟩)))
                have CS := Lib.hid (fun (y : Sm) w' (hy : SAt (fun k => k ≠ N ∧ k ≠ w.heap.size + 1) w' y) (hv : SAt (fun k => k ≠ N ∧ k ≠ w.heap.size + 1) w' v) (e : v.X = y.X) => (show Calls Try.prog 15 #[.agg (smA y), .agg #[.int .i64 v.X.cf.ps, .int .i64 v.X.cf.ts, .int .i64 v.X.cf.bs, .int .i64 v.X.cf.sl, .slice v.A vp v.a, .slice v.B vt v.b, .slice v.C vb v.c]] w' (fun e w'' => e = .returned (.bool true) ∧ Below w'.heap.size w' w'') from by rw [HVM.out]; exact same18 (fun k => k ≠ N ∧ k ≠ w.heap.size + 1) y v w' hy hv e))
                go_cut [116] (fun b wx => b = .bool false ∧ Below wh.heap.size wh wx)
                case first =>
                  refine wp_region_X (S := fun w' => w'.cell? ⟨U, 0, none⟩ = some (.int .i64 u.X.cf.ps) ∧ w'.cell? ⟨U, 1, none⟩ = some (.int .i64 u.X.cf.ts) ∧ w'.cell? ⟨U, 2, none⟩ = some (.int .i64 u.X.cf.bs) ∧ w'.cell? ⟨U, 3, none⟩ = some (.int .i64 u.X.cf.sl) ∧ w'.cell? ⟨U, 4, none⟩ = some (.slice u.A up u.a) ∧ w'.cell? ⟨U, 5, none⟩ = some (.slice u.B ut u.b) ∧ w'.cell? ⟨U, 6, none⟩ = some (.slice u.C ub u.c) ∧ w'.cell? ⟨W, 0, none⟩ = some (.int .i64 v.X.cf.ps) ∧ w'.cell? ⟨W, 1, none⟩ = some (.int .i64 v.X.cf.ts) ∧ w'.cell? ⟨W, 2, none⟩ = some (.int .i64 v.X.cf.bs) ∧ w'.cell? ⟨W, 3, none⟩ = some (.int .i64 v.X.cf.sl) ∧ w'.cell? ⟨W, 4, none⟩ = some (.slice v.A vp v.a) ∧ w'.cell? ⟨W, 5, none⟩ = some (.slice v.B vt v.b) ∧ w'.cell? ⟨W, 6, none⟩ = some (.slice v.C vb v.c)) [] (by kernel_rfl) (KD.out _ (Below.refl _ _).drew) (fun hHeld0 => ?_)
                  refine tk (i := 0) [] (v := ?_) ?_ ?_
                  rotate_left 1
                  · (intro w hSw; obtain ⟨m0, m1, m2, m3, m4, m5, m6, m7, m8, m9, m10, m11, m12, m13⟩ := hSw; go_simp; try (with_reducible rfl))
                  (try walk_nrm)
                  refine tk (i := 1) [] (v := ?_) ?_ ?_
                  rotate_left 1
                  · (intro w hSw; obtain ⟨m0, m1, m2, m3, m4, m5, m6, m7, m8, m9, m10, m11, m12, m13⟩ := hSw; go_simp; try (with_reducible rfl))
                  (try walk_nrm)
                  refine tk (i := 2) [] (v := ?_) ?_ ?_
                  rotate_left 1
                  · (intro w hSw; obtain ⟨m0, m1, m2, m3, m4, m5, m6, m7, m8, m9, m10, m11, m12, m13⟩ := hSw; go_simp; try (with_reducible rfl))
                  (try walk_nrm)
                  refine tk (i := 3) [] (v := ?_) ?_ ?_
                  rotate_left 1
                  · (intro w hSw; obtain ⟨m0, m1, m2, m3, m4, m5, m6, m7, m8, m9, m10, m11, m12, m13⟩ := hSw; go_simp; try (with_reducible rfl))
                  (try walk_nrm)
                  refine tk (i := 5) [] (v := ?_) ?_ ?_
                  rotate_left 1
                  · (intro w hSw; obtain ⟨m0, m1, m2, m3, m4, m5, m6, m7, m8, m9, m10, m11, m12, m13⟩ := hSw; go_simp; try (with_reducible rfl))
                  (try walk_nrm)
                  refine wpAnyX_one 4 (by kernel_rfl) rfl (fun K hK => ?_)
                  go_simp
                  go_wp2_with (refine (CO.out wh.drew (HUS5.out.next (Below.refl wh.heap.size wh).drew) (by show N < wh.heap.size; have := HN5.out.lt; omega) (by show w.heap.size + 1 < wh.heap.size; have := HX5.out.lt; omega)).mono ?_; rintro e v1' ⟨bv1, y, hyX, _, hyS, rfl⟩; replace hyX := Lib.hid hyX)
                  have BV1 := (Below.refl wh.heap.size wh).drew.trans (bv1.mono (Below.refl wh.heap.size wh).drew.size)
                  refine hK.out _ _ (.inr (KD.out _ BV1)) ?_
                  have hHeld1 := KD.out _ BV1
                  clear hK K
                  (try walk_nrm)
                  refine wpAnyX_one 6 (by kernel_rfl) rfl (fun K hK => ?_)
                  go_simp
                  go_wp2_with (refine (CS.out y v1' hyS (HV5.out.next BV1) (by rw [HVX.out, hyX.out, HUX.out])).mono ?_; rintro e v2' ⟨rfl, bv2⟩)
                  have BV2 := BV1.trans (bv2.mono BV1.size)
                  refine hK.out _ _ (.inr (KD.out _ BV2)) ?_
                  have hHeld2 := KD.out _ BV2
                  clear hK K
                  (try walk_nrm)
                  refine tk (i := 7) [] (v := ?_) ?_ ?_
                  rotate_left 1
                  · (intro w hSw; obtain ⟨m0, m1, m2, m3, m4, m5, m6, m7, m8, m9, m10, m11, m12, m13⟩ := hSw; go_simp; try (with_reducible rfl))
                  (try walk_nrm)
                  refine tk (i := 8) [] (v := ?_) ?_ ?_
                  rotate_left 1
                  · (intro w hSw; obtain ⟨m0, m1, m2, m3, m4, m5, m6, m7, m8, m9, m10, m11, m12, m13⟩ := hSw; go_simp; try (with_reducible rfl))
                  (try walk_nrm)
                  refine tk (i := 9) [] (v := ?_) ?_ ?_
                  rotate_left 1
                  · (intro w hSw; obtain ⟨m0, m1, m2, m3, m4, m5, m6, m7, m8, m9, m10, m11, m12, m13⟩ := hSw; go_simp; try (with_reducible rfl))
                  (try walk_nrm)
                  refine tk (i := 10) [] (v := ?_) ?_ ?_
                  rotate_left 1
                  · (intro w hSw; obtain ⟨m0, m1, m2, m3, m4, m5, m6, m7, m8, m9, m10, m11, m12, m13⟩ := hSw; go_simp; try (with_reducible rfl))
                  (try walk_nrm)
                  refine tk (i := 11) [] (v := ?_) ?_ ?_
                  rotate_left 1
                  · (intro w hSw; obtain ⟨m0, m1, m2, m3, m4, m5, m6, m7, m8, m9, m10, m11, m12, m13⟩ := hSw; go_simp; try (with_reducible rfl))
                  (try walk_nrm)
                  refine tk (i := 12) [] (v := ?_) ?_ ?_
                  rotate_left 1
                  · (intro w hSw; obtain ⟨m0, m1, m2, m3, m4, m5, m6, m7, m8, m9, m10, m11, m12, m13⟩ := hSw; go_simp; try (with_reducible rfl))
                  (try walk_nrm)
                  refine wpAnyX_done (by kernel_rfl) ?_ _
                  go_wp2_with fail
                  go_meet
                  exact ⟨rfl, BV2⟩
                case rest =>
                  obtain ⟨rfl, b6⟩ := hcut
                  obtain ⟨wi, rfl⟩ : ∃ z, z = wc := ⟨_, rfl⟩
                  have HX6 := Lib.hid (HX5.out.below b6 HX5.out.lt)
                  have HN6 := Lib.hid (HN5.out.below b6 HN5.out.lt)
                  have HW6 := Lib.hid (HW5.out.below b6 HW5.out.lt)
                  have HK6 := Lib.hid (HK5.out.below b6 HK5.out.lt)
                  have HB6' := Lib.hid (HB5'.out.below b6 HB5'.out.lt)
                  have HS6 := Lib.hid (HS5.out.next b6)
                  have HV6 := Lib.hid (HV5.out.next b6)
                  have HQ6 := Lib.hid (HQ5.out.next b6)
                  have HB6 := Lib.hid (HB5.out.trans (b6.mono HB5.out.size))
                  clear u0 u1 u2 u3 u4 u5 u6 v0 v1 v2 v3 v4 v5 v6 b6
                  clear HX5 HN5 HW5 HK5 HB5' HS5 HV5 HQ5 HB5
                  go_wp2_with fail
                  go_roundw
                  case rel => exact ⟨i + 1, K2, by omega, by go_num, HX6, HN6, HW6, HK6, HB6', HS6, HV6, HQ6, HB6⟩
                  case measure => simp [intOf]; omega
              · clear HBK HE1
                go_wp2_with fail
                go_roundw
                case rel => exact ⟨i + 1, K1, by omega, by go_num, HX2, HN2, HW2, HK2, HB2', HS2, HV2, HQ2, HB2⟩
                case measure => simp [intOf]; omega
            · obtain rfl : 5 = i := by omega
              have HBE := HB0
              clear HB0
              go_wp2_with fail
              go_ret
              exact ⟨rfl, HBE.out⟩

set_option maxRecDepth 100000 in
theorem lifted (os : Os) (started : os.Started) (H : Type) (enc : TypeId × Value → H) :
    ReturnsInHanded {} Try.checked os 6 .any (Rows.deltaBackSpec.pre6 enc Try.prog Try.f6 Rows.deltaBackRow.domain false) (Rows.deltaBackSpec.post enc Try.prog Try.f6 false true false false) := by
  refine returnsInHanded_of_change (C := Try.checked) own started (by kernel_rfl) Try.func6
    (ChangeSpec.witness6 (enc := enc) (C := Try.checked) false ⟨#[], #[.agg #[.int .i64 0, .int .i64 0, .int .i64 0, .int .i64 0], .slice none 0 0, .agg #[.int .i64 0, .int .i64 0, .int .i64 0, .int .i64 0, .int .i64 0, .slice none 0 0, .int .i64 0, .int .i64 0]], []⟩ 8 (by kernel_rfl) (by kernel_rfl) (by kernel_rfl) (by kernel_rfl)) ?_
  intro W base args ds gs before hval0 hW _ _
  have hval : ∀ (j : Nat) t v, Try.f6.params[j]? = some t → args[j]? = some v → Value.okWide Try.prog W .any base t v := hval0
  have hW' := hW
  obtain ⟨p, q, hA0, hV, _, _, _⟩ := hW
  have hA : DataW.TrodAll enc Try.prog W 0 (fun _ => true) true Try.f6.params.toList args.toList ds p := hA0
  rw [Try.params6] at hA hval
  obtain ⟨v0, vs0, d0, ds0, p0, q0, hargs, rfl, _, h0, r0⟩ := trodAll_cons hA
  obtain ⟨v1, vs1, d1, ds1, p1, q1, rfl, rfl, _, h1, r1⟩ := trodAll_cons r0
  obtain ⟨v2, vs2, d2, ds2, p2, q2, rfl, rfl, _, h2, r2⟩ := trodAll_cons r1
  obtain ⟨rfl, rfl, _⟩ := trodAll_nil r2
  obtain rfl : args = #[v0, v1, v2] := by cases args; simp_all
  obtain ⟨rfl, _⟩ := trodVars_none hV
  refine law_post (s := Rows.deltaBackSpec) rfl rfl (by rw [Try.params6]; intro t ht; simp at ht; rcases ht with rfl | rfl | rfl <;> exact ⟨by kernel_rfl, of_decide_eq_true (by kernel_rfl)⟩) rfl hW' ?_
  obtain ⟨cf0, rfl, tr0⟩ := open_conf (hval 0 23 v0 rfl rfl) h0
  obtain ⟨A1, c1, l1, rfl, hl1, hr1, ho1⟩ := open_reqs (hval 1 24 v1 rfl rfl) h1
  obtain ⟨x2, rfl, hx2⟩ := open_req (hval 2 45 v2 rfl rfl) h2
  exact walk W cf0 tr0 A1 c1 l1 hl1 hr1 ho1 x2 hx2

theorem over : Rows.deltaBackRow.holds Try.pinned (OpenSpec.ofChange Rows.deltaBackSpec) :=
  OpenClaim.holds_of_wide 6 Try.f6 rfl rfl rfl rfl rfl rfl rfl ⟨rfl, rfl, rfl, rfl, rfl⟩ rfl rfl rfl rfl rfl (by kernel_rfl) Try.func6 (by kernel_rfl)
    (of_decide_eq_true (by kernel_rfl)) (by unfold Func.isWrapper; first | (rw [if_pos (by decide +kernel)]; kernel_rfl) | (rw [if_neg (by decide +kernel)]; exact ⟨rfl, rfl⟩))
    (fun os started H enc _ => lifted os started H enc)

/-- The statement. -/
theorem deltaBack_holds : Rows.DeltaBackSaid := over

end Go.Proofs.Ytmmeceehfdbdoaa.LBack
