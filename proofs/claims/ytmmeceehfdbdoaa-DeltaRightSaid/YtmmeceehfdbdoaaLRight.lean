/-
  Proved: DeltaRight returns true for every number of people, tracks and subs, and every row of requests: whatever was asked for, the state is right (holds). Conditions: none.
-/
import Derived.Test.YtmmeceehfdbdoaaDaB
import Derived.Test.YtmmeceehfdbdoaaDaO
import Derived.Test.YtmmeceehfdbdoaaDaQ
import Derived.Test.YtmmeceehfdbdoaaLift
import Derived.Deep.CutBlock
import Derived.Deep.DeepCutAuto
import Derived.Test.YtmmeceehfdbdoaaHang
import Derived.Test.YtmmeceehfdbdoaaDaH
namespace Go.Proofs.Ytmmeceehfdbdoaa.LRight
open Go.ChangeShapes Go.WideShapes Go.ChangeAt Go.RowKit
open Dl
set_option linter.unusedSimpArgs false
set_option linter.unusedVariables false
set_option maxRecDepth 100000

theorem sat_weak {P R : Nat → Prop} {w : World} {s : Sm} (h : SAt (fun k => P k ∧ R k) w s) : SAt P w s := ⟨h.rp, h.rt, h.rb, h.ts, h.inv, impP h.pA, impP h.pB, impP h.pC, fun x hx => impQ (h.pS x hx)⟩
theorem qat_with {P : Nat → Prop} {w : World} {x : Qm} (h : QAt P w x) (R : Nat → Prop) (hR : ∀ k, k < w.heap.size → R k) : QAt (fun k => P k ∧ R k) w x := ⟨h.r, h.len, inq_with h.r h.p hR, h.u⟩
set_option maxHeartbeats 12800000 in
theorem walk (w : World) (c : Cf) (_tr : True) (A : Option Addr) (cc : Nat) (l : List Qm) (hl : l.length ≤ maxLen) (hr : Row w w.heap.size 8 A l.length (rowC qmV l)) (ho : ∀ a ∈ l, QOk w a) :
    Calls Try.prog 4 #[.agg #[.int .i64 c.ps, .int .i64 c.ts, .int .i64 c.bs, .int .i64 c.sl], .slice A l.length cc] w fun e w' => e = .returned (.bool true) ∧ Below w.heap.size w w' := by
  obtain ⟨n, hn⟩ : ∃ n, l.length = n := ⟨_, rfl⟩
  have HR := Lib.hid (show Row w w.heap.size 8 A l.length (qmC l) from hr)
  have HO := Lib.hid ho
  have HN := Lib.hid hn
  unfold maxLen at hl
  obtain ⟨w0, hw0⟩ : ∃ z, z = w.alloc (.cells #[.int .i64 c.ps, .int .i64 c.ts, .int .i64 c.bs, .int .i64 c.sl] 23) := ⟨_, rfl⟩
  have b0 : Below w.heap.size w w0 := by rw [hw0]; exact (Below.refl _ _).alloc (Nat.le_refl _) _
  have hC : Whole w0 w.heap.size 23 #[.int .i64 c.ps, .int .i64 c.ts, .int .i64 c.bs, .int .i64 c.sl] := by rw [hw0]; exact Whole.new w _ _
  have HC := Lib.hid hC
  have HB0 := Lib.hid b0
  have lC := hC.lt
  have CA := Lib.hid (awake18 w0)
  have CF := Lib.hid (fun w' (b : Below w.heap.size w w') => few18 A cc l w' ((HR.out.below b (Nat.le_refl _)).more b.size) (by unfold maxLen; omega))
  rw [hn] at hl CF ⊢
  clear hr ho hn b0 hC _tr
  cases hfw : fewS l with
  | false =>
    cases hcf : confL c with
    | false =>
      have CF2 := CF.out
      rw [hfw] at CF2
      have CB := fun w => begun18 c w
      rw [hcf] at CB
      simp only [if_true, if_false, Bool.false_eq_true, reduceIte] at CB
      have HCF2 := Lib.hid CF2
      have HCB := Lib.hid CB
      clear CF2 CB
      go_enter Try.func4, Try.ntmps4
      go_upto_region 1 with fail
      rw [← hw0]
      clear hw0
      go_wp2_with fail
      refine CA.out.mono ?_
      rintro e w1 ⟨rfl, b1⟩
      have HB1 := Lib.hid (HB0.out.trans (b1.mono HB0.out.size))
      have hC1 := HC.out.below b1 lC
      have lC1 := hC1.lt
      have HC1 := Lib.hid hC1
      clear b1 hC1 CA HC HB0
      go_wp2_with fail
      refine (HCF2.out w1 HB1.out).mono ?_
      rintro e w2 ⟨rfl, b2⟩
      have HB2 := Lib.hid (HB1.out.trans (b2.mono HB1.out.size))
      have hC2 := HC1.out.below b2 lC1
      have c0 := (hC2.cell 0).trans rfl
      have c1 := (hC2.cell 1).trans rfl
      have c2 := (hC2.cell 2).trans rfl
      have c3 := (hC2.cell 3).trans rfl
      have lC2 := hC2.lt
      clear b2 hC2 HCF2 HC1 HB1 CF
      go_wp2_with fail
      refine (HCB.out w2).mono ?_
      rintro e w3 ⟨rfl, b3⟩
      have HB3 := Lib.hid (HB2.out.trans (b3.mono HB2.out.size))
      clear b3 HCB HB2 c0 c1 c2 c3
      have HBF := Lib.hid (fun (o p : Obj) => (HB3.out.alloc HB3.out.size o).alloc (HB3.out.alloc HB3.out.size o).size p)
      go_wp2_with fail
      go_ret
      exact ⟨rfl, HBF.out _ _⟩
    | true =>
      have CF2 := CF.out
      rw [hfw] at CF2
      have CB := fun w => begun18 c w
      rw [hcf] at CB
      simp only [if_true, if_false, Bool.false_eq_true, reduceIte] at CB
      rw [show smA (zeroM c) = #[.int .i64 c.ps, .int .i64 c.ts, .int .i64 c.bs, .int .i64 c.sl, .slice none 0 0, .slice none 0 0, .slice none 0 0] from rfl] at CB
      have HCF2 := Lib.hid CF2
      have HCB := Lib.hid CB
      clear CF2 CB
      go_enter Try.func4, Try.ntmps4
      go_upto_region 1 with fail
      rw [← hw0]
      clear hw0
      go_wp2_with fail
      refine CA.out.mono ?_
      rintro e w1 ⟨rfl, b1⟩
      have HB1 := Lib.hid (HB0.out.trans (b1.mono HB0.out.size))
      have hC1 := HC.out.below b1 lC
      have lC1 := hC1.lt
      have HC1 := Lib.hid hC1
      clear b1 hC1 CA HC HB0
      go_wp2_with fail
      refine (HCF2.out w1 HB1.out).mono ?_
      rintro e w2 ⟨rfl, b2⟩
      have HB2 := Lib.hid (HB1.out.trans (b2.mono HB1.out.size))
      have hC2 := HC1.out.below b2 lC1
      have c0 := (hC2.cell 0).trans rfl
      have c1 := (hC2.cell 1).trans rfl
      have c2 := (hC2.cell 2).trans rfl
      have c3 := (hC2.cell 3).trans rfl
      have lC2 := hC2.lt
      clear b2 hC2 HCF2 HC1 HB1 CF
      go_wp2_with fail
      refine (HCB.out w2).mono ?_
      rintro e w3 ⟨rfl, b3⟩
      have HB3 := Lib.hid (HB2.out.trans (b3.mono HB2.out.size))
      clear b3 HCB HB2 c0 c1 c2 c3
      have HBF := Lib.hid (fun (o p : Obj) => (HB3.out.alloc HB3.out.size o).alloc (HB3.out.alloc HB3.out.size o).size p)
      go_wp2_with fail
      go_ret
      exact ⟨rfl, HBF.out _ _⟩
  | true =>
    cases hcf : confL c with
    | false =>
      have CF2 := CF.out
      rw [hfw] at CF2
      have CB := fun w => begun18 c w
      rw [hcf] at CB
      simp only [if_true, if_false, Bool.false_eq_true, reduceIte] at CB
      have HCF2 := Lib.hid CF2
      have HCB := Lib.hid CB
      clear CF2 CB
      go_enter Try.func4, Try.ntmps4
      go_upto_region 1 with fail
      rw [← hw0]
      clear hw0
      go_wp2_with fail
      refine CA.out.mono ?_
      rintro e w1 ⟨rfl, b1⟩
      have HB1 := Lib.hid (HB0.out.trans (b1.mono HB0.out.size))
      have hC1 := HC.out.below b1 lC
      have lC1 := hC1.lt
      have HC1 := Lib.hid hC1
      clear b1 hC1 CA HC HB0
      go_wp2_with fail
      refine (HCF2.out w1 HB1.out).mono ?_
      rintro e w2 ⟨rfl, b2⟩
      have HB2 := Lib.hid (HB1.out.trans (b2.mono HB1.out.size))
      have hC2 := HC1.out.below b2 lC1
      have c0 := (hC2.cell 0).trans rfl
      have c1 := (hC2.cell 1).trans rfl
      have c2 := (hC2.cell 2).trans rfl
      have c3 := (hC2.cell 3).trans rfl
      have lC2 := hC2.lt
      clear b2 hC2 HCF2 HC1 HB1 CF
      go_wp2_with fail
      refine (HCB.out w2).mono ?_
      rintro e w3 ⟨rfl, b3⟩
      have HB3 := Lib.hid (HB2.out.trans (b3.mono HB2.out.size))
      clear b3 HCB HB2 c0 c1 c2 c3
      have HBF := Lib.hid (fun (o p : Obj) => (HB3.out.alloc HB3.out.size o).alloc (HB3.out.alloc HB3.out.size o).size p)
      go_wp2_with fail
      go_ret
      exact ⟨rfl, HBF.out _ _⟩
    | true =>
      have CF2 := CF.out
      rw [hfw] at CF2
      have CB := fun w => begun18 c w
      rw [hcf] at CB
      simp only [if_true, if_false, Bool.false_eq_true, reduceIte] at CB
      rw [show smA (zeroM c) = #[.int .i64 c.ps, .int .i64 c.ts, .int .i64 c.bs, .int .i64 c.sl, .slice none 0 0, .slice none 0 0, .slice none 0 0] from rfl] at CB
      have HCF2 := Lib.hid CF2
      have HCB := Lib.hid CB
      clear CF2 CB
      go_enter Try.func4, Try.ntmps4
      go_upto_region 1 with fail
      rw [← hw0]
      clear hw0
      go_wp2_with fail
      refine CA.out.mono ?_
      rintro e w1 ⟨rfl, b1⟩
      have HB1 := Lib.hid (HB0.out.trans (b1.mono HB0.out.size))
      have hC1 := HC.out.below b1 lC
      have lC1 := hC1.lt
      have HC1 := Lib.hid hC1
      clear b1 hC1 CA HC HB0
      go_wp2_with fail
      refine (HCF2.out w1 HB1.out).mono ?_
      rintro e w2 ⟨rfl, b2⟩
      have HB2 := Lib.hid (HB1.out.trans (b2.mono HB1.out.size))
      have hC2 := HC1.out.below b2 lC1
      have c0 := (hC2.cell 0).trans rfl
      have c1 := (hC2.cell 1).trans rfl
      have c2 := (hC2.cell 2).trans rfl
      have c3 := (hC2.cell 3).trans rfl
      have lC2 := hC2.lt
      clear b2 hC2 HCF2 HC1 HB1 CF
      go_wp2_with fail
      refine (HCB.out w2).mono ?_
      rintro e w3 ⟨rfl, b3⟩
      have HB3 := Lib.hid (HB2.out.trans (b3.mono HB2.out.size))
      clear b3 HCB HB2 c0 c1 c2 c3
      obtain ⟨N, hN⟩ : ∃ N, w3.heap.size = N := ⟨_, rfl⟩
      obtain ⟨w4, hw4⟩ : ∃ z, z = (w3.alloc (.cells #[.int .i64 c.ps, .int .i64 c.ts, .int .i64 c.bs, .int .i64 c.sl, .slice none 0 0, .slice none 0 0, .slice none 0 0] 31)).alloc (.cells #[.int .i64 c.ps, .int .i64 c.ts, .int .i64 c.bs, .int .i64 c.sl, .slice none 0 0, .slice none 0 0, .slice none 0 0] 37) := ⟨_, rfl⟩
      have W4 : Whole w4 N 31 (smA (zeroM c)) := by rw [hw4, ← hN]; exact (Whole.new w3 _ _).alloc _
      have HW4 := Lib.hid W4
      have hlo : w.heap.size ≤ N := by rw [← hN]; exact HB3.out.size
      have HB4 := Lib.hid (show Below w.heap.size w w4 by rw [hw4]; exact (HB3.out.alloc HB3.out.size _).alloc (HB3.out.alloc HB3.out.size _).size _)
      have HS4 := Lib.hid (zero_sat (fun k => k ≠ N) hcf w4)
      go_upto_region 6 with fail
      rw [← hw4]
      clear hw4 hN W4 HB3
      go_wp2_with fail
      go_loopw [10] (fun i wr => ∃ (k : Nat) (s : Sm), k ≤ n ∧ i = .int .i64 (k : Int) ∧ Hid (Whole wr N 31 (smA s)) ∧ Hid (SAt (fun k => k ≠ N) wr s) ∧ Hid (Below w.heap.size w wr)) (fun i _ => n - (intOf i).toNat)
      case atStart => exact ⟨0, zeroM c, Nat.zero_le _, rfl, HW4, HS4, HB4⟩
      case round =>
        obtain ⟨k, s, hk, rfl, HW, HS, HB⟩ := hrel
        clear HW4 HS4 HB4
        by_cases hlt : k < n
        · obtain ⟨x, hx⟩ : ∃ x, l[k]? = some x := ⟨_, List.getElem?_eq_getElem (by rw [HN.out]; exact hlt)⟩
          obtain ⟨ga, oa, rfl, hga, hca⟩ := HR.out.2 (by rw [HN.out]; omega)
          have hxo := HO.out x (List.mem_of_getElem? hx)
          have HX := Lib.hid hx
          obtain ⟨q, QA, qc⟩ := x
          have lga : ga < wr.heap.size := by have := HB.out.size; omega
          have a0 := (HB.out.cell (p := ⟨ga, oa + k * 8, none⟩) hga).trans (by have := hca _ _ ((qmC_get hx 0 (by decide)).trans rfl); simpa [Nat.add_assoc] using this)
          have a1 := (HB.out.cell (p := ⟨ga, oa + k * 8 + 1, none⟩) hga).trans (by have := hca _ _ ((qmC_get hx 1 (by decide)).trans rfl); simpa [Nat.add_assoc] using this)
          have a2 := (HB.out.cell (p := ⟨ga, oa + k * 8 + 2, none⟩) hga).trans (by have := hca _ _ ((qmC_get hx 2 (by decide)).trans rfl); simpa [Nat.add_assoc] using this)
          have a3 := (HB.out.cell (p := ⟨ga, oa + k * 8 + 3, none⟩) hga).trans (by have := hca _ _ ((qmC_get hx 3 (by decide)).trans rfl); simpa [Nat.add_assoc] using this)
          have a4 := (HB.out.cell (p := ⟨ga, oa + k * 8 + 4, none⟩) hga).trans (by have := hca _ _ ((qmC_get hx 4 (by decide)).trans rfl); simpa [Nat.add_assoc] using this)
          have a5 := (HB.out.cell (p := ⟨ga, oa + k * 8 + 5, none⟩) hga).trans (by have := hca _ _ ((qmC_get hx 5 (by decide)).trans rfl); simpa [Nat.add_assoc] using this)
          have a6 := (HB.out.cell (p := ⟨ga, oa + k * 8 + 6, none⟩) hga).trans (by have := hca _ _ ((qmC_get hx 6 (by decide)).trans rfl); simpa [Nat.add_assoc] using this)
          have a7 := (HB.out.cell (p := ⟨ga, oa + k * 8 + 7, none⟩) hga).trans (by have := hca _ _ ((qmC_get hx 7 (by decide)).trans rfl); simpa [Nat.add_assoc] using this)
          try dsimp only at a0 a1 a2 a3 a4 a5 a6 a7
          have i0 : (0 : Int) ≤ (k : Int) := by omega
          have i1 : (k : Int) < (n : Int) := by omega
          have HQA := Lib.hid (show QAt (fun k => k ≠ N) wr ⟨q, QA, qc⟩ from ⟨(hxo.row.below HB.out (Nat.le_refl _)).more HB.out.size, by have h8 := (List.all_eq_true.mp (by unfold fewS at hfw; exact (Bool.and_eq_true_iff.mp hfw).1)) _ (List.mem_of_getElem? HX.out); simp only [decide_eq_true_eq] at h8; dsimp only at h8 ⊢; omega, ⟨fun h0 a ha e => by have h9 := (hxo.row.2 h0); obtain ⟨g9, o9, e9, l9, _⟩ := h9; rw [e9] at ha; injection ha with ha; subst ha; have e2 : g9 = N := e; omega, hxo.le, hxo.cap⟩, fun y hy => (hxo.u y hy).1⟩)
          have hW := HW.out
          have g0 : wr.cell? ⟨N, 0, none⟩ = some (.int .i64 s.X.cf.ps) := (hW.cell 0).trans rfl
          have g1 : wr.cell? ⟨N, 1, none⟩ = some (.int .i64 s.X.cf.ts) := (hW.cell 1).trans rfl
          have g2 : wr.cell? ⟨N, 2, none⟩ = some (.int .i64 s.X.cf.bs) := (hW.cell 2).trans rfl
          have g3 : wr.cell? ⟨N, 3, none⟩ = some (.int .i64 s.X.cf.sl) := (hW.cell 3).trans rfl
          have g4 : wr.cell? ⟨N, 4, none⟩ = some (.slice s.A s.X.ps.length s.a) := (hW.cell 4).trans rfl
          have g5 : wr.cell? ⟨N, 5, none⟩ = some (.slice s.B s.T.length s.b) := (hW.cell 5).trans rfl
          have g6 : wr.cell? ⟨N, 6, none⟩ = some (.slice s.C s.X.bs.length s.c) := (hW.cell 6).trans rfl
          have lN := hW.lt
          clear hW hca hxo hx
          have KD := Lib.hid (fun w' (b' : Below wr.heap.size wr w') => show (fun w' => w'.cell? ⟨N, 0, none⟩ = some (.int .i64 s.X.cf.ps) ∧ w'.cell? ⟨N, 1, none⟩ = some (.int .i64 s.X.cf.ts) ∧ w'.cell? ⟨N, 2, none⟩ = some (.int .i64 s.X.cf.bs) ∧ w'.cell? ⟨N, 3, none⟩ = some (.int .i64 s.X.cf.sl) ∧ w'.cell? ⟨N, 4, none⟩ = some (.slice s.A s.X.ps.length s.a) ∧ w'.cell? ⟨N, 5, none⟩ = some (.slice s.B s.T.length s.b) ∧ w'.cell? ⟨N, 6, none⟩ = some (.slice s.C s.X.bs.length s.c) ∧ w'.cell? ⟨ga, oa + k * 8, none⟩ = some (.int .i64 q.kind) ∧ w'.cell? ⟨ga, oa + k * 8 + 1, none⟩ = some (.int .i64 q.who) ∧ w'.cell? ⟨ga, oa + k * 8 + 2, none⟩ = some (.int .i64 q.room) ∧ w'.cell? ⟨ga, oa + k * 8 + 3, none⟩ = some (.int .i64 q.rights) ∧ w'.cell? ⟨ga, oa + k * 8 + 4, none⟩ = some (.int .i64 q.track) ∧ w'.cell? ⟨ga, oa + k * 8 + 5, none⟩ = some (.slice QA q.ss.length qc) ∧ w'.cell? ⟨ga, oa + k * 8 + 6, none⟩ = some (.int .i64 q.layer) ∧ w'.cell? ⟨ga, oa + k * 8 + 7, none⟩ = some (.int .i64 q.tid)) w' from ⟨(b'.cell (p := ⟨N, 0, none⟩) lN).trans g0, (b'.cell (p := ⟨N, 1, none⟩) lN).trans g1, (b'.cell (p := ⟨N, 2, none⟩) lN).trans g2, (b'.cell (p := ⟨N, 3, none⟩) lN).trans g3, (b'.cell (p := ⟨N, 4, none⟩) lN).trans g4, (b'.cell (p := ⟨N, 5, none⟩) lN).trans g5, (b'.cell (p := ⟨N, 6, none⟩) lN).trans g6, (b'.cell (p := ⟨ga, oa + k * 8, none⟩) lga).trans a0, (b'.cell (p := ⟨ga, oa + k * 8 + 1, none⟩) lga).trans a1, (b'.cell (p := ⟨ga, oa + k * 8 + 2, none⟩) lga).trans a2, (b'.cell (p := ⟨ga, oa + k * 8 + 3, none⟩) lga).trans a3, (b'.cell (p := ⟨ga, oa + k * 8 + 4, none⟩) lga).trans a4, (b'.cell (p := ⟨ga, oa + k * 8 + 5, none⟩) lga).trans a5, (b'.cell (p := ⟨ga, oa + k * 8 + 6, none⟩) lga).trans a6, (b'.cell (p := ⟨ga, oa + k * 8 + 7, none⟩) lga).trans a7⟩)
          have CD := Lib.hid (fun (P' : Nat → Prop) w' (hs' : SAt P' w' s) (hq' : QAt P' w' ⟨q, QA, qc⟩) (hp' : ∀ k, w'.heap.size ≤ k → P' k) => (show Calls Try.prog 12 #[.agg #[.int .i64 s.X.cf.ps, .int .i64 s.X.cf.ts, .int .i64 s.X.cf.bs, .int .i64 s.X.cf.sl, .slice s.A s.X.ps.length s.a, .slice s.B s.T.length s.b, .slice s.C s.X.bs.length s.c], .agg #[.int .i64 q.kind, .int .i64 q.who, .int .i64 q.room, .int .i64 q.rights, .int .i64 q.track, .slice QA q.ss.length qc, .int .i64 q.layer, .int .i64 q.tid]] w' (fun e w'' => Below w'.heap.size w' w'' ∧ ∃ t : Sm, t.X = (doS s.X q).1 ∧ SAt P' w'' t ∧ e = .returned (.tuple #[.agg #[.int .i64 t.X.cf.ps, .int .i64 t.X.cf.ts, .int .i64 t.X.cf.bs, .int .i64 t.X.cf.sl, .slice t.A t.X.ps.length t.a, .slice t.B t.T.length t.b, .slice t.C t.X.bs.length t.c], .int .i64 (doS s.X q).2])) from cdo_any P' s ⟨q, QA, qc⟩ w' hs' hq' hp'))
          go_upto_region 11 with fail
          go_cut [11, 12] (fun v1 v2 wx => ∃ (M : Nat) (t : Sm), v1 = .pointer (some ⟨M, 0, none⟩) ∧ v2 = .int .i64 (doS s.X q).2 ∧ wr.heap.size ≤ M ∧ Whole wx M 31 (smA t) ∧ t.X = (doS s.X q).1 ∧ SAt (fun k => k ≠ N) wx t ∧ Below wr.heap.size wr wx)
          case first =>
            refine wp_region_X (S := fun w' => w'.cell? ⟨N, 0, none⟩ = some (.int .i64 s.X.cf.ps) ∧ w'.cell? ⟨N, 1, none⟩ = some (.int .i64 s.X.cf.ts) ∧ w'.cell? ⟨N, 2, none⟩ = some (.int .i64 s.X.cf.bs) ∧ w'.cell? ⟨N, 3, none⟩ = some (.int .i64 s.X.cf.sl) ∧ w'.cell? ⟨N, 4, none⟩ = some (.slice s.A s.X.ps.length s.a) ∧ w'.cell? ⟨N, 5, none⟩ = some (.slice s.B s.T.length s.b) ∧ w'.cell? ⟨N, 6, none⟩ = some (.slice s.C s.X.bs.length s.c) ∧ w'.cell? ⟨ga, oa + k * 8, none⟩ = some (.int .i64 q.kind) ∧ w'.cell? ⟨ga, oa + k * 8 + 1, none⟩ = some (.int .i64 q.who) ∧ w'.cell? ⟨ga, oa + k * 8 + 2, none⟩ = some (.int .i64 q.room) ∧ w'.cell? ⟨ga, oa + k * 8 + 3, none⟩ = some (.int .i64 q.rights) ∧ w'.cell? ⟨ga, oa + k * 8 + 4, none⟩ = some (.int .i64 q.track) ∧ w'.cell? ⟨ga, oa + k * 8 + 5, none⟩ = some (.slice QA q.ss.length qc) ∧ w'.cell? ⟨ga, oa + k * 8 + 6, none⟩ = some (.int .i64 q.layer) ∧ w'.cell? ⟨ga, oa + k * 8 + 7, none⟩ = some (.int .i64 q.tid)) [] (by kernel_rfl) (KD.out _ (Below.refl _ _).drew) (fun hHeld0 => ?_)
            refine wpAnyX_take (i := 0) [] (v := ?_) rfl (by kernel_rfl) (by kernel_rfl) (by kernel_rfl) (by kernel_rfl) (fun _ _ _ h => h) (Or.inl ⟨by kernel_rfl, ?_⟩) (by assumption) ?_
            rotate_left 1
            · (intro w hSw; obtain ⟨m0, m1, m2, m3, m4, m5, m6, m7, m8, m9, m10, m11, m12, m13, m14⟩ := hSw; go_simp; try (with_reducible rfl))
            (try simp only [Act.put, List.getElem_toArray, List.getElem_cons_succ, List.getElem_cons_zero, List.setIfInBounds_toArray, List.set_cons_zero, List.set_cons_succ])
            refine wpAnyX_take (i := 1) [] (v := ?_) rfl (by kernel_rfl) (by kernel_rfl) (by kernel_rfl) (by kernel_rfl) (fun _ _ _ h => h) (Or.inl ⟨by kernel_rfl, ?_⟩) (by assumption) ?_
            rotate_left 1
            · (intro w hSw; obtain ⟨m0, m1, m2, m3, m4, m5, m6, m7, m8, m9, m10, m11, m12, m13, m14⟩ := hSw; go_simp; try (with_reducible rfl))
            (try simp only [Act.put, List.getElem_toArray, List.getElem_cons_succ, List.getElem_cons_zero, List.setIfInBounds_toArray, List.set_cons_zero, List.set_cons_succ])
            refine wpAnyX_take (i := 2) [] (v := ?_) rfl (by kernel_rfl) (by kernel_rfl) (by kernel_rfl) (by kernel_rfl) (fun _ _ _ h => h) (Or.inl ⟨by kernel_rfl, ?_⟩) (by assumption) ?_
            rotate_left 1
            · (intro w hSw; obtain ⟨m0, m1, m2, m3, m4, m5, m6, m7, m8, m9, m10, m11, m12, m13, m14⟩ := hSw; go_simp; try (with_reducible rfl))
            (try simp only [Act.put, List.getElem_toArray, List.getElem_cons_succ, List.getElem_cons_zero, List.setIfInBounds_toArray, List.set_cons_zero, List.set_cons_succ])
            refine wpAnyX_take (i := 3) [] (v := ?_) rfl (by kernel_rfl) (by kernel_rfl) (by kernel_rfl) (by kernel_rfl) (fun _ _ _ h => h) (Or.inl ⟨by kernel_rfl, ?_⟩) (by assumption) ?_
            rotate_left 1
            · (intro w hSw; obtain ⟨m0, m1, m2, m3, m4, m5, m6, m7, m8, m9, m10, m11, m12, m13, m14⟩ := hSw; go_simp; try (with_reducible rfl))
            (try simp only [Act.put, List.getElem_toArray, List.getElem_cons_succ, List.getElem_cons_zero, List.setIfInBounds_toArray, List.set_cons_zero, List.set_cons_succ])
            refine wpAnyX_take (i := 4) [] (v := ?_) rfl (by kernel_rfl) (by kernel_rfl) (by kernel_rfl) (by kernel_rfl) (fun _ _ _ h => h) (Or.inl ⟨by kernel_rfl, ?_⟩) (by assumption) ?_
            rotate_left 1
            · (intro w hSw; obtain ⟨m0, m1, m2, m3, m4, m5, m6, m7, m8, m9, m10, m11, m12, m13, m14⟩ := hSw; go_simp; try (with_reducible rfl))
            (try simp only [Act.put, List.getElem_toArray, List.getElem_cons_succ, List.getElem_cons_zero, List.setIfInBounds_toArray, List.set_cons_zero, List.set_cons_succ])
            refine wpAnyX_two 5 9 (by kernel_rfl) rfl rfl (fun K hK => ?_) (fun K hK => ?_)
            · go_simp
              go_wp2_with (refine (CD.out (fun k => k ≠ N) wr.drew (HS.out.next (Below.refl wr.heap.size wr).drew) (HQA.out.next (Below.refl wr.heap.size wr).drew) (fun k hk => by have h9 : wr.heap.size ≤ k := hk; omega)).mono ?_; rintro e v1 ⟨bv1, t, hX, hT, rfl⟩; replace hX := Lib.hid hX)
              have BV1 := (Below.refl wr.heap.size wr).drew.trans (bv1.mono (Below.refl wr.heap.size wr).drew.size)
              refine hK.out _ _ (.inr (KD.out _ BV1)) ?_
              have hHeld1 := KD.out _ BV1
              clear hK K
              (try simp only [Act.put, List.getElem_toArray, List.getElem_cons_succ, List.getElem_cons_zero, List.setIfInBounds_toArray, List.set_cons_zero, List.set_cons_succ])
              refine wpAnyX_take (i := 6) [] (v := ?_) rfl (by kernel_rfl) (by kernel_rfl) (by kernel_rfl) (by kernel_rfl) (fun _ _ _ h => h) (Or.inl ⟨by kernel_rfl, ?_⟩) (by assumption) ?_
              rotate_left 1
              · (intro w hSw; obtain ⟨m0, m1, m2, m3, m4, m5, m6, m7, m8, m9, m10, m11, m12, m13, m14⟩ := hSw; go_simp; try (with_reducible rfl))
              (try simp only [Act.put, List.getElem_toArray, List.getElem_cons_succ, List.getElem_cons_zero, List.setIfInBounds_toArray, List.set_cons_zero, List.set_cons_succ])
              refine wpAnyX_take (i := 7) [] (v := ?_) rfl (by kernel_rfl) (by kernel_rfl) (by kernel_rfl) (by kernel_rfl) (fun _ _ _ h => h) (Or.inl ⟨by kernel_rfl, ?_⟩) (by assumption) ?_
              rotate_left 1
              · (intro w hSw; obtain ⟨m0, m1, m2, m3, m4, m5, m6, m7, m8, m9, m10, m11, m12, m13, m14⟩ := hSw; go_simp; try (with_reducible rfl))
              (try simp only [Act.put, List.getElem_toArray, List.getElem_cons_succ, List.getElem_cons_zero, List.setIfInBounds_toArray, List.set_cons_zero, List.set_cons_succ])
              refine wpAnyX_take (i := 8) [] (v := ?_) rfl (by kernel_rfl) (by kernel_rfl) (by kernel_rfl) (by kernel_rfl) (fun _ _ _ h => h) (Or.inl ⟨by kernel_rfl, ?_⟩) (by assumption) ?_
              rotate_left 1
              · (intro w hSw; obtain ⟨m0, m1, m2, m3, m4, m5, m6, m7, m8, m9, m10, m11, m12, m13, m14⟩ := hSw; go_simp; try (with_reducible rfl))
              (try simp only [Act.put, List.getElem_toArray, List.getElem_cons_succ, List.getElem_cons_zero, List.setIfInBounds_toArray, List.set_cons_zero, List.set_cons_succ])
              refine wpAnyX_one 9 (by kernel_rfl) rfl (fun K hK => ?_)
              go_simp
              have BV2 : Below wr.heap.size wr (v1.alloc (.cells #[.int .i64 0, .int .i64 0, .int .i64 0, .int .i64 0, .slice none 0 0, .slice none 0 0, .slice none 0 0] 31)) := BV1.alloc BV1.size _
              have NB : Whole (v1.alloc (.cells #[.int .i64 0, .int .i64 0, .int .i64 0, .int .i64 0, .slice none 0 0, .slice none 0 0, .slice none 0 0] 31)) v1.heap.size 31 #[.int .i64 0, .int .i64 0, .int .i64 0, .int .i64 0, .slice none 0 0, .slice none 0 0, .slice none 0 0] := Whole.new v1 _ _
              refine hK.out _ _ (.inr (KD.out _ BV2)) ?_
              have hHeld2 := KD.out _ BV2
              clear hK K
              (try simp only [Act.put, List.getElem_toArray, List.getElem_cons_succ, List.getElem_cons_zero, List.setIfInBounds_toArray, List.set_cons_zero, List.set_cons_succ])
              refine wpAnyX_one 10 (by kernel_rfl) rfl (fun K hK => ?_)
              have z0 := NB.cell 0
              have z1 := NB.cell 1
              have z2 := NB.cell 2
              have z3 := NB.cell 3
              have z4 := NB.cell 4
              have z5 := NB.cell 5
              have z6 := NB.cell 6
              have y0 := NB.free 0
              have y1 := NB.free 1
              have y2 := NB.free 2
              have y3 := NB.free 3
              have y4 := NB.free 4
              have y5 := NB.free 5
              have y6 := NB.free 6
              have lz := NB.lt
              go_simp
              have BF : Below wr.heap.size wr (v1.alloc (.cells #[.int .i64 t.X.cf.ps, .int .i64 t.X.cf.ts, .int .i64 t.X.cf.bs, .int .i64 t.X.cf.sl, .slice t.A t.X.ps.length t.a, .slice t.B t.T.length t.b, .slice t.C t.X.bs.length t.c] 31)) := BV1.alloc BV1.size _
              refine hK.out _ _ (.inr (KD.out _ BF)) ?_
              have hHeld3 := KD.out _ BF
              clear hK K z0 z1 z2 z3 z4 z5 z6 y0 y1 y2 y3 y4 y5 y6 lz
              (try simp only [Act.put, List.getElem_toArray, List.getElem_cons_succ, List.getElem_cons_zero, List.setIfInBounds_toArray, List.set_cons_zero, List.set_cons_succ])
              refine wpAnyX_take (i := 11) [] (v := ?_) rfl (by kernel_rfl) (by kernel_rfl) (by kernel_rfl) (by kernel_rfl) (fun _ _ _ h => h) (Or.inl ⟨by kernel_rfl, ?_⟩) (by assumption) ?_
              rotate_left 1
              · (intro w hSw; obtain ⟨m0, m1, m2, m3, m4, m5, m6, m7, m8, m9, m10, m11, m12, m13, m14⟩ := hSw; go_simp; try (with_reducible rfl))
              (try simp only [Act.put, List.getElem_toArray, List.getElem_cons_succ, List.getElem_cons_zero, List.setIfInBounds_toArray, List.set_cons_zero, List.set_cons_succ])
              refine wpAnyX_done (by kernel_rfl) ?_ _
              go_wp2_with fail
              go_meet
              exact ⟨_, t, rfl, rfl, BV1.size, Whole.new v1 _ _, hX.out, hT.next ((Below.refl _ _).alloc (Nat.le_refl _) _), BF⟩
            · go_simp
              obtain ⟨v1, hv1⟩ : ∃ z, z = (wr.alloc (.cells #[.int .i64 0, .int .i64 0, .int .i64 0, .int .i64 0, .slice none 0 0, .slice none 0 0, .slice none 0 0] 31)).drew := ⟨_, rfl⟩
              have BV1 : Below wr.heap.size wr v1 := by rw [hv1]; exact ((Below.refl _ _).alloc (Nat.le_refl _) _).drew
              have NB : Whole v1 wr.heap.size 31 #[.int .i64 0, .int .i64 0, .int .i64 0, .int .i64 0, .slice none 0 0, .slice none 0 0, .slice none 0 0] := by rw [hv1]; exact (Whole.new wr _ _).drew
              rw [← hv1]
              clear hv1
              refine hK.out _ _ (.inr (KD.out _ BV1)) ?_
              have hHeld1 := KD.out _ BV1
              clear hK K
              (try simp only [Act.put, List.getElem_toArray, List.getElem_cons_succ, List.getElem_cons_zero, List.setIfInBounds_toArray, List.set_cons_zero, List.set_cons_succ])
              have lb1 := NB.lt
              refine wpAnyX_one 5 (by kernel_rfl) rfl (fun K hK => ?_)
              go_simp
              go_wp2_with (refine (CD.out (fun k => (fun k => k ≠ N) k ∧ (fun k => k ≠ wr.heap.size) k) v1 ((SAt.with HS.out (fun k => k ≠ wr.heap.size) (fun k hk e => by omega)).next BV1) ((qat_with HQA.out (fun k => k ≠ wr.heap.size) (fun k hk e => by omega)).next BV1) (fun k hk => ⟨by have h9 := BV1.size; omega, fun e => by omega⟩)).mono ?_; rintro e v2 ⟨bv2, t, hX, hT, rfl⟩; replace hX := Lib.hid hX)
              have BV2 := BV1.trans (bv2.mono BV1.size)
              refine hK.out _ _ (.inr (KD.out _ BV2)) ?_
              have hHeld2 := KD.out _ BV2
              clear hK K
              (try simp only [Act.put, List.getElem_toArray, List.getElem_cons_succ, List.getElem_cons_zero, List.setIfInBounds_toArray, List.set_cons_zero, List.set_cons_succ])
              have NB2 := NB.below bv2 NB.lt
              refine wpAnyX_take (i := 6) [] (v := ?_) rfl (by kernel_rfl) (by kernel_rfl) (by kernel_rfl) (by kernel_rfl) (fun _ _ _ h => h) (Or.inl ⟨by kernel_rfl, ?_⟩) (by assumption) ?_
              rotate_left 1
              · (intro w hSw; obtain ⟨m0, m1, m2, m3, m4, m5, m6, m7, m8, m9, m10, m11, m12, m13, m14⟩ := hSw; go_simp; try (with_reducible rfl))
              (try simp only [Act.put, List.getElem_toArray, List.getElem_cons_succ, List.getElem_cons_zero, List.setIfInBounds_toArray, List.set_cons_zero, List.set_cons_succ])
              refine wpAnyX_take (i := 7) [] (v := ?_) rfl (by kernel_rfl) (by kernel_rfl) (by kernel_rfl) (by kernel_rfl) (fun _ _ _ h => h) (Or.inl ⟨by kernel_rfl, ?_⟩) (by assumption) ?_
              rotate_left 1
              · (intro w hSw; obtain ⟨m0, m1, m2, m3, m4, m5, m6, m7, m8, m9, m10, m11, m12, m13, m14⟩ := hSw; go_simp; try (with_reducible rfl))
              (try simp only [Act.put, List.getElem_toArray, List.getElem_cons_succ, List.getElem_cons_zero, List.setIfInBounds_toArray, List.set_cons_zero, List.set_cons_succ])
              refine wpAnyX_take (i := 8) [] (v := ?_) rfl (by kernel_rfl) (by kernel_rfl) (by kernel_rfl) (by kernel_rfl) (fun _ _ _ h => h) (Or.inl ⟨by kernel_rfl, ?_⟩) (by assumption) ?_
              rotate_left 1
              · (intro w hSw; obtain ⟨m0, m1, m2, m3, m4, m5, m6, m7, m8, m9, m10, m11, m12, m13, m14⟩ := hSw; go_simp; try (with_reducible rfl))
              (try simp only [Act.put, List.getElem_toArray, List.getElem_cons_succ, List.getElem_cons_zero, List.setIfInBounds_toArray, List.set_cons_zero, List.set_cons_succ])
              refine wpAnyX_one 10 (by kernel_rfl) rfl (fun K hK => ?_)
              have z0 := NB2.cell 0
              have z1 := NB2.cell 1
              have z2 := NB2.cell 2
              have z3 := NB2.cell 3
              have z4 := NB2.cell 4
              have z5 := NB2.cell 5
              have z6 := NB2.cell 6
              have y0 := NB2.free 0
              have y1 := NB2.free 1
              have y2 := NB2.free 2
              have y3 := NB2.free 3
              have y4 := NB2.free 4
              have y5 := NB2.free 5
              have y6 := NB2.free 6
              have lz := NB2.lt
              go_simp
              have BF : Below wr.heap.size wr (sets7 v2 wr.heap.size (.int .i64 t.X.cf.ps) (.int .i64 t.X.cf.ts) (.int .i64 t.X.cf.bs) (.int .i64 t.X.cf.sl) (.slice t.A t.X.ps.length t.a) (.slice t.B t.T.length t.b) (.slice t.C t.X.bs.length t.c)) := sets7_below BV2 (Nat.le_refl _)
              refine hK.out _ _ (.inr (KD.out _ BF)) ?_
              have hHeld3 := KD.out _ BF
              clear hK K z0 z1 z2 z3 z4 z5 z6 y0 y1 y2 y3 y4 y5 y6 lz
              (try simp only [Act.put, List.getElem_toArray, List.getElem_cons_succ, List.getElem_cons_zero, List.setIfInBounds_toArray, List.set_cons_zero, List.set_cons_succ])
              refine wpAnyX_take (i := 11) [] (v := ?_) rfl (by kernel_rfl) (by kernel_rfl) (by kernel_rfl) (by kernel_rfl) (fun _ _ _ h => h) (Or.inl ⟨by kernel_rfl, ?_⟩) (by assumption) ?_
              rotate_left 1
              · (intro w hSw; obtain ⟨m0, m1, m2, m3, m4, m5, m6, m7, m8, m9, m10, m11, m12, m13, m14⟩ := hSw; go_simp; try (with_reducible rfl))
              (try simp only [Act.put, List.getElem_toArray, List.getElem_cons_succ, List.getElem_cons_zero, List.setIfInBounds_toArray, List.set_cons_zero, List.set_cons_succ])
              refine wpAnyX_done (by kernel_rfl) ?_ _
              go_wp2_with fail
              go_meet
              exact ⟨_, t, rfl, rfl, Nat.le_refl _, sets7_whole NB2 rfl, hX.out, sat_weak (sets7_sat hT (fun h => h.2 rfl)), BF⟩
          case rest =>
            obtain ⟨M, t, rfl, rfl, hM, hWM, hX, hT, bc⟩ := hcut
            obtain ⟨wz, rfl⟩ : ∃ z, z = wc := ⟨_, rfl⟩
            clear hX
            have HT := Lib.hid hT
            have HWN := Lib.hid (HW.out.below bc lN)
            have HBz := Lib.hid (HB.out.trans (bc.mono HB.out.size))
            have hMN : M ≠ N := by omega
            have hNM : N ≠ M := by omega
            have HWM := Lib.hid hWM
            have lM := hWM.lt
            obtain ⟨mp, hmp⟩ : ∃ z, t.X.ps.length = z := ⟨_, rfl⟩
            obtain ⟨mt, hmt⟩ : ∃ z, t.T.length = z := ⟨_, rfl⟩
            obtain ⟨mb, hmb⟩ : ∃ z, t.X.bs.length = z := ⟨_, rfl⟩
            have HTM := Lib.hid (show #[.int .i64 t.X.cf.ps, .int .i64 t.X.cf.ts, .int .i64 t.X.cf.bs, .int .i64 t.X.cf.sl, .slice t.A mp t.a, .slice t.B mt t.b, .slice t.C mb t.c] = smA t from by unfold smA; rw [hmp, hmt, hmb])
            clear hmp hmt hmb
            have z0 : wz.cell? ⟨M, 0, none⟩ = some (.int .i64 t.X.cf.ps) := (HWM.out.cell 0).trans (by rw [← HTM.out]; rfl)
            have z1 : wz.cell? ⟨M, 1, none⟩ = some (.int .i64 t.X.cf.ts) := (HWM.out.cell 1).trans (by rw [← HTM.out]; rfl)
            have z2 : wz.cell? ⟨M, 2, none⟩ = some (.int .i64 t.X.cf.bs) := (HWM.out.cell 2).trans (by rw [← HTM.out]; rfl)
            have z3 : wz.cell? ⟨M, 3, none⟩ = some (.int .i64 t.X.cf.sl) := (HWM.out.cell 3).trans (by rw [← HTM.out]; rfl)
            have z4 : wz.cell? ⟨M, 4, none⟩ = some (.slice t.A mp t.a) := (HWM.out.cell 4).trans (by rw [← HTM.out]; rfl)
            have z5 : wz.cell? ⟨M, 5, none⟩ = some (.slice t.B mt t.b) := (HWM.out.cell 5).trans (by rw [← HTM.out]; rfl)
            have z6 : wz.cell? ⟨M, 6, none⟩ = some (.slice t.C mb t.c) := (HWM.out.cell 6).trans (by rw [← HTM.out]; rfl)
            clear g0 g1 g2 g3 g4 g5 g6
            have g0 : wz.cell? ⟨N, 0, none⟩ = some (.int .i64 s.X.cf.ps) := (HWN.out.cell 0).trans rfl
            have g1 : wz.cell? ⟨N, 1, none⟩ = some (.int .i64 s.X.cf.ts) := (HWN.out.cell 1).trans rfl
            have g2 : wz.cell? ⟨N, 2, none⟩ = some (.int .i64 s.X.cf.bs) := (HWN.out.cell 2).trans rfl
            have g3 : wz.cell? ⟨N, 3, none⟩ = some (.int .i64 s.X.cf.sl) := (HWN.out.cell 3).trans rfl
            have g4 : wz.cell? ⟨N, 4, none⟩ = some (.slice s.A s.X.ps.length s.a) := (HWN.out.cell 4).trans rfl
            have g5 : wz.cell? ⟨N, 5, none⟩ = some (.slice s.B s.T.length s.b) := (HWN.out.cell 5).trans rfl
            have g6 : wz.cell? ⟨N, 6, none⟩ = some (.slice s.C s.X.bs.length s.c) := (HWN.out.cell 6).trans rfl
            clear hWM hT bc a0 a1 a2 a3 a4 a5 a6 a7 KD CD HQA
            have f0 := HWN.out.free 0
            have f1 := HWN.out.free 1
            have f2 := HWN.out.free 2
            have f3 := HWN.out.free 3
            have f4 := HWN.out.free 4
            have f5 := HWN.out.free 5
            have f6 := HWN.out.free 6
            have lNz := HWN.out.lt
            obtain ⟨wy, hwy⟩ : ∃ z, z = (sets7 wz N (.int .i64 t.X.cf.ps) (.int .i64 t.X.cf.ts) (.int .i64 t.X.cf.bs) (.int .i64 t.X.cf.sl) (.slice t.A mp t.a) (.slice t.B mt t.b) (.slice t.C mb t.c)) := ⟨_, rfl⟩
            have HNy := Lib.hid (show Whole wy N 31 (smA t) by rw [hwy, ← HTM.out]; exact sets7_whole HWN.out rfl)
            have HTy := Lib.hid (show SAt (fun k => k ≠ N) wy t by rw [hwy]; exact sets7_sat HT.out (fun h => h rfl))
            have HBy := Lib.hid (show Below w.heap.size w wy by rw [hwy]; exact sets7_below HBz.out hlo)
            have hwy2 := hwy
            unfold sets7 at hwy2
            clear hwy
            go_upto_region 13 with fail
            rw [← hwy2]
            clear hwy2 f0 f1 f2 f3 f4 f5 f6 g0 g1 g2 g3 g4 g5 g6 z0 z1 z2 z3 z4 z5 z6 HWM HWN HT HBz
            have g0 : wy.cell? ⟨N, 0, none⟩ = some (.int .i64 t.X.cf.ps) := (HNy.out.cell 0).trans (by rw [← HTM.out]; rfl)
            have g1 : wy.cell? ⟨N, 1, none⟩ = some (.int .i64 t.X.cf.ts) := (HNy.out.cell 1).trans (by rw [← HTM.out]; rfl)
            have g2 : wy.cell? ⟨N, 2, none⟩ = some (.int .i64 t.X.cf.bs) := (HNy.out.cell 2).trans (by rw [← HTM.out]; rfl)
            have g3 : wy.cell? ⟨N, 3, none⟩ = some (.int .i64 t.X.cf.sl) := (HNy.out.cell 3).trans (by rw [← HTM.out]; rfl)
            have g4 : wy.cell? ⟨N, 4, none⟩ = some (.slice t.A mp t.a) := (HNy.out.cell 4).trans (by rw [← HTM.out]; rfl)
            have g5 : wy.cell? ⟨N, 5, none⟩ = some (.slice t.B mt t.b) := (HNy.out.cell 5).trans (by rw [← HTM.out]; rfl)
            have g6 : wy.cell? ⟨N, 6, none⟩ = some (.slice t.C mb t.c) := (HNy.out.cell 6).trans (by rw [← HTM.out]; rfl)
            have lNy := HNy.out.lt
            have CH := Lib.hid (show Calls Try.prog 19 #[.agg #[.int .i64 t.X.cf.ps, .int .i64 t.X.cf.ts, .int .i64 t.X.cf.bs, .int .i64 t.X.cf.sl, .slice t.A mp t.a, .slice t.B mt t.b, .slice t.C mb t.c]] wy (fun e w' => e = .returned (.bool true) ∧ Below wy.heap.size wy w') from by rw [HTM.out]; exact holds18 (fun k => k ≠ N) t wy HTy.out)
            go_wp2_with fail
            refine CH.out.mono ?_
            rintro e wx ⟨rfl, bx⟩
            have HNx := Lib.hid (HNy.out.below bx lNy)
            have HTx := Lib.hid (HTy.out.next bx)
            have HBx := Lib.hid (HBy.out.trans (bx.mono HBy.out.size))
            clear bx CH g0 g1 g2 g3 g4 g5 g6 HNy HTy HBy
            go_wp2_with fail
            go_roundw
            case rel => exact ⟨k + 1, t, by omega, by go_num, HNx, HTx, HBx⟩
            case measure => simp [intOf]; omega
        · obtain rfl : n = k := by omega
          have HBE := HB
          clear HB
          go_wp2_with fail
          go_ret
          exact ⟨rfl, HBE.out⟩

set_option maxRecDepth 100000 in
theorem lifted (os : Os) (started : os.Started) (H : Type) (enc : TypeId × Value → H) :
    ReturnsInHanded {} Try.checked os 4 .any (Rows.deltaRightSpec.pre6 enc Try.prog Try.f4 Rows.deltaRightRow.domain false) (Rows.deltaRightSpec.post enc Try.prog Try.f4 false true false false) := by
  refine returnsInHanded_of_change (C := Try.checked) own started (by kernel_rfl) Try.func4
    (ChangeSpec.witness6 (enc := enc) (C := Try.checked) false ⟨#[], #[.agg #[.int .i64 0, .int .i64 0, .int .i64 0, .int .i64 0], .slice none 0 0], []⟩ 8 (by kernel_rfl) (by kernel_rfl) (by kernel_rfl) (by kernel_rfl)) ?_
  intro W base args ds gs before hval0 hW _ _
  have hval : ∀ (j : Nat) t v, Try.f4.params[j]? = some t → args[j]? = some v → Value.okWide Try.prog W .any base t v := hval0
  have hW' := hW
  obtain ⟨p, q, hA0, hV, _, _, _⟩ := hW
  have hA : DataW.TrodAll enc Try.prog W 0 (fun _ => true) true Try.f4.params.toList args.toList ds p := hA0
  rw [Try.params4] at hA hval
  obtain ⟨v0, vs0, d0, ds0, p0, q0, hargs, rfl, _, h0, r0⟩ := trodAll_cons hA
  obtain ⟨v1, vs1, d1, ds1, p1, q1, rfl, rfl, _, h1, r1⟩ := trodAll_cons r0
  obtain ⟨rfl, rfl, _⟩ := trodAll_nil r1
  obtain rfl : args = #[v0, v1] := by cases args; simp_all
  obtain ⟨rfl, _⟩ := trodVars_none hV
  refine law_post (s := Rows.deltaRightSpec) rfl rfl (by rw [Try.params4]; intro t ht; simp at ht; rcases ht with rfl | rfl <;> exact ⟨by kernel_rfl, of_decide_eq_true (by kernel_rfl)⟩) rfl hW' ?_
  obtain ⟨cf0, rfl, tr0⟩ := open_conf (hval 0 23 v0 rfl rfl) h0
  obtain ⟨A1, c1, l1, rfl, hl1, hr1, ho1⟩ := open_reqs (hval 1 24 v1 rfl rfl) h1
  exact walk W cf0 tr0 A1 c1 l1 hl1 hr1 ho1

theorem over : Rows.deltaRightRow.holds Try.pinned (OpenSpec.ofChange Rows.deltaRightSpec) :=
  OpenClaim.holds_of_wide 4 Try.f4 rfl rfl rfl rfl rfl rfl rfl ⟨rfl, rfl, rfl, rfl, rfl⟩ rfl rfl rfl rfl rfl (by kernel_rfl) Try.func4 (by kernel_rfl)
    (of_decide_eq_true (by kernel_rfl)) (by unfold Func.isWrapper; first | (rw [if_pos (by decide +kernel)]; kernel_rfl) | (rw [if_neg (by decide +kernel)]; exact ⟨rfl, rfl⟩))
    (fun os started H enc _ => lifted os started H enc)

/-- The statement. -/
theorem deltaRight_holds : Rows.DeltaRightSaid := over

end Go.Proofs.Ytmmeceehfdbdoaa.LRight
