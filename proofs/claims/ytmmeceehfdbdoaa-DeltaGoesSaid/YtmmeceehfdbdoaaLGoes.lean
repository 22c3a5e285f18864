/-
  Proved: DeltaGoes returns true for every number of people, tracks and subs, and every row of requests: what is gone is what was there, and isn't, and nothing else; what stays is as it was, but for the request's own. Conditions: none.
-/
import Derived.Test.YtmmeceehfdbdoaaDaB
import Derived.Test.YtmmeceehfdbdoaaDaO
import Derived.Test.YtmmeceehfdbdoaaDaQ
import Derived.Test.YtmmeceehfdbdoaaLift
import Derived.Deep.CutBlock
import Derived.Deep.DeepCutAuto
import Derived.Test.YtmmeceehfdbdoaaHang
import Derived.RegionTactic
namespace Go.Proofs.Ytmmeceehfdbdoaa.LGoes
open Go.ChangeShapes Go.WideShapes Go.ChangeAt Go.RowKit
open Dl
set_option linter.unusedSimpArgs false
set_option linter.unusedVariables false
set_option maxRecDepth 100000

theorem sat_weak {P R : Nat → Prop} {w : World} {s : Sm} (h : SAt (fun k => P k ∧ R k) w s) : SAt P w s := ⟨h.rp, h.rt, h.rb, h.ts, h.inv, impP h.pA, impP h.pB, impP h.pC, fun x hx => impQ (h.pS x hx)⟩
theorem qat_with {P : Nat → Prop} {w : World} {x : Qm} (h : QAt P w x) (R : Nat → Prop) (hR : ∀ k, k < w.heap.size → R k) : QAt (fun k => P k ∧ R k) w x := ⟨h.r, h.len, inq_with h.r h.p hR, h.u⟩
def goneF (t : St) (b : Sb) : Bool := (t.bs.find? (isB b.who b.track)).isNone
theorem goneF_any (t : St) (b : Sb) : goneF t b = !t.bs.any (isB b.who b.track) := by
  unfold goneF
  cases e : t.bs.find? (isB b.who b.track) with
  | none =>
    have := List.find?_eq_none.mp e
    have h : t.bs.any (isB b.who b.track) = false := List.any_eq_false.mpr this
    rw [h]; rfl
  | some z =>
    have h : t.bs.any (isB b.who b.track) = true := List.any_eq_true.mpr ⟨z, List.mem_of_find?_eq_some e, List.find?_some e⟩
    rw [h]; rfl
theorem filter_at' {α : Type} {f : α → Bool} {l : List α} {j : Nat} {x : α} (h : l[j]? = some x) (hf : f x = true) : (l.filter f)[((l.take j).filter f).length]? = some x := by
  obtain ⟨hj, e⟩ := List.getElem?_eq_some_iff.mp h
  have h1 : l = l.take j ++ x :: l.drop (j + 1) := by rw [← e, List.getElem_cons_drop, List.take_append_drop]
  have h2 : l.filter f = (l.take j).filter f ++ x :: (l.drop (j + 1)).filter f := by
    conv => lhs; rw [h1]
    rw [List.filter_append, List.filter_cons_of_pos hf]
  rw [h2, List.getElem?_append_right (Nat.le_refl _), Nat.sub_self]
  rfl
theorem any_add {α : Type} {f : α → Bool} {l : List α} {j : Nat} {x : α} (h : l[j]? = some x) : (l.take (j + 1)).any f = ((l.take j).any f || f x) := by
  rw [List.take_add_one, h, List.any_append]
  simp
theorem sub_eta (x y : Sb) (h1 : y.who = x.who) (h2 : y.track = x.track) (h3 : y.layer = x.layer) (h4 : y.tid = x.tid) (h5 : y.muted = x.muted) : y = x := by
  cases x; cases y; simp_all
set_option maxHeartbeats 12800000 in
theorem walk (w : World) (c : Cf) (_tr : True) (A : Option Addr) (cc : Nat) (l : List Qm) (hl : l.length ≤ maxLen) (hr : Row w w.heap.size 8 A l.length (rowC qmV l)) (ho : ∀ a ∈ l, QOk w a) :
    Calls Try.prog 8 #[.agg #[.int .i64 c.ps, .int .i64 c.ts, .int .i64 c.bs, .int .i64 c.sl], .slice A l.length cc] w fun e w' => e = .returned (.bool true) ∧ Below w.heap.size w w' := by
  obtain ⟨n, hn⟩ : ∃ n, l.length = n := ⟨_, rfl⟩
  have HR := Lib.hid (show Row w w.heap.size 8 A l.length (qmC l) from hr)
  have HO := Lib.hid ho
  have HN := Lib.hid hn
  unfold maxLen at hl
  obtain ⟨w0, hw0⟩ : ∃ z, z = w.alloc (.cells #[.int .i64 c.ps, .int .i64 c.ts, .int .i64 c.bs, .int .i64 c.sl] 23) := ⟨_, rfl⟩
  have b0 : Below w.heap.size w w0 := by rw [hw0]; exact (Below.refl _ _).alloc (Nat.le_refl _) _
  have hC : Whole w0 w.heap.size 23 #[.int .i64 c.ps, .int .i64 c.ts, .int .i64 c.bs, .int .i64 c.sl] := by rw [hw0]; exact Whole.new w _ _
  have HC := Lib.hid hC
  have HB0 := Lib.hid b0
  have lC := hC.lt
  have CA := Lib.hid (awake18 w0)
  have CF := Lib.hid (fun w' (b : Below w.heap.size w w') => few18 A cc l w' ((HR.out.below b (Nat.le_refl _)).more b.size) (by unfold maxLen; omega))
  rw [hn] at hl CF ⊢
  clear hr ho hn b0 hC _tr
  cases hfw : fewS l with
  | false =>
    cases hcf : confL c with
    | false =>
      have CF2 := CF.out
      rw [hfw] at CF2
      have CB := fun w => begun18 c w
      rw [hcf] at CB
      simp only [if_true, if_false, Bool.false_eq_true, reduceIte] at CB
      have HCF2 := Lib.hid CF2
      have HCB := Lib.hid CB
      clear CF2 CB
      go_enter Try.func8, Try.ntmps8
      go_upto_region 1 with fail
      rw [← hw0]
      clear hw0
      go_wp2_with fail
      refine CA.out.mono ?_
      rintro e w1 ⟨rfl, b1⟩
      have HB1 := Lib.hid (HB0.out.trans (b1.mono HB0.out.size))
      have hC1 := HC.out.below b1 lC
      have lC1 := hC1.lt
      have HC1 := Lib.hid hC1
      clear b1 hC1 CA HC HB0
      go_wp2_with fail
      refine (HCF2.out w1 HB1.out).mono ?_
      rintro e w2 ⟨rfl, b2⟩
      have HB2 := Lib.hid (HB1.out.trans (b2.mono HB1.out.size))
      have hC2 := HC1.out.below b2 lC1
      have c0 := (hC2.cell 0).trans rfl
      have c1 := (hC2.cell 1).trans rfl
      have c2 := (hC2.cell 2).trans rfl
      have c3 := (hC2.cell 3).trans rfl
      have lC2 := hC2.lt
      clear b2 hC2 HCF2 HC1 HB1 CF
      go_wp2_with fail
      refine (HCB.out w2).mono ?_
      rintro e w3 ⟨rfl, b3⟩
      have HB3 := Lib.hid (HB2.out.trans (b3.mono HB2.out.size))
      clear b3 HCB HB2 c0 c1 c2 c3
      have HBF := Lib.hid (fun (o p : Obj) => (HB3.out.alloc HB3.out.size o).alloc (HB3.out.alloc HB3.out.size o).size p)
      go_wp2_with fail
      go_ret
      exact ⟨rfl, HBF.out _ _⟩
    | true =>
      have CF2 := CF.out
      rw [hfw] at CF2
      have CB := fun w => begun18 c w
      rw [hcf] at CB
      simp only [if_true, if_false, Bool.false_eq_true, reduceIte] at CB
      rw [show smA (zeroM c) = #[.int .i64 c.ps, .int .i64 c.ts, .int .i64 c.bs, .int .i64 c.sl, .slice none 0 0, .slice none 0 0, .slice none 0 0] from rfl] at CB
      have HCF2 := Lib.hid CF2
      have HCB := Lib.hid CB
      clear CF2 CB
      go_enter Try.func8, Try.ntmps8
      go_upto_region 1 with fail
      rw [← hw0]
      clear hw0
      go_wp2_with fail
      refine CA.out.mono ?_
      rintro e w1 ⟨rfl, b1⟩
      have HB1 := Lib.hid (HB0.out.trans (b1.mono HB0.out.size))
      have hC1 := HC.out.below b1 lC
      have lC1 := hC1.lt
      have HC1 := Lib.hid hC1
      clear b1 hC1 CA HC HB0
      go_wp2_with fail
      refine (HCF2.out w1 HB1.out).mono ?_
      rintro e w2 ⟨rfl, b2⟩
      have HB2 := Lib.hid (HB1.out.trans (b2.mono HB1.out.size))
      have hC2 := HC1.out.below b2 lC1
      have c0 := (hC2.cell 0).trans rfl
      have c1 := (hC2.cell 1).trans rfl
      have c2 := (hC2.cell 2).trans rfl
      have c3 := (hC2.cell 3).trans rfl
      have lC2 := hC2.lt
      clear b2 hC2 HCF2 HC1 HB1 CF
      go_wp2_with fail
      refine (HCB.out w2).mono ?_
      rintro e w3 ⟨rfl, b3⟩
      have HB3 := Lib.hid (HB2.out.trans (b3.mono HB2.out.size))
      clear b3 HCB HB2 c0 c1 c2 c3
      have HBF := Lib.hid (fun (o p : Obj) => (HB3.out.alloc HB3.out.size o).alloc (HB3.out.alloc HB3.out.size o).size p)
      go_wp2_with fail
      go_ret
      exact ⟨rfl, HBF.out _ _⟩
  | true =>
    cases hcf : confL c with
    | false =>
      have CF2 := CF.out
      rw [hfw] at CF2
      have CB := fun w => begun18 c w
      rw [hcf] at CB
      simp only [if_true, if_false, Bool.false_eq_true, reduceIte] at CB
      have HCF2 := Lib.hid CF2
      have HCB := Lib.hid CB
      clear CF2 CB
      go_enter Try.func8, Try.ntmps8
      go_upto_region 1 with fail
      rw [← hw0]
      clear hw0
      go_wp2_with fail
      refine CA.out.mono ?_
      rintro e w1 ⟨rfl, b1⟩
      have HB1 := Lib.hid (HB0.out.trans (b1.mono HB0.out.size))
      have hC1 := HC.out.below b1 lC
      have lC1 := hC1.lt
      have HC1 := Lib.hid hC1
      clear b1 hC1 CA HC HB0
      go_wp2_with fail
      refine (HCF2.out w1 HB1.out).mono ?_
      rintro e w2 ⟨rfl, b2⟩
      have HB2 := Lib.hid (HB1.out.trans (b2.mono HB1.out.size))
      have hC2 := HC1.out.below b2 lC1
      have c0 := (hC2.cell 0).trans rfl
      have c1 := (hC2.cell 1).trans rfl
      have c2 := (hC2.cell 2).trans rfl
      have c3 := (hC2.cell 3).trans rfl
      have lC2 := hC2.lt
      clear b2 hC2 HCF2 HC1 HB1 CF
      go_wp2_with fail
      refine (HCB.out w2).mono ?_
      rintro e w3 ⟨rfl, b3⟩
      have HB3 := Lib.hid (HB2.out.trans (b3.mono HB2.out.size))
      clear b3 HCB HB2 c0 c1 c2 c3
      have HBF := Lib.hid (fun (o p : Obj) => (HB3.out.alloc HB3.out.size o).alloc (HB3.out.alloc HB3.out.size o).size p)
      go_wp2_with fail
      go_ret
      exact ⟨rfl, HBF.out _ _⟩
    | true =>
      have CF2 := CF.out
      rw [hfw] at CF2
      have CB := fun w => begun18 c w
      rw [hcf] at CB
      simp only [if_true, if_false, Bool.false_eq_true, reduceIte] at CB
      rw [show smA (zeroM c) = #[.int .i64 c.ps, .int .i64 c.ts, .int .i64 c.bs, .int .i64 c.sl, .slice none 0 0, .slice none 0 0, .slice none 0 0] from rfl] at CB
      have HCF2 := Lib.hid CF2
      have HCB := Lib.hid CB
      clear CF2 CB
      go_enter Try.func8, Try.ntmps8
      go_upto_region 1 with fail
      rw [← hw0]
      clear hw0
      go_wp2_with fail
      refine CA.out.mono ?_
      rintro e w1 ⟨rfl, b1⟩
      have HB1 := Lib.hid (HB0.out.trans (b1.mono HB0.out.size))
      have hC1 := HC.out.below b1 lC
      have lC1 := hC1.lt
      have HC1 := Lib.hid hC1
      clear b1 hC1 CA HC HB0
      go_wp2_with fail
      refine (HCF2.out w1 HB1.out).mono ?_
      rintro e w2 ⟨rfl, b2⟩
      have HB2 := Lib.hid (HB1.out.trans (b2.mono HB1.out.size))
      have hC2 := HC1.out.below b2 lC1
      have c0 := (hC2.cell 0).trans rfl
      have c1 := (hC2.cell 1).trans rfl
      have c2 := (hC2.cell 2).trans rfl
      have c3 := (hC2.cell 3).trans rfl
      have lC2 := hC2.lt
      clear b2 hC2 HCF2 HC1 HB1 CF
      go_wp2_with fail
      refine (HCB.out w2).mono ?_
      rintro e w3 ⟨rfl, b3⟩
      have HB3 := Lib.hid (HB2.out.trans (b3.mono HB2.out.size))
      clear b3 HCB HB2 c0 c1 c2 c3
      obtain ⟨N, hN⟩ : ∃ N, w3.heap.size = N := ⟨_, rfl⟩
      obtain ⟨w4, hw4⟩ : ∃ z, z = (w3.alloc (.cells #[.int .i64 c.ps, .int .i64 c.ts, .int .i64 c.bs, .int .i64 c.sl, .slice none 0 0, .slice none 0 0, .slice none 0 0] 31)).alloc (.cells #[.int .i64 c.ps, .int .i64 c.ts, .int .i64 c.bs, .int .i64 c.sl, .slice none 0 0, .slice none 0 0, .slice none 0 0] 37) := ⟨_, rfl⟩
      have W4 : Whole w4 N 31 (smA (zeroM c)) := by rw [hw4, ← hN]; exact (Whole.new w3 _ _).alloc _
      have HW4 := Lib.hid W4
      have hlo : w.heap.size ≤ N := by rw [← hN]; exact HB3.out.size
      have HB4 := Lib.hid (show Below w.heap.size w w4 by rw [hw4]; exact (HB3.out.alloc HB3.out.size _).alloc (HB3.out.alloc HB3.out.size _).size _)
      have HS4 := Lib.hid (zero_sat (fun k => k ≠ N) hcf w4)
      go_upto_region 6 with fail
      rw [← hw4]
      clear hw4 hN W4 HB3
      go_wp2_with fail
      go_loopw [10] (fun i wr => ∃ (k : Nat) (s : Sm), k ≤ n ∧ i = .int .i64 (k : Int) ∧ Hid (Whole wr N 31 (smA s)) ∧ Hid (SAt (fun k => k ≠ N) wr s) ∧ Hid (Below w.heap.size w wr)) (fun i _ => n - (intOf i).toNat)
      case atStart => exact ⟨0, zeroM c, Nat.zero_le _, rfl, HW4, HS4, HB4⟩
      case round =>
        obtain ⟨k, s, hk, rfl, HW, HS, HB⟩ := hrel
        clear HW4 HS4 HB4
        by_cases hlt : k < n
        · obtain ⟨x, hx⟩ : ∃ x, l[k]? = some x := ⟨_, List.getElem?_eq_getElem (by rw [HN.out]; exact hlt)⟩
          obtain ⟨ga, oa, rfl, hga, hca⟩ := HR.out.2 (by rw [HN.out]; omega)
          have hxo := HO.out x (List.mem_of_getElem? hx)
          have HX := Lib.hid hx
          obtain ⟨q, QA, qc⟩ := x
          have lga : ga < wr.heap.size := by have := HB.out.size; omega
          have a0 := (HB.out.cell (p := ⟨ga, oa + k * 8, none⟩) hga).trans (by have := hca _ _ ((qmC_get hx 0 (by decide)).trans rfl); simpa [Nat.add_assoc] using this)
          have a1 := (HB.out.cell (p := ⟨ga, oa + k * 8 + 1, none⟩) hga).trans (by have := hca _ _ ((qmC_get hx 1 (by decide)).trans rfl); simpa [Nat.add_assoc] using this)
          have a2 := (HB.out.cell (p := ⟨ga, oa + k * 8 + 2, none⟩) hga).trans (by have := hca _ _ ((qmC_get hx 2 (by decide)).trans rfl); simpa [Nat.add_assoc] using this)
          have a3 := (HB.out.cell (p := ⟨ga, oa + k * 8 + 3, none⟩) hga).trans (by have := hca _ _ ((qmC_get hx 3 (by decide)).trans rfl); simpa [Nat.add_assoc] using this)
          have a4 := (HB.out.cell (p := ⟨ga, oa + k * 8 + 4, none⟩) hga).trans (by have := hca _ _ ((qmC_get hx 4 (by decide)).trans rfl); simpa [Nat.add_assoc] using this)
          have a5 := (HB.out.cell (p := ⟨ga, oa + k * 8 + 5, none⟩) hga).trans (by have := hca _ _ ((qmC_get hx 5 (by decide)).trans rfl); simpa [Nat.add_assoc] using this)
          have a6 := (HB.out.cell (p := ⟨ga, oa + k * 8 + 6, none⟩) hga).trans (by have := hca _ _ ((qmC_get hx 6 (by decide)).trans rfl); simpa [Nat.add_assoc] using this)
          have a7 := (HB.out.cell (p := ⟨ga, oa + k * 8 + 7, none⟩) hga).trans (by have := hca _ _ ((qmC_get hx 7 (by decide)).trans rfl); simpa [Nat.add_assoc] using this)
          try dsimp only at a0 a1 a2 a3 a4 a5 a6 a7
          have i0 : (0 : Int) ≤ (k : Int) := by omega
          have i1 : (k : Int) < (n : Int) := by omega
          have HQA := Lib.hid (show QAt (fun k => k ≠ N) wr ⟨q, QA, qc⟩ from ⟨(hxo.row.below HB.out (Nat.le_refl _)).more HB.out.size, by have h8 := (List.all_eq_true.mp (by unfold fewS at hfw; exact (Bool.and_eq_true_iff.mp hfw).1)) _ (List.mem_of_getElem? HX.out); simp only [decide_eq_true_eq] at h8; dsimp only at h8 ⊢; omega, ⟨fun h0 a ha e => by have h9 := (hxo.row.2 h0); obtain ⟨g9, o9, e9, l9, _⟩ := h9; rw [e9] at ha; injection ha with ha; subst ha; have e2 : g9 = N := e; omega, hxo.le, hxo.cap⟩, fun y hy => (hxo.u y hy).1⟩)
          have hW := HW.out
          have g0 : wr.cell? ⟨N, 0, none⟩ = some (.int .i64 s.X.cf.ps) := (hW.cell 0).trans rfl
          have g1 : wr.cell? ⟨N, 1, none⟩ = some (.int .i64 s.X.cf.ts) := (hW.cell 1).trans rfl
          have g2 : wr.cell? ⟨N, 2, none⟩ = some (.int .i64 s.X.cf.bs) := (hW.cell 2).trans rfl
          have g3 : wr.cell? ⟨N, 3, none⟩ = some (.int .i64 s.X.cf.sl) := (hW.cell 3).trans rfl
          have g4 : wr.cell? ⟨N, 4, none⟩ = some (.slice s.A s.X.ps.length s.a) := (hW.cell 4).trans rfl
          have g5 : wr.cell? ⟨N, 5, none⟩ = some (.slice s.B s.T.length s.b) := (hW.cell 5).trans rfl
          have g6 : wr.cell? ⟨N, 6, none⟩ = some (.slice s.C s.X.bs.length s.c) := (hW.cell 6).trans rfl
          have lN := hW.lt
          clear hW hca hxo hx
          obtain ⟨w1, hw1⟩ : ∃ z, z = wr.alloc (.cells #[.int .i64 q.kind, .int .i64 q.who, .int .i64 q.room, .int .i64 q.rights, .int .i64 q.track, .slice QA q.ss.length qc, .int .i64 q.layer, .int .i64 q.tid] 45) := ⟨_, rfl⟩
          obtain ⟨QB, hQB⟩ : ∃ z, wr.heap.size = z := ⟨_, rfl⟩
          have b1 : Below wr.heap.size wr w1 := by rw [hw1]; exact (Below.refl _ _).alloc (Nat.le_refl _) _
          have WQ1 : Whole w1 QB 45 #[.int .i64 q.kind, .int .i64 q.who, .int .i64 q.room, .int .i64 q.rights, .int .i64 q.track, .slice QA q.ss.length qc, .int .i64 q.layer, .int .i64 q.tid] := by rw [hw1, ← hQB]; exact Whole.new wr _ _
          have WN1 := HW.out.below b1 lN
          have HS1 := Lib.hid (HS.out.next b1)
          have HQ1 := Lib.hid (HQA.out.next b1)
          have HB1 := Lib.hid (HB.out.trans (b1.mono HB.out.size))
          have hNQ : N ≠ QB := by omega
          have hQN : QB ≠ N := by omega
          have lN1 := WN1.lt
          have lQ1 := WQ1.lt
          have HWN1 := Lib.hid WN1
          have HWQ1 := Lib.hid WQ1
          obtain ⟨np, hnp⟩ : ∃ z, s.X.ps.length = z := ⟨_, rfl⟩
          obtain ⟨nt, hnt⟩ : ∃ z, s.T.length = z := ⟨_, rfl⟩
          obtain ⟨nb, hnb⟩ : ∃ z, s.X.bs.length = z := ⟨_, rfl⟩
          have hsm := HS.out.small
          rw [hnp, hnt, hnb] at hsm
          have HSM := Lib.hid (show #[.int .i64 s.X.cf.ps, .int .i64 s.X.cf.ts, .int .i64 s.X.cf.bs, .int .i64 s.X.cf.sl, .slice s.A np s.a, .slice s.B nt s.b, .slice s.C nb s.c] = smA s from by unfold smA; rw [hnp, hnt, hnb])
          have HNB := Lib.hid hnb
          obtain ⟨sp, st, sb⟩ := hsm
          have CD := Lib.hid (show Calls Try.prog 12 #[.agg #[.int .i64 s.X.cf.ps, .int .i64 s.X.cf.ts, .int .i64 s.X.cf.bs, .int .i64 s.X.cf.sl, .slice s.A np s.a, .slice s.B nt s.b, .slice s.C nb s.c], .agg #[.int .i64 q.kind, .int .i64 q.who, .int .i64 q.room, .int .i64 q.rights, .int .i64 q.track, .slice QA q.ss.length qc, .int .i64 q.layer, .int .i64 q.tid]] w1 (fun e w'' => Below w1.heap.size w1 w'' ∧ ∃ t : Sm, t.X = (doS s.X q).1 ∧ SAt (fun k => k ≠ N) w'' t ∧ e = .returned (.tuple #[.agg (smA t), .int .i64 (doS s.X q).2])) from by rw [HSM.out]; exact cdo_any (fun k => k ≠ N) s ⟨q, QA, qc⟩ w1 HS1.out HQ1.out (fun k hk => by omega))
          clear WN1 WQ1 b1 hnp hnt hnb
          go_upto_region 12 with fail
          rw [← hw1]
          clear hw1 a0 a1 a2 a3 a4 a5 a6 a7 g0 g1 g2 g3 g4 g5 g6
          have g0 : w1.cell? ⟨N, 0, none⟩ = some (.int .i64 s.X.cf.ps) := (HWN1.out.cell 0).trans (by rw [← HSM.out]; rfl)
          have g1 : w1.cell? ⟨N, 1, none⟩ = some (.int .i64 s.X.cf.ts) := (HWN1.out.cell 1).trans (by rw [← HSM.out]; rfl)
          have g2 : w1.cell? ⟨N, 2, none⟩ = some (.int .i64 s.X.cf.bs) := (HWN1.out.cell 2).trans (by rw [← HSM.out]; rfl)
          have g3 : w1.cell? ⟨N, 3, none⟩ = some (.int .i64 s.X.cf.sl) := (HWN1.out.cell 3).trans (by rw [← HSM.out]; rfl)
          have g4 : w1.cell? ⟨N, 4, none⟩ = some (.slice s.A np s.a) := (HWN1.out.cell 4).trans (by rw [← HSM.out]; rfl)
          have g5 : w1.cell? ⟨N, 5, none⟩ = some (.slice s.B nt s.b) := (HWN1.out.cell 5).trans (by rw [← HSM.out]; rfl)
          have g6 : w1.cell? ⟨N, 6, none⟩ = some (.slice s.C nb s.c) := (HWN1.out.cell 6).trans (by rw [← HSM.out]; rfl)
          have r0 : w1.cell? ⟨QB, 0, none⟩ = some (.int .i64 q.kind) := (HWQ1.out.cell 0).trans rfl
          have r1 : w1.cell? ⟨QB, 1, none⟩ = some (.int .i64 q.who) := (HWQ1.out.cell 1).trans rfl
          have r2 : w1.cell? ⟨QB, 2, none⟩ = some (.int .i64 q.room) := (HWQ1.out.cell 2).trans rfl
          have r3 : w1.cell? ⟨QB, 3, none⟩ = some (.int .i64 q.rights) := (HWQ1.out.cell 3).trans rfl
          have r4 : w1.cell? ⟨QB, 4, none⟩ = some (.int .i64 q.track) := (HWQ1.out.cell 4).trans rfl
          have r5 : w1.cell? ⟨QB, 5, none⟩ = some (.slice QA q.ss.length qc) := (HWQ1.out.cell 5).trans rfl
          have r6 : w1.cell? ⟨QB, 6, none⟩ = some (.int .i64 q.layer) := (HWQ1.out.cell 6).trans rfl
          have r7 : w1.cell? ⟨QB, 7, none⟩ = some (.int .i64 q.tid) := (HWQ1.out.cell 7).trans rfl
          go_wp2_with fail
          refine CD.out.mono ?_
          rintro e w2 ⟨b2, t, hX, hT, rfl⟩
          replace hX := Lib.hid hX
          obtain ⟨er, her⟩ : ∃ z, (doS s.X q).2 = z := ⟨_, rfl⟩
          rw [her]
          clear her
          obtain ⟨mp, hmp⟩ : ∃ z, t.X.ps.length = z := ⟨_, rfl⟩
          obtain ⟨mt, hmt⟩ : ∃ z, t.T.length = z := ⟨_, rfl⟩
          obtain ⟨mb, hmb⟩ : ∃ z, t.X.bs.length = z := ⟨_, rfl⟩
          have tsm := hT.small
          rw [hmp, hmt, hmb] at tsm
          have HTM := Lib.hid (show #[.int .i64 t.X.cf.ps, .int .i64 t.X.cf.ts, .int .i64 t.X.cf.bs, .int .i64 t.X.cf.sl, .slice t.A mp t.a, .slice t.B mt t.b, .slice t.C mb t.c] = smA t from by unfold smA; rw [hmp, hmt, hmb])
          have HMB := Lib.hid hmb
          obtain ⟨tp, tt, tb⟩ := tsm
          rw [← HTM.out]
          obtain ⟨M, hM⟩ : ∃ z, w2.heap.size = z := ⟨_, rfl⟩
          obtain ⟨w3, hw3⟩ : ∃ z, z = w2.alloc (.cells #[.int .i64 t.X.cf.ps, .int .i64 t.X.cf.ts, .int .i64 t.X.cf.bs, .int .i64 t.X.cf.sl, .slice t.A mp t.a, .slice t.B mt t.b, .slice t.C mb t.c] 31) := ⟨_, rfl⟩
          have b3 : Below w1.heap.size w1 w3 := by rw [hw3]; exact b2.alloc b2.size _
          have b23 : Below w2.heap.size w2 w3 := by rw [hw3]; exact (Below.refl _ _).alloc (Nat.le_refl _) _
          have WM3 : Whole w3 M 31 #[.int .i64 t.X.cf.ps, .int .i64 t.X.cf.ts, .int .i64 t.X.cf.bs, .int .i64 t.X.cf.sl, .slice t.A mp t.a, .slice t.B mt t.b, .slice t.C mb t.c] := by rw [hw3, ← hM]; exact Whole.new w2 _ _
          have hN2 : N < w2.heap.size := Nat.lt_of_lt_of_le lN1 b2.size
          have hMN : M ≠ N := by omega
          have hNM : N ≠ M := by omega
          have hQ2 : QB < w2.heap.size := Nat.lt_of_lt_of_le lQ1 b2.size
          have hMQ : M ≠ QB := by omega
          have hQM : QB ≠ M := by omega
          have HS3 := Lib.hid (HS1.out.next b3)
          have HT3 := Lib.hid (hT.next b23)
          have HWN3 := Lib.hid (HWN1.out.below b3 lN1)
          have HWQ3 := Lib.hid (HWQ1.out.below b3 lQ1)
          have HWM3 := Lib.hid WM3
          have HB3 := Lib.hid (HB1.out.trans (b3.mono HB1.out.size))
          have lN3 := HWN3.out.lt
          have lQ3 := HWQ3.out.lt
          have lM3 := HWM3.out.lt
          have CG := Lib.hid (show Calls Try.prog 17 #[.agg #[.int .i64 s.X.cf.ps, .int .i64 s.X.cf.ts, .int .i64 s.X.cf.bs, .int .i64 s.X.cf.sl, .slice s.A np s.a, .slice s.B nt s.b, .slice s.C nb s.c], .agg #[.int .i64 t.X.cf.ps, .int .i64 t.X.cf.ts, .int .i64 t.X.cf.bs, .int .i64 t.X.cf.sl, .slice t.A mp t.a, .slice t.B mt t.b, .slice t.C mb t.c]] w3 (fun e w' => ∃ A' c', e = .returned (.slice A' (goneS s.X t.X).length c') ∧ w'.ownsRow w3.heap.size 55 5 (.slice A' (goneS s.X t.X).length c') (goneS s.X t.X).length (sbC (goneS s.X t.X)) ∧ Below w3.heap.size w3 w') from by rw [HSM.out, HTM.out]; exact cgone_any (fun k => k ≠ N) s t w3 HS3.out HT3.out)
          clear b2 b3 b23 WM3 hT hmp hmt hmb CD g0 g1 g2 g3 g4 g5 g6 r0 r1 r2 r3 r4 r5 r6 r7
          go_upto_region 13 with fail
          rw [← hw3]
          clear hw3
          try rw [hM]
          clear hM
          have g0 : w3.cell? ⟨N, 0, none⟩ = some (.int .i64 s.X.cf.ps) := (HWN3.out.cell 0).trans (by rw [← HSM.out]; rfl)
          have g1 : w3.cell? ⟨N, 1, none⟩ = some (.int .i64 s.X.cf.ts) := (HWN3.out.cell 1).trans (by rw [← HSM.out]; rfl)
          have g2 : w3.cell? ⟨N, 2, none⟩ = some (.int .i64 s.X.cf.bs) := (HWN3.out.cell 2).trans (by rw [← HSM.out]; rfl)
          have g3 : w3.cell? ⟨N, 3, none⟩ = some (.int .i64 s.X.cf.sl) := (HWN3.out.cell 3).trans (by rw [← HSM.out]; rfl)
          have g4 : w3.cell? ⟨N, 4, none⟩ = some (.slice s.A np s.a) := (HWN3.out.cell 4).trans (by rw [← HSM.out]; rfl)
          have g5 : w3.cell? ⟨N, 5, none⟩ = some (.slice s.B nt s.b) := (HWN3.out.cell 5).trans (by rw [← HSM.out]; rfl)
          have g6 : w3.cell? ⟨N, 6, none⟩ = some (.slice s.C nb s.c) := (HWN3.out.cell 6).trans (by rw [← HSM.out]; rfl)
          have z0 : w3.cell? ⟨M, 0, none⟩ = some (.int .i64 t.X.cf.ps) := (HWM3.out.cell 0).trans rfl
          have z1 : w3.cell? ⟨M, 1, none⟩ = some (.int .i64 t.X.cf.ts) := (HWM3.out.cell 1).trans rfl
          have z2 : w3.cell? ⟨M, 2, none⟩ = some (.int .i64 t.X.cf.bs) := (HWM3.out.cell 2).trans rfl
          have z3 : w3.cell? ⟨M, 3, none⟩ = some (.int .i64 t.X.cf.sl) := (HWM3.out.cell 3).trans rfl
          have z4 : w3.cell? ⟨M, 4, none⟩ = some (.slice t.A mp t.a) := (HWM3.out.cell 4).trans rfl
          have z5 : w3.cell? ⟨M, 5, none⟩ = some (.slice t.B mt t.b) := (HWM3.out.cell 5).trans rfl
          have z6 : w3.cell? ⟨M, 6, none⟩ = some (.slice t.C mb t.c) := (HWM3.out.cell 6).trans rfl
          go_wp2_with fail
          refine CG.out.mono ?_
          rintro e w4 ⟨G, gc, rfl, hown, b4⟩
          obtain ⟨ng, hng⟩ : ∃ z, (goneS s.X t.X).length = z := ⟨_, rfl⟩
          have HGR := Lib.hid (show Row w4 w4.heap.size 5 G ng (sbC (goneS s.X t.X)) from by rw [← hng]; exact Row.of_own hown)
          have HGL := Lib.hid hng
          have hgm : ng ≤ nb := by rw [← hng, ← HNB.out]; exact List.length_filter_le _ _
          rw [hng]
          have HWN4 := Lib.hid (HWN3.out.below b4 lN3)
          have HWM4 := Lib.hid (HWM3.out.below b4 lM3)
          have HWQ4 := Lib.hid (HWQ3.out.below b4 lQ3)
          have HS4 := Lib.hid (HS3.out.next b4)
          have HT4 := Lib.hid (HT3.out.next b4)
          have HB4 := Lib.hid (HB3.out.trans (b4.mono HB3.out.size))
          have lN4 := HWN4.out.lt
          have lQ4 := HWQ4.out.lt
          have lM4 := HWM4.out.lt
          clear hown b4 hng CG HS1 HQ1 HB1 HWN1 HWQ1 HS3 HT3 HWN3 HWQ3 HWM3 HB3 g0 g1 g2 g3 g4 g5 g6 z0 z1 z2 z3 z4 z5 z6 lN3 lQ3 lM3 lN1 lQ1
          have g0 : w4.cell? ⟨N, 0, none⟩ = some (.int .i64 s.X.cf.ps) := (HWN4.out.cell 0).trans (by rw [← HSM.out]; rfl)
          have g1 : w4.cell? ⟨N, 1, none⟩ = some (.int .i64 s.X.cf.ts) := (HWN4.out.cell 1).trans (by rw [← HSM.out]; rfl)
          have g2 : w4.cell? ⟨N, 2, none⟩ = some (.int .i64 s.X.cf.bs) := (HWN4.out.cell 2).trans (by rw [← HSM.out]; rfl)
          have g3 : w4.cell? ⟨N, 3, none⟩ = some (.int .i64 s.X.cf.sl) := (HWN4.out.cell 3).trans (by rw [← HSM.out]; rfl)
          have g4 : w4.cell? ⟨N, 4, none⟩ = some (.slice s.A np s.a) := (HWN4.out.cell 4).trans (by rw [← HSM.out]; rfl)
          have g5 : w4.cell? ⟨N, 5, none⟩ = some (.slice s.B nt s.b) := (HWN4.out.cell 5).trans (by rw [← HSM.out]; rfl)
          have g6 : w4.cell? ⟨N, 6, none⟩ = some (.slice s.C nb s.c) := (HWN4.out.cell 6).trans (by rw [← HSM.out]; rfl)
          have HZ4 := Lib.hid (Below.refl w4.heap.size w4)
          go_wp2_with fail
          go_loopw [15, 16] (fun kv jv wr => ∃ j kk : Nat, j ≤ nb ∧ jv = .int .i64 (j : Int) ∧ kv = .int .i64 (kk : Int) ∧ Hid (((s.X.bs.take j).filter (goneF t.X)).length = kk) ∧ Hid (Below w4.heap.size w4 wr)) (fun _ jv _ => nb - (intOf jv).toNat)
          case atStart => exact ⟨0, 0, Nat.zero_le _, rfl, rfl, Lib.hid rfl, HZ4⟩
          case round =>
            obtain ⟨j, kk, hj, rfl, rfl, HKK, HJ⟩ := hrel
            obtain ⟨wj, rfl⟩ : ∃ z, z = wr := ⟨_, rfl⟩
            clear g0 g1 g2 g3 g4 g5 g6
            have g0 : wj.cell? ⟨N, 0, none⟩ = some (.int .i64 s.X.cf.ps) := (HJ.out.cell (p := ⟨N, 0, none⟩) lN4).trans ((HWN4.out.cell 0).trans (by first | rfl | (rw [← HSM.out]; rfl)))
            have g1 : wj.cell? ⟨N, 1, none⟩ = some (.int .i64 s.X.cf.ts) := (HJ.out.cell (p := ⟨N, 1, none⟩) lN4).trans ((HWN4.out.cell 1).trans (by first | rfl | (rw [← HSM.out]; rfl)))
            have g2 : wj.cell? ⟨N, 2, none⟩ = some (.int .i64 s.X.cf.bs) := (HJ.out.cell (p := ⟨N, 2, none⟩) lN4).trans ((HWN4.out.cell 2).trans (by first | rfl | (rw [← HSM.out]; rfl)))
            have g3 : wj.cell? ⟨N, 3, none⟩ = some (.int .i64 s.X.cf.sl) := (HJ.out.cell (p := ⟨N, 3, none⟩) lN4).trans ((HWN4.out.cell 3).trans (by first | rfl | (rw [← HSM.out]; rfl)))
            have g4 : wj.cell? ⟨N, 4, none⟩ = some (.slice s.A np s.a) := (HJ.out.cell (p := ⟨N, 4, none⟩) lN4).trans ((HWN4.out.cell 4).trans (by first | rfl | (rw [← HSM.out]; rfl)))
            have g5 : wj.cell? ⟨N, 5, none⟩ = some (.slice s.B nt s.b) := (HJ.out.cell (p := ⟨N, 5, none⟩) lN4).trans ((HWN4.out.cell 5).trans (by first | rfl | (rw [← HSM.out]; rfl)))
            have g6 : wj.cell? ⟨N, 6, none⟩ = some (.slice s.C nb s.c) := (HJ.out.cell (p := ⟨N, 6, none⟩) lN4).trans ((HWN4.out.cell 6).trans (by first | rfl | (rw [← HSM.out]; rfl)))
            have lNj : N < wj.heap.size := by have := HJ.out.size; omega
            have hkn : kk ≤ j := by rw [← HKK.out]; exact Nat.le_trans (List.length_filter_le _ _) (by rw [List.length_take]; exact Nat.min_le_left _ _)
            by_cases hjl : j < nb
            · obtain ⟨x, hx⟩ : ∃ x, s.X.bs[j]? = some x := ⟨_, List.getElem?_eq_getElem (by rw [HNB.out]; exact hjl)⟩
              obtain ⟨gC, oC, hC, hgC, hcC⟩ := HS4.out.rb.2 (by rw [HNB.out]; omega)
              have HC := Lib.hid hC
              rw [hC] at g6
              have lgC : gC < wj.heap.size := by have := HJ.out.size; omega
              have x0 := (HJ.out.cell (p := ⟨gC, oC + (j * 5 + 0), none⟩) hgC).trans (hcC _ _ ((sbC_get hx 0 (by decide)).trans rfl))
              have x1 := (HJ.out.cell (p := ⟨gC, oC + (j * 5 + 1), none⟩) hgC).trans (hcC _ _ ((sbC_get hx 1 (by decide)).trans rfl))
              have x2 := (HJ.out.cell (p := ⟨gC, oC + (j * 5 + 2), none⟩) hgC).trans (hcC _ _ ((sbC_get hx 2 (by decide)).trans rfl))
              have x3 := (HJ.out.cell (p := ⟨gC, oC + (j * 5 + 3), none⟩) hgC).trans (hcC _ _ ((sbC_get hx 3 (by decide)).trans rfl))
              have x4 := (HJ.out.cell (p := ⟨gC, oC + (j * 5 + 4), none⟩) hgC).trans (hcC _ _ ((sbC_get hx 4 (by decide)).trans rfl))
              rw [Nat.add_zero] at x0
              rw [← Nat.add_assoc] at x1
              rw [← Nat.add_assoc] at x2
              rw [← Nat.add_assoc] at x3
              rw [← Nat.add_assoc] at x4
              try dsimp only at x0 x1 x2 x3 x4
              have HX2 := Lib.hid hx
              have j0 : (0 : Int) ≤ (j : Int) := by omega
              have j1 : (j : Int) < (nb : Int) := by omega
              obtain ⟨XB, hXB⟩ : ∃ z, wj.heap.size = z := ⟨_, rfl⟩
              obtain ⟨wx, hwx⟩ : ∃ z, z = wj.alloc (.cells #[.int .i64 x.who, .int .i64 x.track, .int .i64 x.layer, .int .i64 x.tid, .bool x.muted] 55) := ⟨_, rfl⟩
              have bx : Below w4.heap.size w4 wx := by rw [hwx]; exact HJ.out.alloc HJ.out.size _
              have WX : Whole wx XB 55 #[.int .i64 x.who, .int .i64 x.track, .int .i64 x.layer, .int .i64 x.tid, .bool x.muted] := by rw [hwx, ← hXB]; exact Whole.new wj _ _
              have HBX := Lib.hid bx
              have HWX := Lib.hid WX
              have lX := WX.lt
              clear bx WX hx hcC hC
              go_upto_region 19 with fail
              rw [← hwx]
              clear hwx x0 x1 x2 x3 x4 g0 g1 g2 g3 g4 g5 g6
              have hXN : 0 ≤ XB := Nat.zero_le _
              have HZX := Lib.hid (Below.refl wx.heap.size wx)
              have z0 : wx.cell? ⟨M, 0, none⟩ = some (.int .i64 t.X.cf.ps) := (HBX.out.cell (p := ⟨M, 0, none⟩) lM4).trans ((HWM4.out.cell 0).trans (by first | rfl | (rw [← HSM.out]; rfl)))
              have z1 : wx.cell? ⟨M, 1, none⟩ = some (.int .i64 t.X.cf.ts) := (HBX.out.cell (p := ⟨M, 1, none⟩) lM4).trans ((HWM4.out.cell 1).trans (by first | rfl | (rw [← HSM.out]; rfl)))
              have z2 : wx.cell? ⟨M, 2, none⟩ = some (.int .i64 t.X.cf.bs) := (HBX.out.cell (p := ⟨M, 2, none⟩) lM4).trans ((HWM4.out.cell 2).trans (by first | rfl | (rw [← HSM.out]; rfl)))
              have z3 : wx.cell? ⟨M, 3, none⟩ = some (.int .i64 t.X.cf.sl) := (HBX.out.cell (p := ⟨M, 3, none⟩) lM4).trans ((HWM4.out.cell 3).trans (by first | rfl | (rw [← HSM.out]; rfl)))
              have z4 : wx.cell? ⟨M, 4, none⟩ = some (.slice t.A mp t.a) := (HBX.out.cell (p := ⟨M, 4, none⟩) lM4).trans ((HWM4.out.cell 4).trans (by first | rfl | (rw [← HSM.out]; rfl)))
              have z5 : wx.cell? ⟨M, 5, none⟩ = some (.slice t.B mt t.b) := (HBX.out.cell (p := ⟨M, 5, none⟩) lM4).trans ((HWM4.out.cell 5).trans (by first | rfl | (rw [← HSM.out]; rfl)))
              have z6 : wx.cell? ⟨M, 6, none⟩ = some (.slice t.C mb t.c) := (HBX.out.cell (p := ⟨M, 6, none⟩) lM4).trans ((HWM4.out.cell 6).trans (by first | rfl | (rw [← HSM.out]; rfl)))
              go_wp2_with fail
              go_loopw [18, 19] (fun th nv wr => ∃ (m : Nat) (b : Bool), m ≤ mb ∧ nv = .int .i64 (m : Int) ∧ th = .bool b ∧ Hid ((t.X.bs.take m).any (isB x.who x.track) = b) ∧ Hid (Below wx.heap.size wx wr)) (fun _ nv _ => mb - (intOf nv).toNat)
              case atStart => exact ⟨0, false, Nat.zero_le _, rfl, rfl, Lib.hid rfl, HZX⟩
              case round =>
                obtain ⟨m, b, hm, rfl, rfl, HAN, HM⟩ := hrel
                obtain ⟨wm, rfl⟩ : ∃ z, z = wr := ⟨_, rfl⟩
                have HBM := Lib.hid (HBX.out.trans (HM.out.mono HBX.out.size))
                clear z0 z1 z2 z3 z4 z5 z6
                have z0 : wm.cell? ⟨M, 0, none⟩ = some (.int .i64 t.X.cf.ps) := (HBM.out.cell (p := ⟨M, 0, none⟩) lM4).trans ((HWM4.out.cell 0).trans (by first | rfl | (rw [← HSM.out]; rfl)))
                have z1 : wm.cell? ⟨M, 1, none⟩ = some (.int .i64 t.X.cf.ts) := (HBM.out.cell (p := ⟨M, 1, none⟩) lM4).trans ((HWM4.out.cell 1).trans (by first | rfl | (rw [← HSM.out]; rfl)))
                have z2 : wm.cell? ⟨M, 2, none⟩ = some (.int .i64 t.X.cf.bs) := (HBM.out.cell (p := ⟨M, 2, none⟩) lM4).trans ((HWM4.out.cell 2).trans (by first | rfl | (rw [← HSM.out]; rfl)))
                have z3 : wm.cell? ⟨M, 3, none⟩ = some (.int .i64 t.X.cf.sl) := (HBM.out.cell (p := ⟨M, 3, none⟩) lM4).trans ((HWM4.out.cell 3).trans (by first | rfl | (rw [← HSM.out]; rfl)))
                have z4 : wm.cell? ⟨M, 4, none⟩ = some (.slice t.A mp t.a) := (HBM.out.cell (p := ⟨M, 4, none⟩) lM4).trans ((HWM4.out.cell 4).trans (by first | rfl | (rw [← HSM.out]; rfl)))
                have z5 : wm.cell? ⟨M, 5, none⟩ = some (.slice t.B mt t.b) := (HBM.out.cell (p := ⟨M, 5, none⟩) lM4).trans ((HWM4.out.cell 5).trans (by first | rfl | (rw [← HSM.out]; rfl)))
                have z6 : wm.cell? ⟨M, 6, none⟩ = some (.slice t.C mb t.c) := (HBM.out.cell (p := ⟨M, 6, none⟩) lM4).trans ((HWM4.out.cell 6).trans (by first | rfl | (rw [← HSM.out]; rfl)))
                by_cases hml : m < mb
                · obtain ⟨y, hy⟩ : ∃ y, t.X.bs[m]? = some y := ⟨_, List.getElem?_eq_getElem (by rw [HMB.out]; exact hml)⟩
                  obtain ⟨gD, oD, hD, hgD, hcD⟩ := HT4.out.rb.2 (by rw [HMB.out]; omega)
                  rw [hD] at z6
                  have lgD : gD < wm.heap.size := by have := HBM.out.size; omega
                  have y0 := (HBM.out.cell (p := ⟨gD, oD + (m * 5 + 0), none⟩) hgD).trans (hcD _ _ ((sbC_get hy 0 (by decide)).trans rfl))
                  have y1 := (HBM.out.cell (p := ⟨gD, oD + (m * 5 + 1), none⟩) hgD).trans (hcD _ _ ((sbC_get hy 1 (by decide)).trans rfl))
                  have y2 := (HBM.out.cell (p := ⟨gD, oD + (m * 5 + 2), none⟩) hgD).trans (hcD _ _ ((sbC_get hy 2 (by decide)).trans rfl))
                  have y3 := (HBM.out.cell (p := ⟨gD, oD + (m * 5 + 3), none⟩) hgD).trans (hcD _ _ ((sbC_get hy 3 (by decide)).trans rfl))
                  have y4 := (HBM.out.cell (p := ⟨gD, oD + (m * 5 + 4), none⟩) hgD).trans (hcD _ _ ((sbC_get hy 4 (by decide)).trans rfl))
                  rw [Nat.add_zero] at y0
                  rw [← Nat.add_assoc] at y1
                  rw [← Nat.add_assoc] at y2
                  rw [← Nat.add_assoc] at y3
                  rw [← Nat.add_assoc] at y4
                  try dsimp only at y0 y1 y2 y3 y4
                  have HY2 := Lib.hid hy
                  have m0 : (0 : Int) ≤ (m : Int) := by omega
                  have m1 : (m : Int) < (mb : Int) := by omega
                  obtain ⟨YB, hYB⟩ : ∃ z, wm.heap.size = z := ⟨_, rfl⟩
                  obtain ⟨wy, hwy⟩ : ∃ z, z = wm.alloc (.cells #[.int .i64 y.who, .int .i64 y.track, .int .i64 y.layer, .int .i64 y.tid, .bool y.muted] 55) := ⟨_, rfl⟩
                  have by' : Below wx.heap.size wx wy := by rw [hwy]; exact HM.out.alloc HM.out.size _
                  have WY : Whole wy YB 55 #[.int .i64 y.who, .int .i64 y.track, .int .i64 y.layer, .int .i64 y.tid, .bool y.muted] := by rw [hwy, ← hYB]; exact Whole.new wm _ _
                  have HBY := Lib.hid by'
                  have HWY := Lib.hid WY
                  have lY := WY.lt
                  have HBYY := Lib.hid (HBX.out.trans (by'.mono HBX.out.size))
                  have HADD := Lib.hid (any_add (f := isB x.who x.track) hy)
                  rw [HAN.out] at HADD
                  clear by' WY hcD hD
                  go_upto_region 24 with fail
                  rw [← hwy]
                  clear hwy y0 y1 y2 y3 y4 z0 z1 z2 z3 z4 z5 z6
                  have y0 : wy.cell? ⟨YB, 0, none⟩ = some (.int .i64 y.who) := (HWY.out.cell 0).trans rfl
                  have y1 : wy.cell? ⟨YB, 1, none⟩ = some (.int .i64 y.track) := (HWY.out.cell 1).trans rfl
                  have y2 : wy.cell? ⟨YB, 2, none⟩ = some (.int .i64 y.layer) := (HWY.out.cell 2).trans rfl
                  have y3 : wy.cell? ⟨YB, 3, none⟩ = some (.int .i64 y.tid) := (HWY.out.cell 3).trans rfl
                  have y4 : wy.cell? ⟨YB, 4, none⟩ = some (.bool y.muted) := (HWY.out.cell 4).trans rfl
                  have x0 : wy.cell? ⟨XB, 0, none⟩ = some (.int .i64 x.who) := (HBY.out.cell (p := ⟨XB, 0, none⟩) lX).trans ((HWX.out.cell 0).trans rfl)
                  have x1 : wy.cell? ⟨XB, 1, none⟩ = some (.int .i64 x.track) := (HBY.out.cell (p := ⟨XB, 1, none⟩) lX).trans ((HWX.out.cell 1).trans rfl)
                  have x2 : wy.cell? ⟨XB, 2, none⟩ = some (.int .i64 x.layer) := (HBY.out.cell (p := ⟨XB, 2, none⟩) lX).trans ((HWX.out.cell 2).trans rfl)
                  have x3 : wy.cell? ⟨XB, 3, none⟩ = some (.int .i64 x.tid) := (HBY.out.cell (p := ⟨XB, 3, none⟩) lX).trans ((HWX.out.cell 3).trans rfl)
                  have x4 : wy.cell? ⟨XB, 4, none⟩ = some (.bool x.muted) := (HBY.out.cell (p := ⟨XB, 4, none⟩) lX).trans ((HWX.out.cell 4).trans rfl)
                  have r0 : wy.cell? ⟨QB, 0, none⟩ = some (.int .i64 q.kind) := (HBYY.out.cell (p := ⟨QB, 0, none⟩) lQ4).trans ((HWQ4.out.cell 0).trans rfl)
                  have r1 : wy.cell? ⟨QB, 1, none⟩ = some (.int .i64 q.who) := (HBYY.out.cell (p := ⟨QB, 1, none⟩) lQ4).trans ((HWQ4.out.cell 1).trans rfl)
                  have r4 : wy.cell? ⟨QB, 4, none⟩ = some (.int .i64 q.track) := (HBYY.out.cell (p := ⟨QB, 4, none⟩) lQ4).trans ((HWQ4.out.cell 4).trans rfl)
                  have HIS := Lib.hid (show isB x.who x.track y = decide (y.who = x.who ∧ y.track = x.track) from rfl)
                  by_cases E1 : y.who = x.who
                  · have be1 : (y.who == x.who) = true := by simp [E1]
                    have e1 := Lib.hid E1
                    clear E1
                    by_cases E2 : y.track = x.track
                    · have be2 : (y.track == x.track) = true := by simp [E2]
                      have e2 := Lib.hid E2
                      clear E2
                      have hst := do_stays HS4.out.inv q (List.mem_of_getElem? HX2.out) (by rw [← hX.out]; exact List.mem_of_getElem? HY2.out) ⟨e1.out, e2.out⟩
                      have HST := Lib.hid hst
                      have HTR := Lib.hid (show (t.X.bs.take (m + 1)).any (isB x.who x.track) = true by rw [HADD.out, HIS.out, decide_eq_true ⟨e1.out, e2.out⟩, Bool.or_true])
                      clear hst
                      by_cases C1 : q.who = x.who
                      · have bc1 : (q.who == x.who) = true := by simp [C1]
                        have c1 := Lib.hid C1
                        clear C1
                        by_cases C2 : q.track = x.track
                        · have bc2 : (q.track == x.track) = true := by simp [C2]
                          have c2 := Lib.hid C2
                          clear C2
                          by_cases c3 : 7 ≤ q.kind
                          · by_cases e : y = x
                            · have NQ : ∀ wz : World, (binOp .neq 55 (.agg #[.int .i64 y.who, .int .i64 y.track, .int .i64 y.layer, .int .i64 y.tid, .bool y.muted]) (.agg #[.int .i64 x.who, .int .i64 x.track, .int .i64 x.layer, .int .i64 x.tid, .bool x.muted])).run Try.prog wz = .ok (.bool false) wz := fun wz => by rw [neq18_sub, decide_eq_true e]; rfl
                              clear e
                              go_wp2_with fail
                              go_roundw
                              case rel => exact ⟨m + 1, true, by omega, by go_num, rfl, Lib.hid (HTR.out), Lib.hid (by first | exact HBY.out | exact HBY.out.drew)⟩
                              case measure => simp [intOf]; omega
                            · have NQ : ∀ wz : World, (binOp .neq 55 (.agg #[.int .i64 y.who, .int .i64 y.track, .int .i64 y.layer, .int .i64 y.tid, .bool y.muted]) (.agg #[.int .i64 x.who, .int .i64 x.track, .int .i64 x.layer, .int .i64 x.tid, .bool x.muted])).run Try.prog wz = .ok (.bool true) wz := fun wz => by rw [neq18_sub, decide_eq_false e]; rfl
                              clear e
                              go_wp2_with fail
                              go_roundw
                              case rel => exact ⟨m + 1, true, by omega, by go_num, rfl, Lib.hid (HTR.out), Lib.hid (by first | exact HBY.out | exact HBY.out.drew)⟩
                              case measure => simp [intOf]; omega
                          · have e : y = x := HST.out.resolve_right (fun h => by first | exact c1.out h.1 | exact c2.out h.2.1 | exact c3 h.2.2)
                            have NQ : ∀ wz : World, (binOp .neq 55 (.agg #[.int .i64 y.who, .int .i64 y.track, .int .i64 y.layer, .int .i64 y.tid, .bool y.muted]) (.agg #[.int .i64 x.who, .int .i64 x.track, .int .i64 x.layer, .int .i64 x.tid, .bool x.muted])).run Try.prog wz = .ok (.bool false) wz := fun wz => by rw [neq18_sub, decide_eq_true e]; rfl
                            clear e
                            go_wp2_with fail
                            go_roundw
                            case rel => exact ⟨m + 1, true, by omega, by go_num, rfl, Lib.hid (HTR.out), Lib.hid (by first | exact HBY.out | exact HBY.out.drew)⟩
                            case measure => simp [intOf]; omega
                        · have bc2 : (q.track == x.track) = false := by simp [C2]
                          have c2 := Lib.hid C2
                          clear C2
                          have e : y = x := HST.out.resolve_right (fun h => by first | exact c1.out h.1 | exact c2.out h.2.1 | exact c3 h.2.2)
                          have NQ : ∀ wz : World, (binOp .neq 55 (.agg #[.int .i64 y.who, .int .i64 y.track, .int .i64 y.layer, .int .i64 y.tid, .bool y.muted]) (.agg #[.int .i64 x.who, .int .i64 x.track, .int .i64 x.layer, .int .i64 x.tid, .bool x.muted])).run Try.prog wz = .ok (.bool false) wz := fun wz => by rw [neq18_sub, decide_eq_true e]; rfl
                          clear e
                          go_wp2_with fail
                          go_roundw
                          case rel => exact ⟨m + 1, true, by omega, by go_num, rfl, Lib.hid (HTR.out), Lib.hid (by first | exact HBY.out | exact HBY.out.drew)⟩
                          case measure => simp [intOf]; omega
                      · have bc1 : (q.who == x.who) = false := by simp [C1]
                        have c1 := Lib.hid C1
                        clear C1
                        have e : y = x := HST.out.resolve_right (fun h => by first | exact c1.out h.1 | exact c2.out h.2.1 | exact c3 h.2.2)
                        have NQ : ∀ wz : World, (binOp .neq 55 (.agg #[.int .i64 y.who, .int .i64 y.track, .int .i64 y.layer, .int .i64 y.tid, .bool y.muted]) (.agg #[.int .i64 x.who, .int .i64 x.track, .int .i64 x.layer, .int .i64 x.tid, .bool x.muted])).run Try.prog wz = .ok (.bool false) wz := fun wz => by rw [neq18_sub, decide_eq_true e]; rfl
                        clear e
                        go_wp2_with fail
                        go_roundw
                        case rel => exact ⟨m + 1, true, by omega, by go_num, rfl, Lib.hid (HTR.out), Lib.hid (by first | exact HBY.out | exact HBY.out.drew)⟩
                        case measure => simp [intOf]; omega
                    · have be2 : (y.track == x.track) = false := by simp [E2]
                      have e2 := Lib.hid E2
                      clear E2
                      have HNO := Lib.hid (show (t.X.bs.take (m + 1)).any (isB x.who x.track) = b by rw [HADD.out, HIS.out, decide_eq_false (by exact fun h => e2.out h.2), Bool.or_false])
                      go_wp2_with fail
                      go_roundw
                      case rel => exact ⟨m + 1, b, by omega, by go_num, rfl, Lib.hid (HNO.out), Lib.hid (by first | exact HBY.out | exact HBY.out.drew)⟩
                      case measure => simp [intOf]; omega
                  · have be1 : (y.who == x.who) = false := by simp [E1]
                    have e1 := Lib.hid E1
                    clear E1
                    have HNO := Lib.hid (show (t.X.bs.take (m + 1)).any (isB x.who x.track) = b by rw [HADD.out, HIS.out, decide_eq_false (by exact fun h => e1.out h.1), Bool.or_false])
                    go_wp2_with fail
                    go_roundw
                    case rel => exact ⟨m + 1, b, by omega, by go_num, rfl, Lib.hid (HNO.out), Lib.hid (by first | exact HBY.out | exact HBY.out.drew)⟩
                    case measure => simp [intOf]; omega
                · obtain rfl : mb = m := by omega
                  have HGF := Lib.hid (show goneF t.X x = !b by rw [goneF_any, ← HAN.out, List.take_of_length_le (by rw [HMB.out]; exact Nat.le_refl _)])
                  have HFA := Lib.hid (filter_add (goneF t.X) HX2.out)
                  clear HAN
                  have HJ2 := Lib.hid (show Below w4.heap.size w4 wm from HBM.out)
                  cases b with
                  | true =>
                    have HK2 := Lib.hid (show ((s.X.bs.take (j + 1)).filter (goneF t.X)).length = kk by rw [HFA.out, if_neg (by rw [HGF.out]; simp)]; exact HKK.out)
                    go_wp2_with fail
                    go_roundw
                    case rel => exact ⟨j + 1, kk, by omega, by go_num, rfl, HK2, HJ2⟩
                    case measure => simp [intOf]; omega
                  | false =>
                    have HK2 := Lib.hid (show ((s.X.bs.take (j + 1)).filter (goneF t.X)).length = kk + 1 by rw [HFA.out, if_pos (by rw [HGF.out]; rfl), List.length_append, HKK.out]; rfl)
                    have hget : (goneS s.X t.X)[kk]? = some x := by have := filter_at' HX2.out (show goneF t.X x = true by rw [HGF.out]; rfl); rw [HKK.out] at this; exact this
                    have hkg : kk < ng := by rw [← HGL.out]; exact (List.getElem?_eq_some_iff.mp hget).1
                    obtain ⟨gG, oG, rfl, hgG, hcG⟩ := HGR.out.2 (by omega)
                    have v0 := (HJ2.out.cell (p := ⟨gG, oG + (kk * 5 + 0), none⟩) hgG).trans (hcG _ _ ((sbC_get hget 0 (by decide)).trans rfl))
                    have v1 := (HJ2.out.cell (p := ⟨gG, oG + (kk * 5 + 1), none⟩) hgG).trans (hcG _ _ ((sbC_get hget 1 (by decide)).trans rfl))
                    have v2 := (HJ2.out.cell (p := ⟨gG, oG + (kk * 5 + 2), none⟩) hgG).trans (hcG _ _ ((sbC_get hget 2 (by decide)).trans rfl))
                    have v3 := (HJ2.out.cell (p := ⟨gG, oG + (kk * 5 + 3), none⟩) hgG).trans (hcG _ _ ((sbC_get hget 3 (by decide)).trans rfl))
                    have v4 := (HJ2.out.cell (p := ⟨gG, oG + (kk * 5 + 4), none⟩) hgG).trans (hcG _ _ ((sbC_get hget 4 (by decide)).trans rfl))
                    rw [Nat.add_zero] at v0
                    rw [← Nat.add_assoc] at v1
                    rw [← Nat.add_assoc] at v2
                    rw [← Nat.add_assoc] at v3
                    rw [← Nat.add_assoc] at v4
                    try dsimp only at v0 v1 v2 v3 v4
                    have x0 : wm.cell? ⟨XB, 0, none⟩ = some (.int .i64 x.who) := (HM.out.cell (p := ⟨XB, 0, none⟩) lX).trans ((HWX.out.cell 0).trans rfl)
                    have x1 : wm.cell? ⟨XB, 1, none⟩ = some (.int .i64 x.track) := (HM.out.cell (p := ⟨XB, 1, none⟩) lX).trans ((HWX.out.cell 1).trans rfl)
                    have x2 : wm.cell? ⟨XB, 2, none⟩ = some (.int .i64 x.layer) := (HM.out.cell (p := ⟨XB, 2, none⟩) lX).trans ((HWX.out.cell 2).trans rfl)
                    have x3 : wm.cell? ⟨XB, 3, none⟩ = some (.int .i64 x.tid) := (HM.out.cell (p := ⟨XB, 3, none⟩) lX).trans ((HWX.out.cell 3).trans rfl)
                    have x4 : wm.cell? ⟨XB, 4, none⟩ = some (.bool x.muted) := (HM.out.cell (p := ⟨XB, 4, none⟩) lX).trans ((HWX.out.cell 4).trans rfl)
                    have k0 : (0 : Int) ≤ (kk : Int) := by omega
                    have k1 : (kk : Int) < (ng : Int) := by omega
                    have k2 : ¬ (ng : Int) ≤ (kk : Int) := by omega
                    have lgG : gG < wm.heap.size := by have := HJ2.out.size; omega
                    have NQ := fun wz => same18_sub wz x
                    clear hget hcG
                    go_wp2_with fail
                    try (go_region; go_wp2_with fail)
                    all_goals (first | exact ⟨⟨j + 1, kk + 1, by omega, by go_num, by go_num, HK2, Lib.hid (by first | exact HJ2.out | exact HJ2.out.drew)⟩, by simp [intOf]; omega⟩ | (go_roundw; (case rel => exact ⟨j + 1, kk + 1, by omega, by go_num, by go_num, HK2, Lib.hid (by first | exact HJ2.out | exact HJ2.out.drew)⟩); (case measure => simp [intOf]; omega)))
            · obtain rfl : nb = j := by omega
              have hkg : kk = ng := by rw [← HKK.out, ← HGL.out, List.take_of_length_le (by rw [HNB.out]; exact Nat.le_refl _)]; rfl
              obtain rfl := hkg
              have z0 : wj.cell? ⟨M, 0, none⟩ = some (.int .i64 t.X.cf.ps) := (HJ.out.cell (p := ⟨M, 0, none⟩) lM4).trans ((HWM4.out.cell 0).trans (by first | rfl | (rw [← HSM.out]; rfl)))
              have z1 : wj.cell? ⟨M, 1, none⟩ = some (.int .i64 t.X.cf.ts) := (HJ.out.cell (p := ⟨M, 1, none⟩) lM4).trans ((HWM4.out.cell 1).trans (by first | rfl | (rw [← HSM.out]; rfl)))
              have z2 : wj.cell? ⟨M, 2, none⟩ = some (.int .i64 t.X.cf.bs) := (HJ.out.cell (p := ⟨M, 2, none⟩) lM4).trans ((HWM4.out.cell 2).trans (by first | rfl | (rw [← HSM.out]; rfl)))
              have z3 : wj.cell? ⟨M, 3, none⟩ = some (.int .i64 t.X.cf.sl) := (HJ.out.cell (p := ⟨M, 3, none⟩) lM4).trans ((HWM4.out.cell 3).trans (by first | rfl | (rw [← HSM.out]; rfl)))
              have z4 : wj.cell? ⟨M, 4, none⟩ = some (.slice t.A mp t.a) := (HJ.out.cell (p := ⟨M, 4, none⟩) lM4).trans ((HWM4.out.cell 4).trans (by first | rfl | (rw [← HSM.out]; rfl)))
              have z5 : wj.cell? ⟨M, 5, none⟩ = some (.slice t.B mt t.b) := (HJ.out.cell (p := ⟨M, 5, none⟩) lM4).trans ((HWM4.out.cell 5).trans (by first | rfl | (rw [← HSM.out]; rfl)))
              have z6 : wj.cell? ⟨M, 6, none⟩ = some (.slice t.C mb t.c) := (HJ.out.cell (p := ⟨M, 6, none⟩) lM4).trans ((HWM4.out.cell 6).trans (by first | rfl | (rw [← HSM.out]; rfl)))
              have HTJ := Lib.hid (HT4.out.next HJ.out)
              have CG := Lib.hid (show Calls Try.prog 17 #[.agg #[.int .i64 t.X.cf.ps, .int .i64 t.X.cf.ts, .int .i64 t.X.cf.bs, .int .i64 t.X.cf.sl, .slice t.A mp t.a, .slice t.B mt t.b, .slice t.C mb t.c], .agg #[.int .i64 t.X.cf.ps, .int .i64 t.X.cf.ts, .int .i64 t.X.cf.bs, .int .i64 t.X.cf.sl, .slice t.A mp t.a, .slice t.B mt t.b, .slice t.C mb t.c]] wj (fun e w' => ∃ A' c', e = .returned (.slice A' 0 c') ∧ Below wj.heap.size wj w') from by rw [HTM.out]; refine (cgone_any (fun k => k ≠ N) t t wj HTJ.out HTJ.out).mono ?_; rintro e w' ⟨A', c', rfl, _, hb⟩; rw [gone_self]; exact ⟨A', c', rfl, hb⟩)
              go_wp2_with fail
              refine CG.out.mono ?_
              rintro e w5 ⟨A5, c5, rfl, b5⟩
              have HJ5 := Lib.hid (HJ.out.trans (b5.mono HJ.out.size))
              clear b5 z0 z1 z2 z3 z4 z5 z6 g0 g1 g2 g3 g4 g5 g6 CG
              have z0 : w5.cell? ⟨M, 0, none⟩ = some (.int .i64 t.X.cf.ps) := (HJ5.out.cell (p := ⟨M, 0, none⟩) lM4).trans ((HWM4.out.cell 0).trans (by first | rfl | (rw [← HSM.out]; rfl)))
              have z1 : w5.cell? ⟨M, 1, none⟩ = some (.int .i64 t.X.cf.ts) := (HJ5.out.cell (p := ⟨M, 1, none⟩) lM4).trans ((HWM4.out.cell 1).trans (by first | rfl | (rw [← HSM.out]; rfl)))
              have z2 : w5.cell? ⟨M, 2, none⟩ = some (.int .i64 t.X.cf.bs) := (HJ5.out.cell (p := ⟨M, 2, none⟩) lM4).trans ((HWM4.out.cell 2).trans (by first | rfl | (rw [← HSM.out]; rfl)))
              have z3 : w5.cell? ⟨M, 3, none⟩ = some (.int .i64 t.X.cf.sl) := (HJ5.out.cell (p := ⟨M, 3, none⟩) lM4).trans ((HWM4.out.cell 3).trans (by first | rfl | (rw [← HSM.out]; rfl)))
              have z4 : w5.cell? ⟨M, 4, none⟩ = some (.slice t.A mp t.a) := (HJ5.out.cell (p := ⟨M, 4, none⟩) lM4).trans ((HWM4.out.cell 4).trans (by first | rfl | (rw [← HSM.out]; rfl)))
              have z5 : w5.cell? ⟨M, 5, none⟩ = some (.slice t.B mt t.b) := (HJ5.out.cell (p := ⟨M, 5, none⟩) lM4).trans ((HWM4.out.cell 5).trans (by first | rfl | (rw [← HSM.out]; rfl)))
              have z6 : w5.cell? ⟨M, 6, none⟩ = some (.slice t.C mb t.c) := (HJ5.out.cell (p := ⟨M, 6, none⟩) lM4).trans ((HWM4.out.cell 6).trans (by first | rfl | (rw [← HSM.out]; rfl)))
              have g0 : w5.cell? ⟨N, 0, none⟩ = some (.int .i64 s.X.cf.ps) := (HJ5.out.cell (p := ⟨N, 0, none⟩) lN4).trans ((HWN4.out.cell 0).trans (by first | rfl | (rw [← HSM.out]; rfl)))
              have g1 : w5.cell? ⟨N, 1, none⟩ = some (.int .i64 s.X.cf.ts) := (HJ5.out.cell (p := ⟨N, 1, none⟩) lN4).trans ((HWN4.out.cell 1).trans (by first | rfl | (rw [← HSM.out]; rfl)))
              have g2 : w5.cell? ⟨N, 2, none⟩ = some (.int .i64 s.X.cf.bs) := (HJ5.out.cell (p := ⟨N, 2, none⟩) lN4).trans ((HWN4.out.cell 2).trans (by first | rfl | (rw [← HSM.out]; rfl)))
              have g3 : w5.cell? ⟨N, 3, none⟩ = some (.int .i64 s.X.cf.sl) := (HJ5.out.cell (p := ⟨N, 3, none⟩) lN4).trans ((HWN4.out.cell 3).trans (by first | rfl | (rw [← HSM.out]; rfl)))
              have g4 : w5.cell? ⟨N, 4, none⟩ = some (.slice s.A np s.a) := (HJ5.out.cell (p := ⟨N, 4, none⟩) lN4).trans ((HWN4.out.cell 4).trans (by first | rfl | (rw [← HSM.out]; rfl)))
              have g5 : w5.cell? ⟨N, 5, none⟩ = some (.slice s.B nt s.b) := (HJ5.out.cell (p := ⟨N, 5, none⟩) lN4).trans ((HWN4.out.cell 5).trans (by first | rfl | (rw [← HSM.out]; rfl)))
              have g6 : w5.cell? ⟨N, 6, none⟩ = some (.slice s.C nb s.c) := (HJ5.out.cell (p := ⟨N, 6, none⟩) lN4).trans ((HWN4.out.cell 6).trans (by first | rfl | (rw [← HSM.out]; rfl)))
              have HWN5 := Lib.hid (HWN4.out.below HJ5.out lN4)
              have HT5 := Lib.hid (HT4.out.next HJ5.out)
              have HB5 := Lib.hid (HB4.out.trans (HJ5.out.mono HB4.out.size))
              have lM5 : M < w5.heap.size := by have := HJ5.out.size; omega
              go_upto_region 35 with fail
              have f0 := HWN5.out.free 0
              have f1 := HWN5.out.free 1
              have f2 := HWN5.out.free 2
              have f3 := HWN5.out.free 3
              have f4 := HWN5.out.free 4
              have f5 := HWN5.out.free 5
              have f6 := HWN5.out.free 6
              have lNz := HWN5.out.lt
              go_wp2_with fail
              go_roundw
              case rel =>
                have HFW : Whole (sets7 w5 N (.int .i64 t.X.cf.ps) (.int .i64 t.X.cf.ts) (.int .i64 t.X.cf.bs) (.int .i64 t.X.cf.sl) (.slice t.A mp t.a) (.slice t.B mt t.b) (.slice t.C mb t.c)) N 31 (smA t) := by rw [← HTM.out]; exact sets7_whole HWN5.out rfl
                have HFS : SAt (fun k => k ≠ N) (sets7 w5 N (.int .i64 t.X.cf.ps) (.int .i64 t.X.cf.ts) (.int .i64 t.X.cf.bs) (.int .i64 t.X.cf.sl) (.slice t.A mp t.a) (.slice t.B mt t.b) (.slice t.C mb t.c)) t := sets7_sat HT5.out (fun h => h rfl)
                have HFB : Below w.heap.size w (sets7 w5 N (.int .i64 t.X.cf.ps) (.int .i64 t.X.cf.ts) (.int .i64 t.X.cf.bs) (.int .i64 t.X.cf.sl) (.slice t.A mp t.a) (.slice t.B mt t.b) (.slice t.C mb t.c)) := sets7_below HB5.out hlo
                exact ⟨k + 1, t, by omega, by go_num, Lib.hid HFW, Lib.hid HFS, Lib.hid HFB⟩
              case measure => simp [intOf]; omega
        · obtain rfl : n = k := by omega
          have HBE := HB
          clear HB
          go_wp2_with fail
          go_ret
          exact ⟨rfl, HBE.out⟩

set_option maxRecDepth 100000 in
theorem lifted (os : Os) (started : os.Started) (H : Type) (enc : TypeId × Value → H) :
    ReturnsInHanded {} Try.checked os 8 .any (Rows.deltaGoesSpec.pre6 enc Try.prog Try.f8 Rows.deltaGoesRow.domain false) (Rows.deltaGoesSpec.post enc Try.prog Try.f8 false true false false) := by
  refine returnsInHanded_of_change (C := Try.checked) own started (by kernel_rfl) Try.func8
    (ChangeSpec.witness6 (enc := enc) (C := Try.checked) false ⟨#[], #[.agg #[.int .i64 0, .int .i64 0, .int .i64 0, .int .i64 0], .slice none 0 0], []⟩ 8 (by kernel_rfl) (by kernel_rfl) (by kernel_rfl) (by kernel_rfl)) ?_
  intro W base args ds gs before hval0 hW _ _
  have hval : ∀ (j : Nat) t v, Try.f8.params[j]? = some t → args[j]? = some v → Value.okWide Try.prog W .any base t v := hval0
  have hW' := hW
  obtain ⟨p, q, hA0, hV, _, _, _⟩ := hW
  have hA : DataW.TrodAll enc Try.prog W 0 (fun _ => true) true Try.f8.params.toList args.toList ds p := hA0
  rw [Try.params8] at hA hval
  obtain ⟨v0, vs0, d0, ds0, p0, q0, hargs, rfl, _, h0, r0⟩ := trodAll_cons hA
  obtain ⟨v1, vs1, d1, ds1, p1, q1, rfl, rfl, _, h1, r1⟩ := trodAll_cons r0
  obtain ⟨rfl, rfl, _⟩ := trodAll_nil r1
  obtain rfl : args = #[v0, v1] := by cases args; simp_all
  obtain ⟨rfl, _⟩ := trodVars_none hV
  refine law_post (s := Rows.deltaGoesSpec) rfl rfl (by rw [Try.params8]; intro t ht; simp at ht; rcases ht with rfl | rfl <;> exact ⟨by kernel_rfl, of_decide_eq_true (by kernel_rfl)⟩) rfl hW' ?_
  obtain ⟨cf0, rfl, tr0⟩ := open_conf (hval 0 23 v0 rfl rfl) h0
  obtain ⟨A1, c1, l1, rfl, hl1, hr1, ho1⟩ := open_reqs (hval 1 24 v1 rfl rfl) h1
  exact walk W cf0 tr0 A1 c1 l1 hl1 hr1 ho1

theorem over : Rows.deltaGoesRow.holds Try.pinned (OpenSpec.ofChange Rows.deltaGoesSpec) :=
  OpenClaim.holds_of_wide 8 Try.f8 rfl rfl rfl rfl rfl rfl rfl ⟨rfl, rfl, rfl, rfl, rfl⟩ rfl rfl rfl rfl rfl (by kernel_rfl) Try.func8 (by kernel_rfl)
    (of_decide_eq_true (by kernel_rfl)) (by unfold Func.isWrapper; first | (rw [if_pos (by decide +kernel)]; kernel_rfl) | (rw [if_neg (by decide +kernel)]; exact ⟨rfl, rfl⟩))
    (fun os started H enc _ => lifted os started H enc)

/-- The statement. -/
theorem deltaGoes_holds : Rows.DeltaGoesSaid := over

end Go.Proofs.Ytmmeceehfdbdoaa.LGoes
