/-
 Package delta: subscribe, at the copy.
-/
import Derived.Conc.WalkWords
import Derived.Test.YtmmeceehfdbdoaaDcMk
import Derived.Deep.RegionHeld3
namespace Go.Proofs.Ytmmeceehfdbdoaa
open Go.RowKit
open Dl
set_option linter.unusedSimpArgs false
set_option linter.unusedVariables false
set_option maxRecDepth 100000

set_option maxHeartbeats 3200000 in
theorem subscribe_err {X : St} {p : Pn} {q : Rq} {l : List Tm} {n : Int} (h : X.ts = tks l) (hI : Inv X) (e : subE X.cf.bs X.cf.sl X.ps p l X.bs q = n) (hn : n ≠ 0) : (subscribeS X p q).2 = n := by
 rw [subscribe_is X p q h hI, e, if_neg hn]
theorem subscribe_ok {X : St} {p : Pn} {q : Rq} {l : List Tm} (h : X.ts = tks l) (hI : Inv X) (e : subE X.cf.bs X.cf.sl X.ps p l X.bs q = 0) : subscribeS X p q = ({ X with bs := insK ltB X.bs ⟨q.who, q.track, q.layer, q.tid, false⟩ }, 0) := by
 rw [subscribe_is X p q h hI, if_pos e, insN_eq ltB_tr hI.br]
set_option maxHeartbeats 6400000 in
theorem dsubscribe (base g : Nat) (s : Sm) (q : Rq) (Q : Option Addr) (qc : Nat) (w : World) (h : Nx base w g s) (hI : Inv s.X) (hbase : base ≤ w.heap.size) (p : Pn) (hp : s.X.ps.find? (isP q.who) = some p) :
 Calls Try.prog 44 #[.pointer (some ⟨g, 0, none⟩), .agg (reqA q Q q.ss.length qc)] w (MOut base g (subscribeS s.X p q) w) := by
 obtain ⟨qk, qw, qr, qg, qt, qs, ql, qd⟩ := q
 unfold reqA MOut
 dsimp only
 obtain ⟨qn, hqn⟩ : ∃ n, qs.length = n := ⟨_, rfl⟩
 rw [hqn]
 obtain ⟨w1, hw1⟩ : ∃ z, z = w.alloc (.cells #[.int .i64 qk, .int .i64 qw, .int .i64 qr, .int .i64 qg, .int .i64 qt, .slice Q qn qc, .int .i64 ql, .int .i64 qd] 45) := ⟨_, rfl⟩
 have b1 : Below w.heap.size w w1 := by rw [hw1]; exact (Below.refl _ _).alloc (Nat.le_refl _) _
 have hq : Whole w1 w.heap.size 45 #[.int .i64 qk, .int .i64 qw, .int .i64 qr, .int .i64 qg, .int .i64 qt, .slice Q qn qc, .int .i64 ql, .int .i64 qd] := by rw [hw1]; exact Whole.new w _ _
 have h1 := h.next b1
 have lg := h.at'.lt
 have lg1 := h1.at'.lt
 have lq := hq.lt
 have gq : g ≠ w.heap.size := by omega
 have hg := h1.at'
 obtain ⟨np, hnp⟩ : ∃ n, s.X.ps.length = n := ⟨_, rfl⟩
 obtain ⟨nt, hnt⟩ : ∃ n, s.T.length = n := ⟨_, rfl⟩
 obtain ⟨nb, hnb⟩ : ∃ n, s.X.bs.length = n := ⟨_, rfl⟩
 unfold smA at hg
 simp only [hnp, hnt, hnb] at hg
 have HNP := Lib.hid hnp
 have HNT := Lib.hid hnt
 have HNB := Lib.hid hnb
 have HQN := Lib.hid hqn
 have HG := Lib.hid hg
 have HQ := Lib.hid hq
 have HX := Lib.hid h1
 have HD := Lib.hid h1.rd
 have HB1 := Lib.hid (Below.refl w1.heap.size w1)
 have HBW := Lib.hid (show But (fun k => base ≤ k) w w1 from but_of_below b1)
 have HI := Lib.hid hI
 have hb1 : base ≤ w1.heap.size := Nat.le_trans hbase b1.size
 have hsm := h.r.small
 rw [hnp, hnt, hnb] at hsm
 have hpm := hI.pm p (find_mem hp).1
 obtain ⟨pw, pr, pg⟩ := p
 dsimp only at hpm
 have HP := Lib.hid hp
 clear hp
 clear h h1 hq hg b1 hI hnp hnt hnb hqn
 have HAND : (bits BinOp.and IntKind.i64 pg 2 == 0) = decide (pg / 2 = 0) := by
  have h4 : pg = 0 ∨ pg = 1 ∨ pg = 2 ∨ pg = 3 := by omega
  rcases h4 with rfl | rfl | rfl | rfl <;> decide
 by_cases e0 : pg / 2 = 0
 · cases ht : s.T.find? (fun x => isT qt x.t) with
   | none =>
    have t0 : (bits BinOp.and IntKind.i64 pg 2 == 0) = true := by rw [HAND]; exact decide_eq_true e0
    clear HAND
    have KS := Lib.hid (fun w' (b' : Below w1.heap.size w1 w') => show (fun w' => w'.cell? ⟨w.heap.size, 1, none⟩ = some (.int .i64 qw) ∧ w'.cell? ⟨w.heap.size, 4, none⟩ = some (.int .i64 qt) ∧ Below w1.heap.size w1 w') w' from ⟨((HQ.out.below b' lq).cell 1).trans rfl, ((HQ.out.below b' lq).cell 4).trans rfl, b'⟩)
    have hK0 := KS.out w1 (Below.refl _ _)
    have BD := Lib.hid (Below.refl w1.heap.size w1).drew
    go_enter Try.func44, Try.ntmps44
    go_upto_region 1 with fail
    rw [← hw1]
    clear hw1
    go_region_held3 (fun w' => w'.cell? ⟨w.heap.size, 1, none⟩ = some (.int .i64 qw) ∧ w'.cell? ⟨w.heap.size, 4, none⟩ = some (.int .i64 qt) ∧ Below w1.heap.size w1 w')
     (first | exact hK0 | exact KS.out _ BD.out | exact KS.out _ BV2 | exact KS.out _ BV1)
     (first
      | (go_at_call 65; refine (dtrack_no ht g _ (HD.out.next BV1)).mono ?_; rintro e v2 ⟨rfl, bt⟩; have BV2 := BV1.trans (bt.mono BV1.size))
      | (go_at_call 49; refine (dperson_yes HP.out g _ (HD.out.next BD.out)).mono ?_; rintro e v1 ⟨⟨gB, o, i, rfl, lB, cp0, cp1, cp2⟩, bp⟩; have BV1 := BD.out.trans (bp.mono BD.out.size)))
    have HB2 := Lib.hid BV2
    have cr2 : v2.cell? ⟨gB, o + i * 3 + 2, none⟩ = some (.int .i64 pg) := (bt.cell (p := ⟨gB, o + i * 3 + 2, none⟩) lB).trans cp2
    have cr1 : v2.cell? ⟨gB, o + i * 3 + 1, none⟩ = some (.int .i64 pr) := (bt.cell (p := ⟨gB, o + i * 3 + 1, none⟩) lB).trans cp1
    have lB2 : gB < v2.heap.size := by have := bt.size; omega
    clear KS hK0 BD BV1 BV2 bp bt lB cp0 cp1 cp2
    have HF := Lib.hid (show (subscribeS s.X ⟨pw, pr, pg⟩ (⟨qk, qw, qr, qg, qt, qs, ql, qd⟩ : Rq)).2 = 24 from subscribe_err HX.out.r.ts HI.out (n := 24) (by unfold subE; dsimp only; rw [if_pos e0]) (by decide))
    go_wp2_with fail
    go_ret
    exact ⟨by rw [HF.out]; rfl, HBW.out.trans (but_of_below HB2.out), fun h => by rw [HF.out] at h; cases h⟩
   | some y =>
    have t0 : (bits BinOp.and IntKind.i64 pg 2 == 0) = true := by rw [HAND]; exact decide_eq_true e0
    clear HAND
    have KS := Lib.hid (fun w' (b' : Below w1.heap.size w1 w') => show (fun w' => w'.cell? ⟨w.heap.size, 1, none⟩ = some (.int .i64 qw) ∧ w'.cell? ⟨w.heap.size, 4, none⟩ = some (.int .i64 qt) ∧ Below w1.heap.size w1 w') w' from ⟨((HQ.out.below b' lq).cell 1).trans rfl, ((HQ.out.below b' lq).cell 4).trans rfl, b'⟩)
    have hK0 := KS.out w1 (Below.refl _ _)
    have BD := Lib.hid (Below.refl w1.heap.size w1).drew
    go_enter Try.func44, Try.ntmps44
    go_upto_region 1 with fail
    rw [← hw1]
    clear hw1
    go_region_held3 (fun w' => w'.cell? ⟨w.heap.size, 1, none⟩ = some (.int .i64 qw) ∧ w'.cell? ⟨w.heap.size, 4, none⟩ = some (.int .i64 qt) ∧ Below w1.heap.size w1 w')
     (first | exact hK0 | exact KS.out _ BD.out | exact KS.out _ BV2 | exact KS.out _ BV1)
     (first
      | (go_at_call 65; refine (dtrack_yes ht g _ (HD.out.next BV1)).mono ?_; rintro e v2 ⟨⟨gC, o2, i2, rfl, lC, c1⟩, bt⟩; have BV2 := BV1.trans (bt.mono BV1.size))
      | (go_at_call 49; refine (dperson_yes HP.out g _ (HD.out.next BD.out)).mono ?_; rintro e v1 ⟨⟨gB, o, i, rfl, lB, cp0, cp1, cp2⟩, bp⟩; have BV1 := BD.out.trans (bp.mono BD.out.size)))
    have HB2 := Lib.hid BV2
    have cr2 : v2.cell? ⟨gB, o + i * 3 + 2, none⟩ = some (.int .i64 pg) := (bt.cell (p := ⟨gB, o + i * 3 + 2, none⟩) lB).trans cp2
    have cr1 : v2.cell? ⟨gB, o + i * 3 + 1, none⟩ = some (.int .i64 pr) := (bt.cell (p := ⟨gB, o + i * 3 + 1, none⟩) lB).trans cp1
    have lB2 : gB < v2.heap.size := by have := bt.size; omega
    have co : v2.cell? ⟨gC, o2 + i2 * 4 + 1, none⟩ = some (.int .i64 y.t.owner) := (bt.cell (p := ⟨gC, o2 + i2 * 4 + 1, none⟩) lC).trans c1
    have lC2 : gC < v2.heap.size := by have := bt.size; omega
    clear KS hK0 BD BV1 BV2 bp bt lB cp0 cp1 cp2 lC c1
    have HF := Lib.hid (show (subscribeS s.X ⟨pw, pr, pg⟩ (⟨qk, qw, qr, qg, qt, qs, ql, qd⟩ : Rq)).2 = 24 from subscribe_err HX.out.r.ts HI.out (n := 24) (by unfold subE; dsimp only; rw [if_pos e0]) (by decide))
    go_wp2_with fail
    go_ret
    exact ⟨by rw [HF.out]; rfl, HBW.out.trans (but_of_below HB2.out), fun h => by rw [HF.out] at h; cases h⟩
 cases ht : s.T.find? (fun x => isT qt x.t) with
 | none =>
  have t0 : (bits BinOp.and IntKind.i64 pg 2 == 0) = false := by rw [HAND]; exact decide_eq_false e0
  clear HAND
  have KS := Lib.hid (fun w' (b' : Below w1.heap.size w1 w') => show (fun w' => w'.cell? ⟨w.heap.size, 1, none⟩ = some (.int .i64 qw) ∧ w'.cell? ⟨w.heap.size, 4, none⟩ = some (.int .i64 qt) ∧ Below w1.heap.size w1 w') w' from ⟨((HQ.out.below b' lq).cell 1).trans rfl, ((HQ.out.below b' lq).cell 4).trans rfl, b'⟩)
  have hK0 := KS.out w1 (Below.refl _ _)
  have BD := Lib.hid (Below.refl w1.heap.size w1).drew
  go_enter Try.func44, Try.ntmps44
  go_upto_region 1 with fail
  rw [← hw1]
  clear hw1
  go_region_held3 (fun w' => w'.cell? ⟨w.heap.size, 1, none⟩ = some (.int .i64 qw) ∧ w'.cell? ⟨w.heap.size, 4, none⟩ = some (.int .i64 qt) ∧ Below w1.heap.size w1 w')
   (first | exact hK0 | exact KS.out _ BD.out | exact KS.out _ BV2 | exact KS.out _ BV1)
   (first
    | (go_at_call 65; refine (dtrack_no ht g _ (HD.out.next BV1)).mono ?_; rintro e v2 ⟨rfl, bt⟩; have BV2 := BV1.trans (bt.mono BV1.size))
    | (go_at_call 49; refine (dperson_yes HP.out g _ (HD.out.next BD.out)).mono ?_; rintro e v1 ⟨⟨gB, o, i, rfl, lB, cp0, cp1, cp2⟩, bp⟩; have BV1 := BD.out.trans (bp.mono BD.out.size)))
  have HB2 := Lib.hid BV2
  have cr2 : v2.cell? ⟨gB, o + i * 3 + 2, none⟩ = some (.int .i64 pg) := (bt.cell (p := ⟨gB, o + i * 3 + 2, none⟩) lB).trans cp2
  have cr1 : v2.cell? ⟨gB, o + i * 3 + 1, none⟩ = some (.int .i64 pr) := (bt.cell (p := ⟨gB, o + i * 3 + 1, none⟩) lB).trans cp1
  have lB2 : gB < v2.heap.size := by have := bt.size; omega
  clear KS hK0 BD BV1 BV2 bp bt lB cp0 cp1 cp2
  have HF := Lib.hid (show (subscribeS s.X ⟨pw, pr, pg⟩ (⟨qk, qw, qr, qg, qt, qs, ql, qd⟩ : Rq)).2 = 21 from subscribe_err HX.out.r.ts HI.out (n := 21) (by unfold subE; dsimp only; rw [if_neg e0, ht]) (by decide))
  go_wp2_with fail
  go_ret
  exact ⟨by rw [HF.out]; rfl, HBW.out.trans (but_of_below HB2.out), fun h => by rw [HF.out] at h; cases h⟩
 | some y =>
  by_cases e1 : roomP s.X.ps y.t.owner = some pr
  · cases hb : s.X.bs.find? (isB qw qt) with
    | some z =>
     have t0 : (bits BinOp.and IntKind.i64 pg 2 == 0) = false := by rw [HAND]; exact decide_eq_false e0
     clear HAND
     have KS := Lib.hid (fun w' (b' : Below w1.heap.size w1 w') => show (fun w' => w'.cell? ⟨w.heap.size, 1, none⟩ = some (.int .i64 qw) ∧ w'.cell? ⟨w.heap.size, 4, none⟩ = some (.int .i64 qt) ∧ Below w1.heap.size w1 w') w' from ⟨((HQ.out.below b' lq).cell 1).trans rfl, ((HQ.out.below b' lq).cell 4).trans rfl, b'⟩)
     have hK0 := KS.out w1 (Below.refl _ _)
     have BD := Lib.hid (Below.refl w1.heap.size w1).drew
     go_enter Try.func44, Try.ntmps44
     go_upto_region 1 with fail
     rw [← hw1]
     clear hw1
     go_region_held3 (fun w' => w'.cell? ⟨w.heap.size, 1, none⟩ = some (.int .i64 qw) ∧ w'.cell? ⟨w.heap.size, 4, none⟩ = some (.int .i64 qt) ∧ Below w1.heap.size w1 w')
      (first | exact hK0 | exact KS.out _ BD.out | exact KS.out _ BV2 | exact KS.out _ BV1)
      (first
       | (go_at_call 65; refine (dtrack_yes ht g _ (HD.out.next BV1)).mono ?_; rintro e v2 ⟨⟨gC, o2, i2, rfl, lC, c1⟩, bt⟩; have BV2 := BV1.trans (bt.mono BV1.size))
       | (go_at_call 49; refine (dperson_yes HP.out g _ (HD.out.next BD.out)).mono ?_; rintro e v1 ⟨⟨gB, o, i, rfl, lB, cp0, cp1, cp2⟩, bp⟩; have BV1 := BD.out.trans (bp.mono BD.out.size)))
     have HB2 := Lib.hid BV2
     have cr2 : v2.cell? ⟨gB, o + i * 3 + 2, none⟩ = some (.int .i64 pg) := (bt.cell (p := ⟨gB, o + i * 3 + 2, none⟩) lB).trans cp2
     have cr1 : v2.cell? ⟨gB, o + i * 3 + 1, none⟩ = some (.int .i64 pr) := (bt.cell (p := ⟨gB, o + i * 3 + 1, none⟩) lB).trans cp1
     have lB2 : gB < v2.heap.size := by have := bt.size; omega
     have co : v2.cell? ⟨gC, o2 + i2 * 4 + 1, none⟩ = some (.int .i64 y.t.owner) := (bt.cell (p := ⟨gC, o2 + i2 * 4 + 1, none⟩) lC).trans c1
     have lC2 : gC < v2.heap.size := by have := bt.size; omega
     clear KS hK0 BD BV1 BV2 bp bt lB cp0 cp1 cp2 lC c1
     go_upto_region 6 with fail
     have KT := Lib.hid (fun w' (b' : Below v2.heap.size v2 w') => show (fun w' => w'.cell? ⟨gC, o2 + i2 * 4 + 1, none⟩ = some (.int .i64 y.t.owner) ∧ w'.cell? ⟨gB, o + i * 3 + 1, none⟩ = some (.int .i64 pr) ∧ Below v2.heap.size v2 w') w' from ⟨(b'.cell (p := ⟨gC, o2 + i2 * 4 + 1, none⟩) lC2).trans co, (b'.cell (p := ⟨gB, o + i * 3 + 1, none⟩) lB2).trans cr1, b'⟩)
     have hK1 := KT.out v2 (Below.refl _ _)
     have BD := Lib.hid (Below.refl v2.heap.size v2).drew
     have CI := Lib.hid (fun w' (b' : Below v2.heap.size v2 w') => (show Calls Try.prog 71 #[.pointer (some ⟨g, 0, none⟩), .int .i64 y.t.owner, .int .i64 pr] w' (fun e w'' => e = .returned (.bool true) ∧ Below w'.heap.size w' w'') by have h := disIn s g y.t.owner pr w' (HD.out.next (HB2.out.trans (b'.mono HB2.out.size))); rw [decide_eq_true e1] at h; exact h))
     go_region_held3 (fun w' => w'.cell? ⟨gC, o2 + i2 * 4 + 1, none⟩ = some (.int .i64 y.t.owner) ∧ w'.cell? ⟨gB, o + i * 3 + 1, none⟩ = some (.int .i64 pr) ∧ Below v2.heap.size v2 w')
      (first | exact hK1 | exact KT.out _ BD.out | exact KT.out _ BV3)
      ((go_at_call 71; refine (CI.out _ BD.out).mono ?_; rintro e v3 ⟨rfl, b3⟩; have BV3 := BD.out.trans (b3.mono BD.out.size)))
     have HB3 := Lib.hid (HB2.out.trans (BV3.mono HB2.out.size))
     clear KT hK1 CI b3 BV3 co cr1 cr2 lB2 lC2 BD
     have q1 : v3.cell? ⟨w.heap.size, 1, none⟩ = some (.int .i64 qw) := ((HQ.out.below HB3.out lq).cell 1).trans rfl
     have q4 : v3.cell? ⟨w.heap.size, 4, none⟩ = some (.int .i64 qt) := ((HQ.out.below HB3.out lq).cell 4).trans rfl
     go_wp2_with fail
     refine (dsub_yes hb g v3 (HD.out.next HB3.out)).mono ?_
     rintro e w4 ⟨⟨gD, o3, i3, rfl, _⟩, b4⟩
     have HB4 := Lib.hid (HB3.out.trans (b4.mono (HB3.out).size))
     clear b4
     clear q1 q4
     have HF := Lib.hid (show (subscribeS s.X ⟨pw, pr, pg⟩ (⟨qk, qw, qr, qg, qt, qs, ql, qd⟩ : Rq)).2 = 22 from subscribe_err HX.out.r.ts HI.out (n := 22) (by unfold subE; dsimp only; rw [if_neg e0, ht]; dsimp only; rw [if_neg (not_not_intro e1), if_pos (by rw [hb]; rfl)]) (by decide))
     go_wp2_with fail
     go_ret
     exact ⟨by rw [HF.out]; rfl, HBW.out.trans (but_of_below HB4.out), fun h => by rw [HF.out] at h; cases h⟩
    | none =>
     cases e2 : badL (⟨qk, qw, qr, qg, qt, qs, ql, qd⟩ : Rq) with
     | true =>
      have t0 : (bits BinOp.and IntKind.i64 pg 2 == 0) = false := by rw [HAND]; exact decide_eq_false e0
      clear HAND
      have KS := Lib.hid (fun w' (b' : Below w1.heap.size w1 w') => show (fun w' => w'.cell? ⟨w.heap.size, 1, none⟩ = some (.int .i64 qw) ∧ w'.cell? ⟨w.heap.size, 4, none⟩ = some (.int .i64 qt) ∧ Below w1.heap.size w1 w') w' from ⟨((HQ.out.below b' lq).cell 1).trans rfl, ((HQ.out.below b' lq).cell 4).trans rfl, b'⟩)
      have hK0 := KS.out w1 (Below.refl _ _)
      have BD := Lib.hid (Below.refl w1.heap.size w1).drew
      go_enter Try.func44, Try.ntmps44
      go_upto_region 1 with fail
      rw [← hw1]
      clear hw1
      go_region_held3 (fun w' => w'.cell? ⟨w.heap.size, 1, none⟩ = some (.int .i64 qw) ∧ w'.cell? ⟨w.heap.size, 4, none⟩ = some (.int .i64 qt) ∧ Below w1.heap.size w1 w')
       (first | exact hK0 | exact KS.out _ BD.out | exact KS.out _ BV2 | exact KS.out _ BV1)
       (first
        | (go_at_call 65; refine (dtrack_yes ht g _ (HD.out.next BV1)).mono ?_; rintro e v2 ⟨⟨gC, o2, i2, rfl, lC, c1⟩, bt⟩; have BV2 := BV1.trans (bt.mono BV1.size))
        | (go_at_call 49; refine (dperson_yes HP.out g _ (HD.out.next BD.out)).mono ?_; rintro e v1 ⟨⟨gB, o, i, rfl, lB, cp0, cp1, cp2⟩, bp⟩; have BV1 := BD.out.trans (bp.mono BD.out.size)))
      have HB2 := Lib.hid BV2
      have cr2 : v2.cell? ⟨gB, o + i * 3 + 2, none⟩ = some (.int .i64 pg) := (bt.cell (p := ⟨gB, o + i * 3 + 2, none⟩) lB).trans cp2
      have cr1 : v2.cell? ⟨gB, o + i * 3 + 1, none⟩ = some (.int .i64 pr) := (bt.cell (p := ⟨gB, o + i * 3 + 1, none⟩) lB).trans cp1
      have lB2 : gB < v2.heap.size := by have := bt.size; omega
      have co : v2.cell? ⟨gC, o2 + i2 * 4 + 1, none⟩ = some (.int .i64 y.t.owner) := (bt.cell (p := ⟨gC, o2 + i2 * 4 + 1, none⟩) lC).trans c1
      have lC2 : gC < v2.heap.size := by have := bt.size; omega
      clear KS hK0 BD BV1 BV2 bp bt lB cp0 cp1 cp2 lC c1
      go_upto_region 6 with fail
      have KT := Lib.hid (fun w' (b' : Below v2.heap.size v2 w') => show (fun w' => w'.cell? ⟨gC, o2 + i2 * 4 + 1, none⟩ = some (.int .i64 y.t.owner) ∧ w'.cell? ⟨gB, o + i * 3 + 1, none⟩ = some (.int .i64 pr) ∧ Below v2.heap.size v2 w') w' from ⟨(b'.cell (p := ⟨gC, o2 + i2 * 4 + 1, none⟩) lC2).trans co, (b'.cell (p := ⟨gB, o + i * 3 + 1, none⟩) lB2).trans cr1, b'⟩)
      have hK1 := KT.out v2 (Below.refl _ _)
      have BD := Lib.hid (Below.refl v2.heap.size v2).drew
      have CI := Lib.hid (fun w' (b' : Below v2.heap.size v2 w') => (show Calls Try.prog 71 #[.pointer (some ⟨g, 0, none⟩), .int .i64 y.t.owner, .int .i64 pr] w' (fun e w'' => e = .returned (.bool true) ∧ Below w'.heap.size w' w'') by have h := disIn s g y.t.owner pr w' (HD.out.next (HB2.out.trans (b'.mono HB2.out.size))); rw [decide_eq_true e1] at h; exact h))
      go_region_held3 (fun w' => w'.cell? ⟨gC, o2 + i2 * 4 + 1, none⟩ = some (.int .i64 y.t.owner) ∧ w'.cell? ⟨gB, o + i * 3 + 1, none⟩ = some (.int .i64 pr) ∧ Below v2.heap.size v2 w')
       (first | exact hK1 | exact KT.out _ BD.out | exact KT.out _ BV3)
       ((go_at_call 71; refine (CI.out _ BD.out).mono ?_; rintro e v3 ⟨rfl, b3⟩; have BV3 := BD.out.trans (b3.mono BD.out.size)))
      have HB3 := Lib.hid (HB2.out.trans (BV3.mono HB2.out.size))
      clear KT hK1 CI b3 BV3 co cr1 cr2 lB2 lC2 BD
      have q1 : v3.cell? ⟨w.heap.size, 1, none⟩ = some (.int .i64 qw) := ((HQ.out.below HB3.out lq).cell 1).trans rfl
      have q4 : v3.cell? ⟨w.heap.size, 4, none⟩ = some (.int .i64 qt) := ((HQ.out.below HB3.out lq).cell 4).trans rfl
      go_wp2_with fail
      refine (dsub_no hb g v3 (HD.out.next HB3.out)).mono ?_
      rintro e w4 ⟨rfl, b4⟩
      have HB4 := Lib.hid (HB3.out.trans (b4.mono (HB3.out).size))
      clear b4
      clear q1 q4
      have q0 : w4.cell? ⟨w.heap.size, 0, none⟩ = some (.int .i64 qk) := ((HQ.out.below HB4.out lq).cell 0).trans rfl
      have q1 : w4.cell? ⟨w.heap.size, 1, none⟩ = some (.int .i64 qw) := ((HQ.out.below HB4.out lq).cell 1).trans rfl
      have q2 : w4.cell? ⟨w.heap.size, 2, none⟩ = some (.int .i64 qr) := ((HQ.out.below HB4.out lq).cell 2).trans rfl
      have q3 : w4.cell? ⟨w.heap.size, 3, none⟩ = some (.int .i64 qg) := ((HQ.out.below HB4.out lq).cell 3).trans rfl
      have q4 : w4.cell? ⟨w.heap.size, 4, none⟩ = some (.int .i64 qt) := ((HQ.out.below HB4.out lq).cell 4).trans rfl
      have q5 : w4.cell? ⟨w.heap.size, 5, none⟩ = some (.slice Q qn qc) := ((HQ.out.below HB4.out lq).cell 5).trans rfl
      have q6 : w4.cell? ⟨w.heap.size, 6, none⟩ = some (.int .i64 ql) := ((HQ.out.below HB4.out lq).cell 6).trans rfl
      have q7 : w4.cell? ⟨w.heap.size, 7, none⟩ = some (.int .i64 qd) := ((HQ.out.below HB4.out lq).cell 7).trans rfl
      go_wp2_with fail
      refine ((show Calls Try.prog 72 #[.agg #[.int .i64 qk, .int .i64 qw, .int .i64 qr, .int .i64 qg, .int .i64 qt, .slice Q qn qc, .int .i64 ql, .int .i64 qd]] w4 (fun e w' => e = .returned (.bool false) ∧ Below w4.heap.size w4 w') by have h := dmayChoose (⟨qk, qw, qr, qg, qt, qs, ql, qd⟩ : Rq) Q qn qc w4; rw [e2] at h; exact h)).mono ?_
      rintro e w5 ⟨rfl, b5⟩
      have HB5 := Lib.hid (HB4.out.trans (b5.mono (HB4.out).size))
      clear b5
      clear q0 q1 q2 q3 q4 q5 q6 q7
      have HF := Lib.hid (show (subscribeS s.X ⟨pw, pr, pg⟩ (⟨qk, qw, qr, qg, qt, qs, ql, qd⟩ : Rq)).2 = 1 from subscribe_err HX.out.r.ts HI.out (n := 1) (by unfold subE; dsimp only; rw [if_neg e0, ht]; dsimp only; rw [if_neg (not_not_intro e1), if_neg (by rw [hb]; decide), if_pos e2]) (by decide))
      go_wp2_with fail
      go_ret
      exact ⟨by rw [HF.out]; rfl, HBW.out.trans (but_of_below HB5.out), fun h => by rw [HF.out] at h; cases h⟩
     | false =>
      obtain ⟨m, hm⟩ : ∃ m, (s.X.bs.filter (ofB qw)).length = m := ⟨_, rfl⟩
      have HM := Lib.hid hm
      by_cases e5 : s.X.cf.bs ≤ (m : Int)
      · clear hm
        have t5 : s.X.cf.bs ≤ (m : Int) := e5
        have t0 : (bits BinOp.and IntKind.i64 pg 2 == 0) = false := by rw [HAND]; exact decide_eq_false e0
        clear HAND
        have KS := Lib.hid (fun w' (b' : Below w1.heap.size w1 w') => show (fun w' => w'.cell? ⟨w.heap.size, 1, none⟩ = some (.int .i64 qw) ∧ w'.cell? ⟨w.heap.size, 4, none⟩ = some (.int .i64 qt) ∧ Below w1.heap.size w1 w') w' from ⟨((HQ.out.below b' lq).cell 1).trans rfl, ((HQ.out.below b' lq).cell 4).trans rfl, b'⟩)
        have hK0 := KS.out w1 (Below.refl _ _)
        have BD := Lib.hid (Below.refl w1.heap.size w1).drew
        go_enter Try.func44, Try.ntmps44
        go_upto_region 1 with fail
        rw [← hw1]
        clear hw1
        go_region_held3 (fun w' => w'.cell? ⟨w.heap.size, 1, none⟩ = some (.int .i64 qw) ∧ w'.cell? ⟨w.heap.size, 4, none⟩ = some (.int .i64 qt) ∧ Below w1.heap.size w1 w')
         (first | exact hK0 | exact KS.out _ BD.out | exact KS.out _ BV2 | exact KS.out _ BV1)
         (first
          | (go_at_call 65; refine (dtrack_yes ht g _ (HD.out.next BV1)).mono ?_; rintro e v2 ⟨⟨gC, o2, i2, rfl, lC, c1⟩, bt⟩; have BV2 := BV1.trans (bt.mono BV1.size))
          | (go_at_call 49; refine (dperson_yes HP.out g _ (HD.out.next BD.out)).mono ?_; rintro e v1 ⟨⟨gB, o, i, rfl, lB, cp0, cp1, cp2⟩, bp⟩; have BV1 := BD.out.trans (bp.mono BD.out.size)))
        have HB2 := Lib.hid BV2
        have cr2 : v2.cell? ⟨gB, o + i * 3 + 2, none⟩ = some (.int .i64 pg) := (bt.cell (p := ⟨gB, o + i * 3 + 2, none⟩) lB).trans cp2
        have cr1 : v2.cell? ⟨gB, o + i * 3 + 1, none⟩ = some (.int .i64 pr) := (bt.cell (p := ⟨gB, o + i * 3 + 1, none⟩) lB).trans cp1
        have lB2 : gB < v2.heap.size := by have := bt.size; omega
        have co : v2.cell? ⟨gC, o2 + i2 * 4 + 1, none⟩ = some (.int .i64 y.t.owner) := (bt.cell (p := ⟨gC, o2 + i2 * 4 + 1, none⟩) lC).trans c1
        have lC2 : gC < v2.heap.size := by have := bt.size; omega
        clear KS hK0 BD BV1 BV2 bp bt lB cp0 cp1 cp2 lC c1
        go_upto_region 6 with fail
        have KT := Lib.hid (fun w' (b' : Below v2.heap.size v2 w') => show (fun w' => w'.cell? ⟨gC, o2 + i2 * 4 + 1, none⟩ = some (.int .i64 y.t.owner) ∧ w'.cell? ⟨gB, o + i * 3 + 1, none⟩ = some (.int .i64 pr) ∧ Below v2.heap.size v2 w') w' from ⟨(b'.cell (p := ⟨gC, o2 + i2 * 4 + 1, none⟩) lC2).trans co, (b'.cell (p := ⟨gB, o + i * 3 + 1, none⟩) lB2).trans cr1, b'⟩)
        have hK1 := KT.out v2 (Below.refl _ _)
        have BD := Lib.hid (Below.refl v2.heap.size v2).drew
        have CI := Lib.hid (fun w' (b' : Below v2.heap.size v2 w') => (show Calls Try.prog 71 #[.pointer (some ⟨g, 0, none⟩), .int .i64 y.t.owner, .int .i64 pr] w' (fun e w'' => e = .returned (.bool true) ∧ Below w'.heap.size w' w'') by have h := disIn s g y.t.owner pr w' (HD.out.next (HB2.out.trans (b'.mono HB2.out.size))); rw [decide_eq_true e1] at h; exact h))
        go_region_held3 (fun w' => w'.cell? ⟨gC, o2 + i2 * 4 + 1, none⟩ = some (.int .i64 y.t.owner) ∧ w'.cell? ⟨gB, o + i * 3 + 1, none⟩ = some (.int .i64 pr) ∧ Below v2.heap.size v2 w')
         (first | exact hK1 | exact KT.out _ BD.out | exact KT.out _ BV3)
         ((go_at_call 71; refine (CI.out _ BD.out).mono ?_; rintro e v3 ⟨rfl, b3⟩; have BV3 := BD.out.trans (b3.mono BD.out.size)))
        have HB3 := Lib.hid (HB2.out.trans (BV3.mono HB2.out.size))
        clear KT hK1 CI b3 BV3 co cr1 cr2 lB2 lC2 BD
        have q1 : v3.cell? ⟨w.heap.size, 1, none⟩ = some (.int .i64 qw) := ((HQ.out.below HB3.out lq).cell 1).trans rfl
        have q4 : v3.cell? ⟨w.heap.size, 4, none⟩ = some (.int .i64 qt) := ((HQ.out.below HB3.out lq).cell 4).trans rfl
        go_wp2_with fail
        refine (dsub_no hb g v3 (HD.out.next HB3.out)).mono ?_
        rintro e w4 ⟨rfl, b4⟩
        have HB4 := Lib.hid (HB3.out.trans (b4.mono (HB3.out).size))
        clear b4
        clear q1 q4
        have q0 : w4.cell? ⟨w.heap.size, 0, none⟩ = some (.int .i64 qk) := ((HQ.out.below HB4.out lq).cell 0).trans rfl
        have q1 : w4.cell? ⟨w.heap.size, 1, none⟩ = some (.int .i64 qw) := ((HQ.out.below HB4.out lq).cell 1).trans rfl
        have q2 : w4.cell? ⟨w.heap.size, 2, none⟩ = some (.int .i64 qr) := ((HQ.out.below HB4.out lq).cell 2).trans rfl
        have q3 : w4.cell? ⟨w.heap.size, 3, none⟩ = some (.int .i64 qg) := ((HQ.out.below HB4.out lq).cell 3).trans rfl
        have q4 : w4.cell? ⟨w.heap.size, 4, none⟩ = some (.int .i64 qt) := ((HQ.out.below HB4.out lq).cell 4).trans rfl
        have q5 : w4.cell? ⟨w.heap.size, 5, none⟩ = some (.slice Q qn qc) := ((HQ.out.below HB4.out lq).cell 5).trans rfl
        have q6 : w4.cell? ⟨w.heap.size, 6, none⟩ = some (.int .i64 ql) := ((HQ.out.below HB4.out lq).cell 6).trans rfl
        have q7 : w4.cell? ⟨w.heap.size, 7, none⟩ = some (.int .i64 qd) := ((HQ.out.below HB4.out lq).cell 7).trans rfl
        go_wp2_with fail
        refine ((show Calls Try.prog 72 #[.agg #[.int .i64 qk, .int .i64 qw, .int .i64 qr, .int .i64 qg, .int .i64 qt, .slice Q qn qc, .int .i64 ql, .int .i64 qd]] w4 (fun e w' => e = .returned (.bool true) ∧ Below w4.heap.size w4 w') by have h := dmayChoose (⟨qk, qw, qr, qg, qt, qs, ql, qd⟩ : Rq) Q qn qc w4; rw [e2] at h; exact h)).mono ?_
        rintro e w5 ⟨rfl, b5⟩
        have HB5 := Lib.hid (HB4.out.trans (b5.mono (HB4.out).size))
        clear b5
        clear q0 q1 q2 q3 q4 q5 q6 q7
        have q1 : w5.cell? ⟨w.heap.size, 1, none⟩ = some (.int .i64 qw) := ((HQ.out.below HB5.out lq).cell 1).trans rfl
        have q4 : w5.cell? ⟨w.heap.size, 4, none⟩ = some (.int .i64 qt) := ((HQ.out.below HB5.out lq).cell 4).trans rfl
        have g2 : w5.cell? ⟨g, 2, none⟩ = some (.int .i64 s.X.cf.bs) := ((HG.out.below HB5.out lg1).cell 2).trans rfl
        go_upto_region 12 with fail
        have KT := Lib.hid (fun w' (b' : Below w5.heap.size w5 w') => show (fun w' => w'.cell? ⟨w.heap.size, 1, none⟩ = some (.int .i64 qw) ∧ w'.cell? ⟨g, 2, none⟩ = some (.int .i64 s.X.cf.bs) ∧ Below w5.heap.size w5 w') w' from ⟨((HQ.out.below (HB5.out.trans (b'.mono HB5.out.size)) lq).cell 1).trans rfl, ((HG.out.below (HB5.out.trans (b'.mono HB5.out.size)) lg1).cell 2).trans rfl, b'⟩)
        have hK1 := KT.out w5 (Below.refl _ _)
        have BD := Lib.hid (Below.refl w5.heap.size w5).drew
        have CI := Lib.hid (fun w' (b' : Below w5.heap.size w5 w') => (show Calls Try.prog 73 #[.pointer (some ⟨g, 0, none⟩), .int .i64 qw] w' (fun e w'' => e = .returned (.int .i64 (m : Int)) ∧ Below w'.heap.size w' w'') by have h := dsubsOf s g qw w' (HD.out.next (HB5.out.trans (b'.mono HB5.out.size))); rw [HM.out] at h; exact h))
        go_region_held3 (fun w' => w'.cell? ⟨w.heap.size, 1, none⟩ = some (.int .i64 qw) ∧ w'.cell? ⟨g, 2, none⟩ = some (.int .i64 s.X.cf.bs) ∧ Below w5.heap.size w5 w')
         (first | exact hK1 | exact KT.out _ BD.out | exact KT.out _ BV6)
         ((go_at_call 73; refine (CI.out _ BD.out).mono ?_; rintro e w6 ⟨rfl, b6⟩; have BV6 := BD.out.trans (b6.mono BD.out.size)))
        have HB6 := Lib.hid (HB5.out.trans (BV6.mono HB5.out.size))
        clear KT hK1 CI b6 BV6 BD q1 q4 g2
        have HF := Lib.hid (show (subscribeS s.X ⟨pw, pr, pg⟩ (⟨qk, qw, qr, qg, qt, qs, ql, qd⟩ : Rq)).2 = 25 from subscribe_err HX.out.r.ts HI.out (n := 25) (by unfold subE; dsimp only; rw [if_neg e0, ht]; dsimp only; rw [if_neg (not_not_intro e1), if_neg (by rw [hb]; decide), if_neg (by rw [e2]; decide), if_pos (by rw [HM.out]; exact e5)]) (by decide))
        go_wp2_with fail
        go_ret
        exact ⟨by rw [HF.out]; rfl, HBW.out.trans (but_of_below HB6.out), fun h => by rw [HF.out] at h; cases h⟩
      · clear hm
        by_cases e6 : s.X.cf.sl ≤ (nb : Int)
        · skip
          have t6 : s.X.cf.sl ≤ (nb : Int) := e6
          have t5 : ¬ s.X.cf.bs ≤ (m : Int) := e5
          have t0 : (bits BinOp.and IntKind.i64 pg 2 == 0) = false := by rw [HAND]; exact decide_eq_false e0
          clear HAND
          have KS := Lib.hid (fun w' (b' : Below w1.heap.size w1 w') => show (fun w' => w'.cell? ⟨w.heap.size, 1, none⟩ = some (.int .i64 qw) ∧ w'.cell? ⟨w.heap.size, 4, none⟩ = some (.int .i64 qt) ∧ Below w1.heap.size w1 w') w' from ⟨((HQ.out.below b' lq).cell 1).trans rfl, ((HQ.out.below b' lq).cell 4).trans rfl, b'⟩)
          have hK0 := KS.out w1 (Below.refl _ _)
          have BD := Lib.hid (Below.refl w1.heap.size w1).drew
          go_enter Try.func44, Try.ntmps44
          go_upto_region 1 with fail
          rw [← hw1]
          clear hw1
          go_region_held3 (fun w' => w'.cell? ⟨w.heap.size, 1, none⟩ = some (.int .i64 qw) ∧ w'.cell? ⟨w.heap.size, 4, none⟩ = some (.int .i64 qt) ∧ Below w1.heap.size w1 w')
           (first | exact hK0 | exact KS.out _ BD.out | exact KS.out _ BV2 | exact KS.out _ BV1)
           (first
            | (go_at_call 65; refine (dtrack_yes ht g _ (HD.out.next BV1)).mono ?_; rintro e v2 ⟨⟨gC, o2, i2, rfl, lC, c1⟩, bt⟩; have BV2 := BV1.trans (bt.mono BV1.size))
            | (go_at_call 49; refine (dperson_yes HP.out g _ (HD.out.next BD.out)).mono ?_; rintro e v1 ⟨⟨gB, o, i, rfl, lB, cp0, cp1, cp2⟩, bp⟩; have BV1 := BD.out.trans (bp.mono BD.out.size)))
          have HB2 := Lib.hid BV2
          have cr2 : v2.cell? ⟨gB, o + i * 3 + 2, none⟩ = some (.int .i64 pg) := (bt.cell (p := ⟨gB, o + i * 3 + 2, none⟩) lB).trans cp2
          have cr1 : v2.cell? ⟨gB, o + i * 3 + 1, none⟩ = some (.int .i64 pr) := (bt.cell (p := ⟨gB, o + i * 3 + 1, none⟩) lB).trans cp1
          have lB2 : gB < v2.heap.size := by have := bt.size; omega
          have co : v2.cell? ⟨gC, o2 + i2 * 4 + 1, none⟩ = some (.int .i64 y.t.owner) := (bt.cell (p := ⟨gC, o2 + i2 * 4 + 1, none⟩) lC).trans c1
          have lC2 : gC < v2.heap.size := by have := bt.size; omega
          clear KS hK0 BD BV1 BV2 bp bt lB cp0 cp1 cp2 lC c1
          go_upto_region 6 with fail
          have KT := Lib.hid (fun w' (b' : Below v2.heap.size v2 w') => show (fun w' => w'.cell? ⟨gC, o2 + i2 * 4 + 1, none⟩ = some (.int .i64 y.t.owner) ∧ w'.cell? ⟨gB, o + i * 3 + 1, none⟩ = some (.int .i64 pr) ∧ Below v2.heap.size v2 w') w' from ⟨(b'.cell (p := ⟨gC, o2 + i2 * 4 + 1, none⟩) lC2).trans co, (b'.cell (p := ⟨gB, o + i * 3 + 1, none⟩) lB2).trans cr1, b'⟩)
          have hK1 := KT.out v2 (Below.refl _ _)
          have BD := Lib.hid (Below.refl v2.heap.size v2).drew
          have CI := Lib.hid (fun w' (b' : Below v2.heap.size v2 w') => (show Calls Try.prog 71 #[.pointer (some ⟨g, 0, none⟩), .int .i64 y.t.owner, .int .i64 pr] w' (fun e w'' => e = .returned (.bool true) ∧ Below w'.heap.size w' w'') by have h := disIn s g y.t.owner pr w' (HD.out.next (HB2.out.trans (b'.mono HB2.out.size))); rw [decide_eq_true e1] at h; exact h))
          go_region_held3 (fun w' => w'.cell? ⟨gC, o2 + i2 * 4 + 1, none⟩ = some (.int .i64 y.t.owner) ∧ w'.cell? ⟨gB, o + i * 3 + 1, none⟩ = some (.int .i64 pr) ∧ Below v2.heap.size v2 w')
           (first | exact hK1 | exact KT.out _ BD.out | exact KT.out _ BV3)
           ((go_at_call 71; refine (CI.out _ BD.out).mono ?_; rintro e v3 ⟨rfl, b3⟩; have BV3 := BD.out.trans (b3.mono BD.out.size)))
          have HB3 := Lib.hid (HB2.out.trans (BV3.mono HB2.out.size))
          clear KT hK1 CI b3 BV3 co cr1 cr2 lB2 lC2 BD
          have q1 : v3.cell? ⟨w.heap.size, 1, none⟩ = some (.int .i64 qw) := ((HQ.out.below HB3.out lq).cell 1).trans rfl
          have q4 : v3.cell? ⟨w.heap.size, 4, none⟩ = some (.int .i64 qt) := ((HQ.out.below HB3.out lq).cell 4).trans rfl
          go_wp2_with fail
          refine (dsub_no hb g v3 (HD.out.next HB3.out)).mono ?_
          rintro e w4 ⟨rfl, b4⟩
          have HB4 := Lib.hid (HB3.out.trans (b4.mono (HB3.out).size))
          clear b4
          clear q1 q4
          have q0 : w4.cell? ⟨w.heap.size, 0, none⟩ = some (.int .i64 qk) := ((HQ.out.below HB4.out lq).cell 0).trans rfl
          have q1 : w4.cell? ⟨w.heap.size, 1, none⟩ = some (.int .i64 qw) := ((HQ.out.below HB4.out lq).cell 1).trans rfl
          have q2 : w4.cell? ⟨w.heap.size, 2, none⟩ = some (.int .i64 qr) := ((HQ.out.below HB4.out lq).cell 2).trans rfl
          have q3 : w4.cell? ⟨w.heap.size, 3, none⟩ = some (.int .i64 qg) := ((HQ.out.below HB4.out lq).cell 3).trans rfl
          have q4 : w4.cell? ⟨w.heap.size, 4, none⟩ = some (.int .i64 qt) := ((HQ.out.below HB4.out lq).cell 4).trans rfl
          have q5 : w4.cell? ⟨w.heap.size, 5, none⟩ = some (.slice Q qn qc) := ((HQ.out.below HB4.out lq).cell 5).trans rfl
          have q6 : w4.cell? ⟨w.heap.size, 6, none⟩ = some (.int .i64 ql) := ((HQ.out.below HB4.out lq).cell 6).trans rfl
          have q7 : w4.cell? ⟨w.heap.size, 7, none⟩ = some (.int .i64 qd) := ((HQ.out.below HB4.out lq).cell 7).trans rfl
          go_wp2_with fail
          refine ((show Calls Try.prog 72 #[.agg #[.int .i64 qk, .int .i64 qw, .int .i64 qr, .int .i64 qg, .int .i64 qt, .slice Q qn qc, .int .i64 ql, .int .i64 qd]] w4 (fun e w' => e = .returned (.bool true) ∧ Below w4.heap.size w4 w') by have h := dmayChoose (⟨qk, qw, qr, qg, qt, qs, ql, qd⟩ : Rq) Q qn qc w4; rw [e2] at h; exact h)).mono ?_
          rintro e w5 ⟨rfl, b5⟩
          have HB5 := Lib.hid (HB4.out.trans (b5.mono (HB4.out).size))
          clear b5
          clear q0 q1 q2 q3 q4 q5 q6 q7
          have q1 : w5.cell? ⟨w.heap.size, 1, none⟩ = some (.int .i64 qw) := ((HQ.out.below HB5.out lq).cell 1).trans rfl
          have q4 : w5.cell? ⟨w.heap.size, 4, none⟩ = some (.int .i64 qt) := ((HQ.out.below HB5.out lq).cell 4).trans rfl
          have g2 : w5.cell? ⟨g, 2, none⟩ = some (.int .i64 s.X.cf.bs) := ((HG.out.below HB5.out lg1).cell 2).trans rfl
          go_upto_region 12 with fail
          have KT := Lib.hid (fun w' (b' : Below w5.heap.size w5 w') => show (fun w' => w'.cell? ⟨w.heap.size, 1, none⟩ = some (.int .i64 qw) ∧ w'.cell? ⟨g, 2, none⟩ = some (.int .i64 s.X.cf.bs) ∧ Below w5.heap.size w5 w') w' from ⟨((HQ.out.below (HB5.out.trans (b'.mono HB5.out.size)) lq).cell 1).trans rfl, ((HG.out.below (HB5.out.trans (b'.mono HB5.out.size)) lg1).cell 2).trans rfl, b'⟩)
          have hK1 := KT.out w5 (Below.refl _ _)
          have BD := Lib.hid (Below.refl w5.heap.size w5).drew
          have CI := Lib.hid (fun w' (b' : Below w5.heap.size w5 w') => (show Calls Try.prog 73 #[.pointer (some ⟨g, 0, none⟩), .int .i64 qw] w' (fun e w'' => e = .returned (.int .i64 (m : Int)) ∧ Below w'.heap.size w' w'') by have h := dsubsOf s g qw w' (HD.out.next (HB5.out.trans (b'.mono HB5.out.size))); rw [HM.out] at h; exact h))
          go_region_held3 (fun w' => w'.cell? ⟨w.heap.size, 1, none⟩ = some (.int .i64 qw) ∧ w'.cell? ⟨g, 2, none⟩ = some (.int .i64 s.X.cf.bs) ∧ Below w5.heap.size w5 w')
           (first | exact hK1 | exact KT.out _ BD.out | exact KT.out _ BV6)
           ((go_at_call 73; refine (CI.out _ BD.out).mono ?_; rintro e w6 ⟨rfl, b6⟩; have BV6 := BD.out.trans (b6.mono BD.out.size)))
          have HB6 := Lib.hid (HB5.out.trans (BV6.mono HB5.out.size))
          clear KT hK1 CI b6 BV6 BD q1 q4 g2
          have g3 : w6.cell? ⟨g, 3, none⟩ = some (.int .i64 s.X.cf.sl) := ((HG.out.below HB6.out lg1).cell 3).trans rfl
          have g6 : w6.cell? ⟨g, 6, none⟩ = some (.slice s.C nb s.c) := ((HG.out.below HB6.out lg1).cell 6).trans rfl
          go_upto_region 14 with fail
          go_region
          obtain ⟨w7, hw7⟩ : ∃ z, z = w6.drew := ⟨_, rfl⟩
          have HB7 := Lib.hid (show Below w1.heap.size w1 w7 by rw [hw7]; exact (HB6.out).drew)
          rw [← hw7]
          clear hw7
          clear g3 g6
          have HF := Lib.hid (show (subscribeS s.X ⟨pw, pr, pg⟩ (⟨qk, qw, qr, qg, qt, qs, ql, qd⟩ : Rq)).2 = 20 from subscribe_err HX.out.r.ts HI.out (n := 20) (by unfold subE; dsimp only; rw [if_neg e0, ht]; dsimp only; rw [if_neg (not_not_intro e1), if_neg (by rw [hb]; decide), if_neg (by rw [e2]; decide), if_neg (by rw [HM.out]; omega), if_pos (by rw [HNB.out]; exact e6)]) (by decide))
          go_wp2_with fail
          go_ret
          exact ⟨by rw [HF.out]; rfl, HBW.out.trans (but_of_below HB7.out), fun h => by rw [HF.out] at h; cases h⟩
        · skip
          have t6 : ¬ s.X.cf.sl ≤ (nb : Int) := e6
          have PL := Lib.hid (show (nb : Int) < 64 by have := HI.out.bl; have h8 := HI.out.cf; unfold confL at h8; simp only [decide_eq_true_eq] at h8; rw [HNB.out] at this; omega)
          have t5 : ¬ s.X.cf.bs ≤ (m : Int) := e5
          have t0 : (bits BinOp.and IntKind.i64 pg 2 == 0) = false := by rw [HAND]; exact decide_eq_false e0
          clear HAND
          have KS := Lib.hid (fun w' (b' : Below w1.heap.size w1 w') => show (fun w' => w'.cell? ⟨w.heap.size, 1, none⟩ = some (.int .i64 qw) ∧ w'.cell? ⟨w.heap.size, 4, none⟩ = some (.int .i64 qt) ∧ Below w1.heap.size w1 w') w' from ⟨((HQ.out.below b' lq).cell 1).trans rfl, ((HQ.out.below b' lq).cell 4).trans rfl, b'⟩)
          have hK0 := KS.out w1 (Below.refl _ _)
          have BD := Lib.hid (Below.refl w1.heap.size w1).drew
          go_enter Try.func44, Try.ntmps44
          go_upto_region 1 with fail
          rw [← hw1]
          clear hw1
          go_region_held3 (fun w' => w'.cell? ⟨w.heap.size, 1, none⟩ = some (.int .i64 qw) ∧ w'.cell? ⟨w.heap.size, 4, none⟩ = some (.int .i64 qt) ∧ Below w1.heap.size w1 w')
           (first | exact hK0 | exact KS.out _ BD.out | exact KS.out _ BV2 | exact KS.out _ BV1)
           (first
            | (go_at_call 65; refine (dtrack_yes ht g _ (HD.out.next BV1)).mono ?_; rintro e v2 ⟨⟨gC, o2, i2, rfl, lC, c1⟩, bt⟩; have BV2 := BV1.trans (bt.mono BV1.size))
            | (go_at_call 49; refine (dperson_yes HP.out g _ (HD.out.next BD.out)).mono ?_; rintro e v1 ⟨⟨gB, o, i, rfl, lB, cp0, cp1, cp2⟩, bp⟩; have BV1 := BD.out.trans (bp.mono BD.out.size)))
          have HB2 := Lib.hid BV2
          have cr2 : v2.cell? ⟨gB, o + i * 3 + 2, none⟩ = some (.int .i64 pg) := (bt.cell (p := ⟨gB, o + i * 3 + 2, none⟩) lB).trans cp2
          have cr1 : v2.cell? ⟨gB, o + i * 3 + 1, none⟩ = some (.int .i64 pr) := (bt.cell (p := ⟨gB, o + i * 3 + 1, none⟩) lB).trans cp1
          have lB2 : gB < v2.heap.size := by have := bt.size; omega
          have co : v2.cell? ⟨gC, o2 + i2 * 4 + 1, none⟩ = some (.int .i64 y.t.owner) := (bt.cell (p := ⟨gC, o2 + i2 * 4 + 1, none⟩) lC).trans c1
          have lC2 : gC < v2.heap.size := by have := bt.size; omega
          clear KS hK0 BD BV1 BV2 bp bt lB cp0 cp1 cp2 lC c1
          go_upto_region 6 with fail
          have KT := Lib.hid (fun w' (b' : Below v2.heap.size v2 w') => show (fun w' => w'.cell? ⟨gC, o2 + i2 * 4 + 1, none⟩ = some (.int .i64 y.t.owner) ∧ w'.cell? ⟨gB, o + i * 3 + 1, none⟩ = some (.int .i64 pr) ∧ Below v2.heap.size v2 w') w' from ⟨(b'.cell (p := ⟨gC, o2 + i2 * 4 + 1, none⟩) lC2).trans co, (b'.cell (p := ⟨gB, o + i * 3 + 1, none⟩) lB2).trans cr1, b'⟩)
          have hK1 := KT.out v2 (Below.refl _ _)
          have BD := Lib.hid (Below.refl v2.heap.size v2).drew
          have CI := Lib.hid (fun w' (b' : Below v2.heap.size v2 w') => (show Calls Try.prog 71 #[.pointer (some ⟨g, 0, none⟩), .int .i64 y.t.owner, .int .i64 pr] w' (fun e w'' => e = .returned (.bool true) ∧ Below w'.heap.size w' w'') by have h := disIn s g y.t.owner pr w' (HD.out.next (HB2.out.trans (b'.mono HB2.out.size))); rw [decide_eq_true e1] at h; exact h))
          go_region_held3 (fun w' => w'.cell? ⟨gC, o2 + i2 * 4 + 1, none⟩ = some (.int .i64 y.t.owner) ∧ w'.cell? ⟨gB, o + i * 3 + 1, none⟩ = some (.int .i64 pr) ∧ Below v2.heap.size v2 w')
           (first | exact hK1 | exact KT.out _ BD.out | exact KT.out _ BV3)
           ((go_at_call 71; refine (CI.out _ BD.out).mono ?_; rintro e v3 ⟨rfl, b3⟩; have BV3 := BD.out.trans (b3.mono BD.out.size)))
          have HB3 := Lib.hid (HB2.out.trans (BV3.mono HB2.out.size))
          clear KT hK1 CI b3 BV3 co cr1 cr2 lB2 lC2 BD
          have q1 : v3.cell? ⟨w.heap.size, 1, none⟩ = some (.int .i64 qw) := ((HQ.out.below HB3.out lq).cell 1).trans rfl
          have q4 : v3.cell? ⟨w.heap.size, 4, none⟩ = some (.int .i64 qt) := ((HQ.out.below HB3.out lq).cell 4).trans rfl
          go_wp2_with fail
          refine (dsub_no hb g v3 (HD.out.next HB3.out)).mono ?_
          rintro e w4 ⟨rfl, b4⟩
          have HB4 := Lib.hid (HB3.out.trans (b4.mono (HB3.out).size))
          clear b4
          clear q1 q4
          have q0 : w4.cell? ⟨w.heap.size, 0, none⟩ = some (.int .i64 qk) := ((HQ.out.below HB4.out lq).cell 0).trans rfl
          have q1 : w4.cell? ⟨w.heap.size, 1, none⟩ = some (.int .i64 qw) := ((HQ.out.below HB4.out lq).cell 1).trans rfl
          have q2 : w4.cell? ⟨w.heap.size, 2, none⟩ = some (.int .i64 qr) := ((HQ.out.below HB4.out lq).cell 2).trans rfl
          have q3 : w4.cell? ⟨w.heap.size, 3, none⟩ = some (.int .i64 qg) := ((HQ.out.below HB4.out lq).cell 3).trans rfl
          have q4 : w4.cell? ⟨w.heap.size, 4, none⟩ = some (.int .i64 qt) := ((HQ.out.below HB4.out lq).cell 4).trans rfl
          have q5 : w4.cell? ⟨w.heap.size, 5, none⟩ = some (.slice Q qn qc) := ((HQ.out.below HB4.out lq).cell 5).trans rfl
          have q6 : w4.cell? ⟨w.heap.size, 6, none⟩ = some (.int .i64 ql) := ((HQ.out.below HB4.out lq).cell 6).trans rfl
          have q7 : w4.cell? ⟨w.heap.size, 7, none⟩ = some (.int .i64 qd) := ((HQ.out.below HB4.out lq).cell 7).trans rfl
          go_wp2_with fail
          refine ((show Calls Try.prog 72 #[.agg #[.int .i64 qk, .int .i64 qw, .int .i64 qr, .int .i64 qg, .int .i64 qt, .slice Q qn qc, .int .i64 ql, .int .i64 qd]] w4 (fun e w' => e = .returned (.bool true) ∧ Below w4.heap.size w4 w') by have h := dmayChoose (⟨qk, qw, qr, qg, qt, qs, ql, qd⟩ : Rq) Q qn qc w4; rw [e2] at h; exact h)).mono ?_
          rintro e w5 ⟨rfl, b5⟩
          have HB5 := Lib.hid (HB4.out.trans (b5.mono (HB4.out).size))
          clear b5
          clear q0 q1 q2 q3 q4 q5 q6 q7
          have q1 : w5.cell? ⟨w.heap.size, 1, none⟩ = some (.int .i64 qw) := ((HQ.out.below HB5.out lq).cell 1).trans rfl
          have q4 : w5.cell? ⟨w.heap.size, 4, none⟩ = some (.int .i64 qt) := ((HQ.out.below HB5.out lq).cell 4).trans rfl
          have g2 : w5.cell? ⟨g, 2, none⟩ = some (.int .i64 s.X.cf.bs) := ((HG.out.below HB5.out lg1).cell 2).trans rfl
          go_upto_region 12 with fail
          have KT := Lib.hid (fun w' (b' : Below w5.heap.size w5 w') => show (fun w' => w'.cell? ⟨w.heap.size, 1, none⟩ = some (.int .i64 qw) ∧ w'.cell? ⟨g, 2, none⟩ = some (.int .i64 s.X.cf.bs) ∧ Below w5.heap.size w5 w') w' from ⟨((HQ.out.below (HB5.out.trans (b'.mono HB5.out.size)) lq).cell 1).trans rfl, ((HG.out.below (HB5.out.trans (b'.mono HB5.out.size)) lg1).cell 2).trans rfl, b'⟩)
          have hK1 := KT.out w5 (Below.refl _ _)
          have BD := Lib.hid (Below.refl w5.heap.size w5).drew
          have CI := Lib.hid (fun w' (b' : Below w5.heap.size w5 w') => (show Calls Try.prog 73 #[.pointer (some ⟨g, 0, none⟩), .int .i64 qw] w' (fun e w'' => e = .returned (.int .i64 (m : Int)) ∧ Below w'.heap.size w' w'') by have h := dsubsOf s g qw w' (HD.out.next (HB5.out.trans (b'.mono HB5.out.size))); rw [HM.out] at h; exact h))
          go_region_held3 (fun w' => w'.cell? ⟨w.heap.size, 1, none⟩ = some (.int .i64 qw) ∧ w'.cell? ⟨g, 2, none⟩ = some (.int .i64 s.X.cf.bs) ∧ Below w5.heap.size w5 w')
           (first | exact hK1 | exact KT.out _ BD.out | exact KT.out _ BV6)
           ((go_at_call 73; refine (CI.out _ BD.out).mono ?_; rintro e w6 ⟨rfl, b6⟩; have BV6 := BD.out.trans (b6.mono BD.out.size)))
          have HB6 := Lib.hid (HB5.out.trans (BV6.mono HB5.out.size))
          clear KT hK1 CI b6 BV6 BD q1 q4 g2
          have g3 : w6.cell? ⟨g, 3, none⟩ = some (.int .i64 s.X.cf.sl) := ((HG.out.below HB6.out lg1).cell 3).trans rfl
          have g6 : w6.cell? ⟨g, 6, none⟩ = some (.slice s.C nb s.c) := ((HG.out.below HB6.out lg1).cell 6).trans rfl
          go_upto_region 14 with fail
          go_region
          obtain ⟨w7, hw7⟩ : ∃ z, z = w6.drew := ⟨_, rfl⟩
          have HB7 := Lib.hid (show Below w1.heap.size w1 w7 by rw [hw7]; exact (HB6.out).drew)
          rw [← hw7]
          clear hw7
          clear g3 g6
          have q1 : w7.cell? ⟨w.heap.size, 1, none⟩ = some (.int .i64 qw) := ((HQ.out.below HB7.out lq).cell 1).trans rfl
          have q4 : w7.cell? ⟨w.heap.size, 4, none⟩ = some (.int .i64 qt) := ((HQ.out.below HB7.out lq).cell 4).trans rfl
          have q6 : w7.cell? ⟨w.heap.size, 6, none⟩ = some (.int .i64 ql) := ((HQ.out.below HB7.out lq).cell 6).trans rfl
          have q7 : w7.cell? ⟨w.heap.size, 7, none⟩ = some (.int .i64 qd) := ((HQ.out.below HB7.out lq).cell 7).trans rfl
          go_upto_region 17 with fail
          obtain ⟨wo, hwo⟩ : ∃ z, z = w7.alloc (.cells #[.int .i64 qw, .int .i64 qt, .int .i64 ql, .int .i64 qd, .bool false] 55) := ⟨_, rfl⟩
          have bo : Below w1.heap.size w1 wo := by rw [hwo]; exact HB7.out.alloc HB7.out.size _
          have hP : Whole wo w7.heap.size 55 #[.int .i64 qw, .int .i64 qt, .int .i64 ql, .int .i64 qd, .bool false] := by rw [hwo]; exact Whole.new w7 _ _
          have s7 := HB7.out.size
          have FARP := Lib.hid (fun (e : (Value.slice s.C nb s.c).ownBlock = some w7.heap.size) => (by have h2 := (HX.out.r.ob.lt _ (by rw [HNB.out]; exact e)).2; omega : False))
          clear q1 q4 q6 q7
          have hbo := bo.size
          have hXo := HX.out.next bo
          have hqo := HQ.out.below bo lq
          have CP := Lib.hid (show Calls Try.prog 74 #[.slice s.C nb s.c, .agg #[.int .i64 qw, .int .i64 qt, .int .i64 ql, .int .i64 qd, .bool false], .func (.func 75) #[] #[.pointer (some ⟨w.heap.size, 0, none⟩)]] wo.drew fun e w' => ∃ A' c', e = .returned (.slice A' (nb + 1) c') ∧ w'.ownsRow base 55 5 (.slice A' (nb + 1) c') (nb + 1) (sbC (putS (fun x : Sb => decide (qw < x.who ∨ x.who = qw ∧ qt < x.track)) s.X.bs ⟨qw, qt, ql, qd, false⟩)) ∧ But (fun k => (Value.slice s.C nb s.c).ownBlock = some k) wo w' from by
           have h2 := dputB base 75 (.pointer (some ⟨w.heap.size, 0, none⟩)) (fun x : Sb => decide (qw < x.who ∨ x.who = qw ∧ qt < x.track)) s.C s.c s.X.bs ⟨qw, qt, ql, qd, false⟩ wo.drew (enters Try.func75 (by kernel_rfl) (by kernel_rfl)) hXo.r.ob (by rw [HNB.out]; omega) (Nat.le_trans hb1 hbo)
            (fun x _ wx hb => cl_subscribe x w.heap.size qw qt wx ((hqo.below (of_drew hb) hqo.lt).cell 1) ((hqo.below (of_drew hb) hqo.lt).cell 4) (by have h3 : wo.heap.size ≤ wx.heap.size := hb.size; have := hqo.lt; omega))
           rw [HNB.out] at h2
           exact h2.mono (fun e w' ⟨A', c', x1, x2, x3⟩ => ⟨A', c', x1, x2, (But.refl _ wo).drew.trans x3⟩))
          have HGO := Lib.hid (show Whole wo g 31 #[.int .i64 s.X.cf.ps, .int .i64 s.X.cf.ts, .int .i64 s.X.cf.bs, .int .i64 s.X.cf.sl, .slice s.A np s.a, .slice s.B nt s.b, .slice s.C nb s.c] from HG.out.below bo lg1)
          have FARG := Lib.hid (fun (e : (Value.slice s.C nb s.c).ownBlock = some g) => (own_far HX.out.r.ob HX.out.at' (by decide) (by rw [HNB.out]; exact e.symm) : False))
          have KS := Lib.hid (fun w' (b' : But (fun k => (Value.slice s.C nb s.c).ownBlock = some k) wo w') => show (fun w' => w'.cell? ⟨g, 6, none⟩ = some (.slice s.C nb s.c) ∧ w'.cell? ⟨w7.heap.size, 0, none⟩ = some (.int .i64 qw) ∧ w'.cell? ⟨w7.heap.size, 1, none⟩ = some (.int .i64 qt) ∧ w'.cell? ⟨w7.heap.size, 2, none⟩ = some (.int .i64 ql) ∧ w'.cell? ⟨w7.heap.size, 3, none⟩ = some (.int .i64 qd) ∧ w'.cell? ⟨w7.heap.size, 4, none⟩ = some (.bool false)) w' from ⟨(HGO.out.but b' FARG.out).cell 6, (hP.but b' FARP.out).cell 0, (hP.but b' FARP.out).cell 1, (hP.but b' FARP.out).cell 2, (hP.but b' FARP.out).cell 3, (hP.but b' FARP.out).cell 4⟩)
          have HXO := Lib.hid hXo
          have HBO := Lib.hid bo
          have lgo := HGO.out.lt
          have lpo := hP.lt
          rw [← hwo]
          clear hwo
          clear hP hXo hqo bo
          refine wp_region_X (S := fun w' => w'.cell? ⟨g, 6, none⟩ = some (.slice s.C nb s.c) ∧ w'.cell? ⟨w7.heap.size, 0, none⟩ = some (.int .i64 qw) ∧ w'.cell? ⟨w7.heap.size, 1, none⟩ = some (.int .i64 qt) ∧ w'.cell? ⟨w7.heap.size, 2, none⟩ = some (.int .i64 ql) ∧ w'.cell? ⟨w7.heap.size, 3, none⟩ = some (.int .i64 qd) ∧ w'.cell? ⟨w7.heap.size, 4, none⟩ = some (.bool false)) [10] (by kernel_rfl) (KS.out _ (But.refl _ _).drew) (fun hHeld0 => ?_)
          refine tk (i := 0) [8, 9, 10] (v := ?_) ?_ ?_
          rotate_left 1
          · (intro w hSw; obtain ⟨m0, m1, m2, m3, m4, m5⟩ := hSw; go_simp; try (with_reducible rfl))
          (try walk_nrm)
          refine tk (i := 1) [2, 3, 4, 7, 8, 9, 10] (v := ?_) ?_ ?_
          rotate_left 1
          · (intro w hSw; obtain ⟨m0, m1, m2, m3, m4, m5⟩ := hSw; go_simp; try (with_reducible rfl))
          (try walk_nrm)
          refine tk (i := 2) [3, 4, 7, 8, 9, 10] (v := ?_) ?_ ?_
          rotate_left 1
          · (intro w hSw; obtain ⟨m0, m1, m2, m3, m4, m5⟩ := hSw; go_simp; try (with_reducible rfl))
          (try walk_nrm)
          refine tk (i := 3) [4, 7, 8, 9, 10] (v := ?_) ?_ ?_
          rotate_left 1
          · (intro w hSw; obtain ⟨m0, m1, m2, m3, m4, m5⟩ := hSw; go_simp; try (with_reducible rfl))
          (try walk_nrm)
          refine tk (i := 4) [7, 8, 9, 10] (v := ?_) ?_ ?_
          rotate_left 1
          · (intro w hSw; obtain ⟨m0, m1, m2, m3, m4, m5⟩ := hSw; go_simp; try (with_reducible rfl))
          (try walk_nrm)
          refine tk (i := 5) [7, 8, 9, 10] (v := ?_) ?_ ?_
          rotate_left 1
          · (intro w hSw; obtain ⟨m0, m1, m2, m3, m4, m5⟩ := hSw; go_simp; try (with_reducible rfl))
          (try walk_nrm)
          refine tk (i := 6) [7, 8, 9, 10] (v := ?_) ?_ ?_
          rotate_left 1
          · (intro w hSw; obtain ⟨m0, m1, m2, m3, m4, m5⟩ := hSw; go_simp; try (with_reducible rfl))
          (try walk_nrm)
          refine wpAnyX_one 7 (by kernel_rfl) rfl (fun K hK => ?_)
          go_simp
          go_wp2_with (refine (CP.out).mono ?_; rintro e v1 ⟨A', c', rfl, oA, bv1⟩)
          have G1 := HGO.out.but bv1 (fun e => FARG.out e)
          have e9 := G1.cell 6
          have f9 := G1.free 6
          have l9 := G1.lt
          refine hK.out _ _ (.inr (KS.out _ bv1)) ?_
          have hHeld1 := KS.out _ bv1
          clear hK K
          (try walk_nrm)
          refine tk (i := 8) [9, 10] (v := ?_) ?_ ?_
          rotate_left 1
          · (intro w hSw; obtain ⟨m0, m1, m2, m3, m4, m5⟩ := hSw; go_simp; try (with_reducible rfl))
          (try walk_nrm)
          refine tk (i := 9) [10] (v := ?_) ?_ ?_
          rotate_left 1
          · (intro w hSw; obtain ⟨m0, m1, m2, m3, m4, m5⟩ := hSw; go_simp; try (with_reducible rfl))
          (try walk_nrm)
          refine wpAnyX_one 10 (by kernel_rfl) rfl (fun K hK => ?_)
          go_simp
          refine hK.out _ _ (.inl (by decide)) ?_
          clear hK K
          (try walk_nrm)
          refine wpAnyX_done (by kernel_rfl) ?_ _
          have LL := Lib.hid (show (putS (fun x : Sb => decide (qw < x.who ∨ x.who = qw ∧ qt < x.track)) s.X.bs ⟨qw, qt, ql, qd, false⟩).length = nb + 1 by rw [putS_length, HNB.out])
          have HF := Lib.hid (show Turned base g { s.X with bs := putS (fun x : Sb => decide (qw < x.who ∨ x.who = qw ∧ qt < x.track)) s.X.bs ⟨qw, qt, ql, qd, false⟩ } w (v1.setCell ⟨g, 6, none⟩ (.slice A' (nb + 1) c')) from by
           have h2 := HXO.out.setB (C' := A') (c' := c') (w5 := v1) (bs' := putS (fun x : Sb => decide (qw < x.who ∨ x.who = qw ∧ qt < x.track)) s.X.bs ⟨qw, qt, ql, qd, false⟩) (by rw [LL.out]; exact oA) (by rw [HNB.out]; exact bv1) (by rw [LL.out]; have := PL.out; omega) 
           rw [LL.out] at h2
           exact ⟨_, rfl, h2, ((HBW.out.trans (but_of_below HBO.out)).trans (bv1.mono (fun k _ hk => HX.out.loB k (by rw [HNB.out]; exact hk)))).set (p := ⟨g, 6, none⟩) (.inl HX.out.lo) _⟩)
          have HJ := Lib.hid (show subscribeS s.X ⟨pw, pr, pg⟩ (⟨qk, qw, qr, qg, qt, qs, ql, qd⟩ : Rq) = ({ s.X with bs := putS (fun x : Sb => decide (qw < x.who ∨ x.who = qw ∧ qt < x.track)) s.X.bs ⟨qw, qt, ql, qd, false⟩ }, 0) from by
           have e9 : subE s.X.cf.bs s.X.cf.sl s.X.ps ⟨pw, pr, pg⟩ s.T s.X.bs (⟨qk, qw, qr, qg, qt, qs, ql, qd⟩ : Rq) = 0 := by unfold subE; dsimp only; rw [if_neg e0, ht]; dsimp only; rw [ if_neg (not_not_intro e1), if_neg (by rw [hb]; decide), if_neg (by rw [e2]; decide), if_neg (by rw [HM.out]; omega), if_neg (by rw [HNB.out]; omega)]
           rw [subscribe_ok HX.out.r.ts HI.out e9, put_ins (lt := ltB) (fun z hz => ?_)]
           have h7 := isB_not.mp (find_no (f := isB qw qt) (by rw [hb]; decide) z hz)
           unfold ltB; dsimp only
           by_cases hh : z.who < qw ∨ z.who = qw ∧ z.track < qt
           · rw [decide_eq_true hh, decide_eq_false (by omega)]; rfl
           · rw [decide_eq_false hh, decide_eq_true (by omega)]; rfl)
          clear oA bv1 hHeld0 hHeld1 KS CP HGO HXO HBO G1 e9 f9 HG HD HQ HX
          go_wp2_with fail
          go_ret
          exact ⟨by rw [HJ.out]; rfl, by obtain ⟨_, _, _, h⟩ := HF.out; exact h, fun _ => by rw [HJ.out]; exact HF.out⟩
  · skip
    have t0 : (bits BinOp.and IntKind.i64 pg 2 == 0) = false := by rw [HAND]; exact decide_eq_false e0
    clear HAND
    have KS := Lib.hid (fun w' (b' : Below w1.heap.size w1 w') => show (fun w' => w'.cell? ⟨w.heap.size, 1, none⟩ = some (.int .i64 qw) ∧ w'.cell? ⟨w.heap.size, 4, none⟩ = some (.int .i64 qt) ∧ Below w1.heap.size w1 w') w' from ⟨((HQ.out.below b' lq).cell 1).trans rfl, ((HQ.out.below b' lq).cell 4).trans rfl, b'⟩)
    have hK0 := KS.out w1 (Below.refl _ _)
    have BD := Lib.hid (Below.refl w1.heap.size w1).drew
    go_enter Try.func44, Try.ntmps44
    go_upto_region 1 with fail
    rw [← hw1]
    clear hw1
    go_region_held3 (fun w' => w'.cell? ⟨w.heap.size, 1, none⟩ = some (.int .i64 qw) ∧ w'.cell? ⟨w.heap.size, 4, none⟩ = some (.int .i64 qt) ∧ Below w1.heap.size w1 w')
     (first | exact hK0 | exact KS.out _ BD.out | exact KS.out _ BV2 | exact KS.out _ BV1)
     (first
      | (go_at_call 65; refine (dtrack_yes ht g _ (HD.out.next BV1)).mono ?_; rintro e v2 ⟨⟨gC, o2, i2, rfl, lC, c1⟩, bt⟩; have BV2 := BV1.trans (bt.mono BV1.size))
      | (go_at_call 49; refine (dperson_yes HP.out g _ (HD.out.next BD.out)).mono ?_; rintro e v1 ⟨⟨gB, o, i, rfl, lB, cp0, cp1, cp2⟩, bp⟩; have BV1 := BD.out.trans (bp.mono BD.out.size)))
    have HB2 := Lib.hid BV2
    have cr2 : v2.cell? ⟨gB, o + i * 3 + 2, none⟩ = some (.int .i64 pg) := (bt.cell (p := ⟨gB, o + i * 3 + 2, none⟩) lB).trans cp2
    have cr1 : v2.cell? ⟨gB, o + i * 3 + 1, none⟩ = some (.int .i64 pr) := (bt.cell (p := ⟨gB, o + i * 3 + 1, none⟩) lB).trans cp1
    have lB2 : gB < v2.heap.size := by have := bt.size; omega
    have co : v2.cell? ⟨gC, o2 + i2 * 4 + 1, none⟩ = some (.int .i64 y.t.owner) := (bt.cell (p := ⟨gC, o2 + i2 * 4 + 1, none⟩) lC).trans c1
    have lC2 : gC < v2.heap.size := by have := bt.size; omega
    clear KS hK0 BD BV1 BV2 bp bt lB cp0 cp1 cp2 lC c1
    go_upto_region 6 with fail
    have KT := Lib.hid (fun w' (b' : Below v2.heap.size v2 w') => show (fun w' => w'.cell? ⟨gC, o2 + i2 * 4 + 1, none⟩ = some (.int .i64 y.t.owner) ∧ w'.cell? ⟨gB, o + i * 3 + 1, none⟩ = some (.int .i64 pr) ∧ Below v2.heap.size v2 w') w' from ⟨(b'.cell (p := ⟨gC, o2 + i2 * 4 + 1, none⟩) lC2).trans co, (b'.cell (p := ⟨gB, o + i * 3 + 1, none⟩) lB2).trans cr1, b'⟩)
    have hK1 := KT.out v2 (Below.refl _ _)
    have BD := Lib.hid (Below.refl v2.heap.size v2).drew
    have CI := Lib.hid (fun w' (b' : Below v2.heap.size v2 w') => (show Calls Try.prog 71 #[.pointer (some ⟨g, 0, none⟩), .int .i64 y.t.owner, .int .i64 pr] w' (fun e w'' => e = .returned (.bool false) ∧ Below w'.heap.size w' w'') by have h := disIn s g y.t.owner pr w' (HD.out.next (HB2.out.trans (b'.mono HB2.out.size))); rw [decide_eq_false e1] at h; exact h))
    go_region_held3 (fun w' => w'.cell? ⟨gC, o2 + i2 * 4 + 1, none⟩ = some (.int .i64 y.t.owner) ∧ w'.cell? ⟨gB, o + i * 3 + 1, none⟩ = some (.int .i64 pr) ∧ Below v2.heap.size v2 w')
     (first | exact hK1 | exact KT.out _ BD.out | exact KT.out _ BV3)
     ((go_at_call 71; refine (CI.out _ BD.out).mono ?_; rintro e v3 ⟨rfl, b3⟩; have BV3 := BD.out.trans (b3.mono BD.out.size)))
    have HB3 := Lib.hid (HB2.out.trans (BV3.mono HB2.out.size))
    clear KT hK1 CI b3 BV3 co cr1 cr2 lB2 lC2 BD
    have HF := Lib.hid (show (subscribeS s.X ⟨pw, pr, pg⟩ (⟨qk, qw, qr, qg, qt, qs, ql, qd⟩ : Rq)).2 = 24 from subscribe_err HX.out.r.ts HI.out (n := 24) (by unfold subE; dsimp only; rw [if_neg e0, ht]; dsimp only; rw [if_pos e1]) (by decide))
    go_wp2_with fail
    go_ret
    exact ⟨by rw [HF.out]; rfl, HBW.out.trans (but_of_below HB3.out), fun h => by rw [HF.out] at h; cases h⟩
end Go.Proofs.Ytmmeceehfdbdoaa
