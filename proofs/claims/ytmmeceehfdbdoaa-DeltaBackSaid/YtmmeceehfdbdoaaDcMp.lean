/-
 Package delta: publish, at the copy.
-/
import Derived.Conc.WalkWords
import Derived.Test.YtmmeceehfdbdoaaDcMk
namespace Go.Proofs.Ytmmeceehfdbdoaa
open Go.RowKit
open Dl
set_option linter.unusedSimpArgs false
set_option linter.unusedVariables false
set_option maxRecDepth 100000

set_option maxHeartbeats 3200000 in
theorem dpublish (base g : Nat) (s : Sm) (q : Rq) (Q : Option Addr) (qc : Nat) (w : World) (h : Nx base w g s) (hI : Inv s.X) (hbase : base ≤ w.heap.size) (p : Pn) (hp : s.X.ps.find? (isP q.who) = some p) (hqr : Row w base 1 Q q.ss.length (n32 q.ss)) (hql : q.ss.length ≤ 4096) (hqc : q.ss.length ≤ qc) (hqu : ∀ x ∈ q.ss, 0 ≤ x) :
 Calls Try.prog 41 #[.pointer (some ⟨g, 0, none⟩), .agg (reqA q Q q.ss.length qc)] w (MOut base g (publishS s.X p q) w) := by
 obtain ⟨qk, qw, qr, qg, qt, qs, ql, qd⟩ := q
 unfold reqA MOut
 dsimp only
 obtain ⟨qn, hqn⟩ : ∃ n, qs.length = n := ⟨_, rfl⟩
 rw [hqn]
 obtain ⟨w1, hw1⟩ : ∃ z, z = w.alloc (.cells #[.int .i64 qk, .int .i64 qw, .int .i64 qr, .int .i64 qg, .int .i64 qt, .slice Q qn qc, .int .i64 ql, .int .i64 qd] 45) := ⟨_, rfl⟩
 have b1 : Below w.heap.size w w1 := by rw [hw1]; exact (Below.refl _ _).alloc (Nat.le_refl _) _
 have hq : Whole w1 w.heap.size 45 #[.int .i64 qk, .int .i64 qw, .int .i64 qr, .int .i64 qg, .int .i64 qt, .slice Q qn qc, .int .i64 ql, .int .i64 qd] := by rw [hw1]; exact Whole.new w _ _
 have h1 := h.next b1
 have lg := h.at'.lt
 have lg1 := h1.at'.lt
 have lq := hq.lt
 have gq : g ≠ w.heap.size := by omega
 have hg := h1.at'
 obtain ⟨np, hnp⟩ : ∃ n, s.X.ps.length = n := ⟨_, rfl⟩
 obtain ⟨nt, hnt⟩ : ∃ n, s.T.length = n := ⟨_, rfl⟩
 obtain ⟨nb, hnb⟩ : ∃ n, s.X.bs.length = n := ⟨_, rfl⟩
 unfold smA at hg
 simp only [hnp, hnt, hnb] at hg
 have HNP := Lib.hid hnp
 have HNT := Lib.hid hnt
 have HNB := Lib.hid hnb
 have HQN := Lib.hid hqn
 have HG := Lib.hid hg
 have HQ := Lib.hid hq
 have HX := Lib.hid h1
 have HD := Lib.hid h1.rd
 have HB1 := Lib.hid (Below.refl w1.heap.size w1)
 have HBW := Lib.hid (show But (fun k => base ≤ k) w w1 from but_of_below b1)
 have HI := Lib.hid hI
 have hb1 : base ≤ w1.heap.size := Nat.le_trans hbase b1.size
 have hsm := h.r.small
 rw [hnp, hnt, hnb] at hsm
 have HQR := Lib.hid hqr
 have HU := Lib.hid hqu
 have BW1 := Lib.hid b1
 have hpm := hI.pm p (find_mem hp).1
 obtain ⟨pw, pr, pg⟩ := p
 dsimp only at hpm
 have HP := Lib.hid hp
 rw [hqn] at HQR hql hqc
 clear hqr hqu hp
 clear h h1 hq hg b1 hI hnp hnt hnb hqn
 have HAND : (bits BinOp.and IntKind.i64 pg 1 == 0) = decide (pg % 2 = 0) := by
  have h4 : pg = 0 ∨ pg = 1 ∨ pg = 2 ∨ pg = 3 := by omega
  rcases h4 with rfl | rfl | rfl | rfl <;> decide
 by_cases e0 : pg % 2 = 0
 · skip
   have t0 : (bits BinOp.and IntKind.i64 pg 1 == 0) = true := by rw [HAND]; exact decide_eq_true e0
   clear HAND
   go_enter Try.func41, Try.ntmps41
   go_upto_region 1 with fail
   rw [← hw1]
   clear hw1
   have q1 : w1.cell? ⟨w.heap.size, 1, none⟩ = some (.int .i64 qw) := ((HQ.out.below HB1.out lq).cell 1).trans rfl
   go_wp2_with fail
   refine (dperson_yes HP.out g w1 (HD.out.next HB1.out)).mono ?_
   rintro e w2 ⟨⟨gB, o, i, rfl, lB, _, _, c2⟩, b2⟩
   have HB2 := Lib.hid (HB1.out.trans (b2.mono (HB1.out).size))
   clear b2
   clear q1
   have q4 : w2.cell? ⟨w.heap.size, 4, none⟩ = some (.int .i64 qt) := ((HQ.out.below HB2.out lq).cell 4).trans rfl
   have HF := Lib.hid (show (publishS s.X ⟨pw, pr, pg⟩ (⟨qk, qw, qr, qg, qt, qs, ql, qd⟩ : Rq)).2 = 24 from publish_err HX.out.r.ts (n := 24) (by unfold pubE; dsimp only; rw [if_pos e0]) (by decide))
   go_wp2_with fail
   go_ret
   exact ⟨by rw [HF.out]; rfl, HBW.out.trans (but_of_below HB2.out), fun h => by rw [HF.out] at h; cases h⟩
 by_cases e1 : 1 ≤ qt ∧ qt ≤ 999
 · cases e2 : mayL qs with
   | false =>
    have t0 : (bits BinOp.and IntKind.i64 pg 1 == 0) = false := by rw [HAND]; exact decide_eq_false e0
    clear HAND
    go_enter Try.func41, Try.ntmps41
    go_upto_region 1 with fail
    rw [← hw1]
    clear hw1
    have q1 : w1.cell? ⟨w.heap.size, 1, none⟩ = some (.int .i64 qw) := ((HQ.out.below HB1.out lq).cell 1).trans rfl
    go_wp2_with fail
    refine (dperson_yes HP.out g w1 (HD.out.next HB1.out)).mono ?_
    rintro e w2 ⟨⟨gB, o, i, rfl, lB, _, _, c2⟩, b2⟩
    have HB2 := Lib.hid (HB1.out.trans (b2.mono (HB1.out).size))
    clear b2
    clear q1
    have q4 : w2.cell? ⟨w.heap.size, 4, none⟩ = some (.int .i64 qt) := ((HQ.out.below HB2.out lq).cell 4).trans rfl
    go_wp2_with fail
    refine (dwithin_yes e1 w2).mono ?_
    rintro e w3 ⟨rfl, b3⟩
    have HB3 := Lib.hid (HB2.out.trans (b3.mono (HB2.out).size))
    clear b3
    clear q4
    have q5 : w3.cell? ⟨w.heap.size, 5, none⟩ = some (.slice Q qn qc) := ((HQ.out.below HB3.out lq).cell 5).trans rfl
    go_wp2_with fail
    refine ((show Calls Try.prog 64 #[.slice Q qn qc] w3 (fun e w' => e = .returned (.bool false) ∧ Below w3.heap.size w3 w') by have h := dmayBe Q qc qs w3 (by rw [HQN.out]; exact (((HQR.out.below (BW1.out.trans ((HB3.out).mono BW1.out.size)) hbase).more (Nat.le_trans hbase (Nat.le_trans BW1.out.size (HB3.out).size))))) (by rw [HQN.out]; exact hql) (by rw [HQN.out]; exact hqc) HU.out; rw [HQN.out, e2] at h; exact h)).mono ?_
    rintro e w4 ⟨rfl, b4⟩
    have HB4 := Lib.hid (HB3.out.trans (b4.mono (HB3.out).size))
    clear b4
    clear q5
    have HF := Lib.hid (show (publishS s.X ⟨pw, pr, pg⟩ (⟨qk, qw, qr, qg, qt, qs, ql, qd⟩ : Rq)).2 = 1 from publish_err HX.out.r.ts (n := 1) (by unfold pubE; dsimp only; rw [if_neg e0, if_pos (.inr (.inr e2))]) (by decide))
    go_wp2_with fail
    go_ret
    exact ⟨by rw [HF.out]; rfl, HBW.out.trans (but_of_below HB4.out), fun h => by rw [HF.out] at h; cases h⟩
   | true =>
    cases ht : s.T.find? (fun x => isT qt x.t) with
    | some y =>
     have t0 : (bits BinOp.and IntKind.i64 pg 1 == 0) = false := by rw [HAND]; exact decide_eq_false e0
     clear HAND
     go_enter Try.func41, Try.ntmps41
     go_upto_region 1 with fail
     rw [← hw1]
     clear hw1
     have q1 : w1.cell? ⟨w.heap.size, 1, none⟩ = some (.int .i64 qw) := ((HQ.out.below HB1.out lq).cell 1).trans rfl
     go_wp2_with fail
     refine (dperson_yes HP.out g w1 (HD.out.next HB1.out)).mono ?_
     rintro e w2 ⟨⟨gB, o, i, rfl, lB, _, _, c2⟩, b2⟩
     have HB2 := Lib.hid (HB1.out.trans (b2.mono (HB1.out).size))
     clear b2
     clear q1
     have q4 : w2.cell? ⟨w.heap.size, 4, none⟩ = some (.int .i64 qt) := ((HQ.out.below HB2.out lq).cell 4).trans rfl
     go_wp2_with fail
     refine (dwithin_yes e1 w2).mono ?_
     rintro e w3 ⟨rfl, b3⟩
     have HB3 := Lib.hid (HB2.out.trans (b3.mono (HB2.out).size))
     clear b3
     clear q4
     have q5 : w3.cell? ⟨w.heap.size, 5, none⟩ = some (.slice Q qn qc) := ((HQ.out.below HB3.out lq).cell 5).trans rfl
     go_wp2_with fail
     refine ((show Calls Try.prog 64 #[.slice Q qn qc] w3 (fun e w' => e = .returned (.bool true) ∧ Below w3.heap.size w3 w') by have h := dmayBe Q qc qs w3 (by rw [HQN.out]; exact (((HQR.out.below (BW1.out.trans ((HB3.out).mono BW1.out.size)) hbase).more (Nat.le_trans hbase (Nat.le_trans BW1.out.size (HB3.out).size))))) (by rw [HQN.out]; exact hql) (by rw [HQN.out]; exact hqc) HU.out; rw [HQN.out, e2] at h; exact h)).mono ?_
     rintro e w4 ⟨rfl, b4⟩
     have HB4 := Lib.hid (HB3.out.trans (b4.mono (HB3.out).size))
     clear b4
     clear q5
     have q4 : w4.cell? ⟨w.heap.size, 4, none⟩ = some (.int .i64 qt) := ((HQ.out.below HB4.out lq).cell 4).trans rfl
     go_wp2_with fail
     refine (dtrack_yes ht g w4 (HD.out.next HB4.out)).mono ?_
     rintro e w5 ⟨⟨gC, o2, i2, rfl, _, _⟩, b5⟩
     have HB5 := Lib.hid (HB4.out.trans (b5.mono (HB4.out).size))
     clear b5
     clear q4
     have HF := Lib.hid (show (publishS s.X ⟨pw, pr, pg⟩ (⟨qk, qw, qr, qg, qt, qs, ql, qd⟩ : Rq)).2 = 22 from publish_err HX.out.r.ts (n := 22) (by unfold pubE; dsimp only; rw [if_neg e0, if_neg (by rintro (h | h | h) <;> first | omega | (rw [e2] at h; cases h)), if_pos (.inl (by rw [ht]; rfl))]) (by decide))
     go_wp2_with fail
     go_ret
     exact ⟨by rw [HF.out]; rfl, HBW.out.trans (but_of_below HB5.out), fun h => by rw [HF.out] at h; cases h⟩
    | none =>
     cases e3 : takenM s.T qs with
     | true =>
      have t0 : (bits BinOp.and IntKind.i64 pg 1 == 0) = false := by rw [HAND]; exact decide_eq_false e0
      clear HAND
      go_enter Try.func41, Try.ntmps41
      go_upto_region 1 with fail
      rw [← hw1]
      clear hw1
      have q1 : w1.cell? ⟨w.heap.size, 1, none⟩ = some (.int .i64 qw) := ((HQ.out.below HB1.out lq).cell 1).trans rfl
      go_wp2_with fail
      refine (dperson_yes HP.out g w1 (HD.out.next HB1.out)).mono ?_
      rintro e w2 ⟨⟨gB, o, i, rfl, lB, _, _, c2⟩, b2⟩
      have HB2 := Lib.hid (HB1.out.trans (b2.mono (HB1.out).size))
      clear b2
      clear q1
      have q4 : w2.cell? ⟨w.heap.size, 4, none⟩ = some (.int .i64 qt) := ((HQ.out.below HB2.out lq).cell 4).trans rfl
      go_wp2_with fail
      refine (dwithin_yes e1 w2).mono ?_
      rintro e w3 ⟨rfl, b3⟩
      have HB3 := Lib.hid (HB2.out.trans (b3.mono (HB2.out).size))
      clear b3
      clear q4
      have q5 : w3.cell? ⟨w.heap.size, 5, none⟩ = some (.slice Q qn qc) := ((HQ.out.below HB3.out lq).cell 5).trans rfl
      go_wp2_with fail
      refine ((show Calls Try.prog 64 #[.slice Q qn qc] w3 (fun e w' => e = .returned (.bool true) ∧ Below w3.heap.size w3 w') by have h := dmayBe Q qc qs w3 (by rw [HQN.out]; exact (((HQR.out.below (BW1.out.trans ((HB3.out).mono BW1.out.size)) hbase).more (Nat.le_trans hbase (Nat.le_trans BW1.out.size (HB3.out).size))))) (by rw [HQN.out]; exact hql) (by rw [HQN.out]; exact hqc) HU.out; rw [HQN.out, e2] at h; exact h)).mono ?_
      rintro e w4 ⟨rfl, b4⟩
      have HB4 := Lib.hid (HB3.out.trans (b4.mono (HB3.out).size))
      clear b4
      clear q5
      have q4 : w4.cell? ⟨w.heap.size, 4, none⟩ = some (.int .i64 qt) := ((HQ.out.below HB4.out lq).cell 4).trans rfl
      go_wp2_with fail
      refine (dtrack_no ht g w4 (HD.out.next HB4.out)).mono ?_
      rintro e w5 ⟨rfl, b5⟩
      have HB5 := Lib.hid (HB4.out.trans (b5.mono (HB4.out).size))
      clear b5
      clear q4
      have q5 : w5.cell? ⟨w.heap.size, 5, none⟩ = some (.slice Q qn qc) := ((HQ.out.below HB5.out lq).cell 5).trans rfl
      go_wp2_with fail
      refine ((show Calls Try.prog 66 #[.pointer (some ⟨g, 0, none⟩), .slice Q qn qc] w5 (fun e w' => e = .returned (.bool true) ∧ Below w5.heap.size w5 w') by have h := dhasAny s g Q qc qs w5 (HD.out.next HB5.out) (by rw [HQN.out]; exact (((HQR.out.below (BW1.out.trans ((HB5.out).mono BW1.out.size)) hbase).more (Nat.le_trans hbase (Nat.le_trans BW1.out.size (HB5.out).size))))) (by rw [HQN.out]; exact hql); rw [HQN.out, e3] at h; exact h)).mono ?_
      rintro e w6 ⟨rfl, b6⟩
      have HB6 := Lib.hid (HB5.out.trans (b6.mono (HB5.out).size))
      clear b6
      clear q5
      have HF := Lib.hid (show (publishS s.X ⟨pw, pr, pg⟩ (⟨qk, qw, qr, qg, qt, qs, ql, qd⟩ : Rq)).2 = 22 from publish_err HX.out.r.ts (n := 22) (by unfold pubE; dsimp only; rw [if_neg e0, if_neg (by rintro (h | h | h) <;> first | omega | (rw [e2] at h; cases h)), if_pos (.inr e3)]) (by decide))
      go_wp2_with fail
      go_ret
      exact ⟨by rw [HF.out]; rfl, HBW.out.trans (but_of_below HB6.out), fun h => by rw [HF.out] at h; cases h⟩
     | false =>
      by_cases e4 : s.X.cf.ts ≤ (nt : Int)
      · have t5 : s.X.cf.ts ≤ (nt : Int) := e4
        have t0 : (bits BinOp.and IntKind.i64 pg 1 == 0) = false := by rw [HAND]; exact decide_eq_false e0
        clear HAND
        go_enter Try.func41, Try.ntmps41
        go_upto_region 1 with fail
        rw [← hw1]
        clear hw1
        have q1 : w1.cell? ⟨w.heap.size, 1, none⟩ = some (.int .i64 qw) := ((HQ.out.below HB1.out lq).cell 1).trans rfl
        go_wp2_with fail
        refine (dperson_yes HP.out g w1 (HD.out.next HB1.out)).mono ?_
        rintro e w2 ⟨⟨gB, o, i, rfl, lB, _, _, c2⟩, b2⟩
        have HB2 := Lib.hid (HB1.out.trans (b2.mono (HB1.out).size))
        clear b2
        clear q1
        have q4 : w2.cell? ⟨w.heap.size, 4, none⟩ = some (.int .i64 qt) := ((HQ.out.below HB2.out lq).cell 4).trans rfl
        go_wp2_with fail
        refine (dwithin_yes e1 w2).mono ?_
        rintro e w3 ⟨rfl, b3⟩
        have HB3 := Lib.hid (HB2.out.trans (b3.mono (HB2.out).size))
        clear b3
        clear q4
        have q5 : w3.cell? ⟨w.heap.size, 5, none⟩ = some (.slice Q qn qc) := ((HQ.out.below HB3.out lq).cell 5).trans rfl
        go_wp2_with fail
        refine ((show Calls Try.prog 64 #[.slice Q qn qc] w3 (fun e w' => e = .returned (.bool true) ∧ Below w3.heap.size w3 w') by have h := dmayBe Q qc qs w3 (by rw [HQN.out]; exact (((HQR.out.below (BW1.out.trans ((HB3.out).mono BW1.out.size)) hbase).more (Nat.le_trans hbase (Nat.le_trans BW1.out.size (HB3.out).size))))) (by rw [HQN.out]; exact hql) (by rw [HQN.out]; exact hqc) HU.out; rw [HQN.out, e2] at h; exact h)).mono ?_
        rintro e w4 ⟨rfl, b4⟩
        have HB4 := Lib.hid (HB3.out.trans (b4.mono (HB3.out).size))
        clear b4
        clear q5
        have q4 : w4.cell? ⟨w.heap.size, 4, none⟩ = some (.int .i64 qt) := ((HQ.out.below HB4.out lq).cell 4).trans rfl
        go_wp2_with fail
        refine (dtrack_no ht g w4 (HD.out.next HB4.out)).mono ?_
        rintro e w5 ⟨rfl, b5⟩
        have HB5 := Lib.hid (HB4.out.trans (b5.mono (HB4.out).size))
        clear b5
        clear q4
        have q5 : w5.cell? ⟨w.heap.size, 5, none⟩ = some (.slice Q qn qc) := ((HQ.out.below HB5.out lq).cell 5).trans rfl
        go_wp2_with fail
        refine ((show Calls Try.prog 66 #[.pointer (some ⟨g, 0, none⟩), .slice Q qn qc] w5 (fun e w' => e = .returned (.bool false) ∧ Below w5.heap.size w5 w') by have h := dhasAny s g Q qc qs w5 (HD.out.next HB5.out) (by rw [HQN.out]; exact (((HQR.out.below (BW1.out.trans ((HB5.out).mono BW1.out.size)) hbase).more (Nat.le_trans hbase (Nat.le_trans BW1.out.size (HB5.out).size))))) (by rw [HQN.out]; exact hql); rw [HQN.out, e3] at h; exact h)).mono ?_
        rintro e w6 ⟨rfl, b6⟩
        have HB6 := Lib.hid (HB5.out.trans (b6.mono (HB5.out).size))
        clear b6
        clear q5
        have g1 : w6.cell? ⟨g, 1, none⟩ = some (.int .i64 s.X.cf.ts) := ((HG.out.below HB6.out lg1).cell 1).trans rfl
        have g5 : w6.cell? ⟨g, 5, none⟩ = some (.slice s.B nt s.b) := ((HG.out.below HB6.out lg1).cell 5).trans rfl
        go_upto_region 7 with fail
        go_region
        obtain ⟨w7, hw7⟩ : ∃ z, z = w6.drew := ⟨_, rfl⟩
        have HB7 := Lib.hid (show Below w1.heap.size w1 w7 by rw [hw7]; exact (HB6.out).drew)
        rw [← hw7]
        clear hw7
        clear g1 g5
        have HF := Lib.hid (show (publishS s.X ⟨pw, pr, pg⟩ (⟨qk, qw, qr, qg, qt, qs, ql, qd⟩ : Rq)).2 = 20 from publish_err HX.out.r.ts (n := 20) (by unfold pubE; dsimp only; rw [if_neg e0, if_neg (by rintro (h | h | h) <;> first | omega | (rw [e2] at h; cases h)), if_neg (by rintro (h | h); (rw [ht] at h; cases h); (rw [e3] at h; cases h)), if_pos (by rw [HNT.out]; exact e4)]) (by decide))
        go_wp2_with fail
        go_ret
        exact ⟨by rw [HF.out]; rfl, HBW.out.trans (but_of_below HB7.out), fun h => by rw [HF.out] at h; cases h⟩
      · have t5 : ¬ s.X.cf.ts ≤ (nt : Int) := e4
        have PL := Lib.hid (show (nt : Int) < 64 by have := HI.out.tl; have h8 := HI.out.cf; unfold confL at h8; simp only [decide_eq_true_eq] at h8; have h9 : s.X.ts.length = nt := (by rw [HX.out.r.ts, ← HNT.out]; simp [tks]); rw [h9] at this; omega)
        have t0 : (bits BinOp.and IntKind.i64 pg 1 == 0) = false := by rw [HAND]; exact decide_eq_false e0
        clear HAND
        go_enter Try.func41, Try.ntmps41
        go_upto_region 1 with fail
        rw [← hw1]
        clear hw1
        have q1 : w1.cell? ⟨w.heap.size, 1, none⟩ = some (.int .i64 qw) := ((HQ.out.below HB1.out lq).cell 1).trans rfl
        go_wp2_with fail
        refine (dperson_yes HP.out g w1 (HD.out.next HB1.out)).mono ?_
        rintro e w2 ⟨⟨gB, o, i, rfl, lB, _, _, c2⟩, b2⟩
        have HB2 := Lib.hid (HB1.out.trans (b2.mono (HB1.out).size))
        clear b2
        clear q1
        have q4 : w2.cell? ⟨w.heap.size, 4, none⟩ = some (.int .i64 qt) := ((HQ.out.below HB2.out lq).cell 4).trans rfl
        go_wp2_with fail
        refine (dwithin_yes e1 w2).mono ?_
        rintro e w3 ⟨rfl, b3⟩
        have HB3 := Lib.hid (HB2.out.trans (b3.mono (HB2.out).size))
        clear b3
        clear q4
        have q5 : w3.cell? ⟨w.heap.size, 5, none⟩ = some (.slice Q qn qc) := ((HQ.out.below HB3.out lq).cell 5).trans rfl
        go_wp2_with fail
        refine ((show Calls Try.prog 64 #[.slice Q qn qc] w3 (fun e w' => e = .returned (.bool true) ∧ Below w3.heap.size w3 w') by have h := dmayBe Q qc qs w3 (by rw [HQN.out]; exact (((HQR.out.below (BW1.out.trans ((HB3.out).mono BW1.out.size)) hbase).more (Nat.le_trans hbase (Nat.le_trans BW1.out.size (HB3.out).size))))) (by rw [HQN.out]; exact hql) (by rw [HQN.out]; exact hqc) HU.out; rw [HQN.out, e2] at h; exact h)).mono ?_
        rintro e w4 ⟨rfl, b4⟩
        have HB4 := Lib.hid (HB3.out.trans (b4.mono (HB3.out).size))
        clear b4
        clear q5
        have q4 : w4.cell? ⟨w.heap.size, 4, none⟩ = some (.int .i64 qt) := ((HQ.out.below HB4.out lq).cell 4).trans rfl
        go_wp2_with fail
        refine (dtrack_no ht g w4 (HD.out.next HB4.out)).mono ?_
        rintro e w5 ⟨rfl, b5⟩
        have HB5 := Lib.hid (HB4.out.trans (b5.mono (HB4.out).size))
        clear b5
        clear q4
        have q5 : w5.cell? ⟨w.heap.size, 5, none⟩ = some (.slice Q qn qc) := ((HQ.out.below HB5.out lq).cell 5).trans rfl
        go_wp2_with fail
        refine ((show Calls Try.prog 66 #[.pointer (some ⟨g, 0, none⟩), .slice Q qn qc] w5 (fun e w' => e = .returned (.bool false) ∧ Below w5.heap.size w5 w') by have h := dhasAny s g Q qc qs w5 (HD.out.next HB5.out) (by rw [HQN.out]; exact (((HQR.out.below (BW1.out.trans ((HB5.out).mono BW1.out.size)) hbase).more (Nat.le_trans hbase (Nat.le_trans BW1.out.size (HB5.out).size))))) (by rw [HQN.out]; exact hql); rw [HQN.out, e3] at h; exact h)).mono ?_
        rintro e w6 ⟨rfl, b6⟩
        have HB6 := Lib.hid (HB5.out.trans (b6.mono (HB5.out).size))
        clear b6
        clear q5
        have g1 : w6.cell? ⟨g, 1, none⟩ = some (.int .i64 s.X.cf.ts) := ((HG.out.below HB6.out lg1).cell 1).trans rfl
        have g5 : w6.cell? ⟨g, 5, none⟩ = some (.slice s.B nt s.b) := ((HG.out.below HB6.out lg1).cell 5).trans rfl
        go_upto_region 7 with fail
        go_region
        obtain ⟨w7, hw7⟩ : ∃ z, z = w6.drew := ⟨_, rfl⟩
        have HB7 := Lib.hid (show Below w1.heap.size w1 w7 by rw [hw7]; exact (HB6.out).drew)
        rw [← hw7]
        clear hw7
        clear g1 g5
        have q1 : w7.cell? ⟨w.heap.size, 1, none⟩ = some (.int .i64 qw) := ((HQ.out.below HB7.out lq).cell 1).trans rfl
        have q4 : w7.cell? ⟨w.heap.size, 4, none⟩ = some (.int .i64 qt) := ((HQ.out.below HB7.out lq).cell 4).trans rfl
        have q5 : w7.cell? ⟨w.heap.size, 5, none⟩ = some (.slice Q qn qc) := ((HQ.out.below HB7.out lq).cell 5).trans rfl
        go_upto_region 9 with fail
        have KS9 := Lib.hid (fun w' (b' : Below w7.heap.size w7 w') => show (fun w' => w'.cell? ⟨w.heap.size, 1, none⟩ = some (.int .i64 qw) ∧ w'.cell? ⟨w.heap.size, 4, none⟩ = some (.int .i64 qt) ∧ w'.cell? ⟨w.heap.size, 5, none⟩ = some (.slice Q qn qc)) w' from ⟨(b'.cell (p := ⟨w.heap.size, 1, none⟩) (by have := HB7.out.size; show w.heap.size < _; omega)).trans q1, (b'.cell (p := ⟨w.heap.size, 4, none⟩) (by have := HB7.out.size; show w.heap.size < _; omega)).trans q4, (b'.cell (p := ⟨w.heap.size, 5, none⟩) (by have := HB7.out.size; show w.heap.size < _; omega)).trans q5⟩)
        have CU := Lib.hid (fun w' (b' : Below w7.heap.size w7 w') => dcloneU Q qc qn (n32 qs) w' (((HQR.out.below (BW1.out.trans (((HB7.out.trans (b'.mono HB7.out.size))).mono BW1.out.size)) hbase).more (Nat.le_trans hbase (Nat.le_trans BW1.out.size ((HB7.out.trans (b'.mono HB7.out.size))).size)))) hql (fun u hu => by obtain ⟨_, _, rfl⟩ := List.mem_map.1 hu; rfl))
        have hs7 := HB7.out.size
        go_cut [5] (fun v5 wx => ∃ (gb : Nat) (uA : Option Addr) (uc : Nat), v5 = .pointer (some ⟨gb, 0, none⟩) ∧ w7.heap.size ≤ gb ∧ Whole wx gb 72 #[.int .i64 qt, .int .i64 qw, .int .i64 0, .slice uA qn uc] ∧ wx.ownsRow base 64 1 (.slice uA qn uc) qn (n32 qs) ∧ Below w7.heap.size w7 wx)
        case first =>
         refine wp_region_X (S := fun w' => w'.cell? ⟨w.heap.size, 1, none⟩ = some (.int .i64 qw) ∧ w'.cell? ⟨w.heap.size, 4, none⟩ = some (.int .i64 qt) ∧ w'.cell? ⟨w.heap.size, 5, none⟩ = some (.slice Q qn qc)) [] (by kernel_rfl) (KS9.out _ (Below.refl _ _).drew) (fun hHeld0 => ?_)
         refine tk (i := 0) [] (v := ?_) ?_ ?_
         rotate_left 1
         · (intro w hSw; obtain ⟨m0, m1, m2⟩ := hSw; go_simp; try (with_reducible rfl))
         (try walk_nrm)
         refine tk (i := 1) [] (v := ?_) ?_ ?_
         rotate_left 1
         · (intro w hSw; obtain ⟨m0, m1, m2⟩ := hSw; go_simp; try (with_reducible rfl))
         (try walk_nrm)
         refine tk (i := 2) [] (v := ?_) ?_ ?_
         rotate_left 1
         · (intro w hSw; obtain ⟨m0, m1, m2⟩ := hSw; go_simp; try (with_reducible rfl))
         (try walk_nrm)
         refine tk (i := 3) [] (v := ?_) ?_ ?_
         rotate_left 1
         · (intro w hSw; obtain ⟨m0, m1, m2⟩ := hSw; go_simp; try (with_reducible rfl))
         (try walk_nrm)
         refine tk (i := 4) [] (v := ?_) ?_ ?_
         rotate_left 1
         · (intro w hSw; obtain ⟨m0, m1, m2⟩ := hSw; go_simp; try (with_reducible rfl))
         (try walk_nrm)
         refine tk (i := 5) [] (v := ?_) ?_ ?_
         rotate_left 1
         · (intro w hSw; obtain ⟨m0, m1, m2⟩ := hSw; go_simp; try (with_reducible rfl))
         (try walk_nrm)
         refine wpAnyX_two 6 8 (by kernel_rfl) rfl rfl (fun K hK => ?_) (fun K hK => ?_)
         · go_simp
           go_wp2_with (refine (CU.out w7.drew (Below.refl w7.heap.size w7).drew).mono ?_; rintro e v1 ⟨uA, uc, rfl, oU, bv1⟩)
           have BV1 := ((Below.refl w7.heap.size w7).drew).trans (bv1.mono ((Below.refl w7.heap.size w7).drew).size)
           refine hK.out _ _ (.inr (KS9.out _ BV1)) ?_
           have hHeld1 := KS9.out _ BV1
           clear hK K
           (try walk_nrm)
           refine tk (i := 7) [] (v := ?_) ?_ ?_
           rotate_left 1
           · (intro w hSw; obtain ⟨m0, m1, m2⟩ := hSw; go_simp; try (with_reducible rfl))
           (try walk_nrm)
           refine wpAnyX_one 8 (by kernel_rfl) rfl (fun K hK => ?_)
           go_simp
           have BV2 : Below w7.heap.size w7 (v1.alloc (.cells #[.int .i64 0, .int .i64 0, .int .i64 0, .slice none 0 0] 72)) := BV1.alloc BV1.size _
           have NB : Whole (v1.alloc (.cells #[.int .i64 0, .int .i64 0, .int .i64 0, .slice none 0 0] 72)) v1.heap.size 72 #[.int .i64 0, .int .i64 0, .int .i64 0, .slice none 0 0] := Whole.new v1 _ _
           refine hK.out _ _ (.inr (KS9.out _ BV2)) ?_
           have hHeld2 := KS9.out _ BV2
           clear hK K
           (try walk_nrm)
           refine wpAnyX_one 9 (by kernel_rfl) rfl (fun K hK => ?_)
           have z0 := NB.cell 0
           have z1 := NB.cell 1
           have z2 := NB.cell 2
           have z3 := NB.cell 3
           have y0 := NB.free 0
           have y1 := NB.free 1
           have y2 := NB.free 2
           have y3 := NB.free 3
           have lz := NB.lt
           go_simp
           have BF : Below w7.heap.size w7 (v1.alloc (.cells #[.int .i64 qt, .int .i64 qw, .int .i64 0, .slice uA qn uc] 72)) := BV1.alloc BV1.size _
           refine hK.out _ _ (.inr (KS9.out _ BF)) ?_
           have hHeld3 := KS9.out _ BF
           clear hK K
           (try walk_nrm)
           refine wpAnyX_done (by kernel_rfl) ?_ _
           go_wp2_with fail
           go_meet
           exact ⟨_, uA, uc, rfl, BV1.size, Whole.new v1 _ _, own_base (own_below oU ((Below.refl v1.heap.size v1).alloc (Nat.le_refl _) _) (Nat.le_refl _)) (show base ≤ w7.drew.heap.size from by show base ≤ w7.heap.size; omega), BF⟩
         · go_simp
           obtain ⟨v1, hv1⟩ : ∃ z, z = (w7.alloc (.cells #[.int .i64 0, .int .i64 0, .int .i64 0, .slice none 0 0] 72)).drew := ⟨_, rfl⟩
           have BV1 : Below w7.heap.size w7 v1 := by rw [hv1]; exact ((Below.refl _ _).alloc (Nat.le_refl _) _).drew
           have NB : Whole v1 w7.heap.size 72 #[.int .i64 0, .int .i64 0, .int .i64 0, .slice none 0 0] := by rw [hv1]; exact (Whole.new w7 _ _).drew
           rw [← hv1]
           clear hv1
           refine hK.out _ _ (.inr (KS9.out _ BV1)) ?_
           have hHeld1 := KS9.out _ BV1
           clear hK K
           (try walk_nrm)
           refine wpAnyX_one 6 (by kernel_rfl) rfl (fun K hK => ?_)
           go_simp
           go_wp2_with (refine (CU.out v1 BV1).mono ?_; rintro e v2 ⟨uA, uc, rfl, oU, bv2⟩)
           have BV2 := (BV1).trans (bv2.mono (BV1).size)
           refine hK.out _ _ (.inr (KS9.out _ BV2)) ?_
           have hHeld2 := KS9.out _ BV2
           clear hK K
           (try walk_nrm)
           have NB2 := NB.below bv2 NB.lt
           have oU2 := own_base oU (show base ≤ v1.heap.size from by have := BV1.size; omega)
           refine tk (i := 7) [] (v := ?_) ?_ ?_
           rotate_left 1
           · (intro w hSw; obtain ⟨m0, m1, m2⟩ := hSw; go_simp; try (with_reducible rfl))
           (try walk_nrm)
           refine wpAnyX_one 9 (by kernel_rfl) rfl (fun K hK => ?_)
           have z0 := NB2.cell 0
           have z1 := NB2.cell 1
           have z2 := NB2.cell 2
           have z3 := NB2.cell 3
           have y0 := NB2.free 0
           have y1 := NB2.free 1
           have y2 := NB2.free 2
           have y3 := NB2.free 3
           have lz := NB2.lt
           go_simp
           have hlo : w7.heap.size ≤ w7.heap.size := Nat.le_refl _
           have BF : Below w7.heap.size w7 ((((v2.setCell ⟨w7.heap.size, 0, none⟩ (.int .i64 qt)).setCell ⟨w7.heap.size, 1, none⟩ (.int .i64 qw)).setCell ⟨w7.heap.size, 2, none⟩ (.int .i64 0)).setCell ⟨w7.heap.size, 3, none⟩ (.slice uA qn uc)) := ((((BV2.setCell (p := ⟨w7.heap.size, 0, none⟩) hlo (.int .i64 qt)).setCell (p := ⟨w7.heap.size, 1, none⟩) hlo (.int .i64 qw)).setCell (p := ⟨w7.heap.size, 2, none⟩) hlo (.int .i64 0)).setCell (p := ⟨w7.heap.size, 3, none⟩) hlo (.slice uA qn uc))
           refine hK.out _ _ (.inr (KS9.out _ BF)) ?_
           have hHeld3 := KS9.out _ BF
           clear hK K
           (try walk_nrm)
           refine wpAnyX_done (by kernel_rfl) ?_ _
           go_wp2_with fail
           go_meet
           exact ⟨_, uA, uc, rfl, hlo, ((((NB2.set 0 (.int .i64 qt)).set 1 (.int .i64 qw)).set 2 (.int .i64 0)).set 3 (.slice uA qn uc)), own_butX oU2 ((((((But.refl (fun q => q = w7.heap.size) v2).set (p := ⟨w7.heap.size, 0, none⟩) (.inl rfl) (.int .i64 qt)).set (p := ⟨w7.heap.size, 1, none⟩) (.inl rfl) (.int .i64 qw)).set (p := ⟨w7.heap.size, 2, none⟩) (.inl rfl) (.int .i64 0)).set (p := ⟨w7.heap.size, 3, none⟩) (.inl rfl) (.slice uA qn uc))) (fun q hq e => own_far oU2 NB2 (by decide) (by rw [hq, e])), BF⟩
        case rest =>
         obtain ⟨gb, uA, uc, rfl, hgb, hP, hU, bc⟩ := hcut
         obtain ⟨wo, rfl⟩ : ∃ z, z = wc := ⟨_, rfl⟩
         have bo : Below w1.heap.size w1 wo := HB7.out.trans (bc.mono HB7.out.size)
         have FARP := Lib.hid (fun (e : (Value.slice s.B nt s.b).ownBlock = some gb) => (by have h2 := (HX.out.r.ot.lt gb (by rw [HNT.out]; exact e)).2; omega : False))
         have HUU := Lib.hid hU
         clear bc hU KS9 CU q1 q4 q5
         go_upto_region 10 with fail
         have hbo := bo.size
         have hXo := HX.out.next bo
         have hqo := HQ.out.below bo lq
         have CP := Lib.hid (show Calls Try.prog 67 #[.slice s.B nt s.b, .agg #[.int .i64 qt, .int .i64 qw, .int .i64 0, .slice uA qn uc], .func (.func 68) #[] #[.pointer (some ⟨w.heap.size, 0, none⟩)]] wo.drew fun e w' => ∃ A' c', e = .returned (.slice A' (nt + 1) c') ∧ w'.ownsRow base 72 4 (.slice A' (nt + 1) c') (nt + 1) (tmC (putS (fun x : Tm => decide (qt < x.t.id)) s.T ⟨⟨qt, qw, 0, qs⟩, uA, uc⟩)) ∧ But (fun k => (Value.slice s.B nt s.b).ownBlock = some k) wo w' from by
          have h2 := dputT base 68 (.pointer (some ⟨w.heap.size, 0, none⟩)) (fun x : Tm => decide (qt < x.t.id)) s.B s.b s.T ⟨⟨qt, qw, 0, qs⟩, uA, uc⟩ wo.drew (enters Try.func68 (by kernel_rfl) (by kernel_rfl)) hXo.r.ot (by rw [HNT.out]; omega) (Nat.le_trans hb1 hbo)
           (fun x _ wx hb => cl_publish x w.heap.size qt wx ((hqo.below (of_drew hb) hqo.lt).cell 4) (by have h3 : wo.heap.size ≤ wx.heap.size := hb.size; have := hqo.lt; omega))
          rw [HNT.out] at h2
          rw [show (tmV ⟨⟨qt, qw, 0, qs⟩, uA, uc⟩).toArray = #[.int .i64 qt, .int .i64 qw, .int .i64 0, .slice uA qn uc] from by rw [← HQN.out]; rfl] at h2
          exact h2.mono (fun e w' ⟨A', c', x1, x2, x3⟩ => ⟨A', c', x1, x2, (But.refl _ wo).drew.trans x3⟩))
         have HGO := Lib.hid (show Whole wo g 31 #[.int .i64 s.X.cf.ps, .int .i64 s.X.cf.ts, .int .i64 s.X.cf.bs, .int .i64 s.X.cf.sl, .slice s.A np s.a, .slice s.B nt s.b, .slice s.C nb s.c] from HG.out.below bo lg1)
         have FARG := Lib.hid (fun (e : (Value.slice s.B nt s.b).ownBlock = some g) => (own_far HX.out.r.ot HX.out.at' (by decide) (by rw [HNT.out]; exact e.symm) : False))
         have KS := Lib.hid (fun w' (b' : But (fun k => (Value.slice s.B nt s.b).ownBlock = some k) wo w') => show (fun w' => w'.cell? ⟨g, 5, none⟩ = some (.slice s.B nt s.b) ∧ w'.cell? ⟨gb, 0, none⟩ = some (.int .i64 qt) ∧ w'.cell? ⟨gb, 1, none⟩ = some (.int .i64 qw) ∧ w'.cell? ⟨gb, 2, none⟩ = some (.int .i64 0) ∧ w'.cell? ⟨gb, 3, none⟩ = some (.slice uA qn uc)) w' from ⟨(HGO.out.but b' FARG.out).cell 5, (hP.but b' FARP.out).cell 0, (hP.but b' FARP.out).cell 1, (hP.but b' FARP.out).cell 2, (hP.but b' FARP.out).cell 3⟩)
         have HXO := Lib.hid hXo
         have HBO := Lib.hid bo
         have lgo := HGO.out.lt
         have lpo := hP.lt
         clear hP hXo hqo bo
         refine wp_region_X (S := fun w' => w'.cell? ⟨g, 5, none⟩ = some (.slice s.B nt s.b) ∧ w'.cell? ⟨gb, 0, none⟩ = some (.int .i64 qt) ∧ w'.cell? ⟨gb, 1, none⟩ = some (.int .i64 qw) ∧ w'.cell? ⟨gb, 2, none⟩ = some (.int .i64 0) ∧ w'.cell? ⟨gb, 3, none⟩ = some (.slice uA qn uc)) [10] (by kernel_rfl) (KS.out _ (But.refl _ _).drew) (fun hHeld0 => ?_)
         refine tk (i := 0) [8, 9, 10] (v := ?_) ?_ ?_
         rotate_left 1
         · (intro w hSw; obtain ⟨m0, m1, m2, m3, m4⟩ := hSw; go_simp; try (with_reducible rfl))
         (try walk_nrm)
         refine tk (i := 1) [2, 3, 4, 7, 8, 9, 10] (v := ?_) ?_ ?_
         rotate_left 1
         · (intro w hSw; obtain ⟨m0, m1, m2, m3, m4⟩ := hSw; go_simp; try (with_reducible rfl))
         (try walk_nrm)
         refine tk (i := 2) [3, 4, 7, 8, 9, 10] (v := ?_) ?_ ?_
         rotate_left 1
         · (intro w hSw; obtain ⟨m0, m1, m2, m3, m4⟩ := hSw; go_simp; try (with_reducible rfl))
         (try walk_nrm)
         refine tk (i := 3) [4, 7, 8, 9, 10] (v := ?_) ?_ ?_
         rotate_left 1
         · (intro w hSw; obtain ⟨m0, m1, m2, m3, m4⟩ := hSw; go_simp; try (with_reducible rfl))
         (try walk_nrm)
         refine tk (i := 4) [7, 8, 9, 10] (v := ?_) ?_ ?_
         rotate_left 1
         · (intro w hSw; obtain ⟨m0, m1, m2, m3, m4⟩ := hSw; go_simp; try (with_reducible rfl))
         (try walk_nrm)
         refine tk (i := 5) [7, 8, 9, 10] (v := ?_) ?_ ?_
         rotate_left 1
         · (intro w hSw; obtain ⟨m0, m1, m2, m3, m4⟩ := hSw; go_simp; try (with_reducible rfl))
         (try walk_nrm)
         refine tk (i := 6) [7, 8, 9, 10] (v := ?_) ?_ ?_
         rotate_left 1
         · (intro w hSw; obtain ⟨m0, m1, m2, m3, m4⟩ := hSw; go_simp; try (with_reducible rfl))
         (try walk_nrm)
         refine wpAnyX_one 7 (by kernel_rfl) rfl (fun K hK => ?_)
         go_simp
         go_wp2_with (refine (CP.out).mono ?_; rintro e v1 ⟨A', c', rfl, oA, bv1⟩)
         have G1 := HGO.out.but bv1 (fun e => FARG.out e)
         have e9 := G1.cell 5
         have f9 := G1.free 5
         have l9 := G1.lt
         refine hK.out _ _ (.inr (KS.out _ bv1)) ?_
         have hHeld1 := KS.out _ bv1
         clear hK K
         (try walk_nrm)
         refine tk (i := 8) [9, 10] (v := ?_) ?_ ?_
         rotate_left 1
         · (intro w hSw; obtain ⟨m0, m1, m2, m3, m4⟩ := hSw; go_simp; try (with_reducible rfl))
         (try walk_nrm)
         refine tk (i := 9) [10] (v := ?_) ?_ ?_
         rotate_left 1
         · (intro w hSw; obtain ⟨m0, m1, m2, m3, m4⟩ := hSw; go_simp; try (with_reducible rfl))
         (try walk_nrm)
         refine wpAnyX_one 10 (by kernel_rfl) rfl (fun K hK => ?_)
         go_simp
         refine hK.out _ _ (.inl (by decide)) ?_
         clear hK K
         (try walk_nrm)
         refine wpAnyX_done (by kernel_rfl) ?_ _
         have LL := Lib.hid (show (putS (fun x : Tm => decide (qt < x.t.id)) s.T ⟨⟨qt, qw, 0, qs⟩, uA, uc⟩).length = nt + 1 by rw [putS_length, HNT.out])
         have HF := Lib.hid (show Turned base g { s.X with ts := tks (putS (fun x : Tm => decide (qt < x.t.id)) s.T ⟨⟨qt, qw, 0, qs⟩, uA, uc⟩) } w (v1.setCell ⟨g, 5, none⟩ (.slice A' (nt + 1) c')) from by
          have h2 := HXO.out.setT (C' := A') (c' := c') (w5 := v1) (T' := putS (fun x : Tm => decide (qt < x.t.id)) s.T ⟨⟨qt, qw, 0, qs⟩, uA, uc⟩) (by rw [LL.out]; exact oA) (by rw [HNT.out]; exact bv1) (by rw [LL.out]; have := PL.out; omega) (fun x hx => (putS_mem hx).elim (fun e => .inr (by rw [e]; dsimp only; rw [HQN.out]; exact ⟨HUU.out, hql⟩)) .inl)
          rw [LL.out] at h2
          exact ⟨_, rfl, h2, ((HBW.out.trans (but_of_below HBO.out)).trans (bv1.mono (fun k _ hk => HX.out.loT k (by rw [HNT.out]; exact hk)))).set (p := ⟨g, 5, none⟩) (.inl HX.out.lo) _⟩)
         have HJ := Lib.hid (show publishS s.X ⟨pw, pr, pg⟩ (⟨qk, qw, qr, qg, qt, qs, ql, qd⟩ : Rq) = ({ s.X with ts := tks (putS (fun x : Tm => decide (qt < x.t.id)) s.T ⟨⟨qt, qw, 0, qs⟩, uA, uc⟩) }, 0) from by
          have e9 : pubE s.X.cf.ts ⟨pw, pr, pg⟩ s.T (⟨qk, qw, qr, qg, qt, qs, ql, qd⟩ : Rq) = 0 := by
           unfold pubE; dsimp only
           rw [if_neg e0, if_neg (by rintro (h | h | h) <;> first | omega | (rw [e2] at h; cases h)), if_neg (by rintro (h | h); (rw [ht] at h; cases h); (rw [e3] at h; cases h)), if_neg (by rw [HNT.out]; omega)]
          rw [publish_ok HX.out.r.ts e9, put_ins (lt := ltM) (fun z hz => ?_), insM_is, ← HX.out.r.ts]
          have h8 := find_no (f := fun x : Tm => isT qt x.t) (by rw [ht]; decide) z hz
          have h7 := isT_not.mp h8
          unfold ltM ltT; dsimp only
          by_cases hh : z.t.id < qt
          · rw [decide_eq_true hh, decide_eq_false (by omega)]; rfl
          · rw [decide_eq_false hh, decide_eq_true (by omega)]; rfl)
         clear oA bv1 hHeld0 hHeld1 KS CP HGO HXO HBO G1 e9 f9 HG HD HQ HX
         go_wp2_with fail
         go_ret
         exact ⟨by rw [HJ.out]; rfl, by obtain ⟨_, _, _, h⟩ := HF.out; exact h, fun _ => by rw [HJ.out]; exact HF.out⟩
 · skip
   have t0 : (bits BinOp.and IntKind.i64 pg 1 == 0) = false := by rw [HAND]; exact decide_eq_false e0
   clear HAND
   go_enter Try.func41, Try.ntmps41
   go_upto_region 1 with fail
   rw [← hw1]
   clear hw1
   have q1 : w1.cell? ⟨w.heap.size, 1, none⟩ = some (.int .i64 qw) := ((HQ.out.below HB1.out lq).cell 1).trans rfl
   go_wp2_with fail
   refine (dperson_yes HP.out g w1 (HD.out.next HB1.out)).mono ?_
   rintro e w2 ⟨⟨gB, o, i, rfl, lB, _, _, c2⟩, b2⟩
   have HB2 := Lib.hid (HB1.out.trans (b2.mono (HB1.out).size))
   clear b2
   clear q1
   have q4 : w2.cell? ⟨w.heap.size, 4, none⟩ = some (.int .i64 qt) := ((HQ.out.below HB2.out lq).cell 4).trans rfl
   go_wp2_with fail
   refine (dwithin_no e1 w2).mono ?_
   rintro e w3 ⟨rfl, b3⟩
   have HB3 := Lib.hid (HB2.out.trans (b3.mono (HB2.out).size))
   clear b3
   clear q4
   have HF := Lib.hid (show (publishS s.X ⟨pw, pr, pg⟩ (⟨qk, qw, qr, qg, qt, qs, ql, qd⟩ : Rq)).2 = 1 from publish_err HX.out.r.ts (n := 1) (by unfold pubE; dsimp only; rw [if_neg e0, if_pos (by omega)]) (by decide))
   go_wp2_with fail
   go_ret
   exact ⟨by rw [HF.out]; rfl, HBW.out.trans (but_of_below HB3.out), fun h => by rw [HF.out] at h; cases h⟩
end Go.Proofs.Ytmmeceehfdbdoaa
