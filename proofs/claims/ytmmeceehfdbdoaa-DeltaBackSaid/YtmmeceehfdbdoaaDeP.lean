/-
 Contract of the document's publish (layer 18).
-/
import Derived.Test.YtmmeceehfdbdoaaDeJ
namespace Go.Proofs.Ytmmeceehfdbdoaa
open Go.RowKit
open Dl
set_option linter.unusedSimpArgs false
set_option linter.unusedVariables false
set_option maxRecDepth 100000

namespace Dl
def pubE (a : Int) (p : Pn) (l : List Tm) (q : Rq) : Int :=
 if p.rights % 2 = 0 then 24
 else if q.track < 1 ∨ 999 < q.track ∨ mayL q.ss = false then 1
 else if (l.find? fun x => isT q.track x.t).isSome = true ∨ takenM l q.ss = true then 22
 else if a ≤ l.length then 20 else 0
def ltM (a b : Tm) : Bool := ltT a.t b.t
theorem tm_one (x : Tm) : ∀ u ∈ tmV x, u.oneCell' = true := by intro u hu; simp [tmV] at hu; rcases hu with rfl | rfl | rfl | rfl <;> rfl
end Dl
set_option maxHeartbeats 6400000 in
theorem rpublish18 (a1 a2 a3 a4 : Int) (PA : Option Addr) (pc : Nat) (pl : List Pn) (A : Option Addr) (c : Nat) (l : List Tm) (B : Option Addr) (bn bc : Nat) (q : Rq) (Q : Option Addr) (qc : Nat) (p : Pn) (ip : Nat) (w : World)
 (hp : Row w w.heap.size 3 PA pl.length (pnC pl)) (hpl : pl.length ≤ 4096) (hix : ixS (isP q.who) pl = (ip : Int)) (hip : pl[ip]? = some p) (hpr : 0 ≤ p.rights ∧ p.rights ≤ 3)
 (hq : Row w w.heap.size 1 Q q.ss.length (n32 q.ss)) (hql : q.ss.length ≤ 4096)
 (hr : TsAt w w.heap.size A l) (hl : l.length ≤ 4096) (hA : (A = none ∧ c = 0) ∨ ∃ g o, A = some ⟨g, o, none⟩) (hlc : l.length ≤ c) (hcm : c ≤ maxLen) :
 Calls Try.prog 26 #[.agg #[.int .i64 a1, .int .i64 a2, .int .i64 a3, .int .i64 a4, .slice PA pl.length pc, .slice A l.length c, .slice B bn bc], .agg #[.int .i64 q.kind, .int .i64 q.who, .int .i64 q.room, .int .i64 q.rights, .int .i64 q.track, .slice Q q.ss.length qc, .int .i64 q.layer, .int .i64 q.tid]] w fun e w' => Below w.heap.size w w' ∧
  ((pubE a2 p l q ≠ 0 ∧ e = .returned (.tuple #[.agg #[.int .i64 a1, .int .i64 a2, .int .i64 a3, .int .i64 a4, .slice PA pl.length pc, .slice A l.length c, .slice B bn bc], .int .i64 (pubE a2 p l q)])) ∨
   (pubE a2 p l q = 0 ∧ ∃ A' c', e = .returned (.tuple #[.agg #[.int .i64 a1, .int .i64 a2, .int .i64 a3, .int .i64 a4, .slice PA pl.length pc, .slice A' (l.length + 1) c', .slice B bn bc], .int .i64 0]) ∧ w'.ownsRow (w.heap.size + 3) 60 4 (.slice A' (l.length + 1) c') (l.length + 1) (tmC (insK ltM l ⟨⟨q.track, q.who, 0, q.ss⟩, Q, qc⟩)))) := by
 obtain ⟨n, hn⟩ : ∃ n, l.length = n := ⟨_, rfl⟩
 obtain ⟨pn, hpn⟩ : ∃ n, pl.length = n := ⟨_, rfl⟩
 obtain ⟨qk, qw, qr, qg, qt, qs, ql, qd⟩ := q
 obtain ⟨qn, hqn⟩ : ∃ n, qs.length = n := ⟨_, rfl⟩
 dsimp only at hix hq hql ⊢
 have HN := Lib.hid hn
 have HPN := Lib.hid hpn
 have HQN := Lib.hid hqn
 have HR := Lib.hid hr
 have HP := Lib.hid hp
 have HQS := Lib.hid hq
 rw [hn] at hl hlc ⊢
 rw [hpn] at hpl ⊢
 rw [hqn] at hql ⊢
 have HA := Lib.hid hA
 have HCM := Lib.hid hcm
 have HIX := Lib.hid hix
 have HIP := Lib.hid hip
 obtain ⟨w1, hw1⟩ : ∃ z, z = w.alloc (.cells #[.int .i64 a1, .int .i64 a2, .int .i64 a3, .int .i64 a4, .slice PA pn pc, .slice A n c, .slice B bn bc] 37) := ⟨_, rfl⟩
 have HB1 := Lib.hid (show Below w.heap.size w w1 by rw [hw1]; exact (Below.refl _ _).alloc (Nat.le_refl _) _)
 have HS1 := Lib.hid (show Whole w1 w.heap.size 37 #[.int .i64 a1, .int .i64 a2, .int .i64 a3, .int .i64 a4, .slice PA pn pc, .slice A n c, .slice B bn bc] by rw [hw1]; exact Whole.new w _ _)
 have hz1 : w1.heap.size = w.heap.size + 1 := by rw [hw1]; simp
 obtain ⟨w2, hw2⟩ : ∃ z, z = w1.alloc (.cells #[.int .i64 qk, .int .i64 qw, .int .i64 qr, .int .i64 qg, .int .i64 qt, .slice Q qn qc, .int .i64 ql, .int .i64 qd] 48) := ⟨_, rfl⟩
 have HB2 := Lib.hid (show Below w1.heap.size w1 w2 by rw [hw2]; exact (Below.refl _ _).alloc (Nat.le_refl _) _)
 have HQ2 := Lib.hid (show Whole w2 (w.heap.size + 1) 48 #[.int .i64 qk, .int .i64 qw, .int .i64 qr, .int .i64 qg, .int .i64 qt, .slice Q qn qc, .int .i64 ql, .int .i64 qd] by rw [hw2, ← hz1]; exact Whole.new w1 _ _)
 have hz2 : w2.heap.size = w.heap.size + 2 := by rw [hw2]; simp; omega
 obtain ⟨w3, hw3⟩ : ∃ z, z = w2.alloc (.cells #[.int .i64 0, .int .i64 0, .int .i64 0, .int .i64 0, .slice none 0 0, .slice none 0 0, .slice none 0 0] 37) := ⟨_, rfl⟩
 have HB3 := Lib.hid (show Below w2.heap.size w2 w3 by rw [hw3]; exact (Below.refl _ _).alloc (Nat.le_refl _) _)
 have HV := Lib.hid (show Whole w3 (w.heap.size + 2) 37 #[.int .i64 0, .int .i64 0, .int .i64 0, .int .i64 0, .slice none 0 0, .slice none 0 0, .slice none 0 0] by rw [hw3, ← hz2]; exact Whole.new w2 _ _)
 have hz3 : w3.heap.size = w.heap.size + 3 := by rw [hw3]; simp; omega
 have HS := Lib.hid (Whole.below (Whole.below HS1.out HB2.out (by omega)) HB3.out (by omega))
 have HQ := Lib.hid (Whole.below HQ2.out HB3.out (by omega))
 have HB := Lib.hid ((HB1.out.trans (HB2.out.mono (by omega))).trans (HB3.out.mono (by omega)))
 have lv : w.heap.size + 2 < w3.heap.size := by omega
 have ls : w.heap.size < w3.heap.size := by omega
 have lq : w.heap.size + 1 < w3.heap.size := by omega
 have HZ3 := Lib.hid (show w.heap.size + 3 ≤ w3.heap.size by omega)
 go_enter Try.func26, Try.ntmps26
 go_upto_region 1 with fail
 rw [← hw1, show w.heap.size + 1 + 1 = w.heap.size + 2 from rfl]
 rw [← hw2, ← hw3]
 clear hA hcm hr hn hw1 hw2 hw3 HS1 HB1 HB2 HB3 HQ2 hz1 hz2 hz3 hp hix hq hpn hqn
 have r0 := HS.out.cell 0
 have r1 := HS.out.cell 1
 have r2 := HS.out.cell 2
 have r3 := HS.out.cell 3
 have r4 := HS.out.cell 4
 have r5 := HS.out.cell 5
 have r6 := HS.out.cell 6
 have p0 := HQ.out.cell 0
 have p1 := HQ.out.cell 1
 have p2 := HQ.out.cell 2
 have p3 := HQ.out.cell 3
 have p4 := HQ.out.cell 4
 have p5 := HQ.out.cell 5
 have p6 := HQ.out.cell 6
 have p7 := HQ.out.cell 7
 have hpn : ip < pn := by have := (List.getElem?_eq_some_iff.1 hip).1; rw [HPN.out] at this; exact this
 obtain ⟨g, o, rfl, hg, hc⟩ := HP.out.2 (by rw [HPN.out]; omega)
 have CE := Lib.hid (hc _ _ ((pnC_get hip 2 (by decide)).trans rfl))
 have i0 : (0 : Int) ≤ (ip : Int) := by omega
 have i1 : (ip : Int) < (pn : Int) := by omega
 obtain ⟨pw, pr, pg⟩ := p
 dsimp only at hpr
 have c2 := (HB.out.cell (p := ⟨g, o + (ip * 3 + 2), none⟩) hg).trans CE.out
 rw [← Nat.add_assoc] at c2
 have lg : g < w3.heap.size := by omega
 dsimp only at c2
 clear hc hip CE
 have CP := Lib.hid (fun w' (b : Below w.heap.size w w') => (show Calls Try.prog 24 #[.agg #[.int .i64 a1, .int .i64 a2, .int .i64 a3, .int .i64 a4, .slice (some ⟨g, o, none⟩) pn pc, .slice A n c, .slice B bn bc], .int .i64 qw] w' (fun e w'' => e = .returned (.int .i64 (ip : Int)) ∧ Below w'.heap.size w' w'') by
  have h := rperson18 a1 a2 a3 a4 (.slice A n c) (.slice B bn bc) (some ⟨g, o, none⟩) pc pl qw w' ((HP.out.below b (Nat.le_refl _)).more b.size) (by rw [HPN.out]; exact hpl)
  rw [HPN.out, HIX.out] at h; exact h))
 have KS := Lib.hid (fun w' (b' : Below w3.heap.size w3 w') => show (fun w' => w'.cell? ⟨w.heap.size, 0, none⟩ = some (.int .i64 a1) ∧ w'.cell? ⟨w.heap.size, 1, none⟩ = some (.int .i64 a2) ∧ w'.cell? ⟨w.heap.size, 2, none⟩ = some (.int .i64 a3) ∧ w'.cell? ⟨w.heap.size, 3, none⟩ = some (.int .i64 a4) ∧ w'.cell? ⟨w.heap.size, 4, none⟩ = some (.slice (some ⟨g, o, none⟩) pn pc) ∧ w'.cell? ⟨w.heap.size, 5, none⟩ = some (.slice A n c) ∧ w'.cell? ⟨w.heap.size, 6, none⟩ = some (.slice B bn bc) ∧ w'.cell? ⟨w.heap.size + 1, 1, none⟩ = some (.int .i64 qw) ∧ w'.cell? ⟨g, o + ip * 3 + 2, none⟩ = some (.int .i64 pg) ∧ Below w3.heap.size w3 w') w' from ⟨(b'.cell (p := ⟨w.heap.size, 0, none⟩) ls).trans r0, (b'.cell (p := ⟨w.heap.size, 1, none⟩) ls).trans r1, (b'.cell (p := ⟨w.heap.size, 2, none⟩) ls).trans r2, (b'.cell (p := ⟨w.heap.size, 3, none⟩) ls).trans r3, (b'.cell (p := ⟨w.heap.size, 4, none⟩) ls).trans r4, (b'.cell (p := ⟨w.heap.size, 5, none⟩) ls).trans r5, (b'.cell (p := ⟨w.heap.size, 6, none⟩) ls).trans r6, (b'.cell (p := ⟨w.heap.size + 1, 1, none⟩) lq).trans p1, (b'.cell (p := ⟨g, o + ip * 3 + 2, none⟩) lg).trans c2, b'⟩)
 go_region_held3 (fun w' => w'.cell? ⟨w.heap.size, 0, none⟩ = some (.int .i64 a1) ∧ w'.cell? ⟨w.heap.size, 1, none⟩ = some (.int .i64 a2) ∧ w'.cell? ⟨w.heap.size, 2, none⟩ = some (.int .i64 a3) ∧ w'.cell? ⟨w.heap.size, 3, none⟩ = some (.int .i64 a4) ∧ w'.cell? ⟨w.heap.size, 4, none⟩ = some (.slice (some ⟨g, o, none⟩) pn pc) ∧ w'.cell? ⟨w.heap.size, 5, none⟩ = some (.slice A n c) ∧ w'.cell? ⟨w.heap.size, 6, none⟩ = some (.slice B bn bc) ∧ w'.cell? ⟨w.heap.size + 1, 1, none⟩ = some (.int .i64 qw) ∧ w'.cell? ⟨g, o + ip * 3 + 2, none⟩ = some (.int .i64 pg) ∧ Below w3.heap.size w3 w')
  (first | exact KS.out _ (Below.refl _ _).drew | exact KS.out _ B8 | exact ‹_ ∧ _ ∧ _ ∧ _ ∧ _ ∧ _ ∧ _ ∧ _ ∧ _ ∧ Below _ _ _› | go_keep)
  ((go_at_call 24; with_reducible refine (CP.out _ ?_).mono ?_; (exact HB.out.trans (((‹_ ∧ _ ∧ _ ∧ _ ∧ _ ∧ _ ∧ _ ∧ _ ∧ _ ∧ Below _ _ _›).2.2.2.2.2.2.2.2.2).mono (by omega))); rintro e w8 ⟨rfl, b8⟩; have B8 := ((‹_ ∧ _ ∧ _ ∧ _ ∧ _ ∧ _ ∧ _ ∧ _ ∧ _ ∧ Below _ _ _›).2.2.2.2.2.2.2.2.2).trans (b8.mono ((‹_ ∧ _ ∧ _ ∧ _ ∧ _ ∧ _ ∧ _ ∧ _ ∧ _ ∧ Below _ _ _›).2.2.2.2.2.2.2.2.2).size)))
 clear KS CP b8 c2 lg
 have HSn := Lib.hid (Whole.below HS.out B8 ls)
 have HQn := Lib.hid (Whole.below HQ.out B8 lq)
 have HVn := Lib.hid (Whole.below HV.out B8 lv)
 have HBn := Lib.hid (HB.out.trans ((B8).mono (by omega)))
 have lsn : w.heap.size < w8.heap.size := by have := (B8).size; omega
 have lqn : w.heap.size + 1 < w8.heap.size := by have := (B8).size; omega
 have lvn : w.heap.size + 2 < w8.heap.size := by have := (B8).size; omega
 clear r0 r1 r2 r3 r4 r5 r6 p0 p1 p2 p3 p4 p5 p6 p7 HS HQ HV HB ls lq lv
 have HS := Lib.hid HSn.out
 have HQ := Lib.hid HQn.out
 have HV := Lib.hid HVn.out
 have HB := Lib.hid HBn.out
 have ls := lsn
 have lq := lqn
 have lv := lvn
 clear HSn HQn HVn HBn lsn lqn lvn
 have r0 := HS.out.cell 0
 have r1 := HS.out.cell 1
 have r2 := HS.out.cell 2
 have r3 := HS.out.cell 3
 have r4 := HS.out.cell 4
 have r5 := HS.out.cell 5
 have r6 := HS.out.cell 6
 have p0 := HQ.out.cell 0
 have p1 := HQ.out.cell 1
 have p2 := HQ.out.cell 2
 have p3 := HQ.out.cell 3
 have p4 := HQ.out.cell 4
 have p5 := HQ.out.cell 5
 have p6 := HQ.out.cell 6
 have p7 := HQ.out.cell 7
 clear B8
 have TM : pg.tmod 2 = pg % 2 := Int.tmod_eq_emod_of_nonneg hpr.1
 by_cases h24 : pg % 2 = 0
 · have tm : (pg.tmod 2 == 0) = true := by rw [TM, h24]; rfl
   clear TM
   have q0 := HV.out.cell 0; have g0 := HV.out.free 0; have q1 := HV.out.cell 1; have g1 := HV.out.free 1; have q2 := HV.out.cell 2; have g2 := HV.out.free 2; have q3 := HV.out.cell 3; have g3 := HV.out.free 3; have q4 := HV.out.cell 4; have g4 := HV.out.free 4; have q5 := HV.out.cell 5; have g5 := HV.out.free 5; have q6 := HV.out.cell 6; have g6 := HV.out.free 6
   have HE := Lib.hid (show pubE a2 ⟨pw, pr, pg⟩ l ⟨qk, qw, qr, qg, qt, qs, ql, qd⟩ = 24 from by unfold pubE; rw [if_pos h24])
   have HF := Lib.hid (show Below w.heap.size w (((((((w8.setCell ⟨w.heap.size + 2, 0, none⟩ (.int .i64 a1)).setCell ⟨w.heap.size + 2, 1, none⟩ (.int .i64 a2)).setCell ⟨w.heap.size + 2, 2, none⟩ (.int .i64 a3)).setCell ⟨w.heap.size + 2, 3, none⟩ (.int .i64 a4)).setCell ⟨w.heap.size + 2, 4, none⟩ (.slice (some ⟨g, o, none⟩) pn pc)).setCell ⟨w.heap.size + 2, 5, none⟩ (.slice A n c)).setCell ⟨w.heap.size + 2, 6, none⟩ (.slice B bn bc)) from (Below.setCell (p := ⟨w.heap.size + 2, 6, none⟩) (Below.setCell (p := ⟨w.heap.size + 2, 5, none⟩) (Below.setCell (p := ⟨w.heap.size + 2, 4, none⟩) (Below.setCell (p := ⟨w.heap.size + 2, 3, none⟩) (Below.setCell (p := ⟨w.heap.size + 2, 2, none⟩) (Below.setCell (p := ⟨w.heap.size + 2, 1, none⟩) (Below.setCell (p := ⟨w.heap.size + 2, 0, none⟩) (HB.out) (by show w.heap.size ≤ w.heap.size + 2; omega) (.int .i64 a1)) (by show w.heap.size ≤ w.heap.size + 2; omega) (.int .i64 a2)) (by show w.heap.size ≤ w.heap.size + 2; omega) (.int .i64 a3)) (by show w.heap.size ≤ w.heap.size + 2; omega) (.int .i64 a4)) (by show w.heap.size ≤ w.heap.size + 2; omega) (.slice (some ⟨g, o, none⟩) pn pc)) (by show w.heap.size ≤ w.heap.size + 2; omega) (.slice A n c)) (by show w.heap.size ≤ w.heap.size + 2; omega) (.slice B bn bc)))
   clear HB
   go_wp2_with fail
   exact bodyPost_ret (v := .tuple #[.agg #[.int .i64 a1, .int .i64 a2, .int .i64 a3, .int .i64 a4, .slice (some ⟨g, o, none⟩) pn pc, .slice A n c, .slice B bn bc], .int .i64 24]) (by simp [results, Try.results26, go_sem, q0, q1, q2, q3, q4, q5, q6, lv]) rfl ⟨HF.out, .inl ⟨by rw [HE.out]; decide, by rw [HE.out]⟩⟩
 · have tm : (pg.tmod 2 == 0) = false := by rw [TM]; simp [h24]
   clear TM
   have CM := Lib.hid (show Calls Try.prog 51 #[.slice Q qn qc] w8 (fun e w' => e = .returned (.bool (mayL qs)) ∧ Below w8.heap.size w8 w') by
    have h := rmay18 Q qc qs w8 ((HQS.out.below HB.out (Nat.le_refl _)).more (by omega)) (by rw [HQN.out]; exact hql)
    rw [HQN.out] at h; exact h)
   go_wp2_with fail
   refine CM.out.mono ?_
   rintro e w9 ⟨rfl, b9⟩
   clear CM tm
   have HSn := Lib.hid (Whole.below HS.out b9 ls)
   have HQn := Lib.hid (Whole.below HQ.out b9 lq)
   have HVn := Lib.hid (Whole.below HV.out b9 lv)
   have HBn := Lib.hid (HB.out.trans ((b9).mono (by omega)))
   have lsn : w.heap.size < w9.heap.size := by have := (b9).size; omega
   have lqn : w.heap.size + 1 < w9.heap.size := by have := (b9).size; omega
   have lvn : w.heap.size + 2 < w9.heap.size := by have := (b9).size; omega
   clear r0 r1 r2 r3 r4 r5 r6 p0 p1 p2 p3 p4 p5 p6 p7 HS HQ HV HB ls lq lv
   have HS := Lib.hid HSn.out
   have HQ := Lib.hid HQn.out
   have HV := Lib.hid HVn.out
   have HB := Lib.hid HBn.out
   have ls := lsn
   have lq := lqn
   have lv := lvn
   clear HSn HQn HVn HBn lsn lqn lvn
   have r0 := HS.out.cell 0
   have r1 := HS.out.cell 1
   have r2 := HS.out.cell 2
   have r3 := HS.out.cell 3
   have r4 := HS.out.cell 4
   have r5 := HS.out.cell 5
   have r6 := HS.out.cell 6
   have p0 := HQ.out.cell 0
   have p1 := HQ.out.cell 1
   have p2 := HQ.out.cell 2
   have p3 := HQ.out.cell 3
   have p4 := HQ.out.cell 4
   have p5 := HQ.out.cell 5
   have p6 := HQ.out.cell 6
   have p7 := HQ.out.cell 7
   clear b9
   obtain ⟨fine, hfine⟩ : ∃ z, mayL qs = z := ⟨_, rfl⟩
   have HFI := Lib.hid hfine
   rw [hfine]
   clear hfine
   by_cases t0 : qt < 1
   · skip
     have q0 := HV.out.cell 0; have g0 := HV.out.free 0; have q1 := HV.out.cell 1; have g1 := HV.out.free 1; have q2 := HV.out.cell 2; have g2 := HV.out.free 2; have q3 := HV.out.cell 3; have g3 := HV.out.free 3; have q4 := HV.out.cell 4; have g4 := HV.out.free 4; have q5 := HV.out.cell 5; have g5 := HV.out.free 5; have q6 := HV.out.cell 6; have g6 := HV.out.free 6
     have HE := Lib.hid (show pubE a2 ⟨pw, pr, pg⟩ l ⟨qk, qw, qr, qg, qt, qs, ql, qd⟩ = 1 from by unfold pubE; rw [if_neg h24, if_pos (by dsimp only; omega)])
     have HF := Lib.hid (show Below w.heap.size w (((((((w9.setCell ⟨w.heap.size + 2, 0, none⟩ (.int .i64 a1)).setCell ⟨w.heap.size + 2, 1, none⟩ (.int .i64 a2)).setCell ⟨w.heap.size + 2, 2, none⟩ (.int .i64 a3)).setCell ⟨w.heap.size + 2, 3, none⟩ (.int .i64 a4)).setCell ⟨w.heap.size + 2, 4, none⟩ (.slice (some ⟨g, o, none⟩) pn pc)).setCell ⟨w.heap.size + 2, 5, none⟩ (.slice A n c)).setCell ⟨w.heap.size + 2, 6, none⟩ (.slice B bn bc)) from (Below.setCell (p := ⟨w.heap.size + 2, 6, none⟩) (Below.setCell (p := ⟨w.heap.size + 2, 5, none⟩) (Below.setCell (p := ⟨w.heap.size + 2, 4, none⟩) (Below.setCell (p := ⟨w.heap.size + 2, 3, none⟩) (Below.setCell (p := ⟨w.heap.size + 2, 2, none⟩) (Below.setCell (p := ⟨w.heap.size + 2, 1, none⟩) (Below.setCell (p := ⟨w.heap.size + 2, 0, none⟩) (HB.out) (by show w.heap.size ≤ w.heap.size + 2; omega) (.int .i64 a1)) (by show w.heap.size ≤ w.heap.size + 2; omega) (.int .i64 a2)) (by show w.heap.size ≤ w.heap.size + 2; omega) (.int .i64 a3)) (by show w.heap.size ≤ w.heap.size + 2; omega) (.int .i64 a4)) (by show w.heap.size ≤ w.heap.size + 2; omega) (.slice (some ⟨g, o, none⟩) pn pc)) (by show w.heap.size ≤ w.heap.size + 2; omega) (.slice A n c)) (by show w.heap.size ≤ w.heap.size + 2; omega) (.slice B bn bc)))
     clear HB
     go_wp2_with fail
     exact bodyPost_ret (v := .tuple #[.agg #[.int .i64 a1, .int .i64 a2, .int .i64 a3, .int .i64 a4, .slice (some ⟨g, o, none⟩) pn pc, .slice A n c, .slice B bn bc], .int .i64 1]) (by simp [results, Try.results26, go_sem, q0, q1, q2, q3, q4, q5, q6, lv]) rfl ⟨HF.out, .inl ⟨by rw [HE.out]; decide, by rw [HE.out]⟩⟩
   · by_cases t1 : 999 < qt
     · skip
       have q0 := HV.out.cell 0; have g0 := HV.out.free 0; have q1 := HV.out.cell 1; have g1 := HV.out.free 1; have q2 := HV.out.cell 2; have g2 := HV.out.free 2; have q3 := HV.out.cell 3; have g3 := HV.out.free 3; have q4 := HV.out.cell 4; have g4 := HV.out.free 4; have q5 := HV.out.cell 5; have g5 := HV.out.free 5; have q6 := HV.out.cell 6; have g6 := HV.out.free 6
       have HE := Lib.hid (show pubE a2 ⟨pw, pr, pg⟩ l ⟨qk, qw, qr, qg, qt, qs, ql, qd⟩ = 1 from by unfold pubE; rw [if_neg h24, if_pos (by dsimp only; omega)])
       have HF := Lib.hid (show Below w.heap.size w (((((((w9.setCell ⟨w.heap.size + 2, 0, none⟩ (.int .i64 a1)).setCell ⟨w.heap.size + 2, 1, none⟩ (.int .i64 a2)).setCell ⟨w.heap.size + 2, 2, none⟩ (.int .i64 a3)).setCell ⟨w.heap.size + 2, 3, none⟩ (.int .i64 a4)).setCell ⟨w.heap.size + 2, 4, none⟩ (.slice (some ⟨g, o, none⟩) pn pc)).setCell ⟨w.heap.size + 2, 5, none⟩ (.slice A n c)).setCell ⟨w.heap.size + 2, 6, none⟩ (.slice B bn bc)) from (Below.setCell (p := ⟨w.heap.size + 2, 6, none⟩) (Below.setCell (p := ⟨w.heap.size + 2, 5, none⟩) (Below.setCell (p := ⟨w.heap.size + 2, 4, none⟩) (Below.setCell (p := ⟨w.heap.size + 2, 3, none⟩) (Below.setCell (p := ⟨w.heap.size + 2, 2, none⟩) (Below.setCell (p := ⟨w.heap.size + 2, 1, none⟩) (Below.setCell (p := ⟨w.heap.size + 2, 0, none⟩) (HB.out) (by show w.heap.size ≤ w.heap.size + 2; omega) (.int .i64 a1)) (by show w.heap.size ≤ w.heap.size + 2; omega) (.int .i64 a2)) (by show w.heap.size ≤ w.heap.size + 2; omega) (.int .i64 a3)) (by show w.heap.size ≤ w.heap.size + 2; omega) (.int .i64 a4)) (by show w.heap.size ≤ w.heap.size + 2; omega) (.slice (some ⟨g, o, none⟩) pn pc)) (by show w.heap.size ≤ w.heap.size + 2; omega) (.slice A n c)) (by show w.heap.size ≤ w.heap.size + 2; omega) (.slice B bn bc)))
       clear HB
       go_wp2_with fail
       exact bodyPost_ret (v := .tuple #[.agg #[.int .i64 a1, .int .i64 a2, .int .i64 a3, .int .i64 a4, .slice (some ⟨g, o, none⟩) pn pc, .slice A n c, .slice B bn bc], .int .i64 1]) (by simp [results, Try.results26, go_sem, q0, q1, q2, q3, q4, q5, q6, lv]) rfl ⟨HF.out, .inl ⟨by rw [HE.out]; decide, by rw [HE.out]⟩⟩
     · cases fine with
       | false =>
        have q0 := HV.out.cell 0; have g0 := HV.out.free 0; have q1 := HV.out.cell 1; have g1 := HV.out.free 1; have q2 := HV.out.cell 2; have g2 := HV.out.free 2; have q3 := HV.out.cell 3; have g3 := HV.out.free 3; have q4 := HV.out.cell 4; have g4 := HV.out.free 4; have q5 := HV.out.cell 5; have g5 := HV.out.free 5; have q6 := HV.out.cell 6; have g6 := HV.out.free 6
        have HE := Lib.hid (show pubE a2 ⟨pw, pr, pg⟩ l ⟨qk, qw, qr, qg, qt, qs, ql, qd⟩ = 1 from by unfold pubE; rw [if_neg h24, if_pos (.inr (.inr HFI.out))])
        have HF := Lib.hid (show Below w.heap.size w (((((((w9.setCell ⟨w.heap.size + 2, 0, none⟩ (.int .i64 a1)).setCell ⟨w.heap.size + 2, 1, none⟩ (.int .i64 a2)).setCell ⟨w.heap.size + 2, 2, none⟩ (.int .i64 a3)).setCell ⟨w.heap.size + 2, 3, none⟩ (.int .i64 a4)).setCell ⟨w.heap.size + 2, 4, none⟩ (.slice (some ⟨g, o, none⟩) pn pc)).setCell ⟨w.heap.size + 2, 5, none⟩ (.slice A n c)).setCell ⟨w.heap.size + 2, 6, none⟩ (.slice B bn bc)) from (Below.setCell (p := ⟨w.heap.size + 2, 6, none⟩) (Below.setCell (p := ⟨w.heap.size + 2, 5, none⟩) (Below.setCell (p := ⟨w.heap.size + 2, 4, none⟩) (Below.setCell (p := ⟨w.heap.size + 2, 3, none⟩) (Below.setCell (p := ⟨w.heap.size + 2, 2, none⟩) (Below.setCell (p := ⟨w.heap.size + 2, 1, none⟩) (Below.setCell (p := ⟨w.heap.size + 2, 0, none⟩) (HB.out) (by show w.heap.size ≤ w.heap.size + 2; omega) (.int .i64 a1)) (by show w.heap.size ≤ w.heap.size + 2; omega) (.int .i64 a2)) (by show w.heap.size ≤ w.heap.size + 2; omega) (.int .i64 a3)) (by show w.heap.size ≤ w.heap.size + 2; omega) (.int .i64 a4)) (by show w.heap.size ≤ w.heap.size + 2; omega) (.slice (some ⟨g, o, none⟩) pn pc)) (by show w.heap.size ≤ w.heap.size + 2; omega) (.slice A n c)) (by show w.heap.size ≤ w.heap.size + 2; omega) (.slice B bn bc)))
        clear HB
        go_wp2_with fail
        exact bodyPost_ret (v := .tuple #[.agg #[.int .i64 a1, .int .i64 a2, .int .i64 a3, .int .i64 a4, .slice (some ⟨g, o, none⟩) pn pc, .slice A n c, .slice B bn bc], .int .i64 1]) (by simp [results, Try.results26, go_sem, q0, q1, q2, q3, q4, q5, q6, lv]) rfl ⟨HF.out, .inl ⟨by rw [HE.out]; decide, by rw [HE.out]⟩⟩
       | true =>
        have CT := Lib.hid (show Calls Try.prog 50 #[.agg #[.int .i64 a1, .int .i64 a2, .int .i64 a3, .int .i64 a4, .slice (some ⟨g, o, none⟩) pn pc, .slice A n c, .slice B bn bc], .int .i64 qt] w9 (fun e w' => e = .returned (.int .i64 (ixS (fun x : Tm => isT qt x.t) l)) ∧ Below w9.heap.size w9 w') by
         have h := rtrack18 a1 a2 a3 a4 (.slice (some ⟨g, o, none⟩) pn pc) (.slice B bn bc) A c l qt w9 ((HR.out.1.below HB.out (Nat.le_refl _)).more (by omega)) (by rw [HN.out]; exact hl)
         rw [HN.out] at h; exact h)
        have CK := Lib.hid (fun w' (b : Below w.heap.size w w') => (show Calls Try.prog 52 #[.agg #[.int .i64 a1, .int .i64 a2, .int .i64 a3, .int .i64 a4, .slice (some ⟨g, o, none⟩) pn pc, .slice A n c, .slice B bn bc], .slice Q qn qc] w' (fun e w'' => e = .returned (.bool (takenM l qs)) ∧ Below w'.heap.size w' w'') by
         have h := rtaken18 a1 a2 a3 a4 (.slice (some ⟨g, o, none⟩) pn pc) (.slice B bn bc) A c l Q qc qs w' ((HR.out.below b (Nat.le_refl _)).more b.size) (by rw [HN.out]; exact hl) ((HQS.out.below b (Nat.le_refl _)).more b.size) (by rw [HQN.out]; exact hql)
         rw [HN.out, HQN.out] at h; exact h))
        go_wp2_with fail
        refine CT.out.mono ?_
        rintro e v1 ⟨rfl, b1⟩
        obtain ⟨ix, hix⟩ : ∃ z, ixS (fun x : Tm => isT qt x.t) l = z := ⟨_, rfl⟩
        have HIT := Lib.hid hix
        rw [hix]
        clear CT hix
        have HSn := Lib.hid (Whole.below HS.out b1 ls)
        have HQn := Lib.hid (Whole.below HQ.out b1 lq)
        have HVn := Lib.hid (Whole.below HV.out b1 lv)
        have HBn := Lib.hid (HB.out.trans ((b1).mono (by omega)))
        have lsn : w.heap.size < v1.heap.size := by have := (b1).size; omega
        have lqn : w.heap.size + 1 < v1.heap.size := by have := (b1).size; omega
        have lvn : w.heap.size + 2 < v1.heap.size := by have := (b1).size; omega
        clear r0 r1 r2 r3 r4 r5 r6 p0 p1 p2 p3 p4 p5 p6 p7 HS HQ HV HB ls lq lv
        have HS := Lib.hid HSn.out
        have HQ := Lib.hid HQn.out
        have HV := Lib.hid HVn.out
        have HB := Lib.hid HBn.out
        have ls := lsn
        have lq := lqn
        have lv := lvn
        clear HSn HQn HVn HBn lsn lqn lvn
        have r0 := HS.out.cell 0
        have r1 := HS.out.cell 1
        have r2 := HS.out.cell 2
        have r3 := HS.out.cell 3
        have r4 := HS.out.cell 4
        have r5 := HS.out.cell 5
        have r6 := HS.out.cell 6
        have p0 := HQ.out.cell 0
        have p1 := HQ.out.cell 1
        have p2 := HQ.out.cell 2
        have p3 := HQ.out.cell 3
        have p4 := HQ.out.cell 4
        have p5 := HQ.out.cell 5
        have p6 := HQ.out.cell 6
        have p7 := HQ.out.cell 7
        clear b1
        by_cases hi : 0 ≤ ix
        · have hi' : ix ≥ 0 := hi
          have q0 := HV.out.cell 0; have g0 := HV.out.free 0; have q1 := HV.out.cell 1; have g1 := HV.out.free 1; have q2 := HV.out.cell 2; have g2 := HV.out.free 2; have q3 := HV.out.cell 3; have g3 := HV.out.free 3; have q4 := HV.out.cell 4; have g4 := HV.out.free 4; have q5 := HV.out.cell 5; have g5 := HV.out.free 5; have q6 := HV.out.cell 6; have g6 := HV.out.free 6
          have HE := Lib.hid (show pubE a2 ⟨pw, pr, pg⟩ l ⟨qk, qw, qr, qg, qt, qs, ql, qd⟩ = 22 from by unfold pubE; rw [if_neg h24, if_neg (by rw [show mayL qs = true from HFI.out]; simp; omega), if_pos (.inl (find_ix.mpr (by dsimp only; rw [HIT.out]; exact hi)))])
          have HF := Lib.hid (show Below w.heap.size w (((((((v1.setCell ⟨w.heap.size + 2, 0, none⟩ (.int .i64 a1)).setCell ⟨w.heap.size + 2, 1, none⟩ (.int .i64 a2)).setCell ⟨w.heap.size + 2, 2, none⟩ (.int .i64 a3)).setCell ⟨w.heap.size + 2, 3, none⟩ (.int .i64 a4)).setCell ⟨w.heap.size + 2, 4, none⟩ (.slice (some ⟨g, o, none⟩) pn pc)).setCell ⟨w.heap.size + 2, 5, none⟩ (.slice A n c)).setCell ⟨w.heap.size + 2, 6, none⟩ (.slice B bn bc)) from (Below.setCell (p := ⟨w.heap.size + 2, 6, none⟩) (Below.setCell (p := ⟨w.heap.size + 2, 5, none⟩) (Below.setCell (p := ⟨w.heap.size + 2, 4, none⟩) (Below.setCell (p := ⟨w.heap.size + 2, 3, none⟩) (Below.setCell (p := ⟨w.heap.size + 2, 2, none⟩) (Below.setCell (p := ⟨w.heap.size + 2, 1, none⟩) (Below.setCell (p := ⟨w.heap.size + 2, 0, none⟩) (HB.out) (by show w.heap.size ≤ w.heap.size + 2; omega) (.int .i64 a1)) (by show w.heap.size ≤ w.heap.size + 2; omega) (.int .i64 a2)) (by show w.heap.size ≤ w.heap.size + 2; omega) (.int .i64 a3)) (by show w.heap.size ≤ w.heap.size + 2; omega) (.int .i64 a4)) (by show w.heap.size ≤ w.heap.size + 2; omega) (.slice (some ⟨g, o, none⟩) pn pc)) (by show w.heap.size ≤ w.heap.size + 2; omega) (.slice A n c)) (by show w.heap.size ≤ w.heap.size + 2; omega) (.slice B bn bc)))
          clear HB
          go_wp2_with fail
          exact bodyPost_ret (v := .tuple #[.agg #[.int .i64 a1, .int .i64 a2, .int .i64 a3, .int .i64 a4, .slice (some ⟨g, o, none⟩) pn pc, .slice A n c, .slice B bn bc], .int .i64 22]) (by simp [results, Try.results26, go_sem, q0, q1, q2, q3, q4, q5, q6, lv]) rfl ⟨HF.out, .inl ⟨by rw [HE.out]; decide, by rw [HE.out]⟩⟩
        · go_wp2_with fail
          refine (CK.out _ HB.out).mono ?_
          rintro e v2 ⟨rfl, b2⟩
          obtain ⟨tk, htk⟩ : ∃ z, takenM l qs = z := ⟨_, rfl⟩
          have HTK := Lib.hid htk
          rw [htk]
          clear CK htk
          have HSn := Lib.hid (Whole.below HS.out b2 ls)
          have HQn := Lib.hid (Whole.below HQ.out b2 lq)
          have HVn := Lib.hid (Whole.below HV.out b2 lv)
          have HBn := Lib.hid (HB.out.trans ((b2).mono (by omega)))
          have lsn : w.heap.size < v2.heap.size := by have := (b2).size; omega
          have lqn : w.heap.size + 1 < v2.heap.size := by have := (b2).size; omega
          have lvn : w.heap.size + 2 < v2.heap.size := by have := (b2).size; omega
          clear r0 r1 r2 r3 r4 r5 r6 p0 p1 p2 p3 p4 p5 p6 p7 HS HQ HV HB ls lq lv
          have HS := Lib.hid HSn.out
          have HQ := Lib.hid HQn.out
          have HV := Lib.hid HVn.out
          have HB := Lib.hid HBn.out
          have ls := lsn
          have lq := lqn
          have lv := lvn
          clear HSn HQn HVn HBn lsn lqn lvn
          have r0 := HS.out.cell 0
          have r1 := HS.out.cell 1
          have r2 := HS.out.cell 2
          have r3 := HS.out.cell 3
          have r4 := HS.out.cell 4
          have r5 := HS.out.cell 5
          have r6 := HS.out.cell 6
          have p0 := HQ.out.cell 0
          have p1 := HQ.out.cell 1
          have p2 := HQ.out.cell 2
          have p3 := HQ.out.cell 3
          have p4 := HQ.out.cell 4
          have p5 := HQ.out.cell 5
          have p6 := HQ.out.cell 6
          have p7 := HQ.out.cell 7
          clear b2
          cases tk with
          | true =>
           have q0 := HV.out.cell 0; have g0 := HV.out.free 0; have q1 := HV.out.cell 1; have g1 := HV.out.free 1; have q2 := HV.out.cell 2; have g2 := HV.out.free 2; have q3 := HV.out.cell 3; have g3 := HV.out.free 3; have q4 := HV.out.cell 4; have g4 := HV.out.free 4; have q5 := HV.out.cell 5; have g5 := HV.out.free 5; have q6 := HV.out.cell 6; have g6 := HV.out.free 6
           have HE := Lib.hid (show pubE a2 ⟨pw, pr, pg⟩ l ⟨qk, qw, qr, qg, qt, qs, ql, qd⟩ = 22 from by unfold pubE; rw [if_neg h24, if_neg (by rw [show mayL qs = true from HFI.out]; simp; omega), if_pos (.inr HTK.out)])
           have HF := Lib.hid (show Below w.heap.size w (((((((v2.setCell ⟨w.heap.size + 2, 0, none⟩ (.int .i64 a1)).setCell ⟨w.heap.size + 2, 1, none⟩ (.int .i64 a2)).setCell ⟨w.heap.size + 2, 2, none⟩ (.int .i64 a3)).setCell ⟨w.heap.size + 2, 3, none⟩ (.int .i64 a4)).setCell ⟨w.heap.size + 2, 4, none⟩ (.slice (some ⟨g, o, none⟩) pn pc)).setCell ⟨w.heap.size + 2, 5, none⟩ (.slice A n c)).setCell ⟨w.heap.size + 2, 6, none⟩ (.slice B bn bc)) from (Below.setCell (p := ⟨w.heap.size + 2, 6, none⟩) (Below.setCell (p := ⟨w.heap.size + 2, 5, none⟩) (Below.setCell (p := ⟨w.heap.size + 2, 4, none⟩) (Below.setCell (p := ⟨w.heap.size + 2, 3, none⟩) (Below.setCell (p := ⟨w.heap.size + 2, 2, none⟩) (Below.setCell (p := ⟨w.heap.size + 2, 1, none⟩) (Below.setCell (p := ⟨w.heap.size + 2, 0, none⟩) (HB.out) (by show w.heap.size ≤ w.heap.size + 2; omega) (.int .i64 a1)) (by show w.heap.size ≤ w.heap.size + 2; omega) (.int .i64 a2)) (by show w.heap.size ≤ w.heap.size + 2; omega) (.int .i64 a3)) (by show w.heap.size ≤ w.heap.size + 2; omega) (.int .i64 a4)) (by show w.heap.size ≤ w.heap.size + 2; omega) (.slice (some ⟨g, o, none⟩) pn pc)) (by show w.heap.size ≤ w.heap.size + 2; omega) (.slice A n c)) (by show w.heap.size ≤ w.heap.size + 2; omega) (.slice B bn bc)))
           clear HB
           go_wp2_with fail
           exact bodyPost_ret (v := .tuple #[.agg #[.int .i64 a1, .int .i64 a2, .int .i64 a3, .int .i64 a4, .slice (some ⟨g, o, none⟩) pn pc, .slice A n c, .slice B bn bc], .int .i64 22]) (by simp [results, Try.results26, go_sem, q0, q1, q2, q3, q4, q5, q6, lv]) rfl ⟨HF.out, .inl ⟨by rw [HE.out]; decide, by rw [HE.out]⟩⟩
          | false =>
           by_cases hf : a2 ≤ (n : Int)
           · skip
             have q0 := HV.out.cell 0; have g0 := HV.out.free 0; have q1 := HV.out.cell 1; have g1 := HV.out.free 1; have q2 := HV.out.cell 2; have g2 := HV.out.free 2; have q3 := HV.out.cell 3; have g3 := HV.out.free 3; have q4 := HV.out.cell 4; have g4 := HV.out.free 4; have q5 := HV.out.cell 5; have g5 := HV.out.free 5; have q6 := HV.out.cell 6; have g6 := HV.out.free 6
             have HE := Lib.hid (show pubE a2 ⟨pw, pr, pg⟩ l ⟨qk, qw, qr, qg, qt, qs, ql, qd⟩ = 20 from by unfold pubE; rw [if_neg h24, if_neg (by rw [show mayL qs = true from HFI.out]; simp; omega), if_neg (fun e => e.elim (fun e => (by have := find_ix.mp e; dsimp only at this; rw [HIT.out] at this; omega)) (fun e => by have := HTK.out; dsimp only at e; rw [this] at e; cases e)), if_pos (by rw [HN.out]; exact hf)])
             have HF := Lib.hid (show Below w.heap.size w (((((((v2.setCell ⟨w.heap.size + 2, 0, none⟩ (.int .i64 a1)).setCell ⟨w.heap.size + 2, 1, none⟩ (.int .i64 a2)).setCell ⟨w.heap.size + 2, 2, none⟩ (.int .i64 a3)).setCell ⟨w.heap.size + 2, 3, none⟩ (.int .i64 a4)).setCell ⟨w.heap.size + 2, 4, none⟩ (.slice (some ⟨g, o, none⟩) pn pc)).setCell ⟨w.heap.size + 2, 5, none⟩ (.slice A n c)).setCell ⟨w.heap.size + 2, 6, none⟩ (.slice B bn bc)) from (Below.setCell (p := ⟨w.heap.size + 2, 6, none⟩) (Below.setCell (p := ⟨w.heap.size + 2, 5, none⟩) (Below.setCell (p := ⟨w.heap.size + 2, 4, none⟩) (Below.setCell (p := ⟨w.heap.size + 2, 3, none⟩) (Below.setCell (p := ⟨w.heap.size + 2, 2, none⟩) (Below.setCell (p := ⟨w.heap.size + 2, 1, none⟩) (Below.setCell (p := ⟨w.heap.size + 2, 0, none⟩) (HB.out) (by show w.heap.size ≤ w.heap.size + 2; omega) (.int .i64 a1)) (by show w.heap.size ≤ w.heap.size + 2; omega) (.int .i64 a2)) (by show w.heap.size ≤ w.heap.size + 2; omega) (.int .i64 a3)) (by show w.heap.size ≤ w.heap.size + 2; omega) (.int .i64 a4)) (by show w.heap.size ≤ w.heap.size + 2; omega) (.slice (some ⟨g, o, none⟩) pn pc)) (by show w.heap.size ≤ w.heap.size + 2; omega) (.slice A n c)) (by show w.heap.size ≤ w.heap.size + 2; omega) (.slice B bn bc)))
             clear HB
             go_wp2_with fail
             exact bodyPost_ret (v := .tuple #[.agg #[.int .i64 a1, .int .i64 a2, .int .i64 a3, .int .i64 a4, .slice (some ⟨g, o, none⟩) pn pc, .slice A n c, .slice B bn bc], .int .i64 20]) (by simp [results, Try.results26, go_sem, q0, q1, q2, q3, q4, q5, q6, lv]) rfl ⟨HF.out, .inl ⟨by rw [HE.out]; decide, by rw [HE.out]⟩⟩
           · have HE := Lib.hid (show pubE a2 ⟨pw, pr, pg⟩ l ⟨qk, qw, qr, qg, qt, qs, ql, qd⟩ = 0 from by unfold pubE; rw [if_neg h24, if_neg (by rw [show mayL qs = true from HFI.out]; simp; omega), if_neg (fun e => e.elim (fun e => (by have := find_ix.mp e; dsimp only at this; rw [HIT.out] at this; omega)) (fun e => by have := HTK.out; dsimp only at e; rw [this] at e; cases e)), if_neg (by rw [HN.out]; exact hf)])
             have lt' : (n : Int) < a2 := by omega
             obtain ⟨P, hP⟩ : ∃ z, (l.takeWhile fun z => ltM z ⟨⟨qt, qw, 0, qs⟩, Q, qc⟩).length = z := ⟨_, rfl⟩
             have hPL : P ≤ n := by rw [← hP, ← HN.out]; exact tw_le _ _
             have HPT := Lib.hid hP
             clear hP
             go_wp2_with fail
             have HSv := Lib.hid HS.out
             have HQv := Lib.hid HQ.out
             have HRv := Lib.hid (HR.out.1.below HB.out (Nat.le_refl _))
             have ls4 := ls
             have lq4 := lq
             have lv4 := lv
             have hz4 : w.heap.size + 3 ≤ v2.heap.size := by omega
             clear r0 r1 r2 r3 r4 r5 r6 p0 p1 p2 p3 p4 p5 p6 p7 HS HQ
             go_loopw [7] (fun v wr => ∃ j : Nat, j ≤ P ∧ v = .int .i64 (j : Int) ∧ Below v2.heap.size v2 wr) (fun v _ => P - (intOf v).toNat)
             case atStart => exact ⟨0, Nat.zero_le _, rfl, Below.refl _ _⟩
             case round =>
              obtain ⟨j, hj, rfl, hb⟩ := hrel
              have HBq := Lib.hid hb
              have hzq := hb.size
              have r5 := (Whole.below HSv.out hb ls4).cell 5
              have p4 := (Whole.below HQv.out hb lq4).cell 4
              have j0 : (0 : Int) ≤ (j : Int) := by omega
              have lsr : w.heap.size < wr.heap.size := by omega
              have lqr : w.heap.size + 1 < wr.heap.size := by omega
              clear hb
              by_cases hjn : j < n
              · obtain ⟨z, hz⟩ : ∃ z, l[j]? = some z := ⟨_, List.getElem?_eq_getElem (by rw [HN.out]; exact hjn)⟩
                obtain ⟨g2, o2, rfl, hg, hc⟩ := HRv.out.2 (by rw [HN.out]; omega)
                have d0 := (HBq.out.cell (p := ⟨g2, o2 + (j * 4 + 0), none⟩) (by show g2 < _; omega)).trans (hc _ _ ((tmC_get hz 0 (by decide)).trans rfl))
                rw [← Nat.add_assoc, Nat.add_zero] at d0
                have HZ := Lib.hid hz
                have j1 : (j : Int) < (n : Int) := by omega
                have t1 : decide ((j : Int) < (n : Int)) = true := decide_eq_true j1
                have t1' : decide (j < n) = true := decide_eq_true hjn
                have lg : g2 < wr.heap.size := by omega
                obtain ⟨⟨zi, zo, zf, zs⟩, zA, zc⟩ := z
                dsimp only at d0
                clear hz hc
                by_cases hjP : j < P
                · have hw := tw_lt (by rw [HPT.out]; exact hjP) HZ.out
                  have t2 : decide (zi < qt) = true := hw
                  clear hw
                  go_wp2_with fail
                  go_region
                  go_wp2_with fail
                  go_roundw
                  case rel => exact ⟨j + 1, by omega, by go_num, HBq.out.drew⟩
                  case measure => simp [intOf]; omega
                · obtain rfl : j = P := by omega
                  have hw := tw_at (f := fun z => ltM z ⟨⟨qt, qw, 0, qs⟩, Q, qc⟩) (l := l) (z := ⟨⟨zi, zo, zf, zs⟩, zA, zc⟩) (by rw [HPT.out]; exact HZ.out)
                  have t2 : decide (zi < qt) = false := hw
                  clear hw
                  go_wp2_with fail
                  go_region
                  have HBa := Lib.hid HBq.out.drew
                  obtain ⟨wa, hwa⟩ : ∃ z, z = wr.drew := ⟨_, rfl⟩
                  rw [← hwa] at HBa ⊢
                  have hsza : v2.heap.size ≤ wa.heap.size := HBa.out.size
                  clear hwa HBq r5 p4 d0 lsr lqr lg hzq
                  have HSa := Lib.hid (Whole.below HSv.out HBa.out ls4)
                  have r5 := HSa.out.cell 5
                  have HRa := Lib.hid (HRv.out.below (HBa.out.mono (by omega) : Below w.heap.size v2 wa) (Nat.le_refl _))
                  have HSRC := Lib.hid (show Row wa w.heap.size 4 (some ⟨g2, o2, none⟩) j (tmC (l.take j)) by unfold tmC; rw [flat_take (z := 4) (fun _ => rfl)]; have h := HRa.out; rw [HN.out] at h; exact row_take h (by omega))
                  go_wp2_with (at_builtin; refine wpl_append _ rfl (.tmp 75) (.tmp 79) 34 rfl v2.heap.size 60 (.agg #[.int .i64 0, .int .i64 0, .int .i64 0, .slice none 0 0]) 4 48 Try.underlying34 info_T18 rfl (by decide) _ 0 [] rfl (World.ownsRow_nil _ _ _ _) _ (some ⟨g2, o2, none⟩) j c _ rfl HSRC.out (flat_one tm_one _) ?c1 ?c2 ?c3 ?_)
                  case c1 => unfold maxLen; omega
                  case c2 => omega
                  case c3 => exact hsza
                  intro v8 w8 hown8 hg8 hv8
                  have HB8 := Lib.hid (HBa.out.trans ((show Below wa.heap.size wa w8 from ⟨hg8.os, hg8.tape, hg8.output, hg8.size, fun k hk => hg8.block k hk (by simp [Value.ownBlock])⟩).mono hsza))
                  have HV8 := Lib.hid hown8
                  have hz8 := hg8.size
                  have HQ8 := Lib.hid (Whole.below HQv.out HB8.out lq4)
                  have p1 := HQ8.out.cell 1
                  have p4 := HQ8.out.cell 4
                  have p5 := HQ8.out.cell 5
                  have lq8 : w.heap.size + 1 < w8.heap.size := by omega
                  have HW8 := Lib.hid (Row.fresh w8 60 #[.int .i64 qt, .int .i64 qw, .int .i64 0, .slice Q qn qc] 4 1 [.int .i64 qt, .int .i64 qw, .int .i64 0, .slice Q qn qc] rfl rfl)
                  have hL8 := Lib.hid (fun q hq => (HV8.out.lt q hq).1)
                  clear hown8 hg8 hv8 HBa HSa r5 HSRC HRa
                  go_wp2_with (at_builtin; refine wpl_append _ rfl (.tmp 81) (.tmp 89) 34 rfl v2.heap.size 60 (.agg #[.int .i64 0, .int .i64 0, .int .i64 0, .slice none 0 0]) 4 48 Try.underlying34 info_T18 rfl (by decide) _ j (tmC (l.take j)) rfl (HV8.out.alloc _) _ _ 1 1 [.int .i64 qt, .int .i64 qw, .int .i64 0, .slice Q qn qc] rfl HW8.out (by simp [Value.oneCell']) ?d1 ?d2 ?d3 ?_)
                  case d1 => unfold maxLen; omega
                  case d2 => omega
                  case d3 => first | omega | (simp; omega)
                  intro v9 w9 hown9 hg9 hv9
                  have HB9 := Lib.hid (show Below v2.heap.size v2 w9 from (HB8.out.alloc HB8.out.size _).grown hg9 (by simp; omega) (fun q hq => hL8.out q hq))
                  have HV9 := Lib.hid hown9
                  have hL9 := Lib.hid (fun q hq => (HV9.out.lt q hq).1)
                  have hz9 := HB9.out.size
                  have HS9 := Lib.hid (Whole.below HSv.out HB9.out ls4)
                  have r5 := HS9.out.cell 5
                  have ls9 : w.heap.size < w9.heap.size := by omega
                  clear hown9 hg9 hv9 HV8 HW8 hL8 HB8 HQ8 p1 p4 p5
                  have HD9 := Lib.hid (show Row w9 w.heap.size 4 (some ⟨g2, o2 + j * 4, none⟩) (n - j) (tmC (l.drop j)) by unfold tmC; rw [flat_drop (z := 4) (fun _ => rfl)]; have h := HRv.out.below (HB9.out.mono (by omega) : Below w.heap.size v2 w9) (Nat.le_refl _); rw [HN.out] at h; exact row_drop h (by omega))
                  have HINS := Lib.hid (show tmC (insK ltM l ⟨⟨qt, qw, 0, qs⟩, Q, qc⟩) = (tmC (l.take j) ++ [.int .i64 qt, .int .i64 qw, .int .i64 0, .slice Q qn qc]) ++ tmC (l.drop j) by
                   rw [← HQN.out, insK_at, HPT.out]; unfold tmC; rw [flat_append, List.append_assoc]; rfl)
                  have hcj : ¬ c = j := by omega
                  have hcj' : ¬ j = c := by omega
                  go_wp2_with (at_builtin; refine wpl_append _ rfl (.tmp 91) (.tmp 95) 34 rfl v2.heap.size 60 (.agg #[.int .i64 0, .int .i64 0, .int .i64 0, .slice none 0 0]) 4 48 Try.underlying34 info_T18 rfl (by decide) v9 (j + 1) _ rfl HV9.out _ (some ⟨g2, o2 + j * 4, none⟩) (n - j) (c - j) _ rfl HD9.out (flat_one tm_one _) ?f1 ?f2 ?f3 ?_)
                  case f1 => unfold maxLen; omega
                  case f2 => omega
                  case f3 => first | omega | exact hz9
                  intro v10 w10 hown10 hg10 _
                  have HO10 := Lib.hid (show w10.ownsRow v2.heap.size 60 4 v10 (n + 1) (tmC (insK ltM l ⟨⟨qt, qw, 0, qs⟩, Q, qc⟩)) by
                   rw [HINS.out, ← (show j + 1 + (n - j) = n + 1 by omega)]
                   simpa only [List.append_assoc, List.cons_append, List.nil_append] using hown10)
                  have HB10 := Lib.hid (show Below v2.heap.size v2 w10 from HB9.out.grown hg10 (by omega) (fun q hq => hL9.out q hq))
                  obtain ⟨A10, c10, rfl⟩ := own_form HO10.out
                  have hz10 := HB10.out.size
                  have HS10 := Lib.hid (Whole.below HSv.out HB10.out ls4)
                  have HV10 := Lib.hid (Whole.below HV.out HB10.out lv4)
                  have r0 := HS10.out.cell 0
                  have r1 := HS10.out.cell 1
                  have r2 := HS10.out.cell 2
                  have r3 := HS10.out.cell 3
                  have r4 := HS10.out.cell 4
                  have r5 := HS10.out.cell 5
                  have r6 := HS10.out.cell 6
                  have f5 := HS10.out.free 5
                  have q0 := HV10.out.cell 0
                  have q1 := HV10.out.cell 1
                  have q2 := HV10.out.cell 2
                  have q3 := HV10.out.cell 3
                  have q4 := HV10.out.cell 4
                  have q5 := HV10.out.cell 5
                  have q6 := HV10.out.cell 6
                  have g0 := HV10.out.free 0
                  have g1 := HV10.out.free 1
                  have g2 := HV10.out.free 2
                  have g3 := HV10.out.free 3
                  have g4 := HV10.out.free 4
                  have g5 := HV10.out.free 5
                  have g6 := HV10.out.free 6
                  have ls10 : w.heap.size < w10.heap.size := by omega
                  have lv10 : w.heap.size + 2 < w10.heap.size := by omega
                  have hne : ¬ w.heap.size = w.heap.size + 2 := by omega
                  have HF := Lib.hid (show (((((((((w10.setCell ⟨w.heap.size, 5, none⟩ (.slice A10 (n + 1) c10)).setCell ⟨w.heap.size + 2, 0, none⟩ (.int .i64 a1)).setCell ⟨w.heap.size + 2, 1, none⟩ (.int .i64 a2)).setCell ⟨w.heap.size + 2, 2, none⟩ (.int .i64 a3)).setCell ⟨w.heap.size + 2, 3, none⟩ (.int .i64 a4)).setCell ⟨w.heap.size + 2, 4, none⟩ (.slice (some ⟨g, o, none⟩) pn pc)).setCell ⟨w.heap.size + 2, 5, none⟩ (.slice A10 (n + 1) c10)).setCell ⟨w.heap.size + 2, 6, none⟩ (.slice B bn bc))).ownsRow (w.heap.size + 3) 60 4 (.slice A10 (n + 1) c10) (n + 1) (tmC (insK ltM l ⟨⟨qt, qw, 0, qs⟩, Q, qc⟩)) ∧ Below w.heap.size w ((((((((w10.setCell ⟨w.heap.size, 5, none⟩ (.slice A10 (n + 1) c10)).setCell ⟨w.heap.size + 2, 0, none⟩ (.int .i64 a1)).setCell ⟨w.heap.size + 2, 1, none⟩ (.int .i64 a2)).setCell ⟨w.heap.size + 2, 2, none⟩ (.int .i64 a3)).setCell ⟨w.heap.size + 2, 3, none⟩ (.int .i64 a4)).setCell ⟨w.heap.size + 2, 4, none⟩ (.slice (some ⟨g, o, none⟩) pn pc)).setCell ⟨w.heap.size + 2, 5, none⟩ (.slice A10 (n + 1) c10)).setCell ⟨w.heap.size + 2, 6, none⟩ (.slice B bn bc)) from by
                   have HB10 : Below w.heap.size w w10 := HB.out.trans (HB10.out.mono (by omega))
                   refine ⟨?_, (Below.setCell (p := ⟨w.heap.size + 2, 6, none⟩) (Below.setCell (p := ⟨w.heap.size + 2, 5, none⟩) (Below.setCell (p := ⟨w.heap.size + 2, 4, none⟩) (Below.setCell (p := ⟨w.heap.size + 2, 3, none⟩) (Below.setCell (p := ⟨w.heap.size + 2, 2, none⟩) (Below.setCell (p := ⟨w.heap.size + 2, 1, none⟩) (Below.setCell (p := ⟨w.heap.size + 2, 0, none⟩) (Below.setCell (p := ⟨w.heap.size, 5, none⟩) HB10 (Nat.le_refl _) (.slice A10 (n + 1) c10)) (by show w.heap.size ≤ w.heap.size + 2; omega) (.int .i64 a1)) (by show w.heap.size ≤ w.heap.size + 2; omega) (.int .i64 a2)) (by show w.heap.size ≤ w.heap.size + 2; omega) (.int .i64 a3)) (by show w.heap.size ≤ w.heap.size + 2; omega) (.int .i64 a4)) (by show w.heap.size ≤ w.heap.size + 2; omega) (.slice (some ⟨g, o, none⟩) pn pc)) (by show w.heap.size ≤ w.heap.size + 2; omega) (.slice A10 (n + 1) c10)) (by show w.heap.size ≤ w.heap.size + 2; omega) (.slice B bn bc))⟩
                   have h := own_base HO10.out (show w.heap.size + 3 ≤ v2.heap.size by have := HZ3.out; omega)
                   have fq : ∀ q, (Value.slice A10 (n + 1) c10).ownBlock = some q → ¬ (q = w.heap.size ∨ q = w.heap.size + 2) := fun q hq => by have := (h.lt q hq).1; omega
                   exact own_farX (own_farX (own_farX (own_farX (own_farX (own_farX (own_farX (own_farX h (fun q hq e => fq q hq (.inl e.symm))) (fun q hq e => fq q hq (.inr e.symm))) (fun q hq e => fq q hq (.inr e.symm))) (fun q hq e => fq q hq (.inr e.symm))) (fun q hq e => fq q hq (.inr e.symm))) (fun q hq e => fq q hq (.inr e.symm))) (fun q hq e => fq q hq (.inr e.symm))) (fun q hq e => fq q hq (.inr e.symm)))
                  clear hown10 hg10 HO10 HB10 HV9 HB9 hL9 HINS HS9 HS10 HV10 HB HSv HQv HV HRv
                  go_wp2_with fail
                  exact bodyPost_ret (v := .tuple #[.agg #[.int .i64 a1, .int .i64 a2, .int .i64 a3, .int .i64 a4, .slice (some ⟨g, o, none⟩) pn pc, .slice A10 (n + 1) c10, .slice B bn bc], .int .i64 0]) (by simp [results, Try.results26, go_sem, q0, q1, q2, q3, q4, q5, q6, lv10]) rfl ⟨HF.out.2, .inr ⟨HE.out, A10, c10, rfl, HF.out.1⟩⟩
              · obtain rfl : j = P := by omega
                obtain rfl : j = n := by omega
                have t1 : decide ((j : Int) < (j : Int)) = false := decide_eq_false (by omega)
                have t1' : decide (j < j) = false := decide_eq_false (by omega)
                rcases HA.out with ⟨hA1, hA2⟩ | ⟨g2, o2, hA1⟩
                · subst hA1 hA2
                  obtain rfl : j = 0 := by omega
                  go_wp2_with fail
                  go_region
                  have HBa := Lib.hid HBq.out.drew
                  obtain ⟨wa, hwa⟩ : ∃ z, z = wr.drew := ⟨_, rfl⟩
                  rw [← hwa] at HBa ⊢
                  have hsza : v2.heap.size ≤ wa.heap.size := HBa.out.size
                  clear hwa HBq r5 p4  lsr lqr  hzq
                  have HSa := Lib.hid (Whole.below HSv.out HBa.out ls4)
                  have r5 := HSa.out.cell 5
                  go_wp2_with (at_builtin; refine wpl_append _ rfl (.tmp 75) (.tmp 79) 34 rfl v2.heap.size 60 (.agg #[.int .i64 0, .int .i64 0, .int .i64 0, .slice none 0 0]) 4 48 Try.underlying34 info_T18 rfl (by decide) _ 0 [] rfl (World.ownsRow_nil _ _ _ _) 0 _ 0 _ [] rfl Row.nil (by simp) ?c1 ?c2 ?c3 ?_)
                  case c1 => unfold maxLen; omega
                  case c2 => omega
                  case c3 => exact hsza
                  intro v8 w8 hown8 hg8 hv8
                  have HB8 := Lib.hid (HBa.out.trans ((show Below wa.heap.size wa w8 from ⟨hg8.os, hg8.tape, hg8.output, hg8.size, fun k hk => hg8.block k hk (by simp [Value.ownBlock])⟩).mono hsza))
                  have HV8 := Lib.hid hown8
                  have hz8 := hg8.size
                  have HQ8 := Lib.hid (Whole.below HQv.out HB8.out lq4)
                  have p1 := HQ8.out.cell 1
                  have p4 := HQ8.out.cell 4
                  have p5 := HQ8.out.cell 5
                  have lq8 : w.heap.size + 1 < w8.heap.size := by omega
                  have HW8 := Lib.hid (Row.fresh w8 60 #[.int .i64 qt, .int .i64 qw, .int .i64 0, .slice Q qn qc] 4 1 [.int .i64 qt, .int .i64 qw, .int .i64 0, .slice Q qn qc] rfl rfl)
                  have hL8 := Lib.hid (fun q hq => (HV8.out.lt q hq).1)
                  clear hown8 hg8 hv8 HBa HSa r5 
                  go_wp2_with (at_builtin; refine wpl_append _ rfl (.tmp 81) (.tmp 89) 34 rfl v2.heap.size 60 (.agg #[.int .i64 0, .int .i64 0, .int .i64 0, .slice none 0 0]) 4 48 Try.underlying34 info_T18 rfl (by decide) _ 0 [] rfl (HV8.out.alloc _) _ _ 1 1 [.int .i64 qt, .int .i64 qw, .int .i64 0, .slice Q qn qc] rfl HW8.out (by simp [Value.oneCell']) ?d1 ?d2 ?d3 ?_)
                  case d1 => unfold maxLen; omega
                  case d2 => omega
                  case d3 => first | omega | (simp; omega)
                  intro v9 w9 hown9 hg9 hv9
                  have HB9 := Lib.hid (show Below v2.heap.size v2 w9 from (HB8.out.alloc HB8.out.size _).grown hg9 (by simp; omega) (fun q hq => hL8.out q hq))
                  have HV9 := Lib.hid hown9
                  have hL9 := Lib.hid (fun q hq => (HV9.out.lt q hq).1)
                  have hz9 := HB9.out.size
                  have HS9 := Lib.hid (Whole.below HSv.out HB9.out ls4)
                  have r5 := HS9.out.cell 5
                  have ls9 : w.heap.size < w9.heap.size := by omega
                  clear hown9 hg9 hv9 HV8 HW8 hL8 HB8 HQ8 p1 p4 p5
                  have HINS := Lib.hid (show tmC (insK ltM l ⟨⟨qt, qw, 0, qs⟩, Q, qc⟩) = [.int .i64 qt, .int .i64 qw, .int .i64 0, .slice Q qn qc] by
                   rw [← HQN.out, insK_at, HPT.out, List.drop_of_length_le (show l.length ≤ 0 by rw [HN.out]; exact Nat.le_refl _)]; simp [tmC, tmV])
                  go_wp2_with (at_builtin; refine wpl_append _ rfl (.tmp 91) (.tmp 95) 34 rfl v2.heap.size 60 (.agg #[.int .i64 0, .int .i64 0, .int .i64 0, .slice none 0 0]) 4 48 Try.underlying34 info_T18 rfl (by decide) v9 1 _ rfl HV9.out 0 _ 0 _ [] rfl Row.nil (by simp) ?f1 ?f2 ?f3 ?_)
                  case f1 => unfold maxLen; omega
                  case f2 => omega
                  case f3 => first | omega | exact hz9
                  intro v10 w10 hown10 hg10 _
                  have HO10 := Lib.hid (show w10.ownsRow v2.heap.size 60 4 v10 (0 + 1) (tmC (insK ltM l ⟨⟨qt, qw, 0, qs⟩, Q, qc⟩)) by
                   rw [HINS.out]
                   first | (simpa using hown10; done) | (simpa [tmC] using hown10))
                  have HB10 := Lib.hid (show Below v2.heap.size v2 w10 from HB9.out.grown hg10 (by omega) (fun q hq => hL9.out q hq))
                  obtain ⟨A10, c10, rfl⟩ := own_form HO10.out
                  have hz10 := HB10.out.size
                  have HS10 := Lib.hid (Whole.below HSv.out HB10.out ls4)
                  have HV10 := Lib.hid (Whole.below HV.out HB10.out lv4)
                  have r0 := HS10.out.cell 0
                  have r1 := HS10.out.cell 1
                  have r2 := HS10.out.cell 2
                  have r3 := HS10.out.cell 3
                  have r4 := HS10.out.cell 4
                  have r5 := HS10.out.cell 5
                  have r6 := HS10.out.cell 6
                  have f5 := HS10.out.free 5
                  have q0 := HV10.out.cell 0
                  have q1 := HV10.out.cell 1
                  have q2 := HV10.out.cell 2
                  have q3 := HV10.out.cell 3
                  have q4 := HV10.out.cell 4
                  have q5 := HV10.out.cell 5
                  have q6 := HV10.out.cell 6
                  have g0 := HV10.out.free 0
                  have g1 := HV10.out.free 1
                  have g2 := HV10.out.free 2
                  have g3 := HV10.out.free 3
                  have g4 := HV10.out.free 4
                  have g5 := HV10.out.free 5
                  have g6 := HV10.out.free 6
                  have ls10 : w.heap.size < w10.heap.size := by omega
                  have lv10 : w.heap.size + 2 < w10.heap.size := by omega
                  have hne : ¬ w.heap.size = w.heap.size + 2 := by omega
                  have HF := Lib.hid (show (((((((((w10.setCell ⟨w.heap.size, 5, none⟩ (.slice A10 (0 + 1) c10)).setCell ⟨w.heap.size + 2, 0, none⟩ (.int .i64 a1)).setCell ⟨w.heap.size + 2, 1, none⟩ (.int .i64 a2)).setCell ⟨w.heap.size + 2, 2, none⟩ (.int .i64 a3)).setCell ⟨w.heap.size + 2, 3, none⟩ (.int .i64 a4)).setCell ⟨w.heap.size + 2, 4, none⟩ (.slice (some ⟨g, o, none⟩) pn pc)).setCell ⟨w.heap.size + 2, 5, none⟩ (.slice A10 (0 + 1) c10)).setCell ⟨w.heap.size + 2, 6, none⟩ (.slice B bn bc))).ownsRow (w.heap.size + 3) 60 4 (.slice A10 (0 + 1) c10) (0 + 1) (tmC (insK ltM l ⟨⟨qt, qw, 0, qs⟩, Q, qc⟩)) ∧ Below w.heap.size w ((((((((w10.setCell ⟨w.heap.size, 5, none⟩ (.slice A10 (0 + 1) c10)).setCell ⟨w.heap.size + 2, 0, none⟩ (.int .i64 a1)).setCell ⟨w.heap.size + 2, 1, none⟩ (.int .i64 a2)).setCell ⟨w.heap.size + 2, 2, none⟩ (.int .i64 a3)).setCell ⟨w.heap.size + 2, 3, none⟩ (.int .i64 a4)).setCell ⟨w.heap.size + 2, 4, none⟩ (.slice (some ⟨g, o, none⟩) pn pc)).setCell ⟨w.heap.size + 2, 5, none⟩ (.slice A10 (0 + 1) c10)).setCell ⟨w.heap.size + 2, 6, none⟩ (.slice B bn bc)) from by
                   have HB10 : Below w.heap.size w w10 := HB.out.trans (HB10.out.mono (by omega))
                   refine ⟨?_, (Below.setCell (p := ⟨w.heap.size + 2, 6, none⟩) (Below.setCell (p := ⟨w.heap.size + 2, 5, none⟩) (Below.setCell (p := ⟨w.heap.size + 2, 4, none⟩) (Below.setCell (p := ⟨w.heap.size + 2, 3, none⟩) (Below.setCell (p := ⟨w.heap.size + 2, 2, none⟩) (Below.setCell (p := ⟨w.heap.size + 2, 1, none⟩) (Below.setCell (p := ⟨w.heap.size + 2, 0, none⟩) (Below.setCell (p := ⟨w.heap.size, 5, none⟩) HB10 (Nat.le_refl _) (.slice A10 (0 + 1) c10)) (by show w.heap.size ≤ w.heap.size + 2; omega) (.int .i64 a1)) (by show w.heap.size ≤ w.heap.size + 2; omega) (.int .i64 a2)) (by show w.heap.size ≤ w.heap.size + 2; omega) (.int .i64 a3)) (by show w.heap.size ≤ w.heap.size + 2; omega) (.int .i64 a4)) (by show w.heap.size ≤ w.heap.size + 2; omega) (.slice (some ⟨g, o, none⟩) pn pc)) (by show w.heap.size ≤ w.heap.size + 2; omega) (.slice A10 (0 + 1) c10)) (by show w.heap.size ≤ w.heap.size + 2; omega) (.slice B bn bc))⟩
                   have h := own_base HO10.out (show w.heap.size + 3 ≤ v2.heap.size by have := HZ3.out; omega)
                   have fq : ∀ q, (Value.slice A10 (0 + 1) c10).ownBlock = some q → ¬ (q = w.heap.size ∨ q = w.heap.size + 2) := fun q hq => by have := (h.lt q hq).1; omega
                   exact own_farX (own_farX (own_farX (own_farX (own_farX (own_farX (own_farX (own_farX h (fun q hq e => fq q hq (.inl e.symm))) (fun q hq e => fq q hq (.inr e.symm))) (fun q hq e => fq q hq (.inr e.symm))) (fun q hq e => fq q hq (.inr e.symm))) (fun q hq e => fq q hq (.inr e.symm))) (fun q hq e => fq q hq (.inr e.symm))) (fun q hq e => fq q hq (.inr e.symm))) (fun q hq e => fq q hq (.inr e.symm)))
                  clear hown10 hg10 HO10 HB10 HV9 HB9 hL9 HINS HS9 HS10 HV10 HB HSv HQv HV HRv
                  go_wp2_with fail
                  exact bodyPost_ret (v := .tuple #[.agg #[.int .i64 a1, .int .i64 a2, .int .i64 a3, .int .i64 a4, .slice (some ⟨g, o, none⟩) pn pc, .slice A10 (0 + 1) c10, .slice B bn bc], .int .i64 0]) (by simp [results, Try.results26, go_sem, q0, q1, q2, q3, q4, q5, q6, lv10]) rfl ⟨HF.out.2, .inr ⟨HE.out, A10, c10, rfl, HF.out.1⟩⟩
                · subst hA1
                  go_wp2_with fail
                  go_region
                  have HBa := Lib.hid HBq.out.drew
                  obtain ⟨wa, hwa⟩ : ∃ z, z = wr.drew := ⟨_, rfl⟩
                  rw [← hwa] at HBa ⊢
                  have hsza : v2.heap.size ≤ wa.heap.size := HBa.out.size
                  clear hwa HBq r5 p4  lsr lqr  hzq
                  have HSa := Lib.hid (Whole.below HSv.out HBa.out ls4)
                  have r5 := HSa.out.cell 5
                  have HRa := Lib.hid (HRv.out.below (HBa.out.mono (by omega) : Below w.heap.size v2 wa) (Nat.le_refl _))
                  have HSRC := Lib.hid (show Row wa w.heap.size 4 (some ⟨g2, o2, none⟩) j (tmC (l.take j)) by unfold tmC; rw [flat_take (z := 4) (fun _ => rfl)]; have h := HRa.out; rw [HN.out] at h; exact row_take h (by omega))
                  go_wp2_with (at_builtin; refine wpl_append _ rfl (.tmp 75) (.tmp 79) 34 rfl v2.heap.size 60 (.agg #[.int .i64 0, .int .i64 0, .int .i64 0, .slice none 0 0]) 4 48 Try.underlying34 info_T18 rfl (by decide) _ 0 [] rfl (World.ownsRow_nil _ _ _ _) _ (some ⟨g2, o2, none⟩) j c _ rfl HSRC.out (flat_one tm_one _) ?c1 ?c2 ?c3 ?_)
                  case c1 => unfold maxLen; omega
                  case c2 => omega
                  case c3 => exact hsza
                  intro v8 w8 hown8 hg8 hv8
                  have HB8 := Lib.hid (HBa.out.trans ((show Below wa.heap.size wa w8 from ⟨hg8.os, hg8.tape, hg8.output, hg8.size, fun k hk => hg8.block k hk (by simp [Value.ownBlock])⟩).mono hsza))
                  have HV8 := Lib.hid hown8
                  have hz8 := hg8.size
                  have HQ8 := Lib.hid (Whole.below HQv.out HB8.out lq4)
                  have p1 := HQ8.out.cell 1
                  have p4 := HQ8.out.cell 4
                  have p5 := HQ8.out.cell 5
                  have lq8 : w.heap.size + 1 < w8.heap.size := by omega
                  have HW8 := Lib.hid (Row.fresh w8 60 #[.int .i64 qt, .int .i64 qw, .int .i64 0, .slice Q qn qc] 4 1 [.int .i64 qt, .int .i64 qw, .int .i64 0, .slice Q qn qc] rfl rfl)
                  have hL8 := Lib.hid (fun q hq => (HV8.out.lt q hq).1)
                  clear hown8 hg8 hv8 HBa HSa r5 HSRC HRa
                  go_wp2_with (at_builtin; refine wpl_append _ rfl (.tmp 81) (.tmp 89) 34 rfl v2.heap.size 60 (.agg #[.int .i64 0, .int .i64 0, .int .i64 0, .slice none 0 0]) 4 48 Try.underlying34 info_T18 rfl (by decide) _ j (tmC (l.take j)) rfl (HV8.out.alloc _) _ _ 1 1 [.int .i64 qt, .int .i64 qw, .int .i64 0, .slice Q qn qc] rfl HW8.out (by simp [Value.oneCell']) ?d1 ?d2 ?d3 ?_)
                  case d1 => unfold maxLen; omega
                  case d2 => omega
                  case d3 => first | omega | (simp; omega)
                  intro v9 w9 hown9 hg9 hv9
                  have HB9 := Lib.hid (show Below v2.heap.size v2 w9 from (HB8.out.alloc HB8.out.size _).grown hg9 (by simp; omega) (fun q hq => hL8.out q hq))
                  have HV9 := Lib.hid hown9
                  have hL9 := Lib.hid (fun q hq => (HV9.out.lt q hq).1)
                  have hz9 := HB9.out.size
                  have HS9 := Lib.hid (Whole.below HSv.out HB9.out ls4)
                  have r5 := HS9.out.cell 5
                  have ls9 : w.heap.size < w9.heap.size := by omega
                  clear hown9 hg9 hv9 HV8 HW8 hL8 HB8 HQ8 p1 p4 p5
                  have HINS := Lib.hid (show tmC (insK ltM l ⟨⟨qt, qw, 0, qs⟩, Q, qc⟩) = tmC (l.take j) ++ [.int .i64 qt, .int .i64 qw, .int .i64 0, .slice Q qn qc] by
                   rw [← HQN.out, insK_at, HPT.out, List.drop_of_length_le (show l.length ≤ j by rw [HN.out]; exact Nat.le_refl _)]; unfold tmC; rw [flat_append]; rfl)
                  by_cases hcj : c = j
                  · subst hcj
                    go_wp2_with (at_builtin; refine wpl_append _ rfl (.tmp 91) (.tmp 95) 34 rfl v2.heap.size 60 (.agg #[.int .i64 0, .int .i64 0, .int .i64 0, .slice none 0 0]) 4 48 Try.underlying34 info_T18 rfl (by decide) v9 (c + 1) _ rfl HV9.out 0 _ 0 _ [] rfl Row.nil (by simp) ?f1 ?f2 ?f3 ?_)
                    case f1 => unfold maxLen; omega
                    case f2 => omega
                    case f3 => first | omega | exact hz9
                    intro v10 w10 hown10 hg10 _
                    have HO10 := Lib.hid (show w10.ownsRow v2.heap.size 60 4 v10 (c + 1) (tmC (insK ltM l ⟨⟨qt, qw, 0, qs⟩, Q, qc⟩)) by
                     rw [HINS.out]
                     first | (simpa using hown10; done) | (simpa [tmC] using hown10))
                    have HB10 := Lib.hid (show Below v2.heap.size v2 w10 from HB9.out.grown hg10 (by omega) (fun q hq => hL9.out q hq))
                    obtain ⟨A10, c10, rfl⟩ := own_form HO10.out
                    have hz10 := HB10.out.size
                    have HS10 := Lib.hid (Whole.below HSv.out HB10.out ls4)
                    have HV10 := Lib.hid (Whole.below HV.out HB10.out lv4)
                    have r0 := HS10.out.cell 0
                    have r1 := HS10.out.cell 1
                    have r2 := HS10.out.cell 2
                    have r3 := HS10.out.cell 3
                    have r4 := HS10.out.cell 4
                    have r5 := HS10.out.cell 5
                    have r6 := HS10.out.cell 6
                    have f5 := HS10.out.free 5
                    have q0 := HV10.out.cell 0
                    have q1 := HV10.out.cell 1
                    have q2 := HV10.out.cell 2
                    have q3 := HV10.out.cell 3
                    have q4 := HV10.out.cell 4
                    have q5 := HV10.out.cell 5
                    have q6 := HV10.out.cell 6
                    have g0 := HV10.out.free 0
                    have g1 := HV10.out.free 1
                    have g2 := HV10.out.free 2
                    have g3 := HV10.out.free 3
                    have g4 := HV10.out.free 4
                    have g5 := HV10.out.free 5
                    have g6 := HV10.out.free 6
                    have ls10 : w.heap.size < w10.heap.size := by omega
                    have lv10 : w.heap.size + 2 < w10.heap.size := by omega
                    have hne : ¬ w.heap.size = w.heap.size + 2 := by omega
                    have HF := Lib.hid (show (((((((((w10.setCell ⟨w.heap.size, 5, none⟩ (.slice A10 (c + 1) c10)).setCell ⟨w.heap.size + 2, 0, none⟩ (.int .i64 a1)).setCell ⟨w.heap.size + 2, 1, none⟩ (.int .i64 a2)).setCell ⟨w.heap.size + 2, 2, none⟩ (.int .i64 a3)).setCell ⟨w.heap.size + 2, 3, none⟩ (.int .i64 a4)).setCell ⟨w.heap.size + 2, 4, none⟩ (.slice (some ⟨g, o, none⟩) pn pc)).setCell ⟨w.heap.size + 2, 5, none⟩ (.slice A10 (c + 1) c10)).setCell ⟨w.heap.size + 2, 6, none⟩ (.slice B bn bc))).ownsRow (w.heap.size + 3) 60 4 (.slice A10 (c + 1) c10) (c + 1) (tmC (insK ltM l ⟨⟨qt, qw, 0, qs⟩, Q, qc⟩)) ∧ Below w.heap.size w ((((((((w10.setCell ⟨w.heap.size, 5, none⟩ (.slice A10 (c + 1) c10)).setCell ⟨w.heap.size + 2, 0, none⟩ (.int .i64 a1)).setCell ⟨w.heap.size + 2, 1, none⟩ (.int .i64 a2)).setCell ⟨w.heap.size + 2, 2, none⟩ (.int .i64 a3)).setCell ⟨w.heap.size + 2, 3, none⟩ (.int .i64 a4)).setCell ⟨w.heap.size + 2, 4, none⟩ (.slice (some ⟨g, o, none⟩) pn pc)).setCell ⟨w.heap.size + 2, 5, none⟩ (.slice A10 (c + 1) c10)).setCell ⟨w.heap.size + 2, 6, none⟩ (.slice B bn bc)) from by
                     have HB10 : Below w.heap.size w w10 := HB.out.trans (HB10.out.mono (by omega))
                     refine ⟨?_, (Below.setCell (p := ⟨w.heap.size + 2, 6, none⟩) (Below.setCell (p := ⟨w.heap.size + 2, 5, none⟩) (Below.setCell (p := ⟨w.heap.size + 2, 4, none⟩) (Below.setCell (p := ⟨w.heap.size + 2, 3, none⟩) (Below.setCell (p := ⟨w.heap.size + 2, 2, none⟩) (Below.setCell (p := ⟨w.heap.size + 2, 1, none⟩) (Below.setCell (p := ⟨w.heap.size + 2, 0, none⟩) (Below.setCell (p := ⟨w.heap.size, 5, none⟩) HB10 (Nat.le_refl _) (.slice A10 (c + 1) c10)) (by show w.heap.size ≤ w.heap.size + 2; omega) (.int .i64 a1)) (by show w.heap.size ≤ w.heap.size + 2; omega) (.int .i64 a2)) (by show w.heap.size ≤ w.heap.size + 2; omega) (.int .i64 a3)) (by show w.heap.size ≤ w.heap.size + 2; omega) (.int .i64 a4)) (by show w.heap.size ≤ w.heap.size + 2; omega) (.slice (some ⟨g, o, none⟩) pn pc)) (by show w.heap.size ≤ w.heap.size + 2; omega) (.slice A10 (c + 1) c10)) (by show w.heap.size ≤ w.heap.size + 2; omega) (.slice B bn bc))⟩
                     have h := own_base HO10.out (show w.heap.size + 3 ≤ v2.heap.size by have := HZ3.out; omega)
                     have fq : ∀ q, (Value.slice A10 (c + 1) c10).ownBlock = some q → ¬ (q = w.heap.size ∨ q = w.heap.size + 2) := fun q hq => by have := (h.lt q hq).1; omega
                     exact own_farX (own_farX (own_farX (own_farX (own_farX (own_farX (own_farX (own_farX h (fun q hq e => fq q hq (.inl e.symm))) (fun q hq e => fq q hq (.inr e.symm))) (fun q hq e => fq q hq (.inr e.symm))) (fun q hq e => fq q hq (.inr e.symm))) (fun q hq e => fq q hq (.inr e.symm))) (fun q hq e => fq q hq (.inr e.symm))) (fun q hq e => fq q hq (.inr e.symm))) (fun q hq e => fq q hq (.inr e.symm)))
                    clear hown10 hg10 HO10 HB10 HV9 HB9 hL9 HINS HS9 HS10 HV10 HB HSv HQv HV HRv
                    go_wp2_with fail
                    exact bodyPost_ret (v := .tuple #[.agg #[.int .i64 a1, .int .i64 a2, .int .i64 a3, .int .i64 a4, .slice (some ⟨g, o, none⟩) pn pc, .slice A10 (c + 1) c10, .slice B bn bc], .int .i64 0]) (by simp [results, Try.results26, go_sem, q0, q1, q2, q3, q4, q5, q6, lv10]) rfl ⟨HF.out.2, .inr ⟨HE.out, A10, c10, rfl, HF.out.1⟩⟩
                  · have hcj' : ¬ j = c := fun h => hcj h.symm
                    go_wp2_with (at_builtin; refine wpl_append _ rfl (.tmp 91) (.tmp 95) 34 rfl v2.heap.size 60 (.agg #[.int .i64 0, .int .i64 0, .int .i64 0, .slice none 0 0]) 4 48 Try.underlying34 info_T18 rfl (by decide) v9 (j + 1) _ rfl HV9.out 0 _ 0 _ [] rfl Row.nil (by simp) ?f1 ?f2 ?f3 ?_)
                    case f1 => unfold maxLen; omega
                    case f2 => omega
                    case f3 => first | omega | exact hz9
                    intro v10 w10 hown10 hg10 _
                    have HO10 := Lib.hid (show w10.ownsRow v2.heap.size 60 4 v10 (j + 1) (tmC (insK ltM l ⟨⟨qt, qw, 0, qs⟩, Q, qc⟩)) by
                     rw [HINS.out]
                     first | (simpa using hown10; done) | (simpa [tmC] using hown10))
                    have HB10 := Lib.hid (show Below v2.heap.size v2 w10 from HB9.out.grown hg10 (by omega) (fun q hq => hL9.out q hq))
                    obtain ⟨A10, c10, rfl⟩ := own_form HO10.out
                    have hz10 := HB10.out.size
                    have HS10 := Lib.hid (Whole.below HSv.out HB10.out ls4)
                    have HV10 := Lib.hid (Whole.below HV.out HB10.out lv4)
                    have r0 := HS10.out.cell 0
                    have r1 := HS10.out.cell 1
                    have r2 := HS10.out.cell 2
                    have r3 := HS10.out.cell 3
                    have r4 := HS10.out.cell 4
                    have r5 := HS10.out.cell 5
                    have r6 := HS10.out.cell 6
                    have f5 := HS10.out.free 5
                    have q0 := HV10.out.cell 0
                    have q1 := HV10.out.cell 1
                    have q2 := HV10.out.cell 2
                    have q3 := HV10.out.cell 3
                    have q4 := HV10.out.cell 4
                    have q5 := HV10.out.cell 5
                    have q6 := HV10.out.cell 6
                    have g0 := HV10.out.free 0
                    have g1 := HV10.out.free 1
                    have g2 := HV10.out.free 2
                    have g3 := HV10.out.free 3
                    have g4 := HV10.out.free 4
                    have g5 := HV10.out.free 5
                    have g6 := HV10.out.free 6
                    have ls10 : w.heap.size < w10.heap.size := by omega
                    have lv10 : w.heap.size + 2 < w10.heap.size := by omega
                    have hne : ¬ w.heap.size = w.heap.size + 2 := by omega
                    have HF := Lib.hid (show (((((((((w10.setCell ⟨w.heap.size, 5, none⟩ (.slice A10 (j + 1) c10)).setCell ⟨w.heap.size + 2, 0, none⟩ (.int .i64 a1)).setCell ⟨w.heap.size + 2, 1, none⟩ (.int .i64 a2)).setCell ⟨w.heap.size + 2, 2, none⟩ (.int .i64 a3)).setCell ⟨w.heap.size + 2, 3, none⟩ (.int .i64 a4)).setCell ⟨w.heap.size + 2, 4, none⟩ (.slice (some ⟨g, o, none⟩) pn pc)).setCell ⟨w.heap.size + 2, 5, none⟩ (.slice A10 (j + 1) c10)).setCell ⟨w.heap.size + 2, 6, none⟩ (.slice B bn bc))).ownsRow (w.heap.size + 3) 60 4 (.slice A10 (j + 1) c10) (j + 1) (tmC (insK ltM l ⟨⟨qt, qw, 0, qs⟩, Q, qc⟩)) ∧ Below w.heap.size w ((((((((w10.setCell ⟨w.heap.size, 5, none⟩ (.slice A10 (j + 1) c10)).setCell ⟨w.heap.size + 2, 0, none⟩ (.int .i64 a1)).setCell ⟨w.heap.size + 2, 1, none⟩ (.int .i64 a2)).setCell ⟨w.heap.size + 2, 2, none⟩ (.int .i64 a3)).setCell ⟨w.heap.size + 2, 3, none⟩ (.int .i64 a4)).setCell ⟨w.heap.size + 2, 4, none⟩ (.slice (some ⟨g, o, none⟩) pn pc)).setCell ⟨w.heap.size + 2, 5, none⟩ (.slice A10 (j + 1) c10)).setCell ⟨w.heap.size + 2, 6, none⟩ (.slice B bn bc)) from by
                     have HB10 : Below w.heap.size w w10 := HB.out.trans (HB10.out.mono (by omega))
                     refine ⟨?_, (Below.setCell (p := ⟨w.heap.size + 2, 6, none⟩) (Below.setCell (p := ⟨w.heap.size + 2, 5, none⟩) (Below.setCell (p := ⟨w.heap.size + 2, 4, none⟩) (Below.setCell (p := ⟨w.heap.size + 2, 3, none⟩) (Below.setCell (p := ⟨w.heap.size + 2, 2, none⟩) (Below.setCell (p := ⟨w.heap.size + 2, 1, none⟩) (Below.setCell (p := ⟨w.heap.size + 2, 0, none⟩) (Below.setCell (p := ⟨w.heap.size, 5, none⟩) HB10 (Nat.le_refl _) (.slice A10 (j + 1) c10)) (by show w.heap.size ≤ w.heap.size + 2; omega) (.int .i64 a1)) (by show w.heap.size ≤ w.heap.size + 2; omega) (.int .i64 a2)) (by show w.heap.size ≤ w.heap.size + 2; omega) (.int .i64 a3)) (by show w.heap.size ≤ w.heap.size + 2; omega) (.int .i64 a4)) (by show w.heap.size ≤ w.heap.size + 2; omega) (.slice (some ⟨g, o, none⟩) pn pc)) (by show w.heap.size ≤ w.heap.size + 2; omega) (.slice A10 (j + 1) c10)) (by show w.heap.size ≤ w.heap.size + 2; omega) (.slice B bn bc))⟩
                     have h := own_base HO10.out (show w.heap.size + 3 ≤ v2.heap.size by have := HZ3.out; omega)
                     have fq : ∀ q, (Value.slice A10 (j + 1) c10).ownBlock = some q → ¬ (q = w.heap.size ∨ q = w.heap.size + 2) := fun q hq => by have := (h.lt q hq).1; omega
                     exact own_farX (own_farX (own_farX (own_farX (own_farX (own_farX (own_farX (own_farX h (fun q hq e => fq q hq (.inl e.symm))) (fun q hq e => fq q hq (.inr e.symm))) (fun q hq e => fq q hq (.inr e.symm))) (fun q hq e => fq q hq (.inr e.symm))) (fun q hq e => fq q hq (.inr e.symm))) (fun q hq e => fq q hq (.inr e.symm))) (fun q hq e => fq q hq (.inr e.symm))) (fun q hq e => fq q hq (.inr e.symm)))
                    clear hown10 hg10 HO10 HB10 HV9 HB9 hL9 HINS HS9 HS10 HV10 HB HSv HQv HV HRv
                    go_wp2_with fail
                    exact bodyPost_ret (v := .tuple #[.agg #[.int .i64 a1, .int .i64 a2, .int .i64 a3, .int .i64 a4, .slice (some ⟨g, o, none⟩) pn pc, .slice A10 (j + 1) c10, .slice B bn bc], .int .i64 0]) (by simp [results, Try.results26, go_sem, q0, q1, q2, q3, q4, q5, q6, lv10]) rfl ⟨HF.out.2, .inr ⟨HE.out, A10, c10, rfl, HF.out.1⟩⟩
end Go.Proofs.Ytmmeceehfdbdoaa
