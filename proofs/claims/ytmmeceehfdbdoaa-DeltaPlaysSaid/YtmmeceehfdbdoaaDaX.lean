/-
 The document's Do (layer 18), as the laws want it.
-/
import Derived.Test.YtmmeceehfdbdoaaDaD
import Derived.Test.YtmmeceehfdbdoaaDaA
import Derived.Test.YtmmeceehfdbdoaaDeW
import Derived.Deep.CutBlock
import Derived.Deep.DeepCutAuto
namespace Go.Proofs.Ytmmeceehfdbdoaa
open Go.RowKit
open Dl
set_option linter.unusedSimpArgs false
set_option linter.unusedVariables false
set_option maxRecDepth 100000
theorem sat_weak {P R : Nat → Prop} {w : World} {s : Sm} (h : SAt (fun k => P k ∧ R k) w s) : SAt P w s := ⟨h.rp, h.rt, h.rb, h.ts, h.inv, impP h.pA, impP h.pB, impP h.pC, fun x hx => impQ (h.pS x hx)⟩
theorem qat_with {P : Nat → Prop} {w : World} {x : Qm} (h : QAt P w x) (R : Nat → Prop) (hR : ∀ k, k < w.heap.size → R k) : QAt (fun k => P k ∧ R k) w x := ⟨h.r, h.len, inq_with h.r h.p hR, h.u⟩
set_option maxHeartbeats 12800000 in
theorem rdo_any (P : Nat → Prop) (s : Sm) (x : Qm) (w : World) (h : SAt P w s) (hq : QAt P w x) (hP : ∀ k, w.heap.size ≤ k → P k) :
 Calls Try.prog 13 #[.agg (smA s), .agg (qmV x).toArray] w (RTold P (doS s.X x.q) w) := by
 obtain ⟨⟨qk, qw, qr, qg, qt, qs, ql, qd⟩, Q, qc⟩ := x
 obtain ⟨qn, hqn⟩ : ∃ n, qs.length = n := ⟨_, rfl⟩
 have HQM := Lib.hid (show #[.int .i64 qk, .int .i64 qw, .int .i64 qr, .int .i64 qg, .int .i64 qt, .slice Q qn qc, .int .i64 ql, .int .i64 qd] = (qmV ⟨⟨qk, qw, qr, qg, qt, qs, ql, qd⟩, Q, qc⟩).toArray from by rw [← hqn]; rfl)
 rw [← HQM.out]
 obtain ⟨np, hnp⟩ : ∃ n, s.X.ps.length = n := ⟨_, rfl⟩
 obtain ⟨nt, hnt⟩ : ∃ n, s.T.length = n := ⟨_, rfl⟩
 obtain ⟨nb, hnb⟩ : ∃ n, s.X.bs.length = n := ⟨_, rfl⟩
 have HSM := Lib.hid (show #[.int .i64 s.X.cf.ps, .int .i64 s.X.cf.ts, .int .i64 s.X.cf.bs, .int .i64 s.X.cf.sl, .slice s.A np s.a, .slice s.B nt s.b, .slice s.C nb s.c] = smA s from by unfold smA; rw [hnp, hnt, hnb])
 rw [← HSM.out]
 dsimp only
 obtain ⟨w1, hw1⟩ : ∃ z, z = ((w.alloc (.cells #[.int .i64 s.X.cf.ps, .int .i64 s.X.cf.ts, .int .i64 s.X.cf.bs, .int .i64 s.X.cf.sl, .slice s.A np s.a, .slice s.B nt s.b, .slice s.C nb s.c] 37)).alloc (.cells #[.int .i64 qk, .int .i64 qw, .int .i64 qr, .int .i64 qg, .int .i64 qt, .slice Q qn qc, .int .i64 ql, .int .i64 qd] 48)).alloc (.cells #[.int .i64 0, .int .i64 0, .int .i64 0, .int .i64 0, .slice none 0 0, .slice none 0 0, .slice none 0 0] 37) := ⟨_, rfl⟩
 have b1 : Below w.heap.size w w1 := by rw [hw1]; exact (((Below.refl _ _).alloc (Nat.le_refl _) _).alloc (by simp) _).alloc (by simp; omega) _
 have hS : Whole w1 w.heap.size 37 #[.int .i64 s.X.cf.ps, .int .i64 s.X.cf.ts, .int .i64 s.X.cf.bs, .int .i64 s.X.cf.sl, .slice s.A np s.a, .slice s.B nt s.b, .slice s.C nb s.c] := by rw [hw1]; exact ((Whole.new w _ _).alloc _).alloc _
 have hQ : Whole w1 (w.heap.size + 1) 48 #[.int .i64 qk, .int .i64 qw, .int .i64 qr, .int .i64 qg, .int .i64 qt, .slice Q qn qc, .int .i64 ql, .int .i64 qd] := by rw [hw1]; exact (Whole.new2 w _ _ _).alloc _
 have hR : Whole w1 (w.heap.size + 2) 37 #[.int .i64 0, .int .i64 0, .int .i64 0, .int .i64 0, .slice none 0 0, .slice none 0 0, .slice none 0 0] := by rw [hw1]; have := Whole.new2 (w.alloc (.cells #[.int .i64 s.X.cf.ps, .int .i64 s.X.cf.ts, .int .i64 s.X.cf.bs, .int .i64 s.X.cf.sl, .slice s.A np s.a, .slice s.B nt s.b, .slice s.C nb s.c] 37)) (.cells #[.int .i64 qk, .int .i64 qw, .int .i64 qr, .int .i64 qg, .int .i64 qt, .slice Q qn qc, .int .i64 ql, .int .i64 qd] 48) 37 #[.int .i64 0, .int .i64 0, .int .i64 0, .int .i64 0, .slice none 0 0, .slice none 0 0, .slice none 0 0]; simpa using this
 obtain ⟨N, hN⟩ : ∃ N, w.heap.size + 2 = N := ⟨_, rfl⟩
 have hNw : w.heap.size < N := by omega
 have hNw1 : N ≠ w.heap.size := by omega
 have hNw2 : N ≠ w.heap.size + 1 := by omega
 rw [hN] at hR
 have hsm := h.small
 rw [hnp, hnt, hnb] at hsm
 obtain ⟨sp, st, sb⟩ := hsm
 have H1 := Lib.hid ((SAt.with h (fun k => k ≠ N ∧ k ≠ w.heap.size) (fun k hk => ⟨fun e => by omega, fun e => by omega⟩)).next b1)
 have HQ1 := Lib.hid ((qat_with hq (fun k => k ≠ N ∧ k ≠ w.heap.size) (fun k hk => ⟨fun e => by omega, fun e => by omega⟩)).next b1)
 have HP1 := Lib.hid (show ∀ k, w1.heap.size ≤ k → P k ∧ (k ≠ N ∧ k ≠ w.heap.size) from fun k hk => ⟨hP k (by have := b1.size; omega), by have := hR.lt; omega, by have := hR.lt; omega⟩)
 have HB1 := Lib.hid b1
 have HS := Lib.hid hS
 have HQ := Lib.hid hQ
 have HR := Lib.hid hR
 have lS := hS.lt
 have lQ := hQ.lt
 have lR := hR.lt
 have c0 := (hS.cell 0).trans rfl
 have c1 := (hS.cell 1).trans rfl
 have c2 := (hS.cell 2).trans rfl
 have c3 := (hS.cell 3).trans rfl
 have c4 := (hS.cell 4).trans rfl
 have c5 := (hS.cell 5).trans rfl
 have c6 := (hS.cell 6).trans rfl
 have q0 := (hQ.cell 0).trans rfl
 have q1 := (hQ.cell 1).trans rfl
 have q2 := (hQ.cell 2).trans rfl
 have q3 := (hQ.cell 3).trans rfl
 have q4 := (hQ.cell 4).trans rfl
 have q5 := (hQ.cell 5).trans rfl
 have q6 := (hQ.cell 6).trans rfl
 have q7 := (hQ.cell 7).trans rfl
 have HLN := Lib.hid (And.intro hnp (And.intro hnt hnb))
 clear hS hQ hR b1 h hq hP hnp hnt hnb hqn
 go_enter Try.func13, Try.ntmps13
 go_upto_region 1 with fail
 rw [← hw1]
 clear hw1 hN
 by_cases k0 : qk < 0
 · have HD := Lib.hid (show doS s.X ⟨qk, qw, qr, qg, qt, qs, ql, qd⟩ = (s.X, 1) from by unfold doS; exact if_pos (Or.inl k0))
   have hRW := HR.out
   have z0 := hRW.cell 0
   have z1 := hRW.cell 1
   have z2 := hRW.cell 2
   have z3 := hRW.cell 3
   have z4 := hRW.cell 4
   have z5 := hRW.cell 5
   have z6 := hRW.cell 6
   have y0 := hRW.free 0
   have y1 := hRW.free 1
   have y2 := hRW.free 2
   have y3 := hRW.free 3
   have y4 := hRW.free 4
   have y5 := hRW.free 5
   have y6 := hRW.free 6
   have lz := hRW.lt
   clear hRW
   go_wp2_with fail
   have hRF := sets7_whole HR.out (v0 := .int .i64 s.X.cf.ps) (v1 := .int .i64 s.X.cf.ts) (v2 := .int .i64 s.X.cf.bs) (v3 := .int .i64 s.X.cf.sl) (v4 := .slice s.A np s.a) (v5 := .slice s.B nt s.b) (v6 := .slice s.C nb s.c) rfl
   unfold sets7 at hRF
   have HRF := Lib.hid hRF
   clear hRF
   have rf0 := HRF.out.cell 0
   have rf1 := HRF.out.cell 1
   have rf2 := HRF.out.cell 2
   have rf3 := HRF.out.cell 3
   have rf4 := HRF.out.cell 4
   have rf5 := HRF.out.cell 5
   have rf6 := HRF.out.cell 6
   have BF : Below w.heap.size w (sets7 w1 N (.int .i64 s.X.cf.ps) (.int .i64 s.X.cf.ts) (.int .i64 s.X.cf.bs) (.int .i64 s.X.cf.sl) (.slice s.A np s.a) (.slice s.B nt s.b) (.slice s.C nb s.c)) := sets7_below HB1.out (by omega)
   have SF : SAt P (sets7 w1 N (.int .i64 s.X.cf.ps) (.int .i64 s.X.cf.ts) (.int .i64 s.X.cf.bs) (.int .i64 s.X.cf.sl) (.slice s.A np s.a) (.slice s.B nt s.b) (.slice s.C nb s.c)) s := sat_weak (sets7_sat H1.out (fun h => h.2.1 rfl))
   exact bodyPost_ret (v := .tuple #[.agg #[.int .i64 s.X.cf.ps, .int .i64 s.X.cf.ts, .int .i64 s.X.cf.bs, .int .i64 s.X.cf.sl, .slice s.A np s.a, .slice s.B nt s.b, .slice s.C nb s.c], .int .i64 1]) (by simp [results, Try.results13, go_sem, rf0, rf1, rf2, rf3, rf4, rf5, rf6]) rfl ⟨BF, s, (by rw [HD.out]), SF, by first | rw [HSM.out, HD.out] | (rw [HSM.out]; rfl)⟩
 by_cases k9 : 9 < qk
 · have HD := Lib.hid (show doS s.X ⟨qk, qw, qr, qg, qt, qs, ql, qd⟩ = (s.X, 1) from by unfold doS; exact if_pos (Or.inr k9))
   have hRW := HR.out
   have z0 := hRW.cell 0
   have z1 := hRW.cell 1
   have z2 := hRW.cell 2
   have z3 := hRW.cell 3
   have z4 := hRW.cell 4
   have z5 := hRW.cell 5
   have z6 := hRW.cell 6
   have y0 := hRW.free 0
   have y1 := hRW.free 1
   have y2 := hRW.free 2
   have y3 := hRW.free 3
   have y4 := hRW.free 4
   have y5 := hRW.free 5
   have y6 := hRW.free 6
   have lz := hRW.lt
   clear hRW
   go_wp2_with fail
   have hRF := sets7_whole HR.out (v0 := .int .i64 s.X.cf.ps) (v1 := .int .i64 s.X.cf.ts) (v2 := .int .i64 s.X.cf.bs) (v3 := .int .i64 s.X.cf.sl) (v4 := .slice s.A np s.a) (v5 := .slice s.B nt s.b) (v6 := .slice s.C nb s.c) rfl
   unfold sets7 at hRF
   have HRF := Lib.hid hRF
   clear hRF
   have rf0 := HRF.out.cell 0
   have rf1 := HRF.out.cell 1
   have rf2 := HRF.out.cell 2
   have rf3 := HRF.out.cell 3
   have rf4 := HRF.out.cell 4
   have rf5 := HRF.out.cell 5
   have rf6 := HRF.out.cell 6
   have BF : Below w.heap.size w (sets7 w1 N (.int .i64 s.X.cf.ps) (.int .i64 s.X.cf.ts) (.int .i64 s.X.cf.bs) (.int .i64 s.X.cf.sl) (.slice s.A np s.a) (.slice s.B nt s.b) (.slice s.C nb s.c)) := sets7_below HB1.out (by omega)
   have SF : SAt P (sets7 w1 N (.int .i64 s.X.cf.ps) (.int .i64 s.X.cf.ts) (.int .i64 s.X.cf.bs) (.int .i64 s.X.cf.sl) (.slice s.A np s.a) (.slice s.B nt s.b) (.slice s.C nb s.c)) s := sat_weak (sets7_sat H1.out (fun h => h.2.1 rfl))
   exact bodyPost_ret (v := .tuple #[.agg #[.int .i64 s.X.cf.ps, .int .i64 s.X.cf.ts, .int .i64 s.X.cf.bs, .int .i64 s.X.cf.sl, .slice s.A np s.a, .slice s.B nt s.b, .slice s.C nb s.c], .int .i64 1]) (by simp [results, Try.results13, go_sem, rf0, rf1, rf2, rf3, rf4, rf5, rf6]) rfl ⟨BF, s, (by rw [HD.out]), SF, by first | rw [HSM.out, HD.out] | (rw [HSM.out]; rfl)⟩
 by_cases kz : qk = 0
 · subst kz
   have k9' : ¬ (9 : Int) < 0 := by omega
   have CC := Lib.hid (show Calls Try.prog 23 #[.agg #[.int .i64 s.X.cf.ps, .int .i64 s.X.cf.ts, .int .i64 s.X.cf.bs, .int .i64 s.X.cf.sl, .slice s.A np s.a, .slice s.B nt s.b, .slice s.C nb s.c], .agg #[(.int .i64 0), .int .i64 qw, .int .i64 qr, .int .i64 qg, .int .i64 qt, .slice Q qn qc, .int .i64 ql, .int .i64 qd]] w1 (RTold (fun k => P k ∧ (k ≠ N ∧ k ≠ w.heap.size)) (doS s.X ⟨0, qw, qr, qg, qt, qs, ql, qd⟩) w1) from by rw [HSM.out, HQM.out]; exact rjoinS H1.out HQ1.out HP1.out rfl)
   go_wp2_with fail
   refine CC.out.mono ?_
   rintro e w2 ⟨b2, s2, hX2, hS2, rfl⟩
   replace hX2 := Lib.hid hX2
   have HS2 := Lib.hid hS2
   have HR2 := Lib.hid (HR.out.below b2 lR)
   have HB2 := Lib.hid (HB1.out.trans (b2.mono HB1.out.size))
   obtain ⟨r2, hr2⟩ : ∃ z, (doS s.X ⟨0, qw, qr, qg, qt, qs, ql, qd⟩).2 = z := ⟨_, rfl⟩
   obtain ⟨np2, hnp2⟩ : ∃ n, s2.X.ps.length = n := ⟨_, rfl⟩
   obtain ⟨nt2, hnt2⟩ : ∃ n, s2.T.length = n := ⟨_, rfl⟩
   obtain ⟨nb2, hnb2⟩ : ∃ n, s2.X.bs.length = n := ⟨_, rfl⟩
   have HSM2 := Lib.hid (show #[.int .i64 s2.X.cf.ps, .int .i64 s2.X.cf.ts, .int .i64 s2.X.cf.bs, .int .i64 s2.X.cf.sl, .slice s2.A np2 s2.a, .slice s2.B nt2 s2.b, .slice s2.C nb2 s2.c] = smA s2 from by unfold smA; rw [hnp2, hnt2, hnb2])
   rw [← HSM2.out, hr2]
   have HRR := Lib.hid hr2
   have lN2 : N < w2.heap.size := HR2.out.lt
   clear hS2 b2 CC hnp2 hnt2 hnb2 hr2
   have hRW := HR2.out
   have z0 := hRW.cell 0
   have z1 := hRW.cell 1
   have z2 := hRW.cell 2
   have z3 := hRW.cell 3
   have z4 := hRW.cell 4
   have z5 := hRW.cell 5
   have z6 := hRW.cell 6
   have y0 := hRW.free 0
   have y1 := hRW.free 1
   have y2 := hRW.free 2
   have y3 := hRW.free 3
   have y4 := hRW.free 4
   have y5 := hRW.free 5
   have y6 := hRW.free 6
   have lz := hRW.lt
   clear hRW
   go_wp2_with fail
   have hRF := sets7_whole HR2.out (v0 := .int .i64 s2.X.cf.ps) (v1 := .int .i64 s2.X.cf.ts) (v2 := .int .i64 s2.X.cf.bs) (v3 := .int .i64 s2.X.cf.sl) (v4 := .slice s2.A np2 s2.a) (v5 := .slice s2.B nt2 s2.b) (v6 := .slice s2.C nb2 s2.c) rfl
   unfold sets7 at hRF
   have HRF := Lib.hid hRF
   clear hRF
   have rf0 := HRF.out.cell 0
   have rf1 := HRF.out.cell 1
   have rf2 := HRF.out.cell 2
   have rf3 := HRF.out.cell 3
   have rf4 := HRF.out.cell 4
   have rf5 := HRF.out.cell 5
   have rf6 := HRF.out.cell 6
   have BF : Below w.heap.size w (sets7 w2 N (.int .i64 s2.X.cf.ps) (.int .i64 s2.X.cf.ts) (.int .i64 s2.X.cf.bs) (.int .i64 s2.X.cf.sl) (.slice s2.A np2 s2.a) (.slice s2.B nt2 s2.b) (.slice s2.C nb2 s2.c)) := sets7_below HB2.out (by omega)
   have SF : SAt P (sets7 w2 N (.int .i64 s2.X.cf.ps) (.int .i64 s2.X.cf.ts) (.int .i64 s2.X.cf.bs) (.int .i64 s2.X.cf.sl) (.slice s2.A np2 s2.a) (.slice s2.B nt2 s2.b) (.slice s2.C nb2 s2.c)) s2 := sat_weak (sets7_sat HS2.out (fun h => h.2.1 rfl))
   exact bodyPost_ret (v := .tuple #[.agg #[.int .i64 s2.X.cf.ps, .int .i64 s2.X.cf.ts, .int .i64 s2.X.cf.bs, .int .i64 s2.X.cf.sl, .slice s2.A np2 s2.a, .slice s2.B nt2 s2.b, .slice s2.C nb2 s2.c], .int .i64 r2]) (by simp [results, Try.results13, go_sem, rf0, rf1, rf2, rf3, rf4, rf5, rf6]) rfl ⟨BF, s2, hX2.out, SF, by rw [HSM2.out, HRR.out]⟩
 have HI := Lib.hid (fun w2 (b : Below w1.heap.size w1 w2) => (HR.out.below b lR))
 have CP := Lib.hid (show Calls Try.prog 24 #[.agg #[.int .i64 s.X.cf.ps, .int .i64 s.X.cf.ts, .int .i64 s.X.cf.bs, .int .i64 s.X.cf.sl, .slice s.A np s.a, .slice s.B nt s.b, .slice s.C nb s.c], .int .i64 qw] w1 (fun e w' => e = .returned (.int .i64 (ixS (isP qw) s.X.ps)) ∧ Below w1.heap.size w1 w') from by have := rperson18 s.X.cf.ps s.X.cf.ts s.X.cf.bs s.X.cf.sl (.slice s.B nt s.b) (.slice s.C nb s.c) s.A s.a s.X.ps qw w1 H1.out.rp (by have := H1.out.small; omega); rw [HLN.out.1] at this; exact this)
 obtain ⟨ip, hip⟩ : ∃ z, ixS (isP qw) s.X.ps = z := ⟨_, rfl⟩
 have HIP := Lib.hid hip
 rw [hip] at CP
 clear hip
 go_wp2_with fail
 refine CP.out.mono ?_
 rintro e w1' ⟨rfl, b1'⟩
 have H1' := Lib.hid (H1.out.next b1')
 have HQ1' := Lib.hid (HQ1.out.next b1')
 have HP1' := Lib.hid (show ∀ k, w1'.heap.size ≤ k → P k ∧ (k ≠ N ∧ k ≠ w.heap.size) from fun k hk => HP1.out k (by have := b1'.size; omega))
 have HB1' := Lib.hid (HB1.out.trans (b1'.mono HB1.out.size))
 have HR' := Lib.hid (HR.out.below b1' lR)
 have hS' := HS.out.below b1' lS
 have hQ' := HQ.out.below b1' lQ
 replace c0 := (hS'.cell 0).trans rfl
 replace c1 := (hS'.cell 1).trans rfl
 replace c2 := (hS'.cell 2).trans rfl
 replace c3 := (hS'.cell 3).trans rfl
 replace c4 := (hS'.cell 4).trans rfl
 replace c5 := (hS'.cell 5).trans rfl
 replace c6 := (hS'.cell 6).trans rfl
 replace q0 := (hQ'.cell 0).trans rfl
 replace q1 := (hQ'.cell 1).trans rfl
 replace q2 := (hQ'.cell 2).trans rfl
 replace q3 := (hQ'.cell 3).trans rfl
 replace q4 := (hQ'.cell 4).trans rfl
 replace q5 := (hQ'.cell 5).trans rfl
 replace q6 := (hQ'.cell 6).trans rfl
 replace q7 := (hQ'.cell 7).trans rfl
 have HS' := Lib.hid hS'
 have HQ' := Lib.hid hQ'
 have lS' := hS'.lt
 have lQ' := hQ'.lt
 have lR' := HR'.out.lt
 clear hS' hQ' HS HQ HR H1 HQ1 HP1 HB1 lS lQ lR CP HI b1'
 by_cases ki : ip < 0
 · have HD := Lib.hid (show doS s.X ⟨qk, qw, qr, qg, qt, qs, ql, qd⟩ = (s.X, 21) from (by unfold doS; rw [if_neg (by dsimp only; omega), if_neg (by dsimp only; exact kz)]; rw [show s.X.ps.find? (isP qw) = none from by cases hf : s.X.ps.find? (isP qw) with | none => rfl | some p => exact absurd (find_ix.mp (by rw [hf]; rfl)) (by rw [HIP.out]; omega)]))
   have hRW := HR'.out
   have z0 := hRW.cell 0
   have z1 := hRW.cell 1
   have z2 := hRW.cell 2
   have z3 := hRW.cell 3
   have z4 := hRW.cell 4
   have z5 := hRW.cell 5
   have z6 := hRW.cell 6
   have y0 := hRW.free 0
   have y1 := hRW.free 1
   have y2 := hRW.free 2
   have y3 := hRW.free 3
   have y4 := hRW.free 4
   have y5 := hRW.free 5
   have y6 := hRW.free 6
   have lz := hRW.lt
   clear hRW
   go_wp2_with fail
   have hRF := sets7_whole HR'.out (v0 := .int .i64 s.X.cf.ps) (v1 := .int .i64 s.X.cf.ts) (v2 := .int .i64 s.X.cf.bs) (v3 := .int .i64 s.X.cf.sl) (v4 := .slice s.A np s.a) (v5 := .slice s.B nt s.b) (v6 := .slice s.C nb s.c) rfl
   unfold sets7 at hRF
   have HRF := Lib.hid hRF
   clear hRF
   have rf0 := HRF.out.cell 0
   have rf1 := HRF.out.cell 1
   have rf2 := HRF.out.cell 2
   have rf3 := HRF.out.cell 3
   have rf4 := HRF.out.cell 4
   have rf5 := HRF.out.cell 5
   have rf6 := HRF.out.cell 6
   have BF : Below w.heap.size w (sets7 w1' N (.int .i64 s.X.cf.ps) (.int .i64 s.X.cf.ts) (.int .i64 s.X.cf.bs) (.int .i64 s.X.cf.sl) (.slice s.A np s.a) (.slice s.B nt s.b) (.slice s.C nb s.c)) := sets7_below HB1'.out (by omega)
   have SF : SAt P (sets7 w1' N (.int .i64 s.X.cf.ps) (.int .i64 s.X.cf.ts) (.int .i64 s.X.cf.bs) (.int .i64 s.X.cf.sl) (.slice s.A np s.a) (.slice s.B nt s.b) (.slice s.C nb s.c)) s := sat_weak (sets7_sat H1'.out (fun h => h.2.1 rfl))
   exact bodyPost_ret (v := .tuple #[.agg #[.int .i64 s.X.cf.ps, .int .i64 s.X.cf.ts, .int .i64 s.X.cf.bs, .int .i64 s.X.cf.sl, .slice s.A np s.a, .slice s.B nt s.b, .slice s.C nb s.c], .int .i64 21]) (by simp [results, Try.results13, go_sem, rf0, rf1, rf2, rf3, rf4, rf5, rf6]) rfl ⟨BF, s, (by rw [HD.out]), SF, by first | rw [HSM.out, HD.out] | (rw [HSM.out]; rfl)⟩
 have HF := Lib.hid (show ∃ p, s.X.ps.find? (isP qw) = some p from Option.isSome_iff_exists.mp (find_ix.mpr (by rw [HIP.out]; omega)))
 by_cases k1 : qk = 1
 · subst k1
   have k9' : ¬ (9 : Int) < 1 := by omega
   have k0' : ¬ (1 : Int) < 0 := by omega
   have kz' : ¬ (1 : Int) = 0 := by omega
   obtain ⟨p, hp⟩ := HF.out
   obtain ⟨ii, hii, hget⟩ := find_at hp
   have hlen : ii < s.X.ps.length := (List.getElem?_eq_some_iff.mp hget).1
   rw [HIP.out] at hii
   subst hii
   obtain ⟨g, o, hA, hg, hcs⟩ := H1'.out.rp.2 (by omega)
   have hin : ii < np := by rw [← HLN.out.1]; exact hlen
   have hRP : Row w1' w1'.heap.size 3 (some ⟨g, o, none⟩) np (pnC s.X.ps) := by rw [← hA, ← HLN.out.1]; exact H1'.out.rp
   have hca1 := H1'.out.pA.le
   have hca2 := H1'.out.pA.cap
   rw [HLN.out.1] at hca1
   obtain ⟨ca, hca⟩ : ∃ z, s.a = z := ⟨_, rfl⟩
   have HSA := Lib.hid (And.intro hA hca)
   rw [hca] at hca1 hca2
   rw [hA, hca] at c4
   obtain ⟨jj, hjj⟩ : ∃ j : Nat, ii + 1 = j := ⟨_, rfl⟩
   have HJJ := Lib.hid hjj
   obtain ⟨lp, hlp⟩ : ∃ z, np - 1 = z := ⟨_, rfl⟩
   have HLP := Lib.hid hlp
   have HTK := Lib.hid (show Row w1' w1'.heap.size 3 (some ⟨g, o, none⟩) ii (pnC (s.X.ps.take ii)) by unfold pnC; rw [flat_take (z := 3) (fun _ => rfl)]; exact row_take hRP (by omega))
   have HDR := Lib.hid (show Row w1' w1'.heap.size 3 (some ⟨g, o + jj * 3, none⟩) (np - jj) (pnC (s.X.ps.drop jj)) by unfold pnC; rw [flat_drop (z := 3) (fun _ => rfl)]; exact row_drop hRP (by omega))
   have HFI := Lib.hid (show s.X.ps.filter (fun p => !isP qw p) = s.X.ps.take ii ++ s.X.ps.drop jj from by rw [← HJJ.out]; exact out_at H1'.out.inv.pr (isP_one qw) hget (find_mem hp).2)
   unfold maxLen at hca2
   have i0 : (0 : Int) ≤ (ii : Int) := by omega
   have i1 : (ii : Int) < (np : Int) := by omega
   have i2 : ii ≤ ca := by omega
   have i3 : ii + 1 ≤ np := by omega
   have i4 : ii + 1 ≤ ca := by omega
   rw [hjj] at i3 i4
   have hsum : IntKind.i64.wrap ((ii : Int) + 1) = (jj : Int) := by rw [IntWalk.i64_in _ (by omega)]; omega
   have k2 : (jj : Int) ≤ (np : Int) := by omega
   have k3 : (0 : Int) ≤ (jj : Int) := by omega
   have k4 : (np : Int) ≤ (ca : Int) := by omega
   have k5 : (ii : Int) ≤ (ca : Int) := by omega
   clear hp hget hlen hA hcs hRP hca hjj hlp
   go_wp2_with (at_builtin; refine wpl_append _ rfl (.tmp 36) (.tmp 40) 33 rfl w1'.heap.size 70 (.agg #[.int .i64 0, .int .i64 0, .int .i64 0]) 3 24 Try.underlying33 info_P18 rfl (by decide) _ 0 [] rfl (World.ownsRow_nil _ _ _ _) _ (some ⟨g, o, none⟩) ii ca _ rfl HTK.out (flat_one pn_one _) ?c1 ?c2 ?c3 ?_)
   case c1 => unfold maxLen; omega
   case c2 => omega
   case c3 => exact Nat.le_refl _
   intro v8 w8 hown8 hg8 hv8
   have HB8 := Lib.hid (show Below w1'.heap.size w1' w8 from ⟨hg8.os, hg8.tape, hg8.output, hg8.size, fun k hk => hg8.block k hk (by simp [Value.ownBlock])⟩)
   have HV8 := Lib.hid (show w8.ownsRow w1'.heap.size 70 3 v8 ii (pnC (s.X.ps.take ii)) by first | exact hown8 | simpa using hown8)
   have hz8 := hg8.size
   have hS8 := HS'.out.below HB8.out lS'
   have c4' := (hS8.cell 4).trans rfl
   rw [HSA.out.1, HSA.out.2] at c4'
   have lS8 := hS8.lt
   have HS8 := Lib.hid hS8
   have HDR8 := Lib.hid (HDR.out.below HB8.out (Nat.le_refl _))
   have hL8 := Lib.hid (fun q hq => (HV8.out.lt q hq).1)
   clear hown8 hg8 hv8 HTK HDR c0 c1 c2 c3 c4 c5 c6 hS8
   by_cases hl1 : np = jj
   · have hm : ¬ jj < np := by omega
     by_cases hcj : ca = jj
     · obtain rfl : jj = ca := hcj.symm
       go_wp2_with (at_builtin; refine wpl_append _ rfl (.tmp 42) (.tmp 47) 33 rfl w1'.heap.size 70 (.agg #[.int .i64 0, .int .i64 0, .int .i64 0]) 3 24 Try.underlying33 info_P18 rfl (by decide) v8 ii _ rfl HV8.out 0 _ 0 _ [] rfl Row.nil (by simp) ?f1 ?f2 ?f3 ?_)
       case f1 => unfold maxLen; have := HJJ.out; omega
       case f2 => omega
       try (case f3 => exact hz8)
       intro v10 w10 hown10 hg10 _
       have HO10 := Lib.hid (show w10.ownsRow w1'.heap.size 70 3 v10 lp (pnC (s.X.ps.filter (fun p => !isP qw p))) by
        rw [HFI.out]
        have e : s.X.ps.drop jj = [] := List.drop_of_length_le (by rw [HLN.out.1, hl1]; exact Nat.le_refl _); rw [e, List.append_nil, show lp = ii by have := HJJ.out; have := HLP.out; omega]; first | exact hown10 | simpa using hown10)
       have HB10 := Lib.hid (show Below w1'.heap.size w1' w10 from HB8.out.grown hg10 (by omega) (fun q hq => hL8.out q hq))
       obtain ⟨A10, c10, rfl⟩ := own_form HO10.out
       have hz10 := HB10.out.size
       have hS10 := HS'.out.below HB10.out lS'
       have hQ10 := HQ'.out.below HB10.out lQ'
       have hR10 := HR'.out.below HB10.out lR'
       have R10 : Row w10 w10.heap.size 3 A10 lp (pnC (s.X.ps.filter (fun p => !isP qw p))) := Row.of_own HO10.out
       have I10 : InP (fun k => P k ∧ (k ≠ N ∧ k ≠ w.heap.size)) A10 lp c10 := InP.own HO10.out (fun k hk => HP1'.out k hk)
       have x4 := hS10.cell 4
       have f4 := hS10.free 4
       have lS10 := hS10.lt
       obtain ⟨w11, hw11⟩ : ∃ z, z = w10.setCell ⟨w.heap.size, 4, none⟩ (.slice A10 lp c10) := ⟨_, rfl⟩
       have hnp' : ¬ (fun k => P k ∧ (k ≠ N ∧ k ≠ w.heap.size)) w.heap.size := fun h => h.2.2 rfl
       have H11 := Lib.hid (show SAt (fun k => P k ∧ (k ≠ N ∧ k ≠ w.heap.size)) w11 s by rw [hw11]; exact (H1'.out.next HB10.out).set (p := ⟨w.heap.size, 4, none⟩) hnp' _)
       have HR11 := Lib.hid (show Row w11 w11.heap.size 3 A10 lp (pnC (s.X.ps.filter (fun p => !isP qw p))) by rw [hw11]; exact row_setP (p := ⟨w.heap.size, 4, none⟩) R10 I10.q hnp')
       have HI10 := Lib.hid I10
       have HB11 := Lib.hid (show Below w.heap.size w w11 by rw [hw11]; exact (HB1'.out.trans (HB10.out.mono HB1'.out.size)).setCell (p := ⟨w.heap.size, 4, none⟩) (Nat.le_refl _) _)
       have HN11 := Lib.hid (show Whole w11 N 37 #[.int .i64 0, .int .i64 0, .int .i64 0, .int .i64 0, .slice none 0 0, .slice none 0 0, .slice none 0 0] by rw [hw11]; exact hR10.far (p := ⟨w.heap.size, 4, none⟩) hNw1 _)
       have hS11 : Whole w11 w.heap.size 37 #[.int .i64 s.X.cf.ps, .int .i64 s.X.cf.ts, .int .i64 s.X.cf.bs, .int .i64 s.X.cf.sl, .slice A10 lp c10, .slice s.B nt s.b, .slice s.C nb s.c] := by rw [hw11]; exact hS10.set 4 (.slice A10 lp c10)
       have hQ11 : Whole w11 (w.heap.size + 1) 48 #[(.int .i64 1), .int .i64 qw, .int .i64 qr, .int .i64 qg, .int .i64 qt, .slice Q qn qc, .int .i64 ql, .int .i64 qd] := by rw [hw11]; exact hQ10.far (p := ⟨w.heap.size, 4, none⟩) (by show w.heap.size + 1 ≠ w.heap.size; omega) _
       have hz11 : w11.heap.size = w10.heap.size := by rw [hw11]; simp
       clear HO10 HB10 hown10 hg10 R10 I10 HB8 HV8 HDR8 hL8 HS8 c4' hR10 hQ10 hS10
       go_upto_region 13 with fail
       rw [← hw11]
       clear hw11 x4 f4 lS10
       have c0 := (hS11.cell 0).trans rfl
       have c1 := (hS11.cell 1).trans rfl
       have c2 := (hS11.cell 2).trans rfl
       have c3 := (hS11.cell 3).trans rfl
       have c4 := (hS11.cell 4).trans rfl
       have c5 := (hS11.cell 5).trans rfl
       have c6 := (hS11.cell 6).trans rfl
       replace q0 := (hQ11.cell 0).trans rfl
       replace q1 := (hQ11.cell 1).trans rfl
       have lS11 := hS11.lt
       have lQ11 := hQ11.lt
       have CW := Lib.hid (show Calls Try.prog 25 #[.agg #[.int .i64 s.X.cf.ps, .int .i64 s.X.cf.ts, .int .i64 s.X.cf.bs, .int .i64 s.X.cf.sl, .slice A10 lp c10, .slice s.B nt s.b, .slice s.C nb s.c], .int .i64 0, .int .i64 qw, .int .i64 qw] w11 (fun e w' => ∃ Av cv Bv dv, e = .returned (.agg #[.int .i64 s.X.cf.ps, .int .i64 s.X.cf.ts, .int .i64 s.X.cf.bs, .int .i64 s.X.cf.sl, .slice A10 lp c10, .slice Av (s.T.filter (keepT 0 qw)).length cv, .slice Bv (s.X.bs.filter (keepB qw (s.T.filter (keepT 0 qw)))).length dv]) ∧ w'.ownsRow (w11.heap.size + 2) 60 4 (.slice Av (s.T.filter (keepT 0 qw)).length cv) (s.T.filter (keepT 0 qw)).length (tmC (s.T.filter (keepT 0 qw))) ∧ w'.ownsRow (w11.heap.size + 2) 56 5 (.slice Bv (s.X.bs.filter (keepB qw (s.T.filter (keepT 0 qw)))).length dv) (s.X.bs.filter (keepB qw (s.T.filter (keepT 0 qw)))).length (sbC (s.X.bs.filter (keepB qw (s.T.filter (keepT 0 qw))))) ∧ Below w11.heap.size w11 w') from by have h9 := rwithout18 s.X.cf.ps s.X.cf.ts s.X.cf.bs s.X.cf.sl A10 lp c10 s.B s.b s.T s.C s.c s.X.bs 0 qw qw w11 H11.out.rt (by have := H11.out.small; omega) H11.out.rb (by have := H11.out.small; omega); rw [HLN.out.2.1, HLN.out.2.2] at h9; exact h9)
       clear hS11 hQ11
       go_wp2_with fail
       refine CW.out.mono ?_
       rintro e w12 ⟨Av, cv, Bv, dv, rfl, ho1, ho2, b12⟩
       obtain ⟨nT, hnT⟩ : ∃ z, (s.T.filter (keepT 0 qw)).length = z := ⟨_, rfl⟩
       obtain ⟨nB, hnB⟩ : ∃ z, (s.X.bs.filter (keepB qw (s.T.filter (keepT 0 qw)))).length = z := ⟨_, rfl⟩
       have hlp : (s.X.ps.filter (fun p => !isP qw p)).length = lp := by rw [HFI.out, List.length_append, List.length_take, List.length_drop, HLN.out.1]; have := HJJ.out; have := HLP.out; omega
       have hd : doS s.X ⟨1, qw, qr, qg, qt, qs, ql, qd⟩ = leaveS s.X ⟨1, qw, qr, qg, qt, qs, ql, qd⟩ := by unfold doS; rw [if_neg (by dsimp only; omega), if_neg (by dsimp only; omega)]; obtain ⟨p, hp⟩ := HF.out; dsimp only; rw [hp]; rfl
       have hinv := inv_do H11.out.inv ⟨1, qw, qr, qg, qt, qs, ql, qd⟩
       rw [hd, leave_is s.X ⟨1, qw, qr, qg, qt, qs, ql, qd⟩ H11.out.ts H11.out.inv] at hinv
       have HX5 := Lib.hid (show (⟨s.X.cf, s.X.ps.filter (fun p => !isP qw p), tks (s.T.filter (keepT 0 qw)), s.X.bs.filter (keepB qw (s.T.filter (keepT 0 qw)))⟩ : St) = (doS s.X ⟨1, qw, qr, qg, qt, qs, ql, qd⟩).1 ∧ (doS s.X ⟨1, qw, qr, qg, qt, qs, ql, qd⟩).2 = 0 from by rw [hd, leave_is s.X ⟨1, qw, qr, qg, qt, qs, ql, qd⟩ H11.out.ts H11.out.inv]; exact ⟨rfl, rfl⟩)
       have hn12 := H11.out.next b12
       have hr12 := (HR11.out.below b12 (Nat.le_refl _)).more b12.size
       obtain ⟨s5, hX5, hS5, HSM5⟩ : ∃ s5 : Sm, s5.X = (doS s.X ⟨1, qw, qr, qg, qt, qs, ql, qd⟩).1 ∧ SAt (fun k => P k ∧ (k ≠ N ∧ k ≠ w.heap.size)) w12 s5 ∧ Hid (#[.int .i64 s.X.cf.ps, .int .i64 s.X.cf.ts, .int .i64 s.X.cf.bs, .int .i64 s.X.cf.sl, .slice A10 lp c10, .slice Av nT cv, .slice Bv nB dv] = smA s5) :=
        ⟨⟨⟨s.X.cf, s.X.ps.filter (fun p => !isP qw p), tks (s.T.filter (keepT 0 qw)), s.X.bs.filter (keepB qw (s.T.filter (keepT 0 qw)))⟩, s.T.filter (keepT 0 qw), A10, c10, Av, cv, Bv, dv⟩, HX5.out.1, ⟨by rw [hlp]; exact hr12, ⟨Row.of_own ho1, fun y hy => hn12.rt.2 y (List.mem_filter.mp hy).1⟩, Row.of_own ho2, rfl, hinv, by rw [hlp]; exact HI10.out, InP.own ho1 (fun k hk => HP1'.out k (by omega)), InP.own ho2 (fun k hk => HP1'.out k (by omega)), fun y hy => H11.out.pS y (List.mem_filter.mp hy).1⟩, Lib.hid (by unfold smA; dsimp only; rw [hlp, hnT, hnB])⟩
       rw [hnT, hnB]
       replace hX5 := Lib.hid hX5
       have HS5 := Lib.hid hS5
       have HR12 := Lib.hid (HN11.out.below b12 HN11.out.lt)
       have HB12 := Lib.hid (HB11.out.trans (b12.mono HB11.out.size))
       have lN2 : N < w12.heap.size := HR12.out.lt
       clear hS5 b12 CW ho1 ho2 hnT hnB hlp hd hinv hn12 hr12
       have hRW := HR12.out
       have z0 := hRW.cell 0
       have z1 := hRW.cell 1
       have z2 := hRW.cell 2
       have z3 := hRW.cell 3
       have z4 := hRW.cell 4
       have z5 := hRW.cell 5
       have z6 := hRW.cell 6
       have y0 := hRW.free 0
       have y1 := hRW.free 1
       have y2 := hRW.free 2
       have y3 := hRW.free 3
       have y4 := hRW.free 4
       have y5 := hRW.free 5
       have y6 := hRW.free 6
       have lz := hRW.lt
       clear hRW
       go_wp2_with fail
       have hRF := sets7_whole HR12.out (v0 := .int .i64 s.X.cf.ps) (v1 := .int .i64 s.X.cf.ts) (v2 := .int .i64 s.X.cf.bs) (v3 := .int .i64 s.X.cf.sl) (v4 := .slice A10 lp c10) (v5 := .slice Av nT cv) (v6 := .slice Bv nB dv) rfl
       unfold sets7 at hRF
       have HRF := Lib.hid hRF
       clear hRF
       have rf0 := HRF.out.cell 0
       have rf1 := HRF.out.cell 1
       have rf2 := HRF.out.cell 2
       have rf3 := HRF.out.cell 3
       have rf4 := HRF.out.cell 4
       have rf5 := HRF.out.cell 5
       have rf6 := HRF.out.cell 6
       have BF : Below w.heap.size w (sets7 w12 N (.int .i64 s.X.cf.ps) (.int .i64 s.X.cf.ts) (.int .i64 s.X.cf.bs) (.int .i64 s.X.cf.sl) (.slice A10 lp c10) (.slice Av nT cv) (.slice Bv nB dv)) := sets7_below HB12.out (by omega)
       have SF : SAt P (sets7 w12 N (.int .i64 s.X.cf.ps) (.int .i64 s.X.cf.ts) (.int .i64 s.X.cf.bs) (.int .i64 s.X.cf.sl) (.slice A10 lp c10) (.slice Av nT cv) (.slice Bv nB dv)) s5 := sat_weak (sets7_sat HS5.out (fun h => h.2.1 rfl))
       exact bodyPost_ret (v := .tuple #[.agg #[.int .i64 s.X.cf.ps, .int .i64 s.X.cf.ts, .int .i64 s.X.cf.bs, .int .i64 s.X.cf.sl, .slice A10 lp c10, .slice Av nT cv, .slice Bv nB dv], .int .i64 0]) (by simp [results, Try.results13, go_sem, rf0, rf1, rf2, rf3, rf4, rf5, rf6]) rfl ⟨BF, s5, hX5.out, SF, by rw [HSM5.out, HX5.out.2]⟩
     · have hcj' : ¬ jj = ca := fun h => hcj h.symm
       go_wp2_with (at_builtin; refine wpl_append _ rfl (.tmp 42) (.tmp 47) 33 rfl w1'.heap.size 70 (.agg #[.int .i64 0, .int .i64 0, .int .i64 0]) 3 24 Try.underlying33 info_P18 rfl (by decide) v8 ii _ rfl HV8.out 0 _ 0 _ [] rfl Row.nil (by simp) ?f1 ?f2 ?f3 ?_)
       case f1 => unfold maxLen; have := HJJ.out; omega
       case f2 => omega
       try (case f3 => exact hz8)
       intro v10 w10 hown10 hg10 _
       have HO10 := Lib.hid (show w10.ownsRow w1'.heap.size 70 3 v10 lp (pnC (s.X.ps.filter (fun p => !isP qw p))) by
        rw [HFI.out]
        have e : s.X.ps.drop jj = [] := List.drop_of_length_le (by rw [HLN.out.1, hl1]; exact Nat.le_refl _); rw [e, List.append_nil, show lp = ii by have := HJJ.out; have := HLP.out; omega]; first | exact hown10 | simpa using hown10)
       have HB10 := Lib.hid (show Below w1'.heap.size w1' w10 from HB8.out.grown hg10 (by omega) (fun q hq => hL8.out q hq))
       obtain ⟨A10, c10, rfl⟩ := own_form HO10.out
       have hz10 := HB10.out.size
       have hS10 := HS'.out.below HB10.out lS'
       have hQ10 := HQ'.out.below HB10.out lQ'
       have hR10 := HR'.out.below HB10.out lR'
       have R10 : Row w10 w10.heap.size 3 A10 lp (pnC (s.X.ps.filter (fun p => !isP qw p))) := Row.of_own HO10.out
       have I10 : InP (fun k => P k ∧ (k ≠ N ∧ k ≠ w.heap.size)) A10 lp c10 := InP.own HO10.out (fun k hk => HP1'.out k hk)
       have x4 := hS10.cell 4
       have f4 := hS10.free 4
       have lS10 := hS10.lt
       obtain ⟨w11, hw11⟩ : ∃ z, z = w10.setCell ⟨w.heap.size, 4, none⟩ (.slice A10 lp c10) := ⟨_, rfl⟩
       have hnp' : ¬ (fun k => P k ∧ (k ≠ N ∧ k ≠ w.heap.size)) w.heap.size := fun h => h.2.2 rfl
       have H11 := Lib.hid (show SAt (fun k => P k ∧ (k ≠ N ∧ k ≠ w.heap.size)) w11 s by rw [hw11]; exact (H1'.out.next HB10.out).set (p := ⟨w.heap.size, 4, none⟩) hnp' _)
       have HR11 := Lib.hid (show Row w11 w11.heap.size 3 A10 lp (pnC (s.X.ps.filter (fun p => !isP qw p))) by rw [hw11]; exact row_setP (p := ⟨w.heap.size, 4, none⟩) R10 I10.q hnp')
       have HI10 := Lib.hid I10
       have HB11 := Lib.hid (show Below w.heap.size w w11 by rw [hw11]; exact (HB1'.out.trans (HB10.out.mono HB1'.out.size)).setCell (p := ⟨w.heap.size, 4, none⟩) (Nat.le_refl _) _)
       have HN11 := Lib.hid (show Whole w11 N 37 #[.int .i64 0, .int .i64 0, .int .i64 0, .int .i64 0, .slice none 0 0, .slice none 0 0, .slice none 0 0] by rw [hw11]; exact hR10.far (p := ⟨w.heap.size, 4, none⟩) hNw1 _)
       have hS11 : Whole w11 w.heap.size 37 #[.int .i64 s.X.cf.ps, .int .i64 s.X.cf.ts, .int .i64 s.X.cf.bs, .int .i64 s.X.cf.sl, .slice A10 lp c10, .slice s.B nt s.b, .slice s.C nb s.c] := by rw [hw11]; exact hS10.set 4 (.slice A10 lp c10)
       have hQ11 : Whole w11 (w.heap.size + 1) 48 #[(.int .i64 1), .int .i64 qw, .int .i64 qr, .int .i64 qg, .int .i64 qt, .slice Q qn qc, .int .i64 ql, .int .i64 qd] := by rw [hw11]; exact hQ10.far (p := ⟨w.heap.size, 4, none⟩) (by show w.heap.size + 1 ≠ w.heap.size; omega) _
       have hz11 : w11.heap.size = w10.heap.size := by rw [hw11]; simp
       clear HO10 HB10 hown10 hg10 R10 I10 HB8 HV8 HDR8 hL8 HS8 c4' hR10 hQ10 hS10
       go_upto_region 13 with fail
       rw [← hw11]
       clear hw11 x4 f4 lS10
       have c0 := (hS11.cell 0).trans rfl
       have c1 := (hS11.cell 1).trans rfl
       have c2 := (hS11.cell 2).trans rfl
       have c3 := (hS11.cell 3).trans rfl
       have c4 := (hS11.cell 4).trans rfl
       have c5 := (hS11.cell 5).trans rfl
       have c6 := (hS11.cell 6).trans rfl
       replace q0 := (hQ11.cell 0).trans rfl
       replace q1 := (hQ11.cell 1).trans rfl
       have lS11 := hS11.lt
       have lQ11 := hQ11.lt
       have CW := Lib.hid (show Calls Try.prog 25 #[.agg #[.int .i64 s.X.cf.ps, .int .i64 s.X.cf.ts, .int .i64 s.X.cf.bs, .int .i64 s.X.cf.sl, .slice A10 lp c10, .slice s.B nt s.b, .slice s.C nb s.c], .int .i64 0, .int .i64 qw, .int .i64 qw] w11 (fun e w' => ∃ Av cv Bv dv, e = .returned (.agg #[.int .i64 s.X.cf.ps, .int .i64 s.X.cf.ts, .int .i64 s.X.cf.bs, .int .i64 s.X.cf.sl, .slice A10 lp c10, .slice Av (s.T.filter (keepT 0 qw)).length cv, .slice Bv (s.X.bs.filter (keepB qw (s.T.filter (keepT 0 qw)))).length dv]) ∧ w'.ownsRow (w11.heap.size + 2) 60 4 (.slice Av (s.T.filter (keepT 0 qw)).length cv) (s.T.filter (keepT 0 qw)).length (tmC (s.T.filter (keepT 0 qw))) ∧ w'.ownsRow (w11.heap.size + 2) 56 5 (.slice Bv (s.X.bs.filter (keepB qw (s.T.filter (keepT 0 qw)))).length dv) (s.X.bs.filter (keepB qw (s.T.filter (keepT 0 qw)))).length (sbC (s.X.bs.filter (keepB qw (s.T.filter (keepT 0 qw))))) ∧ Below w11.heap.size w11 w') from by have h9 := rwithout18 s.X.cf.ps s.X.cf.ts s.X.cf.bs s.X.cf.sl A10 lp c10 s.B s.b s.T s.C s.c s.X.bs 0 qw qw w11 H11.out.rt (by have := H11.out.small; omega) H11.out.rb (by have := H11.out.small; omega); rw [HLN.out.2.1, HLN.out.2.2] at h9; exact h9)
       clear hS11 hQ11
       go_wp2_with fail
       refine CW.out.mono ?_
       rintro e w12 ⟨Av, cv, Bv, dv, rfl, ho1, ho2, b12⟩
       obtain ⟨nT, hnT⟩ : ∃ z, (s.T.filter (keepT 0 qw)).length = z := ⟨_, rfl⟩
       obtain ⟨nB, hnB⟩ : ∃ z, (s.X.bs.filter (keepB qw (s.T.filter (keepT 0 qw)))).length = z := ⟨_, rfl⟩
       have hlp : (s.X.ps.filter (fun p => !isP qw p)).length = lp := by rw [HFI.out, List.length_append, List.length_take, List.length_drop, HLN.out.1]; have := HJJ.out; have := HLP.out; omega
       have hd : doS s.X ⟨1, qw, qr, qg, qt, qs, ql, qd⟩ = leaveS s.X ⟨1, qw, qr, qg, qt, qs, ql, qd⟩ := by unfold doS; rw [if_neg (by dsimp only; omega), if_neg (by dsimp only; omega)]; obtain ⟨p, hp⟩ := HF.out; dsimp only; rw [hp]; rfl
       have hinv := inv_do H11.out.inv ⟨1, qw, qr, qg, qt, qs, ql, qd⟩
       rw [hd, leave_is s.X ⟨1, qw, qr, qg, qt, qs, ql, qd⟩ H11.out.ts H11.out.inv] at hinv
       have HX5 := Lib.hid (show (⟨s.X.cf, s.X.ps.filter (fun p => !isP qw p), tks (s.T.filter (keepT 0 qw)), s.X.bs.filter (keepB qw (s.T.filter (keepT 0 qw)))⟩ : St) = (doS s.X ⟨1, qw, qr, qg, qt, qs, ql, qd⟩).1 ∧ (doS s.X ⟨1, qw, qr, qg, qt, qs, ql, qd⟩).2 = 0 from by rw [hd, leave_is s.X ⟨1, qw, qr, qg, qt, qs, ql, qd⟩ H11.out.ts H11.out.inv]; exact ⟨rfl, rfl⟩)
       have hn12 := H11.out.next b12
       have hr12 := (HR11.out.below b12 (Nat.le_refl _)).more b12.size
       obtain ⟨s5, hX5, hS5, HSM5⟩ : ∃ s5 : Sm, s5.X = (doS s.X ⟨1, qw, qr, qg, qt, qs, ql, qd⟩).1 ∧ SAt (fun k => P k ∧ (k ≠ N ∧ k ≠ w.heap.size)) w12 s5 ∧ Hid (#[.int .i64 s.X.cf.ps, .int .i64 s.X.cf.ts, .int .i64 s.X.cf.bs, .int .i64 s.X.cf.sl, .slice A10 lp c10, .slice Av nT cv, .slice Bv nB dv] = smA s5) :=
        ⟨⟨⟨s.X.cf, s.X.ps.filter (fun p => !isP qw p), tks (s.T.filter (keepT 0 qw)), s.X.bs.filter (keepB qw (s.T.filter (keepT 0 qw)))⟩, s.T.filter (keepT 0 qw), A10, c10, Av, cv, Bv, dv⟩, HX5.out.1, ⟨by rw [hlp]; exact hr12, ⟨Row.of_own ho1, fun y hy => hn12.rt.2 y (List.mem_filter.mp hy).1⟩, Row.of_own ho2, rfl, hinv, by rw [hlp]; exact HI10.out, InP.own ho1 (fun k hk => HP1'.out k (by omega)), InP.own ho2 (fun k hk => HP1'.out k (by omega)), fun y hy => H11.out.pS y (List.mem_filter.mp hy).1⟩, Lib.hid (by unfold smA; dsimp only; rw [hlp, hnT, hnB])⟩
       rw [hnT, hnB]
       replace hX5 := Lib.hid hX5
       have HS5 := Lib.hid hS5
       have HR12 := Lib.hid (HN11.out.below b12 HN11.out.lt)
       have HB12 := Lib.hid (HB11.out.trans (b12.mono HB11.out.size))
       have lN2 : N < w12.heap.size := HR12.out.lt
       clear hS5 b12 CW ho1 ho2 hnT hnB hlp hd hinv hn12 hr12
       have hRW := HR12.out
       have z0 := hRW.cell 0
       have z1 := hRW.cell 1
       have z2 := hRW.cell 2
       have z3 := hRW.cell 3
       have z4 := hRW.cell 4
       have z5 := hRW.cell 5
       have z6 := hRW.cell 6
       have y0 := hRW.free 0
       have y1 := hRW.free 1
       have y2 := hRW.free 2
       have y3 := hRW.free 3
       have y4 := hRW.free 4
       have y5 := hRW.free 5
       have y6 := hRW.free 6
       have lz := hRW.lt
       clear hRW
       go_wp2_with fail
       have hRF := sets7_whole HR12.out (v0 := .int .i64 s.X.cf.ps) (v1 := .int .i64 s.X.cf.ts) (v2 := .int .i64 s.X.cf.bs) (v3 := .int .i64 s.X.cf.sl) (v4 := .slice A10 lp c10) (v5 := .slice Av nT cv) (v6 := .slice Bv nB dv) rfl
       unfold sets7 at hRF
       have HRF := Lib.hid hRF
       clear hRF
       have rf0 := HRF.out.cell 0
       have rf1 := HRF.out.cell 1
       have rf2 := HRF.out.cell 2
       have rf3 := HRF.out.cell 3
       have rf4 := HRF.out.cell 4
       have rf5 := HRF.out.cell 5
       have rf6 := HRF.out.cell 6
       have BF : Below w.heap.size w (sets7 w12 N (.int .i64 s.X.cf.ps) (.int .i64 s.X.cf.ts) (.int .i64 s.X.cf.bs) (.int .i64 s.X.cf.sl) (.slice A10 lp c10) (.slice Av nT cv) (.slice Bv nB dv)) := sets7_below HB12.out (by omega)
       have SF : SAt P (sets7 w12 N (.int .i64 s.X.cf.ps) (.int .i64 s.X.cf.ts) (.int .i64 s.X.cf.bs) (.int .i64 s.X.cf.sl) (.slice A10 lp c10) (.slice Av nT cv) (.slice Bv nB dv)) s5 := sat_weak (sets7_sat HS5.out (fun h => h.2.1 rfl))
       exact bodyPost_ret (v := .tuple #[.agg #[.int .i64 s.X.cf.ps, .int .i64 s.X.cf.ts, .int .i64 s.X.cf.bs, .int .i64 s.X.cf.sl, .slice A10 lp c10, .slice Av nT cv, .slice Bv nB dv], .int .i64 0]) (by simp [results, Try.results13, go_sem, rf0, rf1, rf2, rf3, rf4, rf5, rf6]) rfl ⟨BF, s5, hX5.out, SF, by rw [HSM5.out, HX5.out.2]⟩
   · have hcj : ¬ ca = jj := by omega
     have hcj' : ¬ jj = ca := by omega
     go_wp2_with (at_builtin; refine wpl_append _ rfl (.tmp 42) (.tmp 47) 33 rfl w1'.heap.size 70 (.agg #[.int .i64 0, .int .i64 0, .int .i64 0]) 3 24 Try.underlying33 info_P18 rfl (by decide) v8 ii _ rfl HV8.out _ (some ⟨g, o + jj * 3, none⟩) (np - jj) (ca - jj) _ rfl HDR8.out (flat_one pn_one _) ?f1 ?f2 ?f3 ?_)
     case f1 => unfold maxLen; have := HJJ.out; omega
     case f2 => omega
     try (case f3 => exact hz8)
     intro v10 w10 hown10 hg10 _
     have HO10 := Lib.hid (show w10.ownsRow w1'.heap.size 70 3 v10 lp (pnC (s.X.ps.filter (fun p => !isP qw p))) by
      rw [HFI.out]
      have e : pnC (s.X.ps.take ii ++ s.X.ps.drop jj) = pnC (s.X.ps.take ii) ++ pnC (s.X.ps.drop jj) := by unfold pnC; rw [flat_append]
      rw [e, show lp = ii + (np - jj) by have := HJJ.out; have := HLP.out; omega]
      exact hown10)
     have HB10 := Lib.hid (show Below w1'.heap.size w1' w10 from HB8.out.grown hg10 (by omega) (fun q hq => hL8.out q hq))
     obtain ⟨A10, c10, rfl⟩ := own_form HO10.out
     have hz10 := HB10.out.size
     have hS10 := HS'.out.below HB10.out lS'
     have hQ10 := HQ'.out.below HB10.out lQ'
     have hR10 := HR'.out.below HB10.out lR'
     have R10 : Row w10 w10.heap.size 3 A10 lp (pnC (s.X.ps.filter (fun p => !isP qw p))) := Row.of_own HO10.out
     have I10 : InP (fun k => P k ∧ (k ≠ N ∧ k ≠ w.heap.size)) A10 lp c10 := InP.own HO10.out (fun k hk => HP1'.out k hk)
     have x4 := hS10.cell 4
     have f4 := hS10.free 4
     have lS10 := hS10.lt
     obtain ⟨w11, hw11⟩ : ∃ z, z = w10.setCell ⟨w.heap.size, 4, none⟩ (.slice A10 lp c10) := ⟨_, rfl⟩
     have hnp' : ¬ (fun k => P k ∧ (k ≠ N ∧ k ≠ w.heap.size)) w.heap.size := fun h => h.2.2 rfl
     have H11 := Lib.hid (show SAt (fun k => P k ∧ (k ≠ N ∧ k ≠ w.heap.size)) w11 s by rw [hw11]; exact (H1'.out.next HB10.out).set (p := ⟨w.heap.size, 4, none⟩) hnp' _)
     have HR11 := Lib.hid (show Row w11 w11.heap.size 3 A10 lp (pnC (s.X.ps.filter (fun p => !isP qw p))) by rw [hw11]; exact row_setP (p := ⟨w.heap.size, 4, none⟩) R10 I10.q hnp')
     have HI10 := Lib.hid I10
     have HB11 := Lib.hid (show Below w.heap.size w w11 by rw [hw11]; exact (HB1'.out.trans (HB10.out.mono HB1'.out.size)).setCell (p := ⟨w.heap.size, 4, none⟩) (Nat.le_refl _) _)
     have HN11 := Lib.hid (show Whole w11 N 37 #[.int .i64 0, .int .i64 0, .int .i64 0, .int .i64 0, .slice none 0 0, .slice none 0 0, .slice none 0 0] by rw [hw11]; exact hR10.far (p := ⟨w.heap.size, 4, none⟩) hNw1 _)
     have hS11 : Whole w11 w.heap.size 37 #[.int .i64 s.X.cf.ps, .int .i64 s.X.cf.ts, .int .i64 s.X.cf.bs, .int .i64 s.X.cf.sl, .slice A10 lp c10, .slice s.B nt s.b, .slice s.C nb s.c] := by rw [hw11]; exact hS10.set 4 (.slice A10 lp c10)
     have hQ11 : Whole w11 (w.heap.size + 1) 48 #[(.int .i64 1), .int .i64 qw, .int .i64 qr, .int .i64 qg, .int .i64 qt, .slice Q qn qc, .int .i64 ql, .int .i64 qd] := by rw [hw11]; exact hQ10.far (p := ⟨w.heap.size, 4, none⟩) (by show w.heap.size + 1 ≠ w.heap.size; omega) _
     have hz11 : w11.heap.size = w10.heap.size := by rw [hw11]; simp
     clear HO10 HB10 hown10 hg10 R10 I10 HB8 HV8 HDR8 hL8 HS8 c4' hR10 hQ10 hS10
     go_upto_region 13 with fail
     rw [← hw11]
     clear hw11 x4 f4 lS10
     have c0 := (hS11.cell 0).trans rfl
     have c1 := (hS11.cell 1).trans rfl
     have c2 := (hS11.cell 2).trans rfl
     have c3 := (hS11.cell 3).trans rfl
     have c4 := (hS11.cell 4).trans rfl
     have c5 := (hS11.cell 5).trans rfl
     have c6 := (hS11.cell 6).trans rfl
     replace q0 := (hQ11.cell 0).trans rfl
     replace q1 := (hQ11.cell 1).trans rfl
     have lS11 := hS11.lt
     have lQ11 := hQ11.lt
     have CW := Lib.hid (show Calls Try.prog 25 #[.agg #[.int .i64 s.X.cf.ps, .int .i64 s.X.cf.ts, .int .i64 s.X.cf.bs, .int .i64 s.X.cf.sl, .slice A10 lp c10, .slice s.B nt s.b, .slice s.C nb s.c], .int .i64 0, .int .i64 qw, .int .i64 qw] w11 (fun e w' => ∃ Av cv Bv dv, e = .returned (.agg #[.int .i64 s.X.cf.ps, .int .i64 s.X.cf.ts, .int .i64 s.X.cf.bs, .int .i64 s.X.cf.sl, .slice A10 lp c10, .slice Av (s.T.filter (keepT 0 qw)).length cv, .slice Bv (s.X.bs.filter (keepB qw (s.T.filter (keepT 0 qw)))).length dv]) ∧ w'.ownsRow (w11.heap.size + 2) 60 4 (.slice Av (s.T.filter (keepT 0 qw)).length cv) (s.T.filter (keepT 0 qw)).length (tmC (s.T.filter (keepT 0 qw))) ∧ w'.ownsRow (w11.heap.size + 2) 56 5 (.slice Bv (s.X.bs.filter (keepB qw (s.T.filter (keepT 0 qw)))).length dv) (s.X.bs.filter (keepB qw (s.T.filter (keepT 0 qw)))).length (sbC (s.X.bs.filter (keepB qw (s.T.filter (keepT 0 qw))))) ∧ Below w11.heap.size w11 w') from by have h9 := rwithout18 s.X.cf.ps s.X.cf.ts s.X.cf.bs s.X.cf.sl A10 lp c10 s.B s.b s.T s.C s.c s.X.bs 0 qw qw w11 H11.out.rt (by have := H11.out.small; omega) H11.out.rb (by have := H11.out.small; omega); rw [HLN.out.2.1, HLN.out.2.2] at h9; exact h9)
     clear hS11 hQ11
     go_wp2_with fail
     refine CW.out.mono ?_
     rintro e w12 ⟨Av, cv, Bv, dv, rfl, ho1, ho2, b12⟩
     obtain ⟨nT, hnT⟩ : ∃ z, (s.T.filter (keepT 0 qw)).length = z := ⟨_, rfl⟩
     obtain ⟨nB, hnB⟩ : ∃ z, (s.X.bs.filter (keepB qw (s.T.filter (keepT 0 qw)))).length = z := ⟨_, rfl⟩
     have hlp : (s.X.ps.filter (fun p => !isP qw p)).length = lp := by rw [HFI.out, List.length_append, List.length_take, List.length_drop, HLN.out.1]; have := HJJ.out; have := HLP.out; omega
     have hd : doS s.X ⟨1, qw, qr, qg, qt, qs, ql, qd⟩ = leaveS s.X ⟨1, qw, qr, qg, qt, qs, ql, qd⟩ := by unfold doS; rw [if_neg (by dsimp only; omega), if_neg (by dsimp only; omega)]; obtain ⟨p, hp⟩ := HF.out; dsimp only; rw [hp]; rfl
     have hinv := inv_do H11.out.inv ⟨1, qw, qr, qg, qt, qs, ql, qd⟩
     rw [hd, leave_is s.X ⟨1, qw, qr, qg, qt, qs, ql, qd⟩ H11.out.ts H11.out.inv] at hinv
     have HX5 := Lib.hid (show (⟨s.X.cf, s.X.ps.filter (fun p => !isP qw p), tks (s.T.filter (keepT 0 qw)), s.X.bs.filter (keepB qw (s.T.filter (keepT 0 qw)))⟩ : St) = (doS s.X ⟨1, qw, qr, qg, qt, qs, ql, qd⟩).1 ∧ (doS s.X ⟨1, qw, qr, qg, qt, qs, ql, qd⟩).2 = 0 from by rw [hd, leave_is s.X ⟨1, qw, qr, qg, qt, qs, ql, qd⟩ H11.out.ts H11.out.inv]; exact ⟨rfl, rfl⟩)
     have hn12 := H11.out.next b12
     have hr12 := (HR11.out.below b12 (Nat.le_refl _)).more b12.size
     obtain ⟨s5, hX5, hS5, HSM5⟩ : ∃ s5 : Sm, s5.X = (doS s.X ⟨1, qw, qr, qg, qt, qs, ql, qd⟩).1 ∧ SAt (fun k => P k ∧ (k ≠ N ∧ k ≠ w.heap.size)) w12 s5 ∧ Hid (#[.int .i64 s.X.cf.ps, .int .i64 s.X.cf.ts, .int .i64 s.X.cf.bs, .int .i64 s.X.cf.sl, .slice A10 lp c10, .slice Av nT cv, .slice Bv nB dv] = smA s5) :=
      ⟨⟨⟨s.X.cf, s.X.ps.filter (fun p => !isP qw p), tks (s.T.filter (keepT 0 qw)), s.X.bs.filter (keepB qw (s.T.filter (keepT 0 qw)))⟩, s.T.filter (keepT 0 qw), A10, c10, Av, cv, Bv, dv⟩, HX5.out.1, ⟨by rw [hlp]; exact hr12, ⟨Row.of_own ho1, fun y hy => hn12.rt.2 y (List.mem_filter.mp hy).1⟩, Row.of_own ho2, rfl, hinv, by rw [hlp]; exact HI10.out, InP.own ho1 (fun k hk => HP1'.out k (by omega)), InP.own ho2 (fun k hk => HP1'.out k (by omega)), fun y hy => H11.out.pS y (List.mem_filter.mp hy).1⟩, Lib.hid (by unfold smA; dsimp only; rw [hlp, hnT, hnB])⟩
     rw [hnT, hnB]
     replace hX5 := Lib.hid hX5
     have HS5 := Lib.hid hS5
     have HR12 := Lib.hid (HN11.out.below b12 HN11.out.lt)
     have HB12 := Lib.hid (HB11.out.trans (b12.mono HB11.out.size))
     have lN2 : N < w12.heap.size := HR12.out.lt
     clear hS5 b12 CW ho1 ho2 hnT hnB hlp hd hinv hn12 hr12
     have hRW := HR12.out
     have z0 := hRW.cell 0
     have z1 := hRW.cell 1
     have z2 := hRW.cell 2
     have z3 := hRW.cell 3
     have z4 := hRW.cell 4
     have z5 := hRW.cell 5
     have z6 := hRW.cell 6
     have y0 := hRW.free 0
     have y1 := hRW.free 1
     have y2 := hRW.free 2
     have y3 := hRW.free 3
     have y4 := hRW.free 4
     have y5 := hRW.free 5
     have y6 := hRW.free 6
     have lz := hRW.lt
     clear hRW
     go_wp2_with fail
     have hRF := sets7_whole HR12.out (v0 := .int .i64 s.X.cf.ps) (v1 := .int .i64 s.X.cf.ts) (v2 := .int .i64 s.X.cf.bs) (v3 := .int .i64 s.X.cf.sl) (v4 := .slice A10 lp c10) (v5 := .slice Av nT cv) (v6 := .slice Bv nB dv) rfl
     unfold sets7 at hRF
     have HRF := Lib.hid hRF
     clear hRF
     have rf0 := HRF.out.cell 0
     have rf1 := HRF.out.cell 1
     have rf2 := HRF.out.cell 2
     have rf3 := HRF.out.cell 3
     have rf4 := HRF.out.cell 4
     have rf5 := HRF.out.cell 5
     have rf6 := HRF.out.cell 6
     have BF : Below w.heap.size w (sets7 w12 N (.int .i64 s.X.cf.ps) (.int .i64 s.X.cf.ts) (.int .i64 s.X.cf.bs) (.int .i64 s.X.cf.sl) (.slice A10 lp c10) (.slice Av nT cv) (.slice Bv nB dv)) := sets7_below HB12.out (by omega)
     have SF : SAt P (sets7 w12 N (.int .i64 s.X.cf.ps) (.int .i64 s.X.cf.ts) (.int .i64 s.X.cf.bs) (.int .i64 s.X.cf.sl) (.slice A10 lp c10) (.slice Av nT cv) (.slice Bv nB dv)) s5 := sat_weak (sets7_sat HS5.out (fun h => h.2.1 rfl))
     exact bodyPost_ret (v := .tuple #[.agg #[.int .i64 s.X.cf.ps, .int .i64 s.X.cf.ts, .int .i64 s.X.cf.bs, .int .i64 s.X.cf.sl, .slice A10 lp c10, .slice Av nT cv, .slice Bv nB dv], .int .i64 0]) (by simp [results, Try.results13, go_sem, rf0, rf1, rf2, rf3, rf4, rf5, rf6]) rfl ⟨BF, s5, hX5.out, SF, by rw [HSM5.out, HX5.out.2]⟩
 by_cases k2 : qk = 2
 · subst k2
   have k9' : ¬ (9 : Int) < 2 := by omega
   have k0' : ¬ (2 : Int) < 0 := by omega
   have kz' : ¬ (2 : Int) = 0 := by omega
   have CC := Lib.hid (show Calls Try.prog 26 #[.agg #[.int .i64 s.X.cf.ps, .int .i64 s.X.cf.ts, .int .i64 s.X.cf.bs, .int .i64 s.X.cf.sl, .slice s.A np s.a, .slice s.B nt s.b, .slice s.C nb s.c], .agg #[(.int .i64 2), .int .i64 qw, .int .i64 qr, .int .i64 qg, .int .i64 qt, .slice Q qn qc, .int .i64 ql, .int .i64 qd]] w1' (RTold (fun k => P k ∧ (k ≠ N ∧ k ≠ w.heap.size)) (doS s.X ⟨2, qw, qr, qg, qt, qs, ql, qd⟩) w1') from by rw [HSM.out, HQM.out]; exact rpublishS H1'.out HQ1'.out HP1'.out rfl HF.out)
   go_wp2_with fail
   refine CC.out.mono ?_
   rintro e w2 ⟨b2, s2, hX2, hS2, rfl⟩
   replace hX2 := Lib.hid hX2
   have HS2 := Lib.hid hS2
   have HR2 := Lib.hid (HR'.out.below b2 lR')
   have HB2 := Lib.hid (HB1'.out.trans (b2.mono HB1'.out.size))
   obtain ⟨r2, hr2⟩ : ∃ z, (doS s.X ⟨2, qw, qr, qg, qt, qs, ql, qd⟩).2 = z := ⟨_, rfl⟩
   obtain ⟨np2, hnp2⟩ : ∃ n, s2.X.ps.length = n := ⟨_, rfl⟩
   obtain ⟨nt2, hnt2⟩ : ∃ n, s2.T.length = n := ⟨_, rfl⟩
   obtain ⟨nb2, hnb2⟩ : ∃ n, s2.X.bs.length = n := ⟨_, rfl⟩
   have HSM2 := Lib.hid (show #[.int .i64 s2.X.cf.ps, .int .i64 s2.X.cf.ts, .int .i64 s2.X.cf.bs, .int .i64 s2.X.cf.sl, .slice s2.A np2 s2.a, .slice s2.B nt2 s2.b, .slice s2.C nb2 s2.c] = smA s2 from by unfold smA; rw [hnp2, hnt2, hnb2])
   rw [← HSM2.out, hr2]
   have HRR := Lib.hid hr2
   have lN2 : N < w2.heap.size := HR2.out.lt
   clear hS2 b2 CC hnp2 hnt2 hnb2 hr2
   have hRW := HR2.out
   have z0 := hRW.cell 0
   have z1 := hRW.cell 1
   have z2 := hRW.cell 2
   have z3 := hRW.cell 3
   have z4 := hRW.cell 4
   have z5 := hRW.cell 5
   have z6 := hRW.cell 6
   have y0 := hRW.free 0
   have y1 := hRW.free 1
   have y2 := hRW.free 2
   have y3 := hRW.free 3
   have y4 := hRW.free 4
   have y5 := hRW.free 5
   have y6 := hRW.free 6
   have lz := hRW.lt
   clear hRW
   go_wp2_with fail
   have hRF := sets7_whole HR2.out (v0 := .int .i64 s2.X.cf.ps) (v1 := .int .i64 s2.X.cf.ts) (v2 := .int .i64 s2.X.cf.bs) (v3 := .int .i64 s2.X.cf.sl) (v4 := .slice s2.A np2 s2.a) (v5 := .slice s2.B nt2 s2.b) (v6 := .slice s2.C nb2 s2.c) rfl
   unfold sets7 at hRF
   have HRF := Lib.hid hRF
   clear hRF
   have rf0 := HRF.out.cell 0
   have rf1 := HRF.out.cell 1
   have rf2 := HRF.out.cell 2
   have rf3 := HRF.out.cell 3
   have rf4 := HRF.out.cell 4
   have rf5 := HRF.out.cell 5
   have rf6 := HRF.out.cell 6
   have BF : Below w.heap.size w (sets7 w2 N (.int .i64 s2.X.cf.ps) (.int .i64 s2.X.cf.ts) (.int .i64 s2.X.cf.bs) (.int .i64 s2.X.cf.sl) (.slice s2.A np2 s2.a) (.slice s2.B nt2 s2.b) (.slice s2.C nb2 s2.c)) := sets7_below HB2.out (by omega)
   have SF : SAt P (sets7 w2 N (.int .i64 s2.X.cf.ps) (.int .i64 s2.X.cf.ts) (.int .i64 s2.X.cf.bs) (.int .i64 s2.X.cf.sl) (.slice s2.A np2 s2.a) (.slice s2.B nt2 s2.b) (.slice s2.C nb2 s2.c)) s2 := sat_weak (sets7_sat HS2.out (fun h => h.2.1 rfl))
   exact bodyPost_ret (v := .tuple #[.agg #[.int .i64 s2.X.cf.ps, .int .i64 s2.X.cf.ts, .int .i64 s2.X.cf.bs, .int .i64 s2.X.cf.sl, .slice s2.A np2 s2.a, .slice s2.B nt2 s2.b, .slice s2.C nb2 s2.c], .int .i64 r2]) (by simp [results, Try.results13, go_sem, rf0, rf1, rf2, rf3, rf4, rf5, rf6]) rfl ⟨BF, s2, hX2.out, SF, by rw [HSM2.out, HRR.out]⟩
 by_cases k3 : qk = 3
 · subst k3
   have k9' : ¬ (9 : Int) < 3 := by omega
   have k0' : ¬ (3 : Int) < 0 := by omega
   have kz' : ¬ (3 : Int) = 0 := by omega
   have CC := Lib.hid (show Calls Try.prog 27 #[.agg #[.int .i64 s.X.cf.ps, .int .i64 s.X.cf.ts, .int .i64 s.X.cf.bs, .int .i64 s.X.cf.sl, .slice s.A np s.a, .slice s.B nt s.b, .slice s.C nb s.c], .agg #[(.int .i64 3), .int .i64 qw, .int .i64 qr, .int .i64 qg, .int .i64 qt, .slice Q qn qc, .int .i64 ql, .int .i64 qd]] w1' (RTold (fun k => P k ∧ (k ≠ N ∧ k ≠ w.heap.size)) (doS s.X ⟨3, qw, qr, qg, qt, qs, ql, qd⟩) w1') from by rw [HSM.out, HQM.out]; exact rownS H1'.out HQ1'.out HP1'.out (.inl rfl) HF.out)
   go_wp2_with fail
   refine CC.out.mono ?_
   rintro e w2 ⟨b2, s2, hX2, hS2, rfl⟩
   replace hX2 := Lib.hid hX2
   have HS2 := Lib.hid hS2
   have HR2 := Lib.hid (HR'.out.below b2 lR')
   have HB2 := Lib.hid (HB1'.out.trans (b2.mono HB1'.out.size))
   obtain ⟨r2, hr2⟩ : ∃ z, (doS s.X ⟨3, qw, qr, qg, qt, qs, ql, qd⟩).2 = z := ⟨_, rfl⟩
   obtain ⟨np2, hnp2⟩ : ∃ n, s2.X.ps.length = n := ⟨_, rfl⟩
   obtain ⟨nt2, hnt2⟩ : ∃ n, s2.T.length = n := ⟨_, rfl⟩
   obtain ⟨nb2, hnb2⟩ : ∃ n, s2.X.bs.length = n := ⟨_, rfl⟩
   have HSM2 := Lib.hid (show #[.int .i64 s2.X.cf.ps, .int .i64 s2.X.cf.ts, .int .i64 s2.X.cf.bs, .int .i64 s2.X.cf.sl, .slice s2.A np2 s2.a, .slice s2.B nt2 s2.b, .slice s2.C nb2 s2.c] = smA s2 from by unfold smA; rw [hnp2, hnt2, hnb2])
   rw [← HSM2.out, hr2]
   have HRR := Lib.hid hr2
   have lN2 : N < w2.heap.size := HR2.out.lt
   clear hS2 b2 CC hnp2 hnt2 hnb2 hr2
   have hRW := HR2.out
   have z0 := hRW.cell 0
   have z1 := hRW.cell 1
   have z2 := hRW.cell 2
   have z3 := hRW.cell 3
   have z4 := hRW.cell 4
   have z5 := hRW.cell 5
   have z6 := hRW.cell 6
   have y0 := hRW.free 0
   have y1 := hRW.free 1
   have y2 := hRW.free 2
   have y3 := hRW.free 3
   have y4 := hRW.free 4
   have y5 := hRW.free 5
   have y6 := hRW.free 6
   have lz := hRW.lt
   clear hRW
   go_wp2_with fail
   have hRF := sets7_whole HR2.out (v0 := .int .i64 s2.X.cf.ps) (v1 := .int .i64 s2.X.cf.ts) (v2 := .int .i64 s2.X.cf.bs) (v3 := .int .i64 s2.X.cf.sl) (v4 := .slice s2.A np2 s2.a) (v5 := .slice s2.B nt2 s2.b) (v6 := .slice s2.C nb2 s2.c) rfl
   unfold sets7 at hRF
   have HRF := Lib.hid hRF
   clear hRF
   have rf0 := HRF.out.cell 0
   have rf1 := HRF.out.cell 1
   have rf2 := HRF.out.cell 2
   have rf3 := HRF.out.cell 3
   have rf4 := HRF.out.cell 4
   have rf5 := HRF.out.cell 5
   have rf6 := HRF.out.cell 6
   have BF : Below w.heap.size w (sets7 w2 N (.int .i64 s2.X.cf.ps) (.int .i64 s2.X.cf.ts) (.int .i64 s2.X.cf.bs) (.int .i64 s2.X.cf.sl) (.slice s2.A np2 s2.a) (.slice s2.B nt2 s2.b) (.slice s2.C nb2 s2.c)) := sets7_below HB2.out (by omega)
   have SF : SAt P (sets7 w2 N (.int .i64 s2.X.cf.ps) (.int .i64 s2.X.cf.ts) (.int .i64 s2.X.cf.bs) (.int .i64 s2.X.cf.sl) (.slice s2.A np2 s2.a) (.slice s2.B nt2 s2.b) (.slice s2.C nb2 s2.c)) s2 := sat_weak (sets7_sat HS2.out (fun h => h.2.1 rfl))
   exact bodyPost_ret (v := .tuple #[.agg #[.int .i64 s2.X.cf.ps, .int .i64 s2.X.cf.ts, .int .i64 s2.X.cf.bs, .int .i64 s2.X.cf.sl, .slice s2.A np2 s2.a, .slice s2.B nt2 s2.b, .slice s2.C nb2 s2.c], .int .i64 r2]) (by simp [results, Try.results13, go_sem, rf0, rf1, rf2, rf3, rf4, rf5, rf6]) rfl ⟨BF, s2, hX2.out, SF, by rw [HSM2.out, HRR.out]⟩
 by_cases k4 : qk = 4
 · subst k4
   have k9' : ¬ (9 : Int) < 4 := by omega
   have k0' : ¬ (4 : Int) < 0 := by omega
   have kz' : ¬ (4 : Int) = 0 := by omega
   have CC := Lib.hid (show Calls Try.prog 27 #[.agg #[.int .i64 s.X.cf.ps, .int .i64 s.X.cf.ts, .int .i64 s.X.cf.bs, .int .i64 s.X.cf.sl, .slice s.A np s.a, .slice s.B nt s.b, .slice s.C nb s.c], .agg #[(.int .i64 4), .int .i64 qw, .int .i64 qr, .int .i64 qg, .int .i64 qt, .slice Q qn qc, .int .i64 ql, .int .i64 qd]] w1' (RTold (fun k => P k ∧ (k ≠ N ∧ k ≠ w.heap.size)) (doS s.X ⟨4, qw, qr, qg, qt, qs, ql, qd⟩) w1') from by rw [HSM.out, HQM.out]; exact rownS H1'.out HQ1'.out HP1'.out (.inr rfl) HF.out)
   go_wp2_with fail
   refine CC.out.mono ?_
   rintro e w2 ⟨b2, s2, hX2, hS2, rfl⟩
   replace hX2 := Lib.hid hX2
   have HS2 := Lib.hid hS2
   have HR2 := Lib.hid (HR'.out.below b2 lR')
   have HB2 := Lib.hid (HB1'.out.trans (b2.mono HB1'.out.size))
   obtain ⟨r2, hr2⟩ : ∃ z, (doS s.X ⟨4, qw, qr, qg, qt, qs, ql, qd⟩).2 = z := ⟨_, rfl⟩
   obtain ⟨np2, hnp2⟩ : ∃ n, s2.X.ps.length = n := ⟨_, rfl⟩
   obtain ⟨nt2, hnt2⟩ : ∃ n, s2.T.length = n := ⟨_, rfl⟩
   obtain ⟨nb2, hnb2⟩ : ∃ n, s2.X.bs.length = n := ⟨_, rfl⟩
   have HSM2 := Lib.hid (show #[.int .i64 s2.X.cf.ps, .int .i64 s2.X.cf.ts, .int .i64 s2.X.cf.bs, .int .i64 s2.X.cf.sl, .slice s2.A np2 s2.a, .slice s2.B nt2 s2.b, .slice s2.C nb2 s2.c] = smA s2 from by unfold smA; rw [hnp2, hnt2, hnb2])
   rw [← HSM2.out, hr2]
   have HRR := Lib.hid hr2
   have lN2 : N < w2.heap.size := HR2.out.lt
   clear hS2 b2 CC hnp2 hnt2 hnb2 hr2
   have hRW := HR2.out
   have z0 := hRW.cell 0
   have z1 := hRW.cell 1
   have z2 := hRW.cell 2
   have z3 := hRW.cell 3
   have z4 := hRW.cell 4
   have z5 := hRW.cell 5
   have z6 := hRW.cell 6
   have y0 := hRW.free 0
   have y1 := hRW.free 1
   have y2 := hRW.free 2
   have y3 := hRW.free 3
   have y4 := hRW.free 4
   have y5 := hRW.free 5
   have y6 := hRW.free 6
   have lz := hRW.lt
   clear hRW
   go_wp2_with fail
   have hRF := sets7_whole HR2.out (v0 := .int .i64 s2.X.cf.ps) (v1 := .int .i64 s2.X.cf.ts) (v2 := .int .i64 s2.X.cf.bs) (v3 := .int .i64 s2.X.cf.sl) (v4 := .slice s2.A np2 s2.a) (v5 := .slice s2.B nt2 s2.b) (v6 := .slice s2.C nb2 s2.c) rfl
   unfold sets7 at hRF
   have HRF := Lib.hid hRF
   clear hRF
   have rf0 := HRF.out.cell 0
   have rf1 := HRF.out.cell 1
   have rf2 := HRF.out.cell 2
   have rf3 := HRF.out.cell 3
   have rf4 := HRF.out.cell 4
   have rf5 := HRF.out.cell 5
   have rf6 := HRF.out.cell 6
   have BF : Below w.heap.size w (sets7 w2 N (.int .i64 s2.X.cf.ps) (.int .i64 s2.X.cf.ts) (.int .i64 s2.X.cf.bs) (.int .i64 s2.X.cf.sl) (.slice s2.A np2 s2.a) (.slice s2.B nt2 s2.b) (.slice s2.C nb2 s2.c)) := sets7_below HB2.out (by omega)
   have SF : SAt P (sets7 w2 N (.int .i64 s2.X.cf.ps) (.int .i64 s2.X.cf.ts) (.int .i64 s2.X.cf.bs) (.int .i64 s2.X.cf.sl) (.slice s2.A np2 s2.a) (.slice s2.B nt2 s2.b) (.slice s2.C nb2 s2.c)) s2 := sat_weak (sets7_sat HS2.out (fun h => h.2.1 rfl))
   exact bodyPost_ret (v := .tuple #[.agg #[.int .i64 s2.X.cf.ps, .int .i64 s2.X.cf.ts, .int .i64 s2.X.cf.bs, .int .i64 s2.X.cf.sl, .slice s2.A np2 s2.a, .slice s2.B nt2 s2.b, .slice s2.C nb2 s2.c], .int .i64 r2]) (by simp [results, Try.results13, go_sem, rf0, rf1, rf2, rf3, rf4, rf5, rf6]) rfl ⟨BF, s2, hX2.out, SF, by rw [HSM2.out, HRR.out]⟩
 by_cases k5 : qk = 5
 · subst k5
   have k9' : ¬ (9 : Int) < 5 := by omega
   have k0' : ¬ (5 : Int) < 0 := by omega
   have kz' : ¬ (5 : Int) = 0 := by omega
   have CC := Lib.hid (show Calls Try.prog 28 #[.agg #[.int .i64 s.X.cf.ps, .int .i64 s.X.cf.ts, .int .i64 s.X.cf.bs, .int .i64 s.X.cf.sl, .slice s.A np s.a, .slice s.B nt s.b, .slice s.C nb s.c], .agg #[(.int .i64 5), .int .i64 qw, .int .i64 qr, .int .i64 qg, .int .i64 qt, .slice Q qn qc, .int .i64 ql, .int .i64 qd]] w1' (RTold (fun k => P k ∧ (k ≠ N ∧ k ≠ w.heap.size)) (doS s.X ⟨5, qw, qr, qg, qt, qs, ql, qd⟩) w1') from by rw [HSM.out, HQM.out]; exact rsubscribeS H1'.out HQ1'.out HP1'.out rfl HF.out)
   go_wp2_with fail
   refine CC.out.mono ?_
   rintro e w2 ⟨b2, s2, hX2, hS2, rfl⟩
   replace hX2 := Lib.hid hX2
   have HS2 := Lib.hid hS2
   have HR2 := Lib.hid (HR'.out.below b2 lR')
   have HB2 := Lib.hid (HB1'.out.trans (b2.mono HB1'.out.size))
   obtain ⟨r2, hr2⟩ : ∃ z, (doS s.X ⟨5, qw, qr, qg, qt, qs, ql, qd⟩).2 = z := ⟨_, rfl⟩
   obtain ⟨np2, hnp2⟩ : ∃ n, s2.X.ps.length = n := ⟨_, rfl⟩
   obtain ⟨nt2, hnt2⟩ : ∃ n, s2.T.length = n := ⟨_, rfl⟩
   obtain ⟨nb2, hnb2⟩ : ∃ n, s2.X.bs.length = n := ⟨_, rfl⟩
   have HSM2 := Lib.hid (show #[.int .i64 s2.X.cf.ps, .int .i64 s2.X.cf.ts, .int .i64 s2.X.cf.bs, .int .i64 s2.X.cf.sl, .slice s2.A np2 s2.a, .slice s2.B nt2 s2.b, .slice s2.C nb2 s2.c] = smA s2 from by unfold smA; rw [hnp2, hnt2, hnb2])
   rw [← HSM2.out, hr2]
   have HRR := Lib.hid hr2
   have lN2 : N < w2.heap.size := HR2.out.lt
   clear hS2 b2 CC hnp2 hnt2 hnb2 hr2
   have hRW := HR2.out
   have z0 := hRW.cell 0
   have z1 := hRW.cell 1
   have z2 := hRW.cell 2
   have z3 := hRW.cell 3
   have z4 := hRW.cell 4
   have z5 := hRW.cell 5
   have z6 := hRW.cell 6
   have y0 := hRW.free 0
   have y1 := hRW.free 1
   have y2 := hRW.free 2
   have y3 := hRW.free 3
   have y4 := hRW.free 4
   have y5 := hRW.free 5
   have y6 := hRW.free 6
   have lz := hRW.lt
   clear hRW
   go_wp2_with fail
   have hRF := sets7_whole HR2.out (v0 := .int .i64 s2.X.cf.ps) (v1 := .int .i64 s2.X.cf.ts) (v2 := .int .i64 s2.X.cf.bs) (v3 := .int .i64 s2.X.cf.sl) (v4 := .slice s2.A np2 s2.a) (v5 := .slice s2.B nt2 s2.b) (v6 := .slice s2.C nb2 s2.c) rfl
   unfold sets7 at hRF
   have HRF := Lib.hid hRF
   clear hRF
   have rf0 := HRF.out.cell 0
   have rf1 := HRF.out.cell 1
   have rf2 := HRF.out.cell 2
   have rf3 := HRF.out.cell 3
   have rf4 := HRF.out.cell 4
   have rf5 := HRF.out.cell 5
   have rf6 := HRF.out.cell 6
   have BF : Below w.heap.size w (sets7 w2 N (.int .i64 s2.X.cf.ps) (.int .i64 s2.X.cf.ts) (.int .i64 s2.X.cf.bs) (.int .i64 s2.X.cf.sl) (.slice s2.A np2 s2.a) (.slice s2.B nt2 s2.b) (.slice s2.C nb2 s2.c)) := sets7_below HB2.out (by omega)
   have SF : SAt P (sets7 w2 N (.int .i64 s2.X.cf.ps) (.int .i64 s2.X.cf.ts) (.int .i64 s2.X.cf.bs) (.int .i64 s2.X.cf.sl) (.slice s2.A np2 s2.a) (.slice s2.B nt2 s2.b) (.slice s2.C nb2 s2.c)) s2 := sat_weak (sets7_sat HS2.out (fun h => h.2.1 rfl))
   exact bodyPost_ret (v := .tuple #[.agg #[.int .i64 s2.X.cf.ps, .int .i64 s2.X.cf.ts, .int .i64 s2.X.cf.bs, .int .i64 s2.X.cf.sl, .slice s2.A np2 s2.a, .slice s2.B nt2 s2.b, .slice s2.C nb2 s2.c], .int .i64 r2]) (by simp [results, Try.results13, go_sem, rf0, rf1, rf2, rf3, rf4, rf5, rf6]) rfl ⟨BF, s2, hX2.out, SF, by rw [HSM2.out, HRR.out]⟩
 have CC := Lib.hid (show Calls Try.prog 29 #[.agg #[.int .i64 s.X.cf.ps, .int .i64 s.X.cf.ts, .int .i64 s.X.cf.bs, .int .i64 s.X.cf.sl, .slice s.A np s.a, .slice s.B nt s.b, .slice s.C nb s.c], .agg #[.int .i64 qk, .int .i64 qw, .int .i64 qr, .int .i64 qg, .int .i64 qt, .slice Q qn qc, .int .i64 ql, .int .i64 qd]] w1' (RTold (fun k => P k ∧ (k ≠ N ∧ k ≠ w.heap.size)) (doS s.X ⟨qk, qw, qr, qg, qt, qs, ql, qd⟩) w1') from by rw [HSM.out, HQM.out]; exact rchangeS H1'.out HQ1'.out HP1'.out (by dsimp only; omega) HF.out)
 go_wp2_with fail
 refine CC.out.mono ?_
 rintro e w2 ⟨b2, s2, hX2, hS2, rfl⟩
 replace hX2 := Lib.hid hX2
 have HS2 := Lib.hid hS2
 have HR2 := Lib.hid (HR'.out.below b2 lR')
 have HB2 := Lib.hid (HB1'.out.trans (b2.mono HB1'.out.size))
 obtain ⟨r2, hr2⟩ : ∃ z, (doS s.X ⟨qk, qw, qr, qg, qt, qs, ql, qd⟩).2 = z := ⟨_, rfl⟩
 obtain ⟨np2, hnp2⟩ : ∃ n, s2.X.ps.length = n := ⟨_, rfl⟩
 obtain ⟨nt2, hnt2⟩ : ∃ n, s2.T.length = n := ⟨_, rfl⟩
 obtain ⟨nb2, hnb2⟩ : ∃ n, s2.X.bs.length = n := ⟨_, rfl⟩
 have HSM2 := Lib.hid (show #[.int .i64 s2.X.cf.ps, .int .i64 s2.X.cf.ts, .int .i64 s2.X.cf.bs, .int .i64 s2.X.cf.sl, .slice s2.A np2 s2.a, .slice s2.B nt2 s2.b, .slice s2.C nb2 s2.c] = smA s2 from by unfold smA; rw [hnp2, hnt2, hnb2])
 rw [← HSM2.out, hr2]
 have HRR := Lib.hid hr2
 have lN2 : N < w2.heap.size := HR2.out.lt
 clear hS2 b2 CC hnp2 hnt2 hnb2 hr2
 have hRW := HR2.out
 have z0 := hRW.cell 0
 have z1 := hRW.cell 1
 have z2 := hRW.cell 2
 have z3 := hRW.cell 3
 have z4 := hRW.cell 4
 have z5 := hRW.cell 5
 have z6 := hRW.cell 6
 have y0 := hRW.free 0
 have y1 := hRW.free 1
 have y2 := hRW.free 2
 have y3 := hRW.free 3
 have y4 := hRW.free 4
 have y5 := hRW.free 5
 have y6 := hRW.free 6
 have lz := hRW.lt
 clear hRW
 go_wp2_with fail
 have hRF := sets7_whole HR2.out (v0 := .int .i64 s2.X.cf.ps) (v1 := .int .i64 s2.X.cf.ts) (v2 := .int .i64 s2.X.cf.bs) (v3 := .int .i64 s2.X.cf.sl) (v4 := .slice s2.A np2 s2.a) (v5 := .slice s2.B nt2 s2.b) (v6 := .slice s2.C nb2 s2.c) rfl
 unfold sets7 at hRF
 have HRF := Lib.hid hRF
 clear hRF
 have rf0 := HRF.out.cell 0
 have rf1 := HRF.out.cell 1
 have rf2 := HRF.out.cell 2
 have rf3 := HRF.out.cell 3
 have rf4 := HRF.out.cell 4
 have rf5 := HRF.out.cell 5
 have rf6 := HRF.out.cell 6
 have BF : Below w.heap.size w (sets7 w2 N (.int .i64 s2.X.cf.ps) (.int .i64 s2.X.cf.ts) (.int .i64 s2.X.cf.bs) (.int .i64 s2.X.cf.sl) (.slice s2.A np2 s2.a) (.slice s2.B nt2 s2.b) (.slice s2.C nb2 s2.c)) := sets7_below HB2.out (by omega)
 have SF : SAt P (sets7 w2 N (.int .i64 s2.X.cf.ps) (.int .i64 s2.X.cf.ts) (.int .i64 s2.X.cf.bs) (.int .i64 s2.X.cf.sl) (.slice s2.A np2 s2.a) (.slice s2.B nt2 s2.b) (.slice s2.C nb2 s2.c)) s2 := sat_weak (sets7_sat HS2.out (fun h => h.2.1 rfl))
 exact bodyPost_ret (v := .tuple #[.agg #[.int .i64 s2.X.cf.ps, .int .i64 s2.X.cf.ts, .int .i64 s2.X.cf.bs, .int .i64 s2.X.cf.sl, .slice s2.A np2 s2.a, .slice s2.B nt2 s2.b, .slice s2.C nb2 s2.c], .int .i64 r2]) (by simp [results, Try.results13, go_sem, rf0, rf1, rf2, rf3, rf4, rf5, rf6]) rfl ⟨BF, s2, hX2.out, SF, by rw [HSM2.out, HRR.out]⟩
end Go.Proofs.Ytmmeceehfdbdoaa
