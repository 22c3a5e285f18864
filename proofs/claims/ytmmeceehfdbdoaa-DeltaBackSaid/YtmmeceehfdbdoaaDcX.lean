/-
 Package delta: do, at the copy.
-/
import Derived.Conc.WalkWords
import Derived.Test.YtmmeceehfdbdoaaDcMv
import Derived.Test.YtmmeceehfdbdoaaDcMw
import Derived.Test.YtmmeceehfdbdoaaDcMu
import Derived.Test.YtmmeceehfdbdoaaDcMp
import Derived.Test.YtmmeceehfdbdoaaDcMs
namespace Go.Proofs.Ytmmeceehfdbdoaa
open Go.RowKit
open Dl
set_option linter.unusedSimpArgs false
set_option linter.unusedVariables false
set_option maxRecDepth 100000
@[go_sem] theorem run_store_func (P : Program) (w : World) (a : Addr) (f : Fn) (r c : Array Value) (m : Mode) : (store a (.func f r c) m).run P w = match w.cell? a with
 | some _ => if w.frozen? a then .halt (.unsupported (.unsafePointer "a write to bytes that a string shares")) w else .ok () (w.setCell a (.func f r c))
 | none => match w.farStore P a (.func f r c) (m == .atomic) with
  | .ok (w', _) => .ok () w'
  | .error h => .halt h w := run_store P w a _ m rfl
theorem of_drewB {S : Nat → Prop} {w w' : World} (h : But S w.drew w') : But S w w' := ⟨h.os, h.tape, h.output, h.size, h.block⟩

set_option maxHeartbeats 6400000 in
theorem ddo (base g : Nat) (s : Sm) (q : Rq) (Q : Option Addr) (qc : Nat) (w : World) (h : Nx base w g s) (hI : Inv s.X) (hbase : base ≤ w.heap.size) (hqr : Row w base 1 Q q.ss.length (n32 q.ss)) (hql : q.ss.length ≤ 4096) (hqc : q.ss.length ≤ qc) (hqu : ∀ x ∈ q.ss, 0 ≤ x) :
 Calls Try.prog 22 #[.pointer (some ⟨g, 0, none⟩), .agg (reqA q Q q.ss.length qc)] w (MOut base g (doS s.X q) w) := by
 obtain ⟨qk, qw, qr, qg, qt, qs, ql, qd⟩ := q
 unfold reqA MOut
 dsimp only
 obtain ⟨qn, hqn⟩ : ∃ n, qs.length = n := ⟨_, rfl⟩
 rw [hqn]
 obtain ⟨w1, hw1⟩ : ∃ z, z = w.alloc (.cells #[.int .i64 qk, .int .i64 qw, .int .i64 qr, .int .i64 qg, .int .i64 qt, .slice Q qn qc, .int .i64 ql, .int .i64 qd] 45) := ⟨_, rfl⟩
 have b1 : Below w.heap.size w w1 := by rw [hw1]; exact (Below.refl _ _).alloc (Nat.le_refl _) _
 have hq : Whole w1 w.heap.size 45 #[.int .i64 qk, .int .i64 qw, .int .i64 qr, .int .i64 qg, .int .i64 qt, .slice Q qn qc, .int .i64 ql, .int .i64 qd] := by rw [hw1]; exact Whole.new w _ _
 have h1 := h.next b1
 have lg := h.at'.lt
 have lg1 := h1.at'.lt
 have lq := hq.lt
 have gq : g ≠ w.heap.size := by omega
 have hg := h1.at'
 obtain ⟨np, hnp⟩ : ∃ n, s.X.ps.length = n := ⟨_, rfl⟩
 obtain ⟨nt, hnt⟩ : ∃ n, s.T.length = n := ⟨_, rfl⟩
 obtain ⟨nb, hnb⟩ : ∃ n, s.X.bs.length = n := ⟨_, rfl⟩
 unfold smA at hg
 simp only [hnp, hnt, hnb] at hg
 have HNP := Lib.hid hnp
 have HNT := Lib.hid hnt
 have HNB := Lib.hid hnb
 have HQN := Lib.hid hqn
 have HG := Lib.hid hg
 have HQ := Lib.hid hq
 have HX := Lib.hid h1
 have HD := Lib.hid h1.rd
 have HB1 := Lib.hid (Below.refl w1.heap.size w1)
 have HBW := Lib.hid (show But (fun k => base ≤ k) w w1 from but_of_below b1)
 have HI := Lib.hid hI
 have hb1 : base ≤ w1.heap.size := Nat.le_trans hbase b1.size
 have hsm := h.r.small
 rw [hnp, hnt, hnb] at hsm
 have HQR := Lib.hid hqr
 have HU := Lib.hid hqu
 have BW1 := Lib.hid b1
 rw [hqn] at HQR hql hqc
 clear hqr hqu
 clear h h1 hq hg b1 hI hnp hnt hnb hqn
 obtain ⟨w2, hw2⟩ : ∃ z, z = w1.alloc (.cells #[.func (.func 39) #[.pointer (some ⟨g, 0, none⟩)] #[], .func (.func 40) #[.pointer (some ⟨g, 0, none⟩)] #[], .func (.func 41) #[.pointer (some ⟨g, 0, none⟩)] #[], .func (.func 42) #[.pointer (some ⟨g, 0, none⟩)] #[], .func (.func 43) #[.pointer (some ⟨g, 0, none⟩)] #[], .func (.func 44) #[.pointer (some ⟨g, 0, none⟩)] #[], .func (.func 45) #[.pointer (some ⟨g, 0, none⟩)] #[], .func (.func 46) #[.pointer (some ⟨g, 0, none⟩)] #[], .func (.func 47) #[.pointer (some ⟨g, 0, none⟩)] #[], .func (.func 48) #[.pointer (some ⟨g, 0, none⟩)] #[]] 84) := ⟨_, rfl⟩
 have b2 : Below w1.heap.size w1 w2 := by rw [hw2]; exact (Below.refl _ _).alloc (Nat.le_refl _) _
 have hArr : Whole w2 w1.heap.size 84 #[.func (.func 39) #[.pointer (some ⟨g, 0, none⟩)] #[], .func (.func 40) #[.pointer (some ⟨g, 0, none⟩)] #[], .func (.func 41) #[.pointer (some ⟨g, 0, none⟩)] #[], .func (.func 42) #[.pointer (some ⟨g, 0, none⟩)] #[], .func (.func 43) #[.pointer (some ⟨g, 0, none⟩)] #[], .func (.func 44) #[.pointer (some ⟨g, 0, none⟩)] #[], .func (.func 45) #[.pointer (some ⟨g, 0, none⟩)] #[], .func (.func 46) #[.pointer (some ⟨g, 0, none⟩)] #[], .func (.func 47) #[.pointer (some ⟨g, 0, none⟩)] #[], .func (.func 48) #[.pointer (some ⟨g, 0, none⟩)] #[]] := by rw [hw2]; exact Whole.new w1 _ _
 have HB2 := Lib.hid b2
 have HA := Lib.hid hArr
 have lA := hArr.lt
 clear b2 hArr
 by_cases hr : qk < 0 ∨ 9 < qk
 · have hr2 : qk < 0 ∨ ¬ qk < 0 ∧ 10 ≤ qk := by omega
   rcases hr2 with hr2 | ⟨hr3, hr2⟩
   · skip
     go_enter Try.func22, Try.ntmps22
     go_upto_region 1 with fail
     rw [← hw1]
     clear hw1
     go_upto_region 2 with fail
     rw [← hw2]
     clear hw2
     have q0 : w2.cell? ⟨w.heap.size, 0, none⟩ = some (.int .i64 qk) := ((HQ.out.below HB2.out lq).cell 0).trans rfl
     have HF := Lib.hid (show (doS s.X (⟨qk, qw, qr, qg, qt, qs, ql, qd⟩ : Rq)).2 = 1 by unfold doS; dsimp only; rw [if_pos (by omega)])
     go_wp2_with fail
     go_ret
     exact ⟨by rw [HF.out]; rfl, HBW.out.trans (but_of_below HB2.out), fun h => by rw [HF.out] at h; cases h⟩
   · skip
     go_enter Try.func22, Try.ntmps22
     go_upto_region 1 with fail
     rw [← hw1]
     clear hw1
     go_upto_region 2 with fail
     rw [← hw2]
     clear hw2
     have q0 : w2.cell? ⟨w.heap.size, 0, none⟩ = some (.int .i64 qk) := ((HQ.out.below HB2.out lq).cell 0).trans rfl
     have HF := Lib.hid (show (doS s.X (⟨qk, qw, qr, qg, qt, qs, ql, qd⟩ : Rq)).2 = 1 by unfold doS; dsimp only; rw [if_pos (by omega)])
     go_wp2_with fail
     go_ret
     exact ⟨by rw [HF.out]; rfl, HBW.out.trans (but_of_below HB2.out), fun h => by rw [HF.out] at h; cases h⟩
 have hr0 : ¬ qk < 0 := by omega
 have hr9 : ¬ 10 ≤ qk := by omega
 by_cases h0 : qk = 0
 · subst h0
   go_enter Try.func22, Try.ntmps22
   go_upto_region 1 with fail
   rw [← hw1]
   clear hw1
   go_upto_region 2 with fail
   rw [← hw2]
   clear hw2
   have q0 : w2.cell? ⟨w.heap.size, 0, none⟩ = some (.int .i64 0) := ((HQ.out.below HB2.out lq).cell 0).trans rfl
   have q1 : w2.cell? ⟨w.heap.size, 1, none⟩ = some (.int .i64 qw) := ((HQ.out.below HB2.out lq).cell 1).trans rfl
   have q2 : w2.cell? ⟨w.heap.size, 2, none⟩ = some (.int .i64 qr) := ((HQ.out.below HB2.out lq).cell 2).trans rfl
   have q3 : w2.cell? ⟨w.heap.size, 3, none⟩ = some (.int .i64 qg) := ((HQ.out.below HB2.out lq).cell 3).trans rfl
   have q4 : w2.cell? ⟨w.heap.size, 4, none⟩ = some (.int .i64 qt) := ((HQ.out.below HB2.out lq).cell 4).trans rfl
   have q5 : w2.cell? ⟨w.heap.size, 5, none⟩ = some (.slice Q qn qc) := ((HQ.out.below HB2.out lq).cell 5).trans rfl
   have q6 : w2.cell? ⟨w.heap.size, 6, none⟩ = some (.int .i64 ql) := ((HQ.out.below HB2.out lq).cell 6).trans rfl
   have q7 : w2.cell? ⟨w.heap.size, 7, none⟩ = some (.int .i64 qd) := ((HQ.out.below HB2.out lq).cell 7).trans rfl
   go_upto_region 6 with fail
   have KS := Lib.hid (show (fun w' => w'.cell? ⟨w.heap.size, 0, none⟩ = some (.int .i64 0) ∧ w'.cell? ⟨w.heap.size, 1, none⟩ = some (.int .i64 qw) ∧ w'.cell? ⟨w.heap.size, 2, none⟩ = some (.int .i64 qr) ∧ w'.cell? ⟨w.heap.size, 3, none⟩ = some (.int .i64 qg) ∧ w'.cell? ⟨w.heap.size, 4, none⟩ = some (.int .i64 qt) ∧ w'.cell? ⟨w.heap.size, 5, none⟩ = some (.slice Q qn qc) ∧ w'.cell? ⟨w.heap.size, 6, none⟩ = some (.int .i64 ql) ∧ w'.cell? ⟨w.heap.size, 7, none⟩ = some (.int .i64 qd) ∧ w'.cell? ⟨w1.heap.size, 0, none⟩ = some (.func (.func 39) #[.pointer (some ⟨g, 0, none⟩)] #[])) w2 from ⟨((HQ.out.below HB2.out lq).cell 0).trans rfl, ((HQ.out.below HB2.out lq).cell 1).trans rfl, ((HQ.out.below HB2.out lq).cell 2).trans rfl, ((HQ.out.below HB2.out lq).cell 3).trans rfl, ((HQ.out.below HB2.out lq).cell 4).trans rfl, ((HQ.out.below HB2.out lq).cell 5).trans rfl, ((HQ.out.below HB2.out lq).cell 6).trans rfl, ((HQ.out.below HB2.out lq).cell 7).trans rfl, ((HA.out.below (Below.refl _ _) lA).cell 0).trans rfl⟩)
   have lqo := (HQ.out.below HB2.out lq).lt
   have lAo := (HA.out.below (Below.refl _ _) lA).lt
   have CC := Lib.hid (djoin base g s (⟨0, qw, qr, qg, qt, qs, ql, qd⟩ : Rq) Q qc w2.drew ((HX.out.next HB2.out).next (Below.refl _ _).drew) HI.out (Nat.le_trans hb1 (HB2.out).size))
   unfold reqA MOut at CC
   dsimp only at CC
   rw [HQN.out] at CC
   refine wp_region_X (S := fun w' => w'.cell? ⟨w.heap.size, 0, none⟩ = some (.int .i64 0) ∧ w'.cell? ⟨w.heap.size, 1, none⟩ = some (.int .i64 qw) ∧ w'.cell? ⟨w.heap.size, 2, none⟩ = some (.int .i64 qr) ∧ w'.cell? ⟨w.heap.size, 3, none⟩ = some (.int .i64 qg) ∧ w'.cell? ⟨w.heap.size, 4, none⟩ = some (.int .i64 qt) ∧ w'.cell? ⟨w.heap.size, 5, none⟩ = some (.slice Q qn qc) ∧ w'.cell? ⟨w.heap.size, 6, none⟩ = some (.int .i64 ql) ∧ w'.cell? ⟨w.heap.size, 7, none⟩ = some (.int .i64 qd) ∧ w'.cell? ⟨w1.heap.size, 0, none⟩ = some (.func (.func 39) #[.pointer (some ⟨g, 0, none⟩)] #[])) [5, 6] (by kernel_rfl) KS.out (fun hHeld0 => ?_)
   refine tk (i := 0) [1, 2, 3, 5, 6] (v := ?_) ?_ ?_
   rotate_left 1
   · (intro w hSw; obtain ⟨m0, m1, m2, m3, m4, m5, m6, m7, m8⟩ := hSw; go_simp; try (with_reducible rfl))
   (try walk_nrm)
   refine tk (i := 1) [2, 3, 5, 6] (v := ?_) ?_ ?_
   rotate_left 1
   · (intro w hSw; obtain ⟨m0, m1, m2, m3, m4, m5, m6, m7, m8⟩ := hSw; go_simp; try (with_reducible rfl))
   (try walk_nrm)
   refine tk (i := 2) [3, 5, 6] (v := ?_) ?_ ?_
   rotate_left 1
   · (intro w hSw; obtain ⟨m0, m1, m2, m3, m4, m5, m6, m7, m8⟩ := hSw; go_simp; try (with_reducible rfl))
   (try walk_nrm)
   refine tk (i := 3) [5, 6] (v := ?_) ?_ ?_
   rotate_left 1
   · (intro w hSw; obtain ⟨m0, m1, m2, m3, m4, m5, m6, m7, m8⟩ := hSw; go_simp; try (with_reducible rfl))
   (try walk_nrm)
   refine tk (i := 4) [5, 6] (v := ?_) ?_ ?_
   rotate_left 1
   · (intro w hSw; obtain ⟨m0, m1, m2, m3, m4, m5, m6, m7, m8⟩ := hSw; go_simp; try (with_reducible rfl))
   (try walk_nrm)
   refine wpAnyX_one 5 (by kernel_rfl) rfl (fun K hK => ?_)
   go_simp
   go_wp2_with (refine (CC.out).mono ?_; rintro e v1 ⟨rfl, k1, t1⟩)
   refine hK.out _ _ (.inl (by decide)) ?_
   clear hK K
   (try walk_nrm)
   refine wpAnyX_one 6 (by kernel_rfl) rfl (fun K hK => ?_)
   go_simp
   refine hK.out _ _ (.inl (by decide)) ?_
   clear hK K
   (try walk_nrm)
   refine wpAnyX_done (by kernel_rfl) ?_ _
   have HJ := Lib.hid (show doS s.X (⟨0, qw, qr, qg, qt, qs, ql, qd⟩ : Rq) = joinS s.X (⟨0, qw, qr, qg, qt, qs, ql, qd⟩ : Rq) by unfold doS; dsimp only; rw [if_neg (by omega), if_pos rfl])
   have HF := Lib.hid (And.intro (But.trans (HBW.out.trans (but_of_below HB2.out)) (of_drewB k1)) (fun h => (show Turned base g _ w v1 from by obtain ⟨s', e1, e2, e3⟩ := t1 h; exact ⟨s', e1, e2, But.trans (HBW.out.trans (but_of_below HB2.out)) (of_drewB e3)⟩)))
   clear k1 t1 CC KS hHeld0 HG HD HQ HX HA
   go_wp2_with fail
   go_ret
   exact ⟨by rw [HJ.out]; rfl, HF.out.1, fun h => by rw [HJ.out] at h ⊢; exact HF.out.2 h⟩
 cases hp : s.X.ps.find? (isP qw) with
 | none =>
  go_enter Try.func22, Try.ntmps22
  go_upto_region 1 with fail
  rw [← hw1]
  clear hw1
  go_upto_region 2 with fail
  rw [← hw2]
  clear hw2
  have q0 : w2.cell? ⟨w.heap.size, 0, none⟩ = some (.int .i64 qk) := ((HQ.out.below HB2.out lq).cell 0).trans rfl
  have q1 : w2.cell? ⟨w.heap.size, 1, none⟩ = some (.int .i64 qw) := ((HQ.out.below HB2.out lq).cell 1).trans rfl
  go_wp2_with fail
  refine (dperson_no hp g w2 (HD.out.next HB2.out)).mono ?_
  rintro e w3 ⟨rfl, b3⟩
  have HB3 := Lib.hid (HB2.out.trans (b3.mono (HB2.out).size))
  clear b3
  clear q0 q1
  have HF := Lib.hid (show (doS s.X (⟨qk, qw, qr, qg, qt, qs, ql, qd⟩ : Rq)).2 = 21 by unfold doS; dsimp only; rw [if_neg (by omega), if_neg h0, hp])
  go_wp2_with fail
  go_ret
  exact ⟨by rw [HF.out]; rfl, HBW.out.trans (but_of_below HB3.out), fun h => by rw [HF.out] at h; cases h⟩
 | some p =>
  have HP := Lib.hid hp
  have hk : qk = 1 ∨ qk = 2 ∨ qk = 3 ∨ qk = 4 ∨ qk = 5 ∨ qk = 6 ∨ qk = 7 ∨ qk = 8 ∨ qk = 9 := by omega
  clear hp hr hr0 hr9 h0
  rcases hk with rfl | rfl | rfl | rfl | rfl | rfl | rfl | rfl | rfl
  · skip
    go_enter Try.func22, Try.ntmps22
    go_upto_region 1 with fail
    rw [← hw1]
    clear hw1
    go_upto_region 2 with fail
    rw [← hw2]
    clear hw2
    have q0 : w2.cell? ⟨w.heap.size, 0, none⟩ = some (.int .i64 1) := ((HQ.out.below HB2.out lq).cell 0).trans rfl
    have q1 : w2.cell? ⟨w.heap.size, 1, none⟩ = some (.int .i64 qw) := ((HQ.out.below HB2.out lq).cell 1).trans rfl
    go_wp2_with fail
    refine (dperson_yes HP.out g w2 (HD.out.next HB2.out)).mono ?_
    rintro e w3 ⟨⟨gB, o, i, rfl, -, -, -, -⟩, b3⟩
    have HB3 := Lib.hid (HB2.out.trans (b3.mono (HB2.out).size))
    have HB3A := Lib.hid b3
    clear b3
    clear q0 q1
    have q0 : w3.cell? ⟨w.heap.size, 0, none⟩ = some (.int .i64 1) := ((HQ.out.below HB3.out lq).cell 0).trans rfl
    have q1 : w3.cell? ⟨w.heap.size, 1, none⟩ = some (.int .i64 qw) := ((HQ.out.below HB3.out lq).cell 1).trans rfl
    have q2 : w3.cell? ⟨w.heap.size, 2, none⟩ = some (.int .i64 qr) := ((HQ.out.below HB3.out lq).cell 2).trans rfl
    have q3 : w3.cell? ⟨w.heap.size, 3, none⟩ = some (.int .i64 qg) := ((HQ.out.below HB3.out lq).cell 3).trans rfl
    have q4 : w3.cell? ⟨w.heap.size, 4, none⟩ = some (.int .i64 qt) := ((HQ.out.below HB3.out lq).cell 4).trans rfl
    have q5 : w3.cell? ⟨w.heap.size, 5, none⟩ = some (.slice Q qn qc) := ((HQ.out.below HB3.out lq).cell 5).trans rfl
    have q6 : w3.cell? ⟨w.heap.size, 6, none⟩ = some (.int .i64 ql) := ((HQ.out.below HB3.out lq).cell 6).trans rfl
    have q7 : w3.cell? ⟨w.heap.size, 7, none⟩ = some (.int .i64 qd) := ((HQ.out.below HB3.out lq).cell 7).trans rfl
    go_upto_region 6 with fail
    have KS := Lib.hid (show (fun w' => w'.cell? ⟨w.heap.size, 0, none⟩ = some (.int .i64 1) ∧ w'.cell? ⟨w.heap.size, 1, none⟩ = some (.int .i64 qw) ∧ w'.cell? ⟨w.heap.size, 2, none⟩ = some (.int .i64 qr) ∧ w'.cell? ⟨w.heap.size, 3, none⟩ = some (.int .i64 qg) ∧ w'.cell? ⟨w.heap.size, 4, none⟩ = some (.int .i64 qt) ∧ w'.cell? ⟨w.heap.size, 5, none⟩ = some (.slice Q qn qc) ∧ w'.cell? ⟨w.heap.size, 6, none⟩ = some (.int .i64 ql) ∧ w'.cell? ⟨w.heap.size, 7, none⟩ = some (.int .i64 qd) ∧ w'.cell? ⟨w1.heap.size, 1, none⟩ = some (.func (.func 40) #[.pointer (some ⟨g, 0, none⟩)] #[])) w3 from ⟨((HQ.out.below HB3.out lq).cell 0).trans rfl, ((HQ.out.below HB3.out lq).cell 1).trans rfl, ((HQ.out.below HB3.out lq).cell 2).trans rfl, ((HQ.out.below HB3.out lq).cell 3).trans rfl, ((HQ.out.below HB3.out lq).cell 4).trans rfl, ((HQ.out.below HB3.out lq).cell 5).trans rfl, ((HQ.out.below HB3.out lq).cell 6).trans rfl, ((HQ.out.below HB3.out lq).cell 7).trans rfl, ((HA.out.below (HB3A.out) lA).cell 1).trans rfl⟩)
    have lqo := (HQ.out.below HB3.out lq).lt
    have lAo := (HA.out.below (HB3A.out) lA).lt
    have CC := Lib.hid (dleave base g s (⟨1, qw, qr, qg, qt, qs, ql, qd⟩ : Rq) Q qc w3.drew ((HX.out.next HB3.out).next (Below.refl _ _).drew) HI.out (Nat.le_trans hb1 (HB3.out).size))
    unfold reqA MOut at CC
    dsimp only at CC
    rw [HQN.out] at CC
    refine wp_region_X (S := fun w' => w'.cell? ⟨w.heap.size, 0, none⟩ = some (.int .i64 1) ∧ w'.cell? ⟨w.heap.size, 1, none⟩ = some (.int .i64 qw) ∧ w'.cell? ⟨w.heap.size, 2, none⟩ = some (.int .i64 qr) ∧ w'.cell? ⟨w.heap.size, 3, none⟩ = some (.int .i64 qg) ∧ w'.cell? ⟨w.heap.size, 4, none⟩ = some (.int .i64 qt) ∧ w'.cell? ⟨w.heap.size, 5, none⟩ = some (.slice Q qn qc) ∧ w'.cell? ⟨w.heap.size, 6, none⟩ = some (.int .i64 ql) ∧ w'.cell? ⟨w.heap.size, 7, none⟩ = some (.int .i64 qd) ∧ w'.cell? ⟨w1.heap.size, 1, none⟩ = some (.func (.func 40) #[.pointer (some ⟨g, 0, none⟩)] #[])) [5, 6] (by kernel_rfl) KS.out (fun hHeld0 => ?_)
    refine tk (i := 0) [1, 2, 3, 5, 6] (v := ?_) ?_ ?_
    rotate_left 1
    · (intro w hSw; obtain ⟨m0, m1, m2, m3, m4, m5, m6, m7, m8⟩ := hSw; go_simp; try (with_reducible rfl))
    (try walk_nrm)
    refine tk (i := 1) [2, 3, 5, 6] (v := ?_) ?_ ?_
    rotate_left 1
    · (intro w hSw; obtain ⟨m0, m1, m2, m3, m4, m5, m6, m7, m8⟩ := hSw; go_simp; try (with_reducible rfl))
    (try walk_nrm)
    refine tk (i := 2) [3, 5, 6] (v := ?_) ?_ ?_
    rotate_left 1
    · (intro w hSw; obtain ⟨m0, m1, m2, m3, m4, m5, m6, m7, m8⟩ := hSw; go_simp; try (with_reducible rfl))
    (try walk_nrm)
    refine tk (i := 3) [5, 6] (v := ?_) ?_ ?_
    rotate_left 1
    · (intro w hSw; obtain ⟨m0, m1, m2, m3, m4, m5, m6, m7, m8⟩ := hSw; go_simp; try (with_reducible rfl))
    (try walk_nrm)
    refine tk (i := 4) [5, 6] (v := ?_) ?_ ?_
    rotate_left 1
    · (intro w hSw; obtain ⟨m0, m1, m2, m3, m4, m5, m6, m7, m8⟩ := hSw; go_simp; try (with_reducible rfl))
    (try walk_nrm)
    refine wpAnyX_one 5 (by kernel_rfl) rfl (fun K hK => ?_)
    go_simp
    go_wp2_with (refine (CC.out).mono ?_; rintro e v1 ⟨rfl, k1, t1⟩)
    refine hK.out _ _ (.inl (by decide)) ?_
    clear hK K
    (try walk_nrm)
    refine wpAnyX_one 6 (by kernel_rfl) rfl (fun K hK => ?_)
    go_simp
    refine hK.out _ _ (.inl (by decide)) ?_
    clear hK K
    (try walk_nrm)
    refine wpAnyX_done (by kernel_rfl) ?_ _
    have HJ := Lib.hid (show doS s.X (⟨1, qw, qr, qg, qt, qs, ql, qd⟩ : Rq) = leaveS s.X (⟨1, qw, qr, qg, qt, qs, ql, qd⟩ : Rq) by unfold doS; dsimp only; rw [if_neg (by omega), if_neg (by omega), HP.out]; dsimp only; rw [if_pos rfl])
    have HF := Lib.hid (And.intro (But.trans (HBW.out.trans (but_of_below HB3.out)) (of_drewB k1)) (fun h => (show Turned base g _ w v1 from by obtain ⟨s', e1, e2, e3⟩ := t1 h; exact ⟨s', e1, e2, But.trans (HBW.out.trans (but_of_below HB3.out)) (of_drewB e3)⟩)))
    clear k1 t1 CC KS hHeld0 HG HD HQ HX HA
    go_wp2_with fail
    go_ret
    exact ⟨by rw [HJ.out]; rfl, HF.out.1, fun h => by rw [HJ.out] at h ⊢; exact HF.out.2 h⟩
  · skip
    go_enter Try.func22, Try.ntmps22
    go_upto_region 1 with fail
    rw [← hw1]
    clear hw1
    go_upto_region 2 with fail
    rw [← hw2]
    clear hw2
    have q0 : w2.cell? ⟨w.heap.size, 0, none⟩ = some (.int .i64 2) := ((HQ.out.below HB2.out lq).cell 0).trans rfl
    have q1 : w2.cell? ⟨w.heap.size, 1, none⟩ = some (.int .i64 qw) := ((HQ.out.below HB2.out lq).cell 1).trans rfl
    go_wp2_with fail
    refine (dperson_yes HP.out g w2 (HD.out.next HB2.out)).mono ?_
    rintro e w3 ⟨⟨gB, o, i, rfl, -, -, -, -⟩, b3⟩
    have HB3 := Lib.hid (HB2.out.trans (b3.mono (HB2.out).size))
    have HB3A := Lib.hid b3
    clear b3
    clear q0 q1
    have q0 : w3.cell? ⟨w.heap.size, 0, none⟩ = some (.int .i64 2) := ((HQ.out.below HB3.out lq).cell 0).trans rfl
    have q1 : w3.cell? ⟨w.heap.size, 1, none⟩ = some (.int .i64 qw) := ((HQ.out.below HB3.out lq).cell 1).trans rfl
    have q2 : w3.cell? ⟨w.heap.size, 2, none⟩ = some (.int .i64 qr) := ((HQ.out.below HB3.out lq).cell 2).trans rfl
    have q3 : w3.cell? ⟨w.heap.size, 3, none⟩ = some (.int .i64 qg) := ((HQ.out.below HB3.out lq).cell 3).trans rfl
    have q4 : w3.cell? ⟨w.heap.size, 4, none⟩ = some (.int .i64 qt) := ((HQ.out.below HB3.out lq).cell 4).trans rfl
    have q5 : w3.cell? ⟨w.heap.size, 5, none⟩ = some (.slice Q qn qc) := ((HQ.out.below HB3.out lq).cell 5).trans rfl
    have q6 : w3.cell? ⟨w.heap.size, 6, none⟩ = some (.int .i64 ql) := ((HQ.out.below HB3.out lq).cell 6).trans rfl
    have q7 : w3.cell? ⟨w.heap.size, 7, none⟩ = some (.int .i64 qd) := ((HQ.out.below HB3.out lq).cell 7).trans rfl
    go_upto_region 6 with fail
    have KS := Lib.hid (show (fun w' => w'.cell? ⟨w.heap.size, 0, none⟩ = some (.int .i64 2) ∧ w'.cell? ⟨w.heap.size, 1, none⟩ = some (.int .i64 qw) ∧ w'.cell? ⟨w.heap.size, 2, none⟩ = some (.int .i64 qr) ∧ w'.cell? ⟨w.heap.size, 3, none⟩ = some (.int .i64 qg) ∧ w'.cell? ⟨w.heap.size, 4, none⟩ = some (.int .i64 qt) ∧ w'.cell? ⟨w.heap.size, 5, none⟩ = some (.slice Q qn qc) ∧ w'.cell? ⟨w.heap.size, 6, none⟩ = some (.int .i64 ql) ∧ w'.cell? ⟨w.heap.size, 7, none⟩ = some (.int .i64 qd) ∧ w'.cell? ⟨w1.heap.size, 2, none⟩ = some (.func (.func 41) #[.pointer (some ⟨g, 0, none⟩)] #[])) w3 from ⟨((HQ.out.below HB3.out lq).cell 0).trans rfl, ((HQ.out.below HB3.out lq).cell 1).trans rfl, ((HQ.out.below HB3.out lq).cell 2).trans rfl, ((HQ.out.below HB3.out lq).cell 3).trans rfl, ((HQ.out.below HB3.out lq).cell 4).trans rfl, ((HQ.out.below HB3.out lq).cell 5).trans rfl, ((HQ.out.below HB3.out lq).cell 6).trans rfl, ((HQ.out.below HB3.out lq).cell 7).trans rfl, ((HA.out.below (HB3A.out) lA).cell 2).trans rfl⟩)
    have lqo := (HQ.out.below HB3.out lq).lt
    have lAo := (HA.out.below (HB3A.out) lA).lt
    have CC := Lib.hid (dpublish base g s (⟨2, qw, qr, qg, qt, qs, ql, qd⟩ : Rq) Q qc w3.drew ((HX.out.next HB3.out).next (Below.refl _ _).drew) HI.out (Nat.le_trans hb1 (HB3.out).size) p HP.out (by dsimp only; rw [HQN.out]; exact HQR.out.below ((BW1.out.trans ((HB3.out).mono BW1.out.size)).drew) hbase) (by dsimp only; rw [HQN.out]; exact hql) (by dsimp only; rw [HQN.out]; exact hqc) HU.out)
    unfold reqA MOut at CC
    dsimp only at CC
    rw [HQN.out] at CC
    refine wp_region_X (S := fun w' => w'.cell? ⟨w.heap.size, 0, none⟩ = some (.int .i64 2) ∧ w'.cell? ⟨w.heap.size, 1, none⟩ = some (.int .i64 qw) ∧ w'.cell? ⟨w.heap.size, 2, none⟩ = some (.int .i64 qr) ∧ w'.cell? ⟨w.heap.size, 3, none⟩ = some (.int .i64 qg) ∧ w'.cell? ⟨w.heap.size, 4, none⟩ = some (.int .i64 qt) ∧ w'.cell? ⟨w.heap.size, 5, none⟩ = some (.slice Q qn qc) ∧ w'.cell? ⟨w.heap.size, 6, none⟩ = some (.int .i64 ql) ∧ w'.cell? ⟨w.heap.size, 7, none⟩ = some (.int .i64 qd) ∧ w'.cell? ⟨w1.heap.size, 2, none⟩ = some (.func (.func 41) #[.pointer (some ⟨g, 0, none⟩)] #[])) [5, 6] (by kernel_rfl) KS.out (fun hHeld0 => ?_)
    refine tk (i := 0) [1, 2, 3, 5, 6] (v := ?_) ?_ ?_
    rotate_left 1
    · (intro w hSw; obtain ⟨m0, m1, m2, m3, m4, m5, m6, m7, m8⟩ := hSw; go_simp; try (with_reducible rfl))
    (try walk_nrm)
    refine tk (i := 1) [2, 3, 5, 6] (v := ?_) ?_ ?_
    rotate_left 1
    · (intro w hSw; obtain ⟨m0, m1, m2, m3, m4, m5, m6, m7, m8⟩ := hSw; go_simp; try (with_reducible rfl))
    (try walk_nrm)
    refine tk (i := 2) [3, 5, 6] (v := ?_) ?_ ?_
    rotate_left 1
    · (intro w hSw; obtain ⟨m0, m1, m2, m3, m4, m5, m6, m7, m8⟩ := hSw; go_simp; try (with_reducible rfl))
    (try walk_nrm)
    refine tk (i := 3) [5, 6] (v := ?_) ?_ ?_
    rotate_left 1
    · (intro w hSw; obtain ⟨m0, m1, m2, m3, m4, m5, m6, m7, m8⟩ := hSw; go_simp; try (with_reducible rfl))
    (try walk_nrm)
    refine tk (i := 4) [5, 6] (v := ?_) ?_ ?_
    rotate_left 1
    · (intro w hSw; obtain ⟨m0, m1, m2, m3, m4, m5, m6, m7, m8⟩ := hSw; go_simp; try (with_reducible rfl))
    (try walk_nrm)
    refine wpAnyX_one 5 (by kernel_rfl) rfl (fun K hK => ?_)
    go_simp
    go_wp2_with (refine (CC.out).mono ?_; rintro e v1 ⟨rfl, k1, t1⟩)
    refine hK.out _ _ (.inl (by decide)) ?_
    clear hK K
    (try walk_nrm)
    refine wpAnyX_one 6 (by kernel_rfl) rfl (fun K hK => ?_)
    go_simp
    refine hK.out _ _ (.inl (by decide)) ?_
    clear hK K
    (try walk_nrm)
    refine wpAnyX_done (by kernel_rfl) ?_ _
    have HJ := Lib.hid (show doS s.X (⟨2, qw, qr, qg, qt, qs, ql, qd⟩ : Rq) = publishS s.X p (⟨2, qw, qr, qg, qt, qs, ql, qd⟩ : Rq) by unfold doS; dsimp only; rw [if_neg (by omega), if_neg (by omega), HP.out]; dsimp only; rw [if_neg (by omega), if_pos rfl])
    have HF := Lib.hid (And.intro (But.trans (HBW.out.trans (but_of_below HB3.out)) (of_drewB k1)) (fun h => (show Turned base g _ w v1 from by obtain ⟨s', e1, e2, e3⟩ := t1 h; exact ⟨s', e1, e2, But.trans (HBW.out.trans (but_of_below HB3.out)) (of_drewB e3)⟩)))
    clear k1 t1 CC KS hHeld0 HG HD HQ HX HA
    go_wp2_with fail
    go_ret
    exact ⟨by rw [HJ.out]; rfl, HF.out.1, fun h => by rw [HJ.out] at h ⊢; exact HF.out.2 h⟩
  · skip
    go_enter Try.func22, Try.ntmps22
    go_upto_region 1 with fail
    rw [← hw1]
    clear hw1
    go_upto_region 2 with fail
    rw [← hw2]
    clear hw2
    have q0 : w2.cell? ⟨w.heap.size, 0, none⟩ = some (.int .i64 3) := ((HQ.out.below HB2.out lq).cell 0).trans rfl
    have q1 : w2.cell? ⟨w.heap.size, 1, none⟩ = some (.int .i64 qw) := ((HQ.out.below HB2.out lq).cell 1).trans rfl
    go_wp2_with fail
    refine (dperson_yes HP.out g w2 (HD.out.next HB2.out)).mono ?_
    rintro e w3 ⟨⟨gB, o, i, rfl, -, -, -, -⟩, b3⟩
    have HB3 := Lib.hid (HB2.out.trans (b3.mono (HB2.out).size))
    have HB3A := Lib.hid b3
    clear b3
    clear q0 q1
    have q0 : w3.cell? ⟨w.heap.size, 0, none⟩ = some (.int .i64 3) := ((HQ.out.below HB3.out lq).cell 0).trans rfl
    have q1 : w3.cell? ⟨w.heap.size, 1, none⟩ = some (.int .i64 qw) := ((HQ.out.below HB3.out lq).cell 1).trans rfl
    have q2 : w3.cell? ⟨w.heap.size, 2, none⟩ = some (.int .i64 qr) := ((HQ.out.below HB3.out lq).cell 2).trans rfl
    have q3 : w3.cell? ⟨w.heap.size, 3, none⟩ = some (.int .i64 qg) := ((HQ.out.below HB3.out lq).cell 3).trans rfl
    have q4 : w3.cell? ⟨w.heap.size, 4, none⟩ = some (.int .i64 qt) := ((HQ.out.below HB3.out lq).cell 4).trans rfl
    have q5 : w3.cell? ⟨w.heap.size, 5, none⟩ = some (.slice Q qn qc) := ((HQ.out.below HB3.out lq).cell 5).trans rfl
    have q6 : w3.cell? ⟨w.heap.size, 6, none⟩ = some (.int .i64 ql) := ((HQ.out.below HB3.out lq).cell 6).trans rfl
    have q7 : w3.cell? ⟨w.heap.size, 7, none⟩ = some (.int .i64 qd) := ((HQ.out.below HB3.out lq).cell 7).trans rfl
    go_upto_region 6 with fail
    have KS := Lib.hid (show (fun w' => w'.cell? ⟨w.heap.size, 0, none⟩ = some (.int .i64 3) ∧ w'.cell? ⟨w.heap.size, 1, none⟩ = some (.int .i64 qw) ∧ w'.cell? ⟨w.heap.size, 2, none⟩ = some (.int .i64 qr) ∧ w'.cell? ⟨w.heap.size, 3, none⟩ = some (.int .i64 qg) ∧ w'.cell? ⟨w.heap.size, 4, none⟩ = some (.int .i64 qt) ∧ w'.cell? ⟨w.heap.size, 5, none⟩ = some (.slice Q qn qc) ∧ w'.cell? ⟨w.heap.size, 6, none⟩ = some (.int .i64 ql) ∧ w'.cell? ⟨w.heap.size, 7, none⟩ = some (.int .i64 qd) ∧ w'.cell? ⟨w1.heap.size, 3, none⟩ = some (.func (.func 42) #[.pointer (some ⟨g, 0, none⟩)] #[])) w3 from ⟨((HQ.out.below HB3.out lq).cell 0).trans rfl, ((HQ.out.below HB3.out lq).cell 1).trans rfl, ((HQ.out.below HB3.out lq).cell 2).trans rfl, ((HQ.out.below HB3.out lq).cell 3).trans rfl, ((HQ.out.below HB3.out lq).cell 4).trans rfl, ((HQ.out.below HB3.out lq).cell 5).trans rfl, ((HQ.out.below HB3.out lq).cell 6).trans rfl, ((HQ.out.below HB3.out lq).cell 7).trans rfl, ((HA.out.below (HB3A.out) lA).cell 3).trans rfl⟩)
    have lqo := (HQ.out.below HB3.out lq).lt
    have lAo := (HA.out.below (HB3A.out) lA).lt
    have CC := Lib.hid (dunpublish base g s (⟨3, qw, qr, qg, qt, qs, ql, qd⟩ : Rq) Q qc w3.drew ((HX.out.next HB3.out).next (Below.refl _ _).drew) HI.out (Nat.le_trans hb1 (HB3.out).size))
    unfold reqA MOut at CC
    dsimp only at CC
    rw [HQN.out] at CC
    refine wp_region_X (S := fun w' => w'.cell? ⟨w.heap.size, 0, none⟩ = some (.int .i64 3) ∧ w'.cell? ⟨w.heap.size, 1, none⟩ = some (.int .i64 qw) ∧ w'.cell? ⟨w.heap.size, 2, none⟩ = some (.int .i64 qr) ∧ w'.cell? ⟨w.heap.size, 3, none⟩ = some (.int .i64 qg) ∧ w'.cell? ⟨w.heap.size, 4, none⟩ = some (.int .i64 qt) ∧ w'.cell? ⟨w.heap.size, 5, none⟩ = some (.slice Q qn qc) ∧ w'.cell? ⟨w.heap.size, 6, none⟩ = some (.int .i64 ql) ∧ w'.cell? ⟨w.heap.size, 7, none⟩ = some (.int .i64 qd) ∧ w'.cell? ⟨w1.heap.size, 3, none⟩ = some (.func (.func 42) #[.pointer (some ⟨g, 0, none⟩)] #[])) [5, 6] (by kernel_rfl) KS.out (fun hHeld0 => ?_)
    refine tk (i := 0) [1, 2, 3, 5, 6] (v := ?_) ?_ ?_
    rotate_left 1
    · (intro w hSw; obtain ⟨m0, m1, m2, m3, m4, m5, m6, m7, m8⟩ := hSw; go_simp; try (with_reducible rfl))
    (try walk_nrm)
    refine tk (i := 1) [2, 3, 5, 6] (v := ?_) ?_ ?_
    rotate_left 1
    · (intro w hSw; obtain ⟨m0, m1, m2, m3, m4, m5, m6, m7, m8⟩ := hSw; go_simp; try (with_reducible rfl))
    (try walk_nrm)
    refine tk (i := 2) [3, 5, 6] (v := ?_) ?_ ?_
    rotate_left 1
    · (intro w hSw; obtain ⟨m0, m1, m2, m3, m4, m5, m6, m7, m8⟩ := hSw; go_simp; try (with_reducible rfl))
    (try walk_nrm)
    refine tk (i := 3) [5, 6] (v := ?_) ?_ ?_
    rotate_left 1
    · (intro w hSw; obtain ⟨m0, m1, m2, m3, m4, m5, m6, m7, m8⟩ := hSw; go_simp; try (with_reducible rfl))
    (try walk_nrm)
    refine tk (i := 4) [5, 6] (v := ?_) ?_ ?_
    rotate_left 1
    · (intro w hSw; obtain ⟨m0, m1, m2, m3, m4, m5, m6, m7, m8⟩ := hSw; go_simp; try (with_reducible rfl))
    (try walk_nrm)
    refine wpAnyX_one 5 (by kernel_rfl) rfl (fun K hK => ?_)
    go_simp
    go_wp2_with (refine (CC.out).mono ?_; rintro e v1 ⟨rfl, k1, t1⟩)
    refine hK.out _ _ (.inl (by decide)) ?_
    clear hK K
    (try walk_nrm)
    refine wpAnyX_one 6 (by kernel_rfl) rfl (fun K hK => ?_)
    go_simp
    refine hK.out _ _ (.inl (by decide)) ?_
    clear hK K
    (try walk_nrm)
    refine wpAnyX_done (by kernel_rfl) ?_ _
    have HJ := Lib.hid (show doS s.X (⟨3, qw, qr, qg, qt, qs, ql, qd⟩ : Rq) = unpubS s.X (⟨3, qw, qr, qg, qt, qs, ql, qd⟩ : Rq) by unfold doS; dsimp only; rw [if_neg (by omega), if_neg (by omega), HP.out]; dsimp only; rw [if_neg (by omega), if_neg (by omega), if_pos rfl])
    have HF := Lib.hid (And.intro (But.trans (HBW.out.trans (but_of_below HB3.out)) (of_drewB k1)) (fun h => (show Turned base g _ w v1 from by obtain ⟨s', e1, e2, e3⟩ := t1 h; exact ⟨s', e1, e2, But.trans (HBW.out.trans (but_of_below HB3.out)) (of_drewB e3)⟩)))
    clear k1 t1 CC KS hHeld0 HG HD HQ HX HA
    go_wp2_with fail
    go_ret
    exact ⟨by rw [HJ.out]; rfl, HF.out.1, fun h => by rw [HJ.out] at h ⊢; exact HF.out.2 h⟩
  · skip
    go_enter Try.func22, Try.ntmps22
    go_upto_region 1 with fail
    rw [← hw1]
    clear hw1
    go_upto_region 2 with fail
    rw [← hw2]
    clear hw2
    have q0 : w2.cell? ⟨w.heap.size, 0, none⟩ = some (.int .i64 4) := ((HQ.out.below HB2.out lq).cell 0).trans rfl
    have q1 : w2.cell? ⟨w.heap.size, 1, none⟩ = some (.int .i64 qw) := ((HQ.out.below HB2.out lq).cell 1).trans rfl
    go_wp2_with fail
    refine (dperson_yes HP.out g w2 (HD.out.next HB2.out)).mono ?_
    rintro e w3 ⟨⟨gB, o, i, rfl, -, -, -, -⟩, b3⟩
    have HB3 := Lib.hid (HB2.out.trans (b3.mono (HB2.out).size))
    have HB3A := Lib.hid b3
    clear b3
    clear q0 q1
    have q0 : w3.cell? ⟨w.heap.size, 0, none⟩ = some (.int .i64 4) := ((HQ.out.below HB3.out lq).cell 0).trans rfl
    have q1 : w3.cell? ⟨w.heap.size, 1, none⟩ = some (.int .i64 qw) := ((HQ.out.below HB3.out lq).cell 1).trans rfl
    have q2 : w3.cell? ⟨w.heap.size, 2, none⟩ = some (.int .i64 qr) := ((HQ.out.below HB3.out lq).cell 2).trans rfl
    have q3 : w3.cell? ⟨w.heap.size, 3, none⟩ = some (.int .i64 qg) := ((HQ.out.below HB3.out lq).cell 3).trans rfl
    have q4 : w3.cell? ⟨w.heap.size, 4, none⟩ = some (.int .i64 qt) := ((HQ.out.below HB3.out lq).cell 4).trans rfl
    have q5 : w3.cell? ⟨w.heap.size, 5, none⟩ = some (.slice Q qn qc) := ((HQ.out.below HB3.out lq).cell 5).trans rfl
    have q6 : w3.cell? ⟨w.heap.size, 6, none⟩ = some (.int .i64 ql) := ((HQ.out.below HB3.out lq).cell 6).trans rfl
    have q7 : w3.cell? ⟨w.heap.size, 7, none⟩ = some (.int .i64 qd) := ((HQ.out.below HB3.out lq).cell 7).trans rfl
    go_upto_region 6 with fail
    have KS := Lib.hid (show (fun w' => w'.cell? ⟨w.heap.size, 0, none⟩ = some (.int .i64 4) ∧ w'.cell? ⟨w.heap.size, 1, none⟩ = some (.int .i64 qw) ∧ w'.cell? ⟨w.heap.size, 2, none⟩ = some (.int .i64 qr) ∧ w'.cell? ⟨w.heap.size, 3, none⟩ = some (.int .i64 qg) ∧ w'.cell? ⟨w.heap.size, 4, none⟩ = some (.int .i64 qt) ∧ w'.cell? ⟨w.heap.size, 5, none⟩ = some (.slice Q qn qc) ∧ w'.cell? ⟨w.heap.size, 6, none⟩ = some (.int .i64 ql) ∧ w'.cell? ⟨w.heap.size, 7, none⟩ = some (.int .i64 qd) ∧ w'.cell? ⟨w1.heap.size, 4, none⟩ = some (.func (.func 43) #[.pointer (some ⟨g, 0, none⟩)] #[])) w3 from ⟨((HQ.out.below HB3.out lq).cell 0).trans rfl, ((HQ.out.below HB3.out lq).cell 1).trans rfl, ((HQ.out.below HB3.out lq).cell 2).trans rfl, ((HQ.out.below HB3.out lq).cell 3).trans rfl, ((HQ.out.below HB3.out lq).cell 4).trans rfl, ((HQ.out.below HB3.out lq).cell 5).trans rfl, ((HQ.out.below HB3.out lq).cell 6).trans rfl, ((HQ.out.below HB3.out lq).cell 7).trans rfl, ((HA.out.below (HB3A.out) lA).cell 4).trans rfl⟩)
    have lqo := (HQ.out.below HB3.out lq).lt
    have lAo := (HA.out.below (HB3A.out) lA).lt
    have CC := Lib.hid (dreplace base g s (⟨4, qw, qr, qg, qt, qs, ql, qd⟩ : Rq) Q qc w3.drew ((HX.out.next HB3.out).next (Below.refl _ _).drew) HI.out (Nat.le_trans hb1 (HB3.out).size) (by dsimp only; rw [HQN.out]; exact HQR.out.below ((BW1.out.trans ((HB3.out).mono BW1.out.size)).drew) hbase) (by dsimp only; rw [HQN.out]; exact hql) (by dsimp only; rw [HQN.out]; exact hqc) HU.out)
    unfold reqA MOut at CC
    dsimp only at CC
    rw [HQN.out] at CC
    refine wp_region_X (S := fun w' => w'.cell? ⟨w.heap.size, 0, none⟩ = some (.int .i64 4) ∧ w'.cell? ⟨w.heap.size, 1, none⟩ = some (.int .i64 qw) ∧ w'.cell? ⟨w.heap.size, 2, none⟩ = some (.int .i64 qr) ∧ w'.cell? ⟨w.heap.size, 3, none⟩ = some (.int .i64 qg) ∧ w'.cell? ⟨w.heap.size, 4, none⟩ = some (.int .i64 qt) ∧ w'.cell? ⟨w.heap.size, 5, none⟩ = some (.slice Q qn qc) ∧ w'.cell? ⟨w.heap.size, 6, none⟩ = some (.int .i64 ql) ∧ w'.cell? ⟨w.heap.size, 7, none⟩ = some (.int .i64 qd) ∧ w'.cell? ⟨w1.heap.size, 4, none⟩ = some (.func (.func 43) #[.pointer (some ⟨g, 0, none⟩)] #[])) [5, 6] (by kernel_rfl) KS.out (fun hHeld0 => ?_)
    refine tk (i := 0) [1, 2, 3, 5, 6] (v := ?_) ?_ ?_
    rotate_left 1
    · (intro w hSw; obtain ⟨m0, m1, m2, m3, m4, m5, m6, m7, m8⟩ := hSw; go_simp; try (with_reducible rfl))
    (try walk_nrm)
    refine tk (i := 1) [2, 3, 5, 6] (v := ?_) ?_ ?_
    rotate_left 1
    · (intro w hSw; obtain ⟨m0, m1, m2, m3, m4, m5, m6, m7, m8⟩ := hSw; go_simp; try (with_reducible rfl))
    (try walk_nrm)
    refine tk (i := 2) [3, 5, 6] (v := ?_) ?_ ?_
    rotate_left 1
    · (intro w hSw; obtain ⟨m0, m1, m2, m3, m4, m5, m6, m7, m8⟩ := hSw; go_simp; try (with_reducible rfl))
    (try walk_nrm)
    refine tk (i := 3) [5, 6] (v := ?_) ?_ ?_
    rotate_left 1
    · (intro w hSw; obtain ⟨m0, m1, m2, m3, m4, m5, m6, m7, m8⟩ := hSw; go_simp; try (with_reducible rfl))
    (try walk_nrm)
    refine tk (i := 4) [5, 6] (v := ?_) ?_ ?_
    rotate_left 1
    · (intro w hSw; obtain ⟨m0, m1, m2, m3, m4, m5, m6, m7, m8⟩ := hSw; go_simp; try (with_reducible rfl))
    (try walk_nrm)
    refine wpAnyX_one 5 (by kernel_rfl) rfl (fun K hK => ?_)
    go_simp
    go_wp2_with (refine (CC.out).mono ?_; rintro e v1 ⟨rfl, k1, t1⟩)
    refine hK.out _ _ (.inl (by decide)) ?_
    clear hK K
    (try walk_nrm)
    refine wpAnyX_one 6 (by kernel_rfl) rfl (fun K hK => ?_)
    go_simp
    refine hK.out _ _ (.inl (by decide)) ?_
    clear hK K
    (try walk_nrm)
    refine wpAnyX_done (by kernel_rfl) ?_ _
    have HJ := Lib.hid (show doS s.X (⟨4, qw, qr, qg, qt, qs, ql, qd⟩ : Rq) = replS s.X (⟨4, qw, qr, qg, qt, qs, ql, qd⟩ : Rq) by unfold doS; dsimp only; rw [if_neg (by omega), if_neg (by omega), HP.out]; dsimp only; rw [if_neg (by omega), if_neg (by omega), if_neg (by omega), if_pos rfl])
    have HF := Lib.hid (And.intro (But.trans (HBW.out.trans (but_of_below HB3.out)) (of_drewB k1)) (fun h => (show Turned base g _ w v1 from by obtain ⟨s', e1, e2, e3⟩ := t1 h; exact ⟨s', e1, e2, But.trans (HBW.out.trans (but_of_below HB3.out)) (of_drewB e3)⟩)))
    clear k1 t1 CC KS hHeld0 HG HD HQ HX HA
    go_wp2_with fail
    go_ret
    exact ⟨by rw [HJ.out]; rfl, HF.out.1, fun h => by rw [HJ.out] at h ⊢; exact HF.out.2 h⟩
  · skip
    go_enter Try.func22, Try.ntmps22
    go_upto_region 1 with fail
    rw [← hw1]
    clear hw1
    go_upto_region 2 with fail
    rw [← hw2]
    clear hw2
    have q0 : w2.cell? ⟨w.heap.size, 0, none⟩ = some (.int .i64 5) := ((HQ.out.below HB2.out lq).cell 0).trans rfl
    have q1 : w2.cell? ⟨w.heap.size, 1, none⟩ = some (.int .i64 qw) := ((HQ.out.below HB2.out lq).cell 1).trans rfl
    go_wp2_with fail
    refine (dperson_yes HP.out g w2 (HD.out.next HB2.out)).mono ?_
    rintro e w3 ⟨⟨gB, o, i, rfl, -, -, -, -⟩, b3⟩
    have HB3 := Lib.hid (HB2.out.trans (b3.mono (HB2.out).size))
    have HB3A := Lib.hid b3
    clear b3
    clear q0 q1
    have q0 : w3.cell? ⟨w.heap.size, 0, none⟩ = some (.int .i64 5) := ((HQ.out.below HB3.out lq).cell 0).trans rfl
    have q1 : w3.cell? ⟨w.heap.size, 1, none⟩ = some (.int .i64 qw) := ((HQ.out.below HB3.out lq).cell 1).trans rfl
    have q2 : w3.cell? ⟨w.heap.size, 2, none⟩ = some (.int .i64 qr) := ((HQ.out.below HB3.out lq).cell 2).trans rfl
    have q3 : w3.cell? ⟨w.heap.size, 3, none⟩ = some (.int .i64 qg) := ((HQ.out.below HB3.out lq).cell 3).trans rfl
    have q4 : w3.cell? ⟨w.heap.size, 4, none⟩ = some (.int .i64 qt) := ((HQ.out.below HB3.out lq).cell 4).trans rfl
    have q5 : w3.cell? ⟨w.heap.size, 5, none⟩ = some (.slice Q qn qc) := ((HQ.out.below HB3.out lq).cell 5).trans rfl
    have q6 : w3.cell? ⟨w.heap.size, 6, none⟩ = some (.int .i64 ql) := ((HQ.out.below HB3.out lq).cell 6).trans rfl
    have q7 : w3.cell? ⟨w.heap.size, 7, none⟩ = some (.int .i64 qd) := ((HQ.out.below HB3.out lq).cell 7).trans rfl
    go_upto_region 6 with fail
    have KS := Lib.hid (show (fun w' => w'.cell? ⟨w.heap.size, 0, none⟩ = some (.int .i64 5) ∧ w'.cell? ⟨w.heap.size, 1, none⟩ = some (.int .i64 qw) ∧ w'.cell? ⟨w.heap.size, 2, none⟩ = some (.int .i64 qr) ∧ w'.cell? ⟨w.heap.size, 3, none⟩ = some (.int .i64 qg) ∧ w'.cell? ⟨w.heap.size, 4, none⟩ = some (.int .i64 qt) ∧ w'.cell? ⟨w.heap.size, 5, none⟩ = some (.slice Q qn qc) ∧ w'.cell? ⟨w.heap.size, 6, none⟩ = some (.int .i64 ql) ∧ w'.cell? ⟨w.heap.size, 7, none⟩ = some (.int .i64 qd) ∧ w'.cell? ⟨w1.heap.size, 5, none⟩ = some (.func (.func 44) #[.pointer (some ⟨g, 0, none⟩)] #[])) w3 from ⟨((HQ.out.below HB3.out lq).cell 0).trans rfl, ((HQ.out.below HB3.out lq).cell 1).trans rfl, ((HQ.out.below HB3.out lq).cell 2).trans rfl, ((HQ.out.below HB3.out lq).cell 3).trans rfl, ((HQ.out.below HB3.out lq).cell 4).trans rfl, ((HQ.out.below HB3.out lq).cell 5).trans rfl, ((HQ.out.below HB3.out lq).cell 6).trans rfl, ((HQ.out.below HB3.out lq).cell 7).trans rfl, ((HA.out.below (HB3A.out) lA).cell 5).trans rfl⟩)
    have lqo := (HQ.out.below HB3.out lq).lt
    have lAo := (HA.out.below (HB3A.out) lA).lt
    have CC := Lib.hid (dsubscribe base g s (⟨5, qw, qr, qg, qt, qs, ql, qd⟩ : Rq) Q qc w3.drew ((HX.out.next HB3.out).next (Below.refl _ _).drew) HI.out (Nat.le_trans hb1 (HB3.out).size) p HP.out)
    unfold reqA MOut at CC
    dsimp only at CC
    rw [HQN.out] at CC
    refine wp_region_X (S := fun w' => w'.cell? ⟨w.heap.size, 0, none⟩ = some (.int .i64 5) ∧ w'.cell? ⟨w.heap.size, 1, none⟩ = some (.int .i64 qw) ∧ w'.cell? ⟨w.heap.size, 2, none⟩ = some (.int .i64 qr) ∧ w'.cell? ⟨w.heap.size, 3, none⟩ = some (.int .i64 qg) ∧ w'.cell? ⟨w.heap.size, 4, none⟩ = some (.int .i64 qt) ∧ w'.cell? ⟨w.heap.size, 5, none⟩ = some (.slice Q qn qc) ∧ w'.cell? ⟨w.heap.size, 6, none⟩ = some (.int .i64 ql) ∧ w'.cell? ⟨w.heap.size, 7, none⟩ = some (.int .i64 qd) ∧ w'.cell? ⟨w1.heap.size, 5, none⟩ = some (.func (.func 44) #[.pointer (some ⟨g, 0, none⟩)] #[])) [5, 6] (by kernel_rfl) KS.out (fun hHeld0 => ?_)
    refine tk (i := 0) [1, 2, 3, 5, 6] (v := ?_) ?_ ?_
    rotate_left 1
    · (intro w hSw; obtain ⟨m0, m1, m2, m3, m4, m5, m6, m7, m8⟩ := hSw; go_simp; try (with_reducible rfl))
    (try walk_nrm)
    refine tk (i := 1) [2, 3, 5, 6] (v := ?_) ?_ ?_
    rotate_left 1
    · (intro w hSw; obtain ⟨m0, m1, m2, m3, m4, m5, m6, m7, m8⟩ := hSw; go_simp; try (with_reducible rfl))
    (try walk_nrm)
    refine tk (i := 2) [3, 5, 6] (v := ?_) ?_ ?_
    rotate_left 1
    · (intro w hSw; obtain ⟨m0, m1, m2, m3, m4, m5, m6, m7, m8⟩ := hSw; go_simp; try (with_reducible rfl))
    (try walk_nrm)
    refine tk (i := 3) [5, 6] (v := ?_) ?_ ?_
    rotate_left 1
    · (intro w hSw; obtain ⟨m0, m1, m2, m3, m4, m5, m6, m7, m8⟩ := hSw; go_simp; try (with_reducible rfl))
    (try walk_nrm)
    refine tk (i := 4) [5, 6] (v := ?_) ?_ ?_
    rotate_left 1
    · (intro w hSw; obtain ⟨m0, m1, m2, m3, m4, m5, m6, m7, m8⟩ := hSw; go_simp; try (with_reducible rfl))
    (try walk_nrm)
    refine wpAnyX_one 5 (by kernel_rfl) rfl (fun K hK => ?_)
    go_simp
    go_wp2_with (refine (CC.out).mono ?_; rintro e v1 ⟨rfl, k1, t1⟩)
    refine hK.out _ _ (.inl (by decide)) ?_
    clear hK K
    (try walk_nrm)
    refine wpAnyX_one 6 (by kernel_rfl) rfl (fun K hK => ?_)
    go_simp
    refine hK.out _ _ (.inl (by decide)) ?_
    clear hK K
    (try walk_nrm)
    refine wpAnyX_done (by kernel_rfl) ?_ _
    have HJ := Lib.hid (show doS s.X (⟨5, qw, qr, qg, qt, qs, ql, qd⟩ : Rq) = subscribeS s.X p (⟨5, qw, qr, qg, qt, qs, ql, qd⟩ : Rq) by unfold doS; dsimp only; rw [if_neg (by omega), if_neg (by omega), HP.out]; dsimp only; rw [if_neg (by omega), if_neg (by omega), if_neg (by omega), if_neg (by omega), if_pos rfl])
    have HF := Lib.hid (And.intro (But.trans (HBW.out.trans (but_of_below HB3.out)) (of_drewB k1)) (fun h => (show Turned base g _ w v1 from by obtain ⟨s', e1, e2, e3⟩ := t1 h; exact ⟨s', e1, e2, But.trans (HBW.out.trans (but_of_below HB3.out)) (of_drewB e3)⟩)))
    clear k1 t1 CC KS hHeld0 HG HD HQ HX HA
    go_wp2_with fail
    go_ret
    exact ⟨by rw [HJ.out]; rfl, HF.out.1, fun h => by rw [HJ.out] at h ⊢; exact HF.out.2 h⟩
  · skip
    go_enter Try.func22, Try.ntmps22
    go_upto_region 1 with fail
    rw [← hw1]
    clear hw1
    go_upto_region 2 with fail
    rw [← hw2]
    clear hw2
    have q0 : w2.cell? ⟨w.heap.size, 0, none⟩ = some (.int .i64 6) := ((HQ.out.below HB2.out lq).cell 0).trans rfl
    have q1 : w2.cell? ⟨w.heap.size, 1, none⟩ = some (.int .i64 qw) := ((HQ.out.below HB2.out lq).cell 1).trans rfl
    go_wp2_with fail
    refine (dperson_yes HP.out g w2 (HD.out.next HB2.out)).mono ?_
    rintro e w3 ⟨⟨gB, o, i, rfl, -, -, -, -⟩, b3⟩
    have HB3 := Lib.hid (HB2.out.trans (b3.mono (HB2.out).size))
    have HB3A := Lib.hid b3
    clear b3
    clear q0 q1
    have q0 : w3.cell? ⟨w.heap.size, 0, none⟩ = some (.int .i64 6) := ((HQ.out.below HB3.out lq).cell 0).trans rfl
    have q1 : w3.cell? ⟨w.heap.size, 1, none⟩ = some (.int .i64 qw) := ((HQ.out.below HB3.out lq).cell 1).trans rfl
    have q2 : w3.cell? ⟨w.heap.size, 2, none⟩ = some (.int .i64 qr) := ((HQ.out.below HB3.out lq).cell 2).trans rfl
    have q3 : w3.cell? ⟨w.heap.size, 3, none⟩ = some (.int .i64 qg) := ((HQ.out.below HB3.out lq).cell 3).trans rfl
    have q4 : w3.cell? ⟨w.heap.size, 4, none⟩ = some (.int .i64 qt) := ((HQ.out.below HB3.out lq).cell 4).trans rfl
    have q5 : w3.cell? ⟨w.heap.size, 5, none⟩ = some (.slice Q qn qc) := ((HQ.out.below HB3.out lq).cell 5).trans rfl
    have q6 : w3.cell? ⟨w.heap.size, 6, none⟩ = some (.int .i64 ql) := ((HQ.out.below HB3.out lq).cell 6).trans rfl
    have q7 : w3.cell? ⟨w.heap.size, 7, none⟩ = some (.int .i64 qd) := ((HQ.out.below HB3.out lq).cell 7).trans rfl
    go_upto_region 6 with fail
    have KS := Lib.hid (show (fun w' => w'.cell? ⟨w.heap.size, 0, none⟩ = some (.int .i64 6) ∧ w'.cell? ⟨w.heap.size, 1, none⟩ = some (.int .i64 qw) ∧ w'.cell? ⟨w.heap.size, 2, none⟩ = some (.int .i64 qr) ∧ w'.cell? ⟨w.heap.size, 3, none⟩ = some (.int .i64 qg) ∧ w'.cell? ⟨w.heap.size, 4, none⟩ = some (.int .i64 qt) ∧ w'.cell? ⟨w.heap.size, 5, none⟩ = some (.slice Q qn qc) ∧ w'.cell? ⟨w.heap.size, 6, none⟩ = some (.int .i64 ql) ∧ w'.cell? ⟨w.heap.size, 7, none⟩ = some (.int .i64 qd) ∧ w'.cell? ⟨w1.heap.size, 6, none⟩ = some (.func (.func 45) #[.pointer (some ⟨g, 0, none⟩)] #[])) w3 from ⟨((HQ.out.below HB3.out lq).cell 0).trans rfl, ((HQ.out.below HB3.out lq).cell 1).trans rfl, ((HQ.out.below HB3.out lq).cell 2).trans rfl, ((HQ.out.below HB3.out lq).cell 3).trans rfl, ((HQ.out.below HB3.out lq).cell 4).trans rfl, ((HQ.out.below HB3.out lq).cell 5).trans rfl, ((HQ.out.below HB3.out lq).cell 6).trans rfl, ((HQ.out.below HB3.out lq).cell 7).trans rfl, ((HA.out.below (HB3A.out) lA).cell 6).trans rfl⟩)
    have lqo := (HQ.out.below HB3.out lq).lt
    have lAo := (HA.out.below (HB3A.out) lA).lt
    have CC := Lib.hid (dunsubscribe base g s (⟨6, qw, qr, qg, qt, qs, ql, qd⟩ : Rq) Q qc w3.drew ((HX.out.next HB3.out).next (Below.refl _ _).drew) HI.out (Nat.le_trans hb1 (HB3.out).size) rfl)
    unfold reqA MOut at CC
    dsimp only at CC
    rw [HQN.out] at CC
    refine wp_region_X (S := fun w' => w'.cell? ⟨w.heap.size, 0, none⟩ = some (.int .i64 6) ∧ w'.cell? ⟨w.heap.size, 1, none⟩ = some (.int .i64 qw) ∧ w'.cell? ⟨w.heap.size, 2, none⟩ = some (.int .i64 qr) ∧ w'.cell? ⟨w.heap.size, 3, none⟩ = some (.int .i64 qg) ∧ w'.cell? ⟨w.heap.size, 4, none⟩ = some (.int .i64 qt) ∧ w'.cell? ⟨w.heap.size, 5, none⟩ = some (.slice Q qn qc) ∧ w'.cell? ⟨w.heap.size, 6, none⟩ = some (.int .i64 ql) ∧ w'.cell? ⟨w.heap.size, 7, none⟩ = some (.int .i64 qd) ∧ w'.cell? ⟨w1.heap.size, 6, none⟩ = some (.func (.func 45) #[.pointer (some ⟨g, 0, none⟩)] #[])) [5, 6] (by kernel_rfl) KS.out (fun hHeld0 => ?_)
    refine tk (i := 0) [1, 2, 3, 5, 6] (v := ?_) ?_ ?_
    rotate_left 1
    · (intro w hSw; obtain ⟨m0, m1, m2, m3, m4, m5, m6, m7, m8⟩ := hSw; go_simp; try (with_reducible rfl))
    (try walk_nrm)
    refine tk (i := 1) [2, 3, 5, 6] (v := ?_) ?_ ?_
    rotate_left 1
    · (intro w hSw; obtain ⟨m0, m1, m2, m3, m4, m5, m6, m7, m8⟩ := hSw; go_simp; try (with_reducible rfl))
    (try walk_nrm)
    refine tk (i := 2) [3, 5, 6] (v := ?_) ?_ ?_
    rotate_left 1
    · (intro w hSw; obtain ⟨m0, m1, m2, m3, m4, m5, m6, m7, m8⟩ := hSw; go_simp; try (with_reducible rfl))
    (try walk_nrm)
    refine tk (i := 3) [5, 6] (v := ?_) ?_ ?_
    rotate_left 1
    · (intro w hSw; obtain ⟨m0, m1, m2, m3, m4, m5, m6, m7, m8⟩ := hSw; go_simp; try (with_reducible rfl))
    (try walk_nrm)
    refine tk (i := 4) [5, 6] (v := ?_) ?_ ?_
    rotate_left 1
    · (intro w hSw; obtain ⟨m0, m1, m2, m3, m4, m5, m6, m7, m8⟩ := hSw; go_simp; try (with_reducible rfl))
    (try walk_nrm)
    refine wpAnyX_one 5 (by kernel_rfl) rfl (fun K hK => ?_)
    go_simp
    go_wp2_with (refine (CC.out).mono ?_; rintro e v1 ⟨rfl, k1, t1⟩)
    refine hK.out _ _ (.inl (by decide)) ?_
    clear hK K
    (try walk_nrm)
    refine wpAnyX_one 6 (by kernel_rfl) rfl (fun K hK => ?_)
    go_simp
    refine hK.out _ _ (.inl (by decide)) ?_
    clear hK K
    (try walk_nrm)
    refine wpAnyX_done (by kernel_rfl) ?_ _
    have HJ := Lib.hid (show doS s.X (⟨6, qw, qr, qg, qt, qs, ql, qd⟩ : Rq) = changeS s.X (⟨6, qw, qr, qg, qt, qs, ql, qd⟩ : Rq) by unfold doS; dsimp only; rw [if_neg (by omega), if_neg (by omega), HP.out]; dsimp only; rw [if_neg (by omega), if_neg (by omega), if_neg (by omega), if_neg (by omega), if_neg (by omega)])
    have HF := Lib.hid (And.intro (But.trans (HBW.out.trans (but_of_below HB3.out)) (of_drewB k1)) (fun h => (show Turned base g _ w v1 from by obtain ⟨s', e1, e2, e3⟩ := t1 h; exact ⟨s', e1, e2, But.trans (HBW.out.trans (but_of_below HB3.out)) (of_drewB e3)⟩)))
    clear k1 t1 CC KS hHeld0 HG HD HQ HX HA
    go_wp2_with fail
    go_ret
    exact ⟨by rw [HJ.out]; rfl, HF.out.1, fun h => by rw [HJ.out] at h ⊢; exact HF.out.2 h⟩
  · skip
    go_enter Try.func22, Try.ntmps22
    go_upto_region 1 with fail
    rw [← hw1]
    clear hw1
    go_upto_region 2 with fail
    rw [← hw2]
    clear hw2
    have q0 : w2.cell? ⟨w.heap.size, 0, none⟩ = some (.int .i64 7) := ((HQ.out.below HB2.out lq).cell 0).trans rfl
    have q1 : w2.cell? ⟨w.heap.size, 1, none⟩ = some (.int .i64 qw) := ((HQ.out.below HB2.out lq).cell 1).trans rfl
    go_wp2_with fail
    refine (dperson_yes HP.out g w2 (HD.out.next HB2.out)).mono ?_
    rintro e w3 ⟨⟨gB, o, i, rfl, -, -, -, -⟩, b3⟩
    have HB3 := Lib.hid (HB2.out.trans (b3.mono (HB2.out).size))
    have HB3A := Lib.hid b3
    clear b3
    clear q0 q1
    have q0 : w3.cell? ⟨w.heap.size, 0, none⟩ = some (.int .i64 7) := ((HQ.out.below HB3.out lq).cell 0).trans rfl
    have q1 : w3.cell? ⟨w.heap.size, 1, none⟩ = some (.int .i64 qw) := ((HQ.out.below HB3.out lq).cell 1).trans rfl
    have q2 : w3.cell? ⟨w.heap.size, 2, none⟩ = some (.int .i64 qr) := ((HQ.out.below HB3.out lq).cell 2).trans rfl
    have q3 : w3.cell? ⟨w.heap.size, 3, none⟩ = some (.int .i64 qg) := ((HQ.out.below HB3.out lq).cell 3).trans rfl
    have q4 : w3.cell? ⟨w.heap.size, 4, none⟩ = some (.int .i64 qt) := ((HQ.out.below HB3.out lq).cell 4).trans rfl
    have q5 : w3.cell? ⟨w.heap.size, 5, none⟩ = some (.slice Q qn qc) := ((HQ.out.below HB3.out lq).cell 5).trans rfl
    have q6 : w3.cell? ⟨w.heap.size, 6, none⟩ = some (.int .i64 ql) := ((HQ.out.below HB3.out lq).cell 6).trans rfl
    have q7 : w3.cell? ⟨w.heap.size, 7, none⟩ = some (.int .i64 qd) := ((HQ.out.below HB3.out lq).cell 7).trans rfl
    go_upto_region 6 with fail
    have KS := Lib.hid (show (fun w' => w'.cell? ⟨w.heap.size, 0, none⟩ = some (.int .i64 7) ∧ w'.cell? ⟨w.heap.size, 1, none⟩ = some (.int .i64 qw) ∧ w'.cell? ⟨w.heap.size, 2, none⟩ = some (.int .i64 qr) ∧ w'.cell? ⟨w.heap.size, 3, none⟩ = some (.int .i64 qg) ∧ w'.cell? ⟨w.heap.size, 4, none⟩ = some (.int .i64 qt) ∧ w'.cell? ⟨w.heap.size, 5, none⟩ = some (.slice Q qn qc) ∧ w'.cell? ⟨w.heap.size, 6, none⟩ = some (.int .i64 ql) ∧ w'.cell? ⟨w.heap.size, 7, none⟩ = some (.int .i64 qd) ∧ w'.cell? ⟨w1.heap.size, 7, none⟩ = some (.func (.func 46) #[.pointer (some ⟨g, 0, none⟩)] #[])) w3 from ⟨((HQ.out.below HB3.out lq).cell 0).trans rfl, ((HQ.out.below HB3.out lq).cell 1).trans rfl, ((HQ.out.below HB3.out lq).cell 2).trans rfl, ((HQ.out.below HB3.out lq).cell 3).trans rfl, ((HQ.out.below HB3.out lq).cell 4).trans rfl, ((HQ.out.below HB3.out lq).cell 5).trans rfl, ((HQ.out.below HB3.out lq).cell 6).trans rfl, ((HQ.out.below HB3.out lq).cell 7).trans rfl, ((HA.out.below (HB3A.out) lA).cell 7).trans rfl⟩)
    have lqo := (HQ.out.below HB3.out lq).lt
    have lAo := (HA.out.below (HB3A.out) lA).lt
    have CC := Lib.hid (dmute base g s (⟨7, qw, qr, qg, qt, qs, ql, qd⟩ : Rq) Q qc w3.drew ((HX.out.next HB3.out).next (Below.refl _ _).drew) HI.out (Nat.le_trans hb1 (HB3.out).size) rfl)
    unfold reqA MOut at CC
    dsimp only at CC
    rw [HQN.out] at CC
    refine wp_region_X (S := fun w' => w'.cell? ⟨w.heap.size, 0, none⟩ = some (.int .i64 7) ∧ w'.cell? ⟨w.heap.size, 1, none⟩ = some (.int .i64 qw) ∧ w'.cell? ⟨w.heap.size, 2, none⟩ = some (.int .i64 qr) ∧ w'.cell? ⟨w.heap.size, 3, none⟩ = some (.int .i64 qg) ∧ w'.cell? ⟨w.heap.size, 4, none⟩ = some (.int .i64 qt) ∧ w'.cell? ⟨w.heap.size, 5, none⟩ = some (.slice Q qn qc) ∧ w'.cell? ⟨w.heap.size, 6, none⟩ = some (.int .i64 ql) ∧ w'.cell? ⟨w.heap.size, 7, none⟩ = some (.int .i64 qd) ∧ w'.cell? ⟨w1.heap.size, 7, none⟩ = some (.func (.func 46) #[.pointer (some ⟨g, 0, none⟩)] #[])) [5, 6] (by kernel_rfl) KS.out (fun hHeld0 => ?_)
    refine tk (i := 0) [1, 2, 3, 5, 6] (v := ?_) ?_ ?_
    rotate_left 1
    · (intro w hSw; obtain ⟨m0, m1, m2, m3, m4, m5, m6, m7, m8⟩ := hSw; go_simp; try (with_reducible rfl))
    (try walk_nrm)
    refine tk (i := 1) [2, 3, 5, 6] (v := ?_) ?_ ?_
    rotate_left 1
    · (intro w hSw; obtain ⟨m0, m1, m2, m3, m4, m5, m6, m7, m8⟩ := hSw; go_simp; try (with_reducible rfl))
    (try walk_nrm)
    refine tk (i := 2) [3, 5, 6] (v := ?_) ?_ ?_
    rotate_left 1
    · (intro w hSw; obtain ⟨m0, m1, m2, m3, m4, m5, m6, m7, m8⟩ := hSw; go_simp; try (with_reducible rfl))
    (try walk_nrm)
    refine tk (i := 3) [5, 6] (v := ?_) ?_ ?_
    rotate_left 1
    · (intro w hSw; obtain ⟨m0, m1, m2, m3, m4, m5, m6, m7, m8⟩ := hSw; go_simp; try (with_reducible rfl))
    (try walk_nrm)
    refine tk (i := 4) [5, 6] (v := ?_) ?_ ?_
    rotate_left 1
    · (intro w hSw; obtain ⟨m0, m1, m2, m3, m4, m5, m6, m7, m8⟩ := hSw; go_simp; try (with_reducible rfl))
    (try walk_nrm)
    refine wpAnyX_one 5 (by kernel_rfl) rfl (fun K hK => ?_)
    go_simp
    go_wp2_with (refine (CC.out).mono ?_; rintro e v1 ⟨rfl, k1, t1⟩)
    refine hK.out _ _ (.inl (by decide)) ?_
    clear hK K
    (try walk_nrm)
    refine wpAnyX_one 6 (by kernel_rfl) rfl (fun K hK => ?_)
    go_simp
    refine hK.out _ _ (.inl (by decide)) ?_
    clear hK K
    (try walk_nrm)
    refine wpAnyX_done (by kernel_rfl) ?_ _
    have HJ := Lib.hid (show doS s.X (⟨7, qw, qr, qg, qt, qs, ql, qd⟩ : Rq) = changeS s.X (⟨7, qw, qr, qg, qt, qs, ql, qd⟩ : Rq) by unfold doS; dsimp only; rw [if_neg (by omega), if_neg (by omega), HP.out]; dsimp only; rw [if_neg (by omega), if_neg (by omega), if_neg (by omega), if_neg (by omega), if_neg (by omega)])
    have HF := Lib.hid (And.intro (But.trans (HBW.out.trans (but_of_below HB3.out)) (of_drewB k1)) (fun h => (show Turned base g _ w v1 from by obtain ⟨s', e1, e2, e3⟩ := t1 h; exact ⟨s', e1, e2, But.trans (HBW.out.trans (but_of_below HB3.out)) (of_drewB e3)⟩)))
    clear k1 t1 CC KS hHeld0 HG HD HQ HX HA
    go_wp2_with fail
    go_ret
    exact ⟨by rw [HJ.out]; rfl, HF.out.1, fun h => by rw [HJ.out] at h ⊢; exact HF.out.2 h⟩
  · skip
    go_enter Try.func22, Try.ntmps22
    go_upto_region 1 with fail
    rw [← hw1]
    clear hw1
    go_upto_region 2 with fail
    rw [← hw2]
    clear hw2
    have q0 : w2.cell? ⟨w.heap.size, 0, none⟩ = some (.int .i64 8) := ((HQ.out.below HB2.out lq).cell 0).trans rfl
    have q1 : w2.cell? ⟨w.heap.size, 1, none⟩ = some (.int .i64 qw) := ((HQ.out.below HB2.out lq).cell 1).trans rfl
    go_wp2_with fail
    refine (dperson_yes HP.out g w2 (HD.out.next HB2.out)).mono ?_
    rintro e w3 ⟨⟨gB, o, i, rfl, -, -, -, -⟩, b3⟩
    have HB3 := Lib.hid (HB2.out.trans (b3.mono (HB2.out).size))
    have HB3A := Lib.hid b3
    clear b3
    clear q0 q1
    have q0 : w3.cell? ⟨w.heap.size, 0, none⟩ = some (.int .i64 8) := ((HQ.out.below HB3.out lq).cell 0).trans rfl
    have q1 : w3.cell? ⟨w.heap.size, 1, none⟩ = some (.int .i64 qw) := ((HQ.out.below HB3.out lq).cell 1).trans rfl
    have q2 : w3.cell? ⟨w.heap.size, 2, none⟩ = some (.int .i64 qr) := ((HQ.out.below HB3.out lq).cell 2).trans rfl
    have q3 : w3.cell? ⟨w.heap.size, 3, none⟩ = some (.int .i64 qg) := ((HQ.out.below HB3.out lq).cell 3).trans rfl
    have q4 : w3.cell? ⟨w.heap.size, 4, none⟩ = some (.int .i64 qt) := ((HQ.out.below HB3.out lq).cell 4).trans rfl
    have q5 : w3.cell? ⟨w.heap.size, 5, none⟩ = some (.slice Q qn qc) := ((HQ.out.below HB3.out lq).cell 5).trans rfl
    have q6 : w3.cell? ⟨w.heap.size, 6, none⟩ = some (.int .i64 ql) := ((HQ.out.below HB3.out lq).cell 6).trans rfl
    have q7 : w3.cell? ⟨w.heap.size, 7, none⟩ = some (.int .i64 qd) := ((HQ.out.below HB3.out lq).cell 7).trans rfl
    go_upto_region 6 with fail
    have KS := Lib.hid (show (fun w' => w'.cell? ⟨w.heap.size, 0, none⟩ = some (.int .i64 8) ∧ w'.cell? ⟨w.heap.size, 1, none⟩ = some (.int .i64 qw) ∧ w'.cell? ⟨w.heap.size, 2, none⟩ = some (.int .i64 qr) ∧ w'.cell? ⟨w.heap.size, 3, none⟩ = some (.int .i64 qg) ∧ w'.cell? ⟨w.heap.size, 4, none⟩ = some (.int .i64 qt) ∧ w'.cell? ⟨w.heap.size, 5, none⟩ = some (.slice Q qn qc) ∧ w'.cell? ⟨w.heap.size, 6, none⟩ = some (.int .i64 ql) ∧ w'.cell? ⟨w.heap.size, 7, none⟩ = some (.int .i64 qd) ∧ w'.cell? ⟨w1.heap.size, 8, none⟩ = some (.func (.func 47) #[.pointer (some ⟨g, 0, none⟩)] #[])) w3 from ⟨((HQ.out.below HB3.out lq).cell 0).trans rfl, ((HQ.out.below HB3.out lq).cell 1).trans rfl, ((HQ.out.below HB3.out lq).cell 2).trans rfl, ((HQ.out.below HB3.out lq).cell 3).trans rfl, ((HQ.out.below HB3.out lq).cell 4).trans rfl, ((HQ.out.below HB3.out lq).cell 5).trans rfl, ((HQ.out.below HB3.out lq).cell 6).trans rfl, ((HQ.out.below HB3.out lq).cell 7).trans rfl, ((HA.out.below (HB3A.out) lA).cell 8).trans rfl⟩)
    have lqo := (HQ.out.below HB3.out lq).lt
    have lAo := (HA.out.below (HB3A.out) lA).lt
    have CC := Lib.hid (dunmute base g s (⟨8, qw, qr, qg, qt, qs, ql, qd⟩ : Rq) Q qc w3.drew ((HX.out.next HB3.out).next (Below.refl _ _).drew) HI.out (Nat.le_trans hb1 (HB3.out).size) rfl)
    unfold reqA MOut at CC
    dsimp only at CC
    rw [HQN.out] at CC
    refine wp_region_X (S := fun w' => w'.cell? ⟨w.heap.size, 0, none⟩ = some (.int .i64 8) ∧ w'.cell? ⟨w.heap.size, 1, none⟩ = some (.int .i64 qw) ∧ w'.cell? ⟨w.heap.size, 2, none⟩ = some (.int .i64 qr) ∧ w'.cell? ⟨w.heap.size, 3, none⟩ = some (.int .i64 qg) ∧ w'.cell? ⟨w.heap.size, 4, none⟩ = some (.int .i64 qt) ∧ w'.cell? ⟨w.heap.size, 5, none⟩ = some (.slice Q qn qc) ∧ w'.cell? ⟨w.heap.size, 6, none⟩ = some (.int .i64 ql) ∧ w'.cell? ⟨w.heap.size, 7, none⟩ = some (.int .i64 qd) ∧ w'.cell? ⟨w1.heap.size, 8, none⟩ = some (.func (.func 47) #[.pointer (some ⟨g, 0, none⟩)] #[])) [5, 6] (by kernel_rfl) KS.out (fun hHeld0 => ?_)
    refine tk (i := 0) [1, 2, 3, 5, 6] (v := ?_) ?_ ?_
    rotate_left 1
    · (intro w hSw; obtain ⟨m0, m1, m2, m3, m4, m5, m6, m7, m8⟩ := hSw; go_simp; try (with_reducible rfl))
    (try walk_nrm)
    refine tk (i := 1) [2, 3, 5, 6] (v := ?_) ?_ ?_
    rotate_left 1
    · (intro w hSw; obtain ⟨m0, m1, m2, m3, m4, m5, m6, m7, m8⟩ := hSw; go_simp; try (with_reducible rfl))
    (try walk_nrm)
    refine tk (i := 2) [3, 5, 6] (v := ?_) ?_ ?_
    rotate_left 1
    · (intro w hSw; obtain ⟨m0, m1, m2, m3, m4, m5, m6, m7, m8⟩ := hSw; go_simp; try (with_reducible rfl))
    (try walk_nrm)
    refine tk (i := 3) [5, 6] (v := ?_) ?_ ?_
    rotate_left 1
    · (intro w hSw; obtain ⟨m0, m1, m2, m3, m4, m5, m6, m7, m8⟩ := hSw; go_simp; try (with_reducible rfl))
    (try walk_nrm)
    refine tk (i := 4) [5, 6] (v := ?_) ?_ ?_
    rotate_left 1
    · (intro w hSw; obtain ⟨m0, m1, m2, m3, m4, m5, m6, m7, m8⟩ := hSw; go_simp; try (with_reducible rfl))
    (try walk_nrm)
    refine wpAnyX_one 5 (by kernel_rfl) rfl (fun K hK => ?_)
    go_simp
    go_wp2_with (refine (CC.out).mono ?_; rintro e v1 ⟨rfl, k1, t1⟩)
    refine hK.out _ _ (.inl (by decide)) ?_
    clear hK K
    (try walk_nrm)
    refine wpAnyX_one 6 (by kernel_rfl) rfl (fun K hK => ?_)
    go_simp
    refine hK.out _ _ (.inl (by decide)) ?_
    clear hK K
    (try walk_nrm)
    refine wpAnyX_done (by kernel_rfl) ?_ _
    have HJ := Lib.hid (show doS s.X (⟨8, qw, qr, qg, qt, qs, ql, qd⟩ : Rq) = changeS s.X (⟨8, qw, qr, qg, qt, qs, ql, qd⟩ : Rq) by unfold doS; dsimp only; rw [if_neg (by omega), if_neg (by omega), HP.out]; dsimp only; rw [if_neg (by omega), if_neg (by omega), if_neg (by omega), if_neg (by omega), if_neg (by omega)])
    have HF := Lib.hid (And.intro (But.trans (HBW.out.trans (but_of_below HB3.out)) (of_drewB k1)) (fun h => (show Turned base g _ w v1 from by obtain ⟨s', e1, e2, e3⟩ := t1 h; exact ⟨s', e1, e2, But.trans (HBW.out.trans (but_of_below HB3.out)) (of_drewB e3)⟩)))
    clear k1 t1 CC KS hHeld0 HG HD HQ HX HA
    go_wp2_with fail
    go_ret
    exact ⟨by rw [HJ.out]; rfl, HF.out.1, fun h => by rw [HJ.out] at h ⊢; exact HF.out.2 h⟩
  · skip
    go_enter Try.func22, Try.ntmps22
    go_upto_region 1 with fail
    rw [← hw1]
    clear hw1
    go_upto_region 2 with fail
    rw [← hw2]
    clear hw2
    have q0 : w2.cell? ⟨w.heap.size, 0, none⟩ = some (.int .i64 9) := ((HQ.out.below HB2.out lq).cell 0).trans rfl
    have q1 : w2.cell? ⟨w.heap.size, 1, none⟩ = some (.int .i64 qw) := ((HQ.out.below HB2.out lq).cell 1).trans rfl
    go_wp2_with fail
    refine (dperson_yes HP.out g w2 (HD.out.next HB2.out)).mono ?_
    rintro e w3 ⟨⟨gB, o, i, rfl, -, -, -, -⟩, b3⟩
    have HB3 := Lib.hid (HB2.out.trans (b3.mono (HB2.out).size))
    have HB3A := Lib.hid b3
    clear b3
    clear q0 q1
    have q0 : w3.cell? ⟨w.heap.size, 0, none⟩ = some (.int .i64 9) := ((HQ.out.below HB3.out lq).cell 0).trans rfl
    have q1 : w3.cell? ⟨w.heap.size, 1, none⟩ = some (.int .i64 qw) := ((HQ.out.below HB3.out lq).cell 1).trans rfl
    have q2 : w3.cell? ⟨w.heap.size, 2, none⟩ = some (.int .i64 qr) := ((HQ.out.below HB3.out lq).cell 2).trans rfl
    have q3 : w3.cell? ⟨w.heap.size, 3, none⟩ = some (.int .i64 qg) := ((HQ.out.below HB3.out lq).cell 3).trans rfl
    have q4 : w3.cell? ⟨w.heap.size, 4, none⟩ = some (.int .i64 qt) := ((HQ.out.below HB3.out lq).cell 4).trans rfl
    have q5 : w3.cell? ⟨w.heap.size, 5, none⟩ = some (.slice Q qn qc) := ((HQ.out.below HB3.out lq).cell 5).trans rfl
    have q6 : w3.cell? ⟨w.heap.size, 6, none⟩ = some (.int .i64 ql) := ((HQ.out.below HB3.out lq).cell 6).trans rfl
    have q7 : w3.cell? ⟨w.heap.size, 7, none⟩ = some (.int .i64 qd) := ((HQ.out.below HB3.out lq).cell 7).trans rfl
    go_upto_region 6 with fail
    have KS := Lib.hid (show (fun w' => w'.cell? ⟨w.heap.size, 0, none⟩ = some (.int .i64 9) ∧ w'.cell? ⟨w.heap.size, 1, none⟩ = some (.int .i64 qw) ∧ w'.cell? ⟨w.heap.size, 2, none⟩ = some (.int .i64 qr) ∧ w'.cell? ⟨w.heap.size, 3, none⟩ = some (.int .i64 qg) ∧ w'.cell? ⟨w.heap.size, 4, none⟩ = some (.int .i64 qt) ∧ w'.cell? ⟨w.heap.size, 5, none⟩ = some (.slice Q qn qc) ∧ w'.cell? ⟨w.heap.size, 6, none⟩ = some (.int .i64 ql) ∧ w'.cell? ⟨w.heap.size, 7, none⟩ = some (.int .i64 qd) ∧ w'.cell? ⟨w1.heap.size, 9, none⟩ = some (.func (.func 48) #[.pointer (some ⟨g, 0, none⟩)] #[])) w3 from ⟨((HQ.out.below HB3.out lq).cell 0).trans rfl, ((HQ.out.below HB3.out lq).cell 1).trans rfl, ((HQ.out.below HB3.out lq).cell 2).trans rfl, ((HQ.out.below HB3.out lq).cell 3).trans rfl, ((HQ.out.below HB3.out lq).cell 4).trans rfl, ((HQ.out.below HB3.out lq).cell 5).trans rfl, ((HQ.out.below HB3.out lq).cell 6).trans rfl, ((HQ.out.below HB3.out lq).cell 7).trans rfl, ((HA.out.below (HB3A.out) lA).cell 9).trans rfl⟩)
    have lqo := (HQ.out.below HB3.out lq).lt
    have lAo := (HA.out.below (HB3A.out) lA).lt
    have CC := Lib.hid (dchoose base g s (⟨9, qw, qr, qg, qt, qs, ql, qd⟩ : Rq) Q qc w3.drew ((HX.out.next HB3.out).next (Below.refl _ _).drew) HI.out (Nat.le_trans hb1 (HB3.out).size) rfl)
    unfold reqA MOut at CC
    dsimp only at CC
    rw [HQN.out] at CC
    refine wp_region_X (S := fun w' => w'.cell? ⟨w.heap.size, 0, none⟩ = some (.int .i64 9) ∧ w'.cell? ⟨w.heap.size, 1, none⟩ = some (.int .i64 qw) ∧ w'.cell? ⟨w.heap.size, 2, none⟩ = some (.int .i64 qr) ∧ w'.cell? ⟨w.heap.size, 3, none⟩ = some (.int .i64 qg) ∧ w'.cell? ⟨w.heap.size, 4, none⟩ = some (.int .i64 qt) ∧ w'.cell? ⟨w.heap.size, 5, none⟩ = some (.slice Q qn qc) ∧ w'.cell? ⟨w.heap.size, 6, none⟩ = some (.int .i64 ql) ∧ w'.cell? ⟨w.heap.size, 7, none⟩ = some (.int .i64 qd) ∧ w'.cell? ⟨w1.heap.size, 9, none⟩ = some (.func (.func 48) #[.pointer (some ⟨g, 0, none⟩)] #[])) [5, 6] (by kernel_rfl) KS.out (fun hHeld0 => ?_)
    refine tk (i := 0) [1, 2, 3, 5, 6] (v := ?_) ?_ ?_
    rotate_left 1
    · (intro w hSw; obtain ⟨m0, m1, m2, m3, m4, m5, m6, m7, m8⟩ := hSw; go_simp; try (with_reducible rfl))
    (try walk_nrm)
    refine tk (i := 1) [2, 3, 5, 6] (v := ?_) ?_ ?_
    rotate_left 1
    · (intro w hSw; obtain ⟨m0, m1, m2, m3, m4, m5, m6, m7, m8⟩ := hSw; go_simp; try (with_reducible rfl))
    (try walk_nrm)
    refine tk (i := 2) [3, 5, 6] (v := ?_) ?_ ?_
    rotate_left 1
    · (intro w hSw; obtain ⟨m0, m1, m2, m3, m4, m5, m6, m7, m8⟩ := hSw; go_simp; try (with_reducible rfl))
    (try walk_nrm)
    refine tk (i := 3) [5, 6] (v := ?_) ?_ ?_
    rotate_left 1
    · (intro w hSw; obtain ⟨m0, m1, m2, m3, m4, m5, m6, m7, m8⟩ := hSw; go_simp; try (with_reducible rfl))
    (try walk_nrm)
    refine tk (i := 4) [5, 6] (v := ?_) ?_ ?_
    rotate_left 1
    · (intro w hSw; obtain ⟨m0, m1, m2, m3, m4, m5, m6, m7, m8⟩ := hSw; go_simp; try (with_reducible rfl))
    (try walk_nrm)
    refine wpAnyX_one 5 (by kernel_rfl) rfl (fun K hK => ?_)
    go_simp
    go_wp2_with (refine (CC.out).mono ?_; rintro e v1 ⟨rfl, k1, t1⟩)
    refine hK.out _ _ (.inl (by decide)) ?_
    clear hK K
    (try walk_nrm)
    refine wpAnyX_one 6 (by kernel_rfl) rfl (fun K hK => ?_)
    go_simp
    refine hK.out _ _ (.inl (by decide)) ?_
    clear hK K
    (try walk_nrm)
    refine wpAnyX_done (by kernel_rfl) ?_ _
    have HJ := Lib.hid (show doS s.X (⟨9, qw, qr, qg, qt, qs, ql, qd⟩ : Rq) = changeS s.X (⟨9, qw, qr, qg, qt, qs, ql, qd⟩ : Rq) by unfold doS; dsimp only; rw [if_neg (by omega), if_neg (by omega), HP.out]; dsimp only; rw [if_neg (by omega), if_neg (by omega), if_neg (by omega), if_neg (by omega), if_neg (by omega)])
    have HF := Lib.hid (And.intro (But.trans (HBW.out.trans (but_of_below HB3.out)) (of_drewB k1)) (fun h => (show Turned base g _ w v1 from by obtain ⟨s', e1, e2, e3⟩ := t1 h; exact ⟨s', e1, e2, But.trans (HBW.out.trans (but_of_below HB3.out)) (of_drewB e3)⟩)))
    clear k1 t1 CC KS hHeld0 HG HD HQ HX HA
    go_wp2_with fail
    go_ret
    exact ⟨by rw [HJ.out]; rfl, HF.out.1, fun h => by rw [HJ.out] at h ⊢; exact HF.out.2 h⟩
end Go.Proofs.Ytmmeceehfdbdoaa
