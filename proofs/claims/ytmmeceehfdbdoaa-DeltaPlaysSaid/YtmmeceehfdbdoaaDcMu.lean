/-
  Package delta: unsubscribe, mute, unmute, choose, at the copy.
-/
import Derived.Test.YtmmeceehfdbdoaaDcMk
import Derived.RegionTactic
namespace Go.Proofs.Ytmmeceehfdbdoaa
open Go.RowKit
open Dl
set_option linter.unusedSimpArgs false
set_option linter.unusedVariables false
set_option maxRecDepth 100000

set_option maxHeartbeats 3200000 in
theorem dunsubscribe (base g : Nat) (s : Sm) (q : Rq) (Q : Option Addr) (qc : Nat) (w : World) (h : Nx base w g s) (hI : Inv s.X) (hbase : base ≤ w.heap.size) (hk : q.kind = 6) :
    Calls Try.prog 45 #[.pointer (some ⟨g, 0, none⟩), .agg (reqA q Q q.ss.length qc)] w (MOut base g (changeS s.X q) w) := by
  obtain ⟨qk, qw, qr, qg, qt, qs, ql, qd⟩ := q
  unfold reqA MOut
  dsimp only
  obtain ⟨qn, hqn⟩ : ∃ n, qs.length = n := ⟨_, rfl⟩
  rw [hqn]
  obtain ⟨w1, hw1⟩ : ∃ z, z = w.alloc (.cells #[.int .i64 qk, .int .i64 qw, .int .i64 qr, .int .i64 qg, .int .i64 qt, .slice Q qn qc, .int .i64 ql, .int .i64 qd] 45) := ⟨_, rfl⟩
  have b1 : Below w.heap.size w w1 := by rw [hw1]; exact (Below.refl _ _).alloc (Nat.le_refl _) _
  have hq : Whole w1 w.heap.size 45 #[.int .i64 qk, .int .i64 qw, .int .i64 qr, .int .i64 qg, .int .i64 qt, .slice Q qn qc, .int .i64 ql, .int .i64 qd] := by rw [hw1]; exact Whole.new w _ _
  have h1 := h.next b1
  have lg := h.at'.lt
  have lg1 := h1.at'.lt
  have lq := hq.lt
  have gq : g ≠ w.heap.size := by omega
  have hg := h1.at'
  obtain ⟨np, hnp⟩ : ∃ n, s.X.ps.length = n := ⟨_, rfl⟩
  obtain ⟨nt, hnt⟩ : ∃ n, s.T.length = n := ⟨_, rfl⟩
  obtain ⟨nb, hnb⟩ : ∃ n, s.X.bs.length = n := ⟨_, rfl⟩
  unfold smA at hg
  simp only [hnp, hnt, hnb] at hg
  have HNP := Lib.hid hnp
  have HNT := Lib.hid hnt
  have HNB := Lib.hid hnb
  have HQN := Lib.hid hqn
  have HG := Lib.hid hg
  have HQ := Lib.hid hq
  have HX := Lib.hid h1
  have HD := Lib.hid h1.rd
  have HB1 := Lib.hid (Below.refl w1.heap.size w1)
  have HBW := Lib.hid (show But (fun k => base ≤ k) w w1 from but_of_below b1)
  have HI := Lib.hid hI
  have hb1 : base ≤ w1.heap.size := Nat.le_trans hbase b1.size
  have hsm := h.r.small
  rw [hnp, hnt, hnb] at hsm
  dsimp only at hk
  have HK := Lib.hid hk
  clear hk
  clear h h1 hq hg b1 hI hnp hnt hnb hqn
  cases hb : s.X.bs.find? (isB qw qt) with
  | none =>
    go_enter Try.func45, Try.ntmps45
    go_upto_region 1 with fail
    rw [← hw1]
    clear hw1
    have q1 : w1.cell? ⟨w.heap.size, 1, none⟩ = some (.int .i64 qw) := ((HQ.out.below HB1.out lq).cell 1).trans rfl
    have q4 : w1.cell? ⟨w.heap.size, 4, none⟩ = some (.int .i64 qt) := ((HQ.out.below HB1.out lq).cell 4).trans rfl
    go_wp2_with fail
    refine (dsub_no hb g w1 (HD.out.next HB1.out)).mono ?_
    rintro e w2 ⟨rfl, b2⟩
    have HB2 := Lib.hid (HB1.out.trans (b2.mono (HB1.out).size))
    clear b2
    clear q1 q4
    have HF := Lib.hid (show (changeS s.X (⟨qk, qw, qr, qg, qt, qs, ql, qd⟩ : Rq)).2 = 21 by unfold changeS; dsimp only; rw [hb])
    go_wp2_with fail
    go_ret
    exact ⟨by rw [HF.out]; rfl, HBW.out.trans (but_of_below HB2.out), fun h => by rw [HF.out] at h; cases h⟩
  | some z =>
    go_enter Try.func45, Try.ntmps45
    go_upto_region 1 with fail
    rw [← hw1]
    clear hw1
    have q1 : w1.cell? ⟨w.heap.size, 1, none⟩ = some (.int .i64 qw) := ((HQ.out.below HB1.out lq).cell 1).trans rfl
    have q4 : w1.cell? ⟨w.heap.size, 4, none⟩ = some (.int .i64 qt) := ((HQ.out.below HB1.out lq).cell 4).trans rfl
    go_wp2_with fail
    refine (dsub_yes hb g w1 (HD.out.next HB1.out)).mono ?_
    rintro e w2 ⟨⟨gD, o3, i3, rfl, -⟩, b2⟩
    have HB2 := Lib.hid (HB1.out.trans (b2.mono (HB1.out).size))
    clear b2
    clear q1 q4
    have g6 : w2.cell? ⟨g, 6, none⟩ = some (.slice s.C nb s.c) := ((HG.out.below HB2.out lg1).cell 6).trans rfl
    have CD := Lib.hid (ddelB base 76 (.pointer (some ⟨w.heap.size, 0, none⟩)) (isB qw qt) s.C s.c s.X.bs w2 (enters Try.func76 (by kernel_rfl) (by kernel_rfl)) (HX.out.next HB2.out).r.ob (by rw [HNB.out]; omega)
      (fun x _ wx hb' => by
        have h2 := (HQ.out.below HB2.out lq).but hb' (fun e => by have h3 := (HX.out.r.ob.lt _ e).2; have := HX.out.r.ob.lt _ e; exact own_far HX.out.r.ob HQ.out (by decide) e.symm)
        exact cl_unsub x w.heap.size qw qt wx (h2.cell 1) (h2.cell 4) h2.lt))
    unfold DelB at CD
    rw [HNB.out] at CD
    obtain ⟨L, hL⟩ : ∃ L, outS (isB qw qt) s.X.bs = L := ⟨_, rfl⟩
    have HLL := Lib.hid (show L.length ≤ 64 by rw [← hL]; have h1 := List.length_filter_le (fun z => !(isB qw qt) z) s.X.bs; rw [HNB.out] at h1; unfold outS; omega)
    have HJ := Lib.hid (show changeS s.X (⟨qk, qw, qr, qg, qt, qs, ql, qd⟩ : Rq) = ({ s.X with bs := L }, 0) by unfold changeS; dsimp only; rw [hb]; dsimp only; rw [if_pos HK.out, ← hL]; rfl)
    rw [hL] at CD
    clear hL
    go_wp2_with fail
    refine CD.out.mono ?_
    rintro e w5 ⟨rfl, o5, k5⟩
    have N2 := HX.out.next HB2.out
    have k5' : But (fun k => (Value.slice s.C s.X.bs.length s.c).ownBlock = some k) w2 w5 := by rw [HNB.out]; exact k5
    have hg5 : Whole w5 g 31 (smA s) := N2.at'.but k5' (fun e => own_far N2.r.ob N2.at' (by decide) e.symm)
    have g6' : w5.cell? ⟨g, 6, none⟩ = some (.slice s.C s.X.bs.length s.c) := (hg5.cell 6).trans rfl
    have f6 := hg5.free 6
    have lg5 := hg5.lt
    have HF := Lib.hid (show Turned base g { s.X with bs := L } w (w5.setCell ⟨g, 6, none⟩ (.slice s.C L.length s.c)) from ⟨_, rfl, N2.setB o5 k5' HLL.out, (((HBW.out.trans (but_of_below HB2.out)).trans (k5'.mono (fun k _ hk => HX.out.loB k hk))).set (p := ⟨g, 6, none⟩) (.inl HX.out.lo) _)⟩)
    clear N2 k5 k5' o5 hg5 CD HG HD HQ HX g6
    go_wp2_with fail
    go_ret
    exact ⟨by rw [HJ.out]; rfl, by obtain ⟨_, _, _, h⟩ := HF.out; exact h, fun _ => by rw [HJ.out]; exact HF.out⟩

set_option maxHeartbeats 3200000 in
theorem dsetMuted (base g : Nat) (s : Sm) (q : Rq) (m : Bool) (Q : Option Addr) (qc : Nat) (w : World) (h : Nx base w g s) (hI : Inv s.X) (hbase : base ≤ w.heap.size) (hk : q.kind = 7 ∧ m = true ∨ q.kind = 8 ∧ m = false) :
    Calls Try.prog 77 #[.pointer (some ⟨g, 0, none⟩), .agg (reqA q Q q.ss.length qc), .bool m] w (MOut base g (changeS s.X q) w) := by
  obtain ⟨qk, qw, qr, qg, qt, qs, ql, qd⟩ := q
  unfold reqA MOut
  dsimp only
  obtain ⟨qn, hqn⟩ : ∃ n, qs.length = n := ⟨_, rfl⟩
  rw [hqn]
  obtain ⟨w1, hw1⟩ : ∃ z, z = w.alloc (.cells #[.int .i64 qk, .int .i64 qw, .int .i64 qr, .int .i64 qg, .int .i64 qt, .slice Q qn qc, .int .i64 ql, .int .i64 qd] 45) := ⟨_, rfl⟩
  have b1 : Below w.heap.size w w1 := by rw [hw1]; exact (Below.refl _ _).alloc (Nat.le_refl _) _
  have hq : Whole w1 w.heap.size 45 #[.int .i64 qk, .int .i64 qw, .int .i64 qr, .int .i64 qg, .int .i64 qt, .slice Q qn qc, .int .i64 ql, .int .i64 qd] := by rw [hw1]; exact Whole.new w _ _
  have h1 := h.next b1
  have lg := h.at'.lt
  have lg1 := h1.at'.lt
  have lq := hq.lt
  have gq : g ≠ w.heap.size := by omega
  have hg := h1.at'
  obtain ⟨np, hnp⟩ : ∃ n, s.X.ps.length = n := ⟨_, rfl⟩
  obtain ⟨nt, hnt⟩ : ∃ n, s.T.length = n := ⟨_, rfl⟩
  obtain ⟨nb, hnb⟩ : ∃ n, s.X.bs.length = n := ⟨_, rfl⟩
  unfold smA at hg
  simp only [hnp, hnt, hnb] at hg
  have HNP := Lib.hid hnp
  have HNT := Lib.hid hnt
  have HNB := Lib.hid hnb
  have HQN := Lib.hid hqn
  have HG := Lib.hid hg
  have HQ := Lib.hid hq
  have HX := Lib.hid h1
  have HD := Lib.hid h1.rd
  have HB1 := Lib.hid (Below.refl w1.heap.size w1)
  have HBW := Lib.hid (show But (fun k => base ≤ k) w w1 from but_of_below b1)
  have HI := Lib.hid hI
  have hb1 : base ≤ w1.heap.size := Nat.le_trans hbase b1.size
  have hsm := h.r.small
  rw [hnp, hnt, hnb] at hsm
  dsimp only at hk
  clear h h1 hq hg b1 hI hnp hnt hnb hqn
  cases hb : s.X.bs.find? (isB qw qt) with
  | none =>
    go_enter Try.func77, Try.ntmps77
    go_upto_region 1 with fail
    rw [← hw1]
    clear hw1
    have q1 : w1.cell? ⟨w.heap.size, 1, none⟩ = some (.int .i64 qw) := ((HQ.out.below HB1.out lq).cell 1).trans rfl
    have q4 : w1.cell? ⟨w.heap.size, 4, none⟩ = some (.int .i64 qt) := ((HQ.out.below HB1.out lq).cell 4).trans rfl
    go_wp2_with fail
    refine (dsub_no hb g w1 (HD.out.next HB1.out)).mono ?_
    rintro e w2 ⟨rfl, b2⟩
    have HB2 := Lib.hid (HB1.out.trans (b2.mono (HB1.out).size))
    clear b2
    clear q1 q4
    have HF := Lib.hid (show (changeS s.X (⟨qk, qw, qr, qg, qt, qs, ql, qd⟩ : Rq)).2 = 21 by unfold changeS; dsimp only; rw [hb])
    go_wp2_with fail
    go_ret
    exact ⟨by rw [HF.out]; rfl, HBW.out.trans (but_of_below HB2.out), fun h => by rw [HF.out] at h; cases h⟩
  | some z =>
    have HKK := Lib.hid (show ¬ qk = 6 ∧ (qk = 7 ∨ qk = 8) ∧ decide (qk = 7) = m by rcases hk with ⟨a, b⟩ | ⟨a, b⟩ <;> subst b <;> subst a <;> decide)
    clear hk
    go_enter Try.func77, Try.ntmps77
    go_upto_region 1 with fail
    rw [← hw1]
    clear hw1
    have q1 : w1.cell? ⟨w.heap.size, 1, none⟩ = some (.int .i64 qw) := ((HQ.out.below HB1.out lq).cell 1).trans rfl
    have q4 : w1.cell? ⟨w.heap.size, 4, none⟩ = some (.int .i64 qt) := ((HQ.out.below HB1.out lq).cell 4).trans rfl
    go_wp2_with fail
    refine (dsub_yes hb g w1 (HD.out.next HB1.out)).mono ?_
    rintro e w2 ⟨⟨gD', o3, i3, rfl, _, hCA', hbi⟩, b2⟩
    have HB2 := Lib.hid (HB1.out.trans (b2.mono (HB1.out).size))
    clear b2
    clear q1 q4
    obtain ⟨gD, cur, hCA, hgb, hW, hcz⟩ := own_wholeX HX.out.r.ob (by have := (List.getElem?_eq_some_iff.1 hbi).1; omega)
    have htk : ∀ (j : Nat) (v : Value), (sbC s.X.bs)[j]? = some v → w2.cell? ⟨gD, j, none⟩ = some v := fun j v hv => by
      have h2 := ((Row.of_own HX.out.r.ob).below HB2.out (Nat.le_refl _)).2 (by have := (List.getElem?_eq_some_iff.1 hbi).1; omega)
      obtain ⟨g', o', e', _, hc⟩ := h2
      rw [hCA] at e'
      injection e' with e'
      injection e' with e1 e2 _
      subst e1
      subst e2
      have := hc j v hv
      rwa [Nat.zero_add] at this
    have lD := hW.lt
    rw [hCA] at hCA'
    injection hCA' with hCA'
    injection hCA' with e1 e2 _
    subst e1
    subst e2
    have hc4 : w2.cell? ⟨gD, i3 * 5 + 4, none⟩ = some (.bool z.muted) := by exact htk _ _ ((sbC_get hbi 4 (by decide)).trans rfl)
    have hWn := hW.below HB2.out lD
    have f4 := hWn.free (i3 * 5 + 4)
    have l4 := hWn.lt
    have HCA := Lib.hid hCA
    have HBI := Lib.hid hbi
    obtain ⟨zw, zt, zl, zd, zm⟩ := z
    dsimp only at hc4
    by_cases hmm : zm = m
    · have hm : zm = m := hmm
      have HJ2 := Lib.hid (show (changeS s.X (⟨qk, qw, qr, qg, qt, qs, ql, qd⟩ : Rq)).2 = 23 by unfold changeS; dsimp only; rw [hb]; dsimp only; rw [if_neg HKK.out.1, if_pos HKK.out.2.1, if_pos (by rw [HKK.out.2.2]; exact hmm)])
      subst hm
      clear htk hW hgb hcz hCA hbi hWn
      go_wp2_with fail
      go_ret
      exact ⟨by rw [HJ2.out]; rfl, HBW.out.trans (but_of_below HB2.out), fun h => by rw [HJ2.out] at h; cases h⟩
    · have tb : (zm == m) = false := by cases zm <;> cases m <;> first | rfl | exact absurd rfl hmm
      have HJ := Lib.hid (show changeS s.X (⟨qk, qw, qr, qg, qt, qs, ql, qd⟩ : Rq) = ({ s.X with bs := s.X.bs.set i3 ⟨zw, zt, zl, zd, m⟩ }, 0) from by
        unfold changeS; dsimp only; rw [hb]; dsimp only
        rw [if_neg HKK.out.1, if_pos HKK.out.2.1, if_neg (by rw [HKK.out.2.2]; exact hmm)]
        have hzf := (find_mem hb).2
        rw [map_at (g := muteB (⟨qk, qw, qr, qg, qt, qs, ql, qd⟩ : Rq)) HI.out.br (isB_one qw qt) (fun z hz => by unfold muteB; dsimp only; rw [if_neg (by rw [hz]; simp)]) HBI.out hzf]
        unfold muteB; dsimp only
        rw [if_pos hzf, HKK.out.2.2])
      have HF := Lib.hid (show Turned base g { s.X with bs := s.X.bs.set i3 ⟨zw, zt, zl, zd, m⟩ } w (w2.setCell ⟨gD, i3 * 5 + 4, none⟩ (.bool m)) from by
        have N2 := HX.out.next HB2.out
        have ho := N2.r.ob
        rw [HCA.out] at ho
        have o5 := own_setY (j := i3 * 5 + 4) (u := .bool m) ho (by have := (List.getElem?_eq_some_iff.1 HBI.out).1; omega)
        rw [sbC_set4 (y := ⟨zw, zt, zl, zd, m⟩) HBI.out rfl, ← HCA.out] at o5
        exact ⟨_, rfl, N2.elemB HCA.out o5 ((But.refl (fun k => k = gD) w2).set (p := ⟨gD, i3 * 5 + 4, none⟩) (.inl rfl) _) (by rw [List.length_set]), (HBW.out.trans (but_of_below HB2.out)).set (p := ⟨gD, i3 * 5 + 4, none⟩) (.inl (HX.out.loB gD (by rw [HCA.out]; rfl))) _⟩)
      clear htk hW hgb hcz hCA hbi hWn HG HD HQ HX
      go_wp2_with fail
      go_ret
      exact ⟨by rw [HJ.out]; rfl, by obtain ⟨_, _, _, h⟩ := HF.out; exact h, fun _ => by rw [HJ.out]; exact HF.out⟩

set_option maxHeartbeats 3200000 in
theorem dmute (base g : Nat) (s : Sm) (q : Rq) (Q : Option Addr) (qc : Nat) (w : World) (h : Nx base w g s) (hI : Inv s.X) (hbase : base ≤ w.heap.size) (hk : q.kind = 7) :
    Calls Try.prog 46 #[.pointer (some ⟨g, 0, none⟩), .agg (reqA q Q q.ss.length qc)] w (MOut base g (changeS s.X q) w) := by
  obtain ⟨qk, qw, qr, qg, qt, qs, ql, qd⟩ := q
  unfold reqA MOut
  dsimp only
  obtain ⟨qn, hqn⟩ : ∃ n, qs.length = n := ⟨_, rfl⟩
  rw [hqn]
  obtain ⟨w1, hw1⟩ : ∃ z, z = w.alloc (.cells #[.int .i64 qk, .int .i64 qw, .int .i64 qr, .int .i64 qg, .int .i64 qt, .slice Q qn qc, .int .i64 ql, .int .i64 qd] 45) := ⟨_, rfl⟩
  have b1 : Below w.heap.size w w1 := by rw [hw1]; exact (Below.refl _ _).alloc (Nat.le_refl _) _
  have hq : Whole w1 w.heap.size 45 #[.int .i64 qk, .int .i64 qw, .int .i64 qr, .int .i64 qg, .int .i64 qt, .slice Q qn qc, .int .i64 ql, .int .i64 qd] := by rw [hw1]; exact Whole.new w _ _
  have h1 := h.next b1
  have lg := h.at'.lt
  have lg1 := h1.at'.lt
  have lq := hq.lt
  have gq : g ≠ w.heap.size := by omega
  have hg := h1.at'
  obtain ⟨np, hnp⟩ : ∃ n, s.X.ps.length = n := ⟨_, rfl⟩
  obtain ⟨nt, hnt⟩ : ∃ n, s.T.length = n := ⟨_, rfl⟩
  obtain ⟨nb, hnb⟩ : ∃ n, s.X.bs.length = n := ⟨_, rfl⟩
  unfold smA at hg
  simp only [hnp, hnt, hnb] at hg
  have HNP := Lib.hid hnp
  have HNT := Lib.hid hnt
  have HNB := Lib.hid hnb
  have HQN := Lib.hid hqn
  have HG := Lib.hid hg
  have HQ := Lib.hid hq
  have HX := Lib.hid h1
  have HD := Lib.hid h1.rd
  have HB1 := Lib.hid (Below.refl w1.heap.size w1)
  have HBW := Lib.hid (show But (fun k => base ≤ k) w w1 from but_of_below b1)
  have HI := Lib.hid hI
  have hb1 : base ≤ w1.heap.size := Nat.le_trans hbase b1.size
  have hsm := h.r.small
  rw [hnp, hnt, hnb] at hsm
  dsimp only at hk
  have HK := Lib.hid hk
  clear hk
  clear h h1 hq hg b1 hI hnp hnt hnb hqn
  have CS := Lib.hid (dsetMuted base g s (⟨qk, qw, qr, qg, qt, qs, ql, qd⟩ : Rq) true Q qc w1 HX.out HI.out hb1 (.inl ⟨HK.out, rfl⟩))
  unfold reqA MOut at CS
  dsimp only at CS
  rw [HQN.out] at CS
  have q0 : w1.cell? ⟨w.heap.size, 0, none⟩ = some (.int .i64 qk) := (HQ.out.cell 0).trans rfl
  have q1 : w1.cell? ⟨w.heap.size, 1, none⟩ = some (.int .i64 qw) := (HQ.out.cell 1).trans rfl
  have q2 : w1.cell? ⟨w.heap.size, 2, none⟩ = some (.int .i64 qr) := (HQ.out.cell 2).trans rfl
  have q3 : w1.cell? ⟨w.heap.size, 3, none⟩ = some (.int .i64 qg) := (HQ.out.cell 3).trans rfl
  have q4 : w1.cell? ⟨w.heap.size, 4, none⟩ = some (.int .i64 qt) := (HQ.out.cell 4).trans rfl
  have q5 : w1.cell? ⟨w.heap.size, 5, none⟩ = some (.slice Q qn qc) := (HQ.out.cell 5).trans rfl
  have q6 : w1.cell? ⟨w.heap.size, 6, none⟩ = some (.int .i64 ql) := (HQ.out.cell 6).trans rfl
  have q7 : w1.cell? ⟨w.heap.size, 7, none⟩ = some (.int .i64 qd) := (HQ.out.cell 7).trans rfl
  obtain ⟨R, hR⟩ : ∃ R, changeS s.X (⟨qk, qw, qr, qg, qt, qs, ql, qd⟩ : Rq) = R := ⟨_, rfl⟩
  rw [hR] at CS ⊢
  clear hR
  go_enter Try.func46, Try.ntmps46
  go_upto_region 1 with fail
  rw [← hw1]
  clear hw1
  go_wp2_with fail
  refine CS.out.mono ?_
  rintro e w2 ⟨rfl, k2, t2⟩
  have HF := Lib.hid (And.intro (HBW.out.trans k2) (fun h => (show Turned base g R.1 w w2 from by obtain ⟨s', e1, e2, e3⟩ := t2 h; exact ⟨s', e1, e2, HBW.out.trans e3⟩)))
  clear k2 t2 CS HG HD HQ HX q0 q1 q2 q3 q4 q5 q6 q7
  go_wp2_with fail
  go_ret
  exact ⟨rfl, HF.out.1, HF.out.2⟩

set_option maxHeartbeats 3200000 in
theorem dunmute (base g : Nat) (s : Sm) (q : Rq) (Q : Option Addr) (qc : Nat) (w : World) (h : Nx base w g s) (hI : Inv s.X) (hbase : base ≤ w.heap.size) (hk : q.kind = 8) :
    Calls Try.prog 47 #[.pointer (some ⟨g, 0, none⟩), .agg (reqA q Q q.ss.length qc)] w (MOut base g (changeS s.X q) w) := by
  obtain ⟨qk, qw, qr, qg, qt, qs, ql, qd⟩ := q
  unfold reqA MOut
  dsimp only
  obtain ⟨qn, hqn⟩ : ∃ n, qs.length = n := ⟨_, rfl⟩
  rw [hqn]
  obtain ⟨w1, hw1⟩ : ∃ z, z = w.alloc (.cells #[.int .i64 qk, .int .i64 qw, .int .i64 qr, .int .i64 qg, .int .i64 qt, .slice Q qn qc, .int .i64 ql, .int .i64 qd] 45) := ⟨_, rfl⟩
  have b1 : Below w.heap.size w w1 := by rw [hw1]; exact (Below.refl _ _).alloc (Nat.le_refl _) _
  have hq : Whole w1 w.heap.size 45 #[.int .i64 qk, .int .i64 qw, .int .i64 qr, .int .i64 qg, .int .i64 qt, .slice Q qn qc, .int .i64 ql, .int .i64 qd] := by rw [hw1]; exact Whole.new w _ _
  have h1 := h.next b1
  have lg := h.at'.lt
  have lg1 := h1.at'.lt
  have lq := hq.lt
  have gq : g ≠ w.heap.size := by omega
  have hg := h1.at'
  obtain ⟨np, hnp⟩ : ∃ n, s.X.ps.length = n := ⟨_, rfl⟩
  obtain ⟨nt, hnt⟩ : ∃ n, s.T.length = n := ⟨_, rfl⟩
  obtain ⟨nb, hnb⟩ : ∃ n, s.X.bs.length = n := ⟨_, rfl⟩
  unfold smA at hg
  simp only [hnp, hnt, hnb] at hg
  have HNP := Lib.hid hnp
  have HNT := Lib.hid hnt
  have HNB := Lib.hid hnb
  have HQN := Lib.hid hqn
  have HG := Lib.hid hg
  have HQ := Lib.hid hq
  have HX := Lib.hid h1
  have HD := Lib.hid h1.rd
  have HB1 := Lib.hid (Below.refl w1.heap.size w1)
  have HBW := Lib.hid (show But (fun k => base ≤ k) w w1 from but_of_below b1)
  have HI := Lib.hid hI
  have hb1 : base ≤ w1.heap.size := Nat.le_trans hbase b1.size
  have hsm := h.r.small
  rw [hnp, hnt, hnb] at hsm
  dsimp only at hk
  have HK := Lib.hid hk
  clear hk
  clear h h1 hq hg b1 hI hnp hnt hnb hqn
  have CS := Lib.hid (dsetMuted base g s (⟨qk, qw, qr, qg, qt, qs, ql, qd⟩ : Rq) false Q qc w1 HX.out HI.out hb1 (.inr ⟨HK.out, rfl⟩))
  unfold reqA MOut at CS
  dsimp only at CS
  rw [HQN.out] at CS
  have q0 : w1.cell? ⟨w.heap.size, 0, none⟩ = some (.int .i64 qk) := (HQ.out.cell 0).trans rfl
  have q1 : w1.cell? ⟨w.heap.size, 1, none⟩ = some (.int .i64 qw) := (HQ.out.cell 1).trans rfl
  have q2 : w1.cell? ⟨w.heap.size, 2, none⟩ = some (.int .i64 qr) := (HQ.out.cell 2).trans rfl
  have q3 : w1.cell? ⟨w.heap.size, 3, none⟩ = some (.int .i64 qg) := (HQ.out.cell 3).trans rfl
  have q4 : w1.cell? ⟨w.heap.size, 4, none⟩ = some (.int .i64 qt) := (HQ.out.cell 4).trans rfl
  have q5 : w1.cell? ⟨w.heap.size, 5, none⟩ = some (.slice Q qn qc) := (HQ.out.cell 5).trans rfl
  have q6 : w1.cell? ⟨w.heap.size, 6, none⟩ = some (.int .i64 ql) := (HQ.out.cell 6).trans rfl
  have q7 : w1.cell? ⟨w.heap.size, 7, none⟩ = some (.int .i64 qd) := (HQ.out.cell 7).trans rfl
  obtain ⟨R, hR⟩ : ∃ R, changeS s.X (⟨qk, qw, qr, qg, qt, qs, ql, qd⟩ : Rq) = R := ⟨_, rfl⟩
  rw [hR] at CS ⊢
  clear hR
  go_enter Try.func47, Try.ntmps47
  go_upto_region 1 with fail
  rw [← hw1]
  clear hw1
  go_wp2_with fail
  refine CS.out.mono ?_
  rintro e w2 ⟨rfl, k2, t2⟩
  have HF := Lib.hid (And.intro (HBW.out.trans k2) (fun h => (show Turned base g R.1 w w2 from by obtain ⟨s', e1, e2, e3⟩ := t2 h; exact ⟨s', e1, e2, HBW.out.trans e3⟩)))
  clear k2 t2 CS HG HD HQ HX q0 q1 q2 q3 q4 q5 q6 q7
  go_wp2_with fail
  go_ret
  exact ⟨rfl, HF.out.1, HF.out.2⟩

set_option maxHeartbeats 3200000 in
theorem dchoose (base g : Nat) (s : Sm) (q : Rq) (Q : Option Addr) (qc : Nat) (w : World) (h : Nx base w g s) (hI : Inv s.X) (hbase : base ≤ w.heap.size) (hk : q.kind = 9) :
    Calls Try.prog 48 #[.pointer (some ⟨g, 0, none⟩), .agg (reqA q Q q.ss.length qc)] w (MOut base g (changeS s.X q) w) := by
  obtain ⟨qk, qw, qr, qg, qt, qs, ql, qd⟩ := q
  unfold reqA MOut
  dsimp only
  obtain ⟨qn, hqn⟩ : ∃ n, qs.length = n := ⟨_, rfl⟩
  rw [hqn]
  obtain ⟨w1, hw1⟩ : ∃ z, z = w.alloc (.cells #[.int .i64 qk, .int .i64 qw, .int .i64 qr, .int .i64 qg, .int .i64 qt, .slice Q qn qc, .int .i64 ql, .int .i64 qd] 45) := ⟨_, rfl⟩
  have b1 : Below w.heap.size w w1 := by rw [hw1]; exact (Below.refl _ _).alloc (Nat.le_refl _) _
  have hq : Whole w1 w.heap.size 45 #[.int .i64 qk, .int .i64 qw, .int .i64 qr, .int .i64 qg, .int .i64 qt, .slice Q qn qc, .int .i64 ql, .int .i64 qd] := by rw [hw1]; exact Whole.new w _ _
  have h1 := h.next b1
  have lg := h.at'.lt
  have lg1 := h1.at'.lt
  have lq := hq.lt
  have gq : g ≠ w.heap.size := by omega
  have hg := h1.at'
  obtain ⟨np, hnp⟩ : ∃ n, s.X.ps.length = n := ⟨_, rfl⟩
  obtain ⟨nt, hnt⟩ : ∃ n, s.T.length = n := ⟨_, rfl⟩
  obtain ⟨nb, hnb⟩ : ∃ n, s.X.bs.length = n := ⟨_, rfl⟩
  unfold smA at hg
  simp only [hnp, hnt, hnb] at hg
  have HNP := Lib.hid hnp
  have HNT := Lib.hid hnt
  have HNB := Lib.hid hnb
  have HQN := Lib.hid hqn
  have HG := Lib.hid hg
  have HQ := Lib.hid hq
  have HX := Lib.hid h1
  have HD := Lib.hid h1.rd
  have HB1 := Lib.hid (Below.refl w1.heap.size w1)
  have HBW := Lib.hid (show But (fun k => base ≤ k) w w1 from but_of_below b1)
  have HI := Lib.hid hI
  have hb1 : base ≤ w1.heap.size := Nat.le_trans hbase b1.size
  have hsm := h.r.small
  rw [hnp, hnt, hnb] at hsm
  dsimp only at hk
  have hk6 : ¬ qk = 6 := by omega
  have hk7 : ¬ (qk = 7 ∨ qk = 8) := by omega
  clear hk
  clear h h1 hq hg b1 hI hnp hnt hnb hqn
  cases hb : s.X.bs.find? (isB qw qt) with
  | none =>
    go_enter Try.func48, Try.ntmps48
    go_upto_region 1 with fail
    rw [← hw1]
    clear hw1
    have q1 : w1.cell? ⟨w.heap.size, 1, none⟩ = some (.int .i64 qw) := ((HQ.out.below HB1.out lq).cell 1).trans rfl
    have q4 : w1.cell? ⟨w.heap.size, 4, none⟩ = some (.int .i64 qt) := ((HQ.out.below HB1.out lq).cell 4).trans rfl
    go_wp2_with fail
    refine (dsub_no hb g w1 (HD.out.next HB1.out)).mono ?_
    rintro e w2 ⟨rfl, b2⟩
    have HB2 := Lib.hid (HB1.out.trans (b2.mono (HB1.out).size))
    clear b2
    clear q1 q4
    have HF := Lib.hid (show (changeS s.X (⟨qk, qw, qr, qg, qt, qs, ql, qd⟩ : Rq)).2 = 21 by unfold changeS; dsimp only; rw [hb])
    go_wp2_with fail
    go_ret
    exact ⟨by rw [HF.out]; rfl, HBW.out.trans (but_of_below HB2.out), fun h => by rw [HF.out] at h; cases h⟩
  | some z =>
    cases e2 : badL (⟨qk, qw, qr, qg, qt, qs, ql, qd⟩ : Rq) with
    | true =>
      go_enter Try.func48, Try.ntmps48
      go_upto_region 1 with fail
      rw [← hw1]
      clear hw1
      have q1 : w1.cell? ⟨w.heap.size, 1, none⟩ = some (.int .i64 qw) := ((HQ.out.below HB1.out lq).cell 1).trans rfl
      have q4 : w1.cell? ⟨w.heap.size, 4, none⟩ = some (.int .i64 qt) := ((HQ.out.below HB1.out lq).cell 4).trans rfl
      go_wp2_with fail
      refine (dsub_yes hb g w1 (HD.out.next HB1.out)).mono ?_
      rintro e w2 ⟨⟨gD', o3, i3, rfl, _, hCA', hbi⟩, b2⟩
      have HB2 := Lib.hid (HB1.out.trans (b2.mono (HB1.out).size))
      clear b2
      clear q1 q4
      have q0 : w2.cell? ⟨w.heap.size, 0, none⟩ = some (.int .i64 qk) := ((HQ.out.below HB2.out lq).cell 0).trans rfl
      have q1 : w2.cell? ⟨w.heap.size, 1, none⟩ = some (.int .i64 qw) := ((HQ.out.below HB2.out lq).cell 1).trans rfl
      have q2 : w2.cell? ⟨w.heap.size, 2, none⟩ = some (.int .i64 qr) := ((HQ.out.below HB2.out lq).cell 2).trans rfl
      have q3 : w2.cell? ⟨w.heap.size, 3, none⟩ = some (.int .i64 qg) := ((HQ.out.below HB2.out lq).cell 3).trans rfl
      have q4 : w2.cell? ⟨w.heap.size, 4, none⟩ = some (.int .i64 qt) := ((HQ.out.below HB2.out lq).cell 4).trans rfl
      have q5 : w2.cell? ⟨w.heap.size, 5, none⟩ = some (.slice Q qn qc) := ((HQ.out.below HB2.out lq).cell 5).trans rfl
      have q6 : w2.cell? ⟨w.heap.size, 6, none⟩ = some (.int .i64 ql) := ((HQ.out.below HB2.out lq).cell 6).trans rfl
      have q7 : w2.cell? ⟨w.heap.size, 7, none⟩ = some (.int .i64 qd) := ((HQ.out.below HB2.out lq).cell 7).trans rfl
      go_wp2_with fail
      refine ((show Calls Try.prog 72 #[.agg #[.int .i64 qk, .int .i64 qw, .int .i64 qr, .int .i64 qg, .int .i64 qt, .slice Q qn qc, .int .i64 ql, .int .i64 qd]] w2 (fun e w' => e = .returned (.bool false) ∧ Below w2.heap.size w2 w') by have h := dmayChoose (⟨qk, qw, qr, qg, qt, qs, ql, qd⟩ : Rq) Q qn qc w2; rw [e2] at h; exact h)).mono ?_
      rintro e w3 ⟨rfl, b3⟩
      have HB3 := Lib.hid (HB2.out.trans (b3.mono (HB2.out).size))
      clear b3
      clear q0 q1 q2 q3 q4 q5 q6 q7
      have HF := Lib.hid (show (changeS s.X (⟨qk, qw, qr, qg, qt, qs, ql, qd⟩ : Rq)).2 = 1 by unfold changeS; dsimp only; rw [hb]; dsimp only; rw [if_neg hk6, if_neg hk7, if_pos e2])
      go_wp2_with fail
      go_ret
      exact ⟨by rw [HF.out]; rfl, HBW.out.trans (but_of_below HB3.out), fun h => by rw [HF.out] at h; cases h⟩
    | false =>
      go_enter Try.func48, Try.ntmps48
      go_upto_region 1 with fail
      rw [← hw1]
      clear hw1
      have q1 : w1.cell? ⟨w.heap.size, 1, none⟩ = some (.int .i64 qw) := ((HQ.out.below HB1.out lq).cell 1).trans rfl
      have q4 : w1.cell? ⟨w.heap.size, 4, none⟩ = some (.int .i64 qt) := ((HQ.out.below HB1.out lq).cell 4).trans rfl
      go_wp2_with fail
      refine (dsub_yes hb g w1 (HD.out.next HB1.out)).mono ?_
      rintro e w2 ⟨⟨gD', o3, i3, rfl, _, hCA', hbi⟩, b2⟩
      have HB2 := Lib.hid (HB1.out.trans (b2.mono (HB1.out).size))
      clear b2
      clear q1 q4
      have q0 : w2.cell? ⟨w.heap.size, 0, none⟩ = some (.int .i64 qk) := ((HQ.out.below HB2.out lq).cell 0).trans rfl
      have q1 : w2.cell? ⟨w.heap.size, 1, none⟩ = some (.int .i64 qw) := ((HQ.out.below HB2.out lq).cell 1).trans rfl
      have q2 : w2.cell? ⟨w.heap.size, 2, none⟩ = some (.int .i64 qr) := ((HQ.out.below HB2.out lq).cell 2).trans rfl
      have q3 : w2.cell? ⟨w.heap.size, 3, none⟩ = some (.int .i64 qg) := ((HQ.out.below HB2.out lq).cell 3).trans rfl
      have q4 : w2.cell? ⟨w.heap.size, 4, none⟩ = some (.int .i64 qt) := ((HQ.out.below HB2.out lq).cell 4).trans rfl
      have q5 : w2.cell? ⟨w.heap.size, 5, none⟩ = some (.slice Q qn qc) := ((HQ.out.below HB2.out lq).cell 5).trans rfl
      have q6 : w2.cell? ⟨w.heap.size, 6, none⟩ = some (.int .i64 ql) := ((HQ.out.below HB2.out lq).cell 6).trans rfl
      have q7 : w2.cell? ⟨w.heap.size, 7, none⟩ = some (.int .i64 qd) := ((HQ.out.below HB2.out lq).cell 7).trans rfl
      go_wp2_with fail
      refine ((show Calls Try.prog 72 #[.agg #[.int .i64 qk, .int .i64 qw, .int .i64 qr, .int .i64 qg, .int .i64 qt, .slice Q qn qc, .int .i64 ql, .int .i64 qd]] w2 (fun e w' => e = .returned (.bool true) ∧ Below w2.heap.size w2 w') by have h := dmayChoose (⟨qk, qw, qr, qg, qt, qs, ql, qd⟩ : Rq) Q qn qc w2; rw [e2] at h; exact h)).mono ?_
      rintro e w3 ⟨rfl, b3⟩
      have HB3 := Lib.hid (HB2.out.trans (b3.mono (HB2.out).size))
      clear b3
      clear q0 q1 q2 q3 q4 q5 q6 q7
      have q6 : w3.cell? ⟨w.heap.size, 6, none⟩ = some (.int .i64 ql) := ((HQ.out.below HB3.out lq).cell 6).trans rfl
      have q7 : w3.cell? ⟨w.heap.size, 7, none⟩ = some (.int .i64 qd) := ((HQ.out.below HB3.out lq).cell 7).trans rfl
      obtain ⟨gD, cur, hCA, hgb, hW, hcz⟩ := own_wholeX HX.out.r.ob (by have := (List.getElem?_eq_some_iff.1 hbi).1; omega)
      have htk : ∀ (j : Nat) (v : Value), (sbC s.X.bs)[j]? = some v → w3.cell? ⟨gD, j, none⟩ = some v := fun j v hv => by
        have h2 := ((Row.of_own HX.out.r.ob).below HB3.out (Nat.le_refl _)).2 (by have := (List.getElem?_eq_some_iff.1 hbi).1; omega)
        obtain ⟨g', o', e', _, hc⟩ := h2
        rw [hCA] at e'
        injection e' with e'
        injection e' with e1 e2 _
        subst e1
        subst e2
        have := hc j v hv
        rwa [Nat.zero_add] at this
      have lD := hW.lt
      rw [hCA] at hCA'
      injection hCA' with hCA'
      injection hCA' with x1 x2 _
      subst x1
      subst x2
      have hc2 : w3.cell? ⟨gD, i3 * 5 + 2, none⟩ = some (.int .i64 z.layer) := by exact htk _ _ ((sbC_get hbi 2 (by decide)).trans rfl)
      have hc3 : w3.cell? ⟨gD, i3 * 5 + 3, none⟩ = some (.int .i64 z.tid) := by exact htk _ _ ((sbC_get hbi 3 (by decide)).trans rfl)
      have hWn := hW.below HB3.out lD
      have f2 := hWn.free (i3 * 5 + 2)
      have f3 := hWn.free (i3 * 5 + 3)
      have l4 := hWn.lt
      have HCA := Lib.hid hCA
      have HBI := Lib.hid hbi
      obtain ⟨zw, zt, zl, zd, zm⟩ := z
      dsimp only at hc2 hc3
      have hqD : w.heap.size ≠ gD := fun e => own_far HX.out.r.ob HQ.out (by decide) (by rw [hCA, ← e]; rfl)
      have HJ := Lib.hid (show changeS s.X (⟨qk, qw, qr, qg, qt, qs, ql, qd⟩ : Rq) = ({ s.X with bs := s.X.bs.set i3 ⟨zw, zt, ql, qd, zm⟩ }, 0) from by
        unfold changeS; dsimp only; rw [hb]; dsimp only
        rw [if_neg hk6, if_neg hk7, if_neg (by rw [e2]; decide)]
        have hzf := (find_mem hb).2
        rw [map_at (g := selB (⟨qk, qw, qr, qg, qt, qs, ql, qd⟩ : Rq)) HI.out.br (isB_one qw qt) (fun z hz => by unfold selB; dsimp only; rw [if_neg (by rw [hz]; simp)]) HBI.out hzf]
        unfold selB; dsimp only
        rw [if_pos hzf])
      have HF := Lib.hid (show Turned base g { s.X with bs := s.X.bs.set i3 ⟨zw, zt, ql, qd, zm⟩ } w ((w3.setCell ⟨gD, i3 * 5 + 2, none⟩ (.int .i64 ql)).setCell ⟨gD, i3 * 5 + 3, none⟩ (.int .i64 qd)).drew from by
        have N2 := HX.out.next HB3.out
        have ho := N2.r.ob
        rw [HCA.out] at ho
        have hp := (List.getElem?_eq_some_iff.1 HBI.out).1
        have o5 := own_setY (j := i3 * 5 + 3) (u := .int .i64 qd) (own_setY (j := i3 * 5 + 2) (u := .int .i64 ql) ho (by omega)) (by omega)
        rw [sbC_set23 (y := ⟨zw, zt, ql, qd, zm⟩) HBI.out rfl, ← HCA.out] at o5
        exact ⟨_, rfl, N2.elemB HCA.out o5 (((But.refl (fun k => k = gD) w3).set (p := ⟨gD, i3 * 5 + 2, none⟩) (.inl rfl) _).set (p := ⟨gD, i3 * 5 + 3, none⟩) (.inl rfl) _).drew (by rw [List.length_set]), (((HBW.out.trans (but_of_below HB3.out)).set (p := ⟨gD, i3 * 5 + 2, none⟩) (.inl (HX.out.loB gD (by rw [HCA.out]; rfl))) _).set (p := ⟨gD, i3 * 5 + 3, none⟩) (.inl (HX.out.loB gD (by rw [HCA.out]; rfl))) _).drew⟩)
      clear htk hW hgb hcz hCA hbi hWn HG HD HQ HX
      go_upto_region 6 with fail
      go_region
      go_wp2_with fail
      go_ret
      exact ⟨by rw [HJ.out]; rfl, by obtain ⟨_, _, _, h⟩ := HF.out; exact h, fun _ => by rw [HJ.out]; exact HF.out⟩
end Go.Proofs.Ytmmeceehfdbdoaa
