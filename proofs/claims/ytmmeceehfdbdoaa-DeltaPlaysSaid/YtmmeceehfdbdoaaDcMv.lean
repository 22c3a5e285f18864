/-
  Package delta: unpublish, replace, at the copy.
-/
import Derived.Test.YtmmeceehfdbdoaaDcMk
namespace Go.Proofs.Ytmmeceehfdbdoaa
open Go.RowKit
open Dl
set_option linter.unusedSimpArgs false
set_option linter.unusedVariables false
set_option maxRecDepth 100000

theorem down_no {s : Sm} {q : Rq} {n : Int} (hn : ownF s.T q = n) (h0 : ¬ n = 0) (g : Nat) (Q : Option Addr) (qn qc : Nat) (w : World) (h : Rd w g s) : Calls Try.prog 69 #[.pointer (some ⟨g, 0, none⟩), .agg (reqA q Q qn qc)] w fun e w' => e = .returned (.tuple #[.pointer none, .int .i64 n]) ∧ Below w.heap.size w w' := by
  refine (down s g q Q qn qc w h).mono ?_
  rintro e w' ⟨hb, h1⟩
  rw [hn] at h1
  rcases h1 with ⟨_, rfl⟩ | ⟨h2, _⟩
  · exact ⟨rfl, hb⟩
  · exact absurd h2 h0
theorem down_yes {s : Sm} {q : Rq} (hn : ownF s.T q = 0) (g : Nat) (Q : Option Addr) (qn qc : Nat) (w : World) (h : Rd w g s) : Calls Try.prog 69 #[.pointer (some ⟨g, 0, none⟩), .agg (reqA q Q qn qc)] w fun e w' => (∃ (i : Nat) (x : Tm) (gB o : Nat), e = .returned (.tuple #[.pointer (some ⟨gB, o + i * 4, none⟩), .int .i64 0]) ∧ s.T[i]? = some x ∧ s.T.find? (fun x => isT q.track x.t) = some x ∧ s.B = some ⟨gB, o, none⟩) ∧ Below w.heap.size w w' := by
  refine (down s g q Q qn qc w h).mono ?_
  rintro e w' ⟨hb, h1⟩
  rcases h1 with ⟨h2, _⟩ | ⟨_, i, x, gB, o, _, hx, hf, hB, rfl⟩
  · exact absurd hn h2
  · exact ⟨⟨i, x, gB, o, rfl, hx, hf, hB⟩, hb⟩
theorem unpub_err {X : St} {q : Rq} {l : List Tm} {n : Int} (h : X.ts = tks l) (e : ownF l q = n) (hn : n ≠ 0) : (unpubS X q).2 = n := by
  unfold unpubS
  unfold ownF at e
  rw [h, tks_find]
  cases hf : l.find? (fun x => isT q.track x.t) with
  | none => rw [hf] at e; exact e
  | some x =>
    rw [hf] at e
    dsimp only [Option.map] at e ⊢
    split
    · rename_i h1; rw [if_pos h1] at e; exact e
    · rename_i h1; rw [if_neg h1] at e; exact absurd e.symm hn
theorem unpub_ok {X : St} {q : Rq} {l : List Tm} (h : X.ts = tks l) (e : ownF l q = 0) : unpubS X q = ({ X with ts := tks (outS (fun x => isT q.track x.t) l), bs := outS (fun x => decide (x.track = q.track)) X.bs }, 0) := by
  have e2 : tks (outS (fun x => isT q.track x.t) l) = X.ts.filter (fun t => !isT q.track t) := by
    rw [h, tks_filter]; rfl
  rw [e2]
  unfold unpubS
  unfold ownF at e
  rw [h, tks_find]
  cases hf : l.find? (fun x => isT q.track x.t) with
  | none => rw [hf] at e; cases e
  | some x =>
    rw [hf] at e
    dsimp only [Option.map] at e ⊢
    split
    · rename_i h1; rw [if_pos h1] at e; cases e
    · rfl
theorem repl_err {X : St} {q : Rq} {l : List Tm} {n : Int} (h : X.ts = tks l) (e : ownF l q = n) (hn : n ≠ 0) : (replS X q).2 = n := by
  unfold replS
  unfold ownF at e
  rw [h, tks_find]
  cases hf : l.find? (fun x => isT q.track x.t) with
  | none => rw [hf] at e; exact e
  | some x =>
    rw [hf] at e
    dsimp only [Option.map] at e ⊢
    split
    · rename_i h1; rw [if_pos h1] at e; exact e
    · rename_i h1; rw [if_neg h1] at e; exact absurd e.symm hn
theorem repl_at {X : St} {q : Rq} {l : List Tm} (h : X.ts = tks l) (e : ownF l q = 0) : ∃ t, X.ts.find? (isT q.track) = some t ∧ t.owner = q.who := by
  unfold ownF at e
  rw [h, tks_find]
  cases hf : l.find? (fun x => isT q.track x.t) with
  | none => rw [hf] at e; cases e
  | some x =>
    rw [hf] at e
    dsimp only [Option.map] at e ⊢
    refine ⟨x.t, rfl, ?_⟩
    by_cases h1 : x.t.owner = q.who
    · exact h1
    · rw [if_pos h1] at e; cases e
theorem repl_ok {X : St} {q : Rq} {l : List Tm} {i : Nat} {x : Tm} {Q : Option Addr} {c : Nat} (hI : Inv X) (h : X.ts = tks l) (e : ownF l q = 0) (hx : l[i]? = some x) (hf : l.find? (fun x => isT q.track x.t) = some x) (h1 : mayL q.ss = true) (h2 : takenM l q.ss = false) : replS X q = ({ X with ts := tks (l.set i ⟨⟨x.t.id, x.t.owner, wrap64 (x.t.from' + 1), q.ss⟩, Q, c⟩) }, 0) := by
  obtain ⟨t, ht, ho⟩ := repl_at h e
  have hxt : X.ts.find? (isT q.track) = some x.t := by rw [h, tks_find, hf]; rfl
  rw [hxt] at ht
  injection ht with ht
  subst ht
  unfold replS
  rw [hxt]
  dsimp only
  rw [if_neg (by rw [ho]; simp), if_neg (by rw [h1]; decide), if_neg (by rw [← taken_is h, h2]; decide)]
  have hft : isT q.track x.t = true := (find_mem hxt).2
  have hxi : X.ts[i]? = some x.t := by rw [h]; unfold tks; rw [List.getElem?_map, hx]; rfl
  rw [map_at (g := replT q) hI.tr (isT_one q.track) (fun z hz => by unfold replT; rw [if_neg (by rw [hz]; simp)]) hxi hft, tks_set, ← h]
  have ew : wrap64 (x.t.from' + 1) = bump x.t.from' := by unfold wrap64 bump; omega
  unfold replT
  rw [if_pos hft, ew]

set_option maxHeartbeats 3200000 in
theorem dunpublish (base g : Nat) (s : Sm) (q : Rq) (Q : Option Addr) (qc : Nat) (w : World) (h : Nx base w g s) (hI : Inv s.X) (hbase : base ≤ w.heap.size) :
    Calls Try.prog 42 #[.pointer (some ⟨g, 0, none⟩), .agg (reqA q Q q.ss.length qc)] w (MOut base g (unpubS s.X q) w) := by
  obtain ⟨qk, qw, qr, qg, qt, qs, ql, qd⟩ := q
  unfold reqA MOut
  dsimp only
  obtain ⟨qn, hqn⟩ : ∃ n, qs.length = n := ⟨_, rfl⟩
  rw [hqn]
  obtain ⟨w1, hw1⟩ : ∃ z, z = w.alloc (.cells #[.int .i64 qk, .int .i64 qw, .int .i64 qr, .int .i64 qg, .int .i64 qt, .slice Q qn qc, .int .i64 ql, .int .i64 qd] 45) := ⟨_, rfl⟩
  have b1 : Below w.heap.size w w1 := by rw [hw1]; exact (Below.refl _ _).alloc (Nat.le_refl _) _
  have hq : Whole w1 w.heap.size 45 #[.int .i64 qk, .int .i64 qw, .int .i64 qr, .int .i64 qg, .int .i64 qt, .slice Q qn qc, .int .i64 ql, .int .i64 qd] := by rw [hw1]; exact Whole.new w _ _
  have h1 := h.next b1
  have lg := h.at'.lt
  have lg1 := h1.at'.lt
  have lq := hq.lt
  have gq : g ≠ w.heap.size := by omega
  have hg := h1.at'
  obtain ⟨np, hnp⟩ : ∃ n, s.X.ps.length = n := ⟨_, rfl⟩
  obtain ⟨nt, hnt⟩ : ∃ n, s.T.length = n := ⟨_, rfl⟩
  obtain ⟨nb, hnb⟩ : ∃ n, s.X.bs.length = n := ⟨_, rfl⟩
  unfold smA at hg
  simp only [hnp, hnt, hnb] at hg
  have HNP := Lib.hid hnp
  have HNT := Lib.hid hnt
  have HNB := Lib.hid hnb
  have HQN := Lib.hid hqn
  have HG := Lib.hid hg
  have HQ := Lib.hid hq
  have HX := Lib.hid h1
  have HD := Lib.hid h1.rd
  have HB1 := Lib.hid (Below.refl w1.heap.size w1)
  have HBW := Lib.hid (show But (fun k => base ≤ k) w w1 from but_of_below b1)
  have HI := Lib.hid hI
  have hb1 : base ≤ w1.heap.size := Nat.le_trans hbase b1.size
  have hsm := h.r.small
  rw [hnp, hnt, hnb] at hsm
  clear h h1 hq hg b1 hI hnp hnt hnb hqn
  obtain ⟨en, hen⟩ : ∃ n, ownF s.T (⟨qk, qw, qr, qg, qt, qs, ql, qd⟩ : Rq) = n := ⟨_, rfl⟩
  by_cases hne : en = 0
  · subst hne
    go_enter Try.func42, Try.ntmps42
    go_upto_region 1 with fail
    rw [← hw1]
    clear hw1
    have q0 : w1.cell? ⟨w.heap.size, 0, none⟩ = some (.int .i64 qk) := ((HQ.out.below HB1.out lq).cell 0).trans rfl
    have q1 : w1.cell? ⟨w.heap.size, 1, none⟩ = some (.int .i64 qw) := ((HQ.out.below HB1.out lq).cell 1).trans rfl
    have q2 : w1.cell? ⟨w.heap.size, 2, none⟩ = some (.int .i64 qr) := ((HQ.out.below HB1.out lq).cell 2).trans rfl
    have q3 : w1.cell? ⟨w.heap.size, 3, none⟩ = some (.int .i64 qg) := ((HQ.out.below HB1.out lq).cell 3).trans rfl
    have q4 : w1.cell? ⟨w.heap.size, 4, none⟩ = some (.int .i64 qt) := ((HQ.out.below HB1.out lq).cell 4).trans rfl
    have q5 : w1.cell? ⟨w.heap.size, 5, none⟩ = some (.slice Q qn qc) := ((HQ.out.below HB1.out lq).cell 5).trans rfl
    have q6 : w1.cell? ⟨w.heap.size, 6, none⟩ = some (.int .i64 ql) := ((HQ.out.below HB1.out lq).cell 6).trans rfl
    have q7 : w1.cell? ⟨w.heap.size, 7, none⟩ = some (.int .i64 qd) := ((HQ.out.below HB1.out lq).cell 7).trans rfl
    go_wp2_with fail
    refine ((show Calls Try.prog 69 #[.pointer (some ⟨g, 0, none⟩), .agg #[.int .i64 qk, .int .i64 qw, .int .i64 qr, .int .i64 qg, .int .i64 qt, .slice Q qn qc, .int .i64 ql, .int .i64 qd]] w1 _ from down_yes (q := (⟨qk, qw, qr, qg, qt, qs, ql, qd⟩ : Rq)) hen g Q qn qc w1 HD.out)).mono ?_
    rintro e w2 ⟨⟨i, x, gB, o, rfl, -, -, -⟩, b2⟩
    have HB2 := Lib.hid (HB1.out.trans (b2.mono (HB1.out).size))
    clear b2
    clear q0 q1 q2 q3 q4 q5 q6 q7
    have q4 : w2.cell? ⟨w.heap.size, 4, none⟩ = some (.int .i64 qt) := ((HQ.out.below HB2.out lq).cell 4).trans rfl
    have CR := Lib.hid (ddrop base g s qt w2 (HX.out.next HB2.out) (Nat.le_trans hb1 HB2.out.size))
    go_wp2_with fail
    refine CR.out.mono ?_
    rintro e w3 ⟨rfl, n3, k3⟩
    have k3' : But (fun k => base ≤ k) w2 w3 := k3.mono (fun k _ hk => hk.elim (fun e => by rw [e]; exact HX.out.lo) (fun e => HX.out.loB k e))
    have hq3 := (HQ.out.below HB2.out lq).but k3 (fun hk => hk.elim (fun e => gq e.symm) (fun e => own_far HX.out.r.ob HQ.out (by decide) e.symm))
    have N3 := Lib.hid n3
    have K3 := Lib.hid k3'
    have HQ3 := Lib.hid hq3
    have CD := Lib.hid (ddelT base 70 (.pointer (some ⟨w.heap.size, 0, none⟩)) (fun x : Tm => isT qt x.t) s.B s.b s.T w3 (enters Try.func70 (by kernel_rfl) (by kernel_rfl)) n3.r.ot (by rw [HNT.out]; omega)
      (fun x _ wx hb' => by
        have h2 := hq3.but hb' (fun e => own_far n3.r.ot hq3 (by decide) e.symm)
        exact cl_unpub x w.heap.size qt wx (h2.cell 4) h2.lt))
    unfold DelT at CD
    have g5' : w3.cell? ⟨g, 5, none⟩ = some (.slice s.B nt s.b) := by rw [← HNT.out]; exact (n3.at'.cell 5).trans rfl
    have lg3 := n3.at'.lt
    have HJ := Lib.hid (unpub_ok (q := (⟨qk, qw, qr, qg, qt, qs, ql, qd⟩ : Rq)) HX.out.r.ts hen)
    rw [HNT.out] at CD
    dsimp only at HJ
    obtain ⟨L, hL⟩ : ∃ L, outS (fun x : Tm => isT qt x.t) s.T = L := ⟨_, rfl⟩
    have HLL := Lib.hid (show L.length ≤ 64 by rw [← hL]; have h1 := List.length_filter_le (fun z => !(fun x : Tm => isT qt x.t) z) s.T; rw [HNT.out] at h1; unfold outS; omega)
    have HSUB := Lib.hid (show ∀ x ∈ L, x ∈ s.T from fun x hx => by rw [← hL] at hx; exact (List.mem_filter.mp hx).1)
    rw [hL] at CD HJ
    clear hL n3 k3 k3' hq3 CR q4
    go_wp2_with fail
    refine CD.out.mono ?_
    rintro e w5 ⟨rfl, o5, k5⟩
    have k5' : But (fun k => (Value.slice s.B s.T.length s.b).ownBlock = some k) w3 w5 := by rw [HNT.out]; exact k5
    have hg5 := N3.out.at'.but k5' (fun e => own_far N3.out.r.ot N3.out.at' (by decide) e.symm)
    have g5'' : w5.cell? ⟨g, 5, none⟩ = some (.slice s.B s.T.length s.b) := (hg5.cell 5).trans rfl
    have f5 := hg5.free 5
    have lg5 := hg5.lt
    have HF := Lib.hid (show Turned base g { s.X with ts := tks L, bs := outS (fun x => decide (x.track = qt)) s.X.bs } w (w5.setCell ⟨g, 5, none⟩ (.slice s.B L.length s.b)) from ⟨_, rfl, N3.out.setT o5 k5' HLL.out (fun x hx => .inl (HSUB.out x hx)), ((((HBW.out.trans (but_of_below HB2.out)).trans K3.out).trans (k5'.mono (fun k _ hk => N3.out.loT k hk))).set (p := ⟨g, 5, none⟩) (.inl HX.out.lo) _)⟩)
    clear k5 k5' o5 hg5 CD HG HD HQ HX N3 g5'
    go_wp2_with fail
    go_ret
    exact ⟨by rw [HJ.out]; rfl, by obtain ⟨_, _, _, h⟩ := HF.out; exact h, fun _ => by rw [HJ.out]; exact HF.out⟩
  · skip
    go_enter Try.func42, Try.ntmps42
    go_upto_region 1 with fail
    rw [← hw1]
    clear hw1
    have q0 : w1.cell? ⟨w.heap.size, 0, none⟩ = some (.int .i64 qk) := ((HQ.out.below HB1.out lq).cell 0).trans rfl
    have q1 : w1.cell? ⟨w.heap.size, 1, none⟩ = some (.int .i64 qw) := ((HQ.out.below HB1.out lq).cell 1).trans rfl
    have q2 : w1.cell? ⟨w.heap.size, 2, none⟩ = some (.int .i64 qr) := ((HQ.out.below HB1.out lq).cell 2).trans rfl
    have q3 : w1.cell? ⟨w.heap.size, 3, none⟩ = some (.int .i64 qg) := ((HQ.out.below HB1.out lq).cell 3).trans rfl
    have q4 : w1.cell? ⟨w.heap.size, 4, none⟩ = some (.int .i64 qt) := ((HQ.out.below HB1.out lq).cell 4).trans rfl
    have q5 : w1.cell? ⟨w.heap.size, 5, none⟩ = some (.slice Q qn qc) := ((HQ.out.below HB1.out lq).cell 5).trans rfl
    have q6 : w1.cell? ⟨w.heap.size, 6, none⟩ = some (.int .i64 ql) := ((HQ.out.below HB1.out lq).cell 6).trans rfl
    have q7 : w1.cell? ⟨w.heap.size, 7, none⟩ = some (.int .i64 qd) := ((HQ.out.below HB1.out lq).cell 7).trans rfl
    go_wp2_with fail
    refine ((show Calls Try.prog 69 #[.pointer (some ⟨g, 0, none⟩), .agg #[.int .i64 qk, .int .i64 qw, .int .i64 qr, .int .i64 qg, .int .i64 qt, .slice Q qn qc, .int .i64 ql, .int .i64 qd]] w1 (fun e w' => e = .returned (.tuple #[.pointer none, .int .i64 en]) ∧ Below w1.heap.size w1 w') from down_no (q := (⟨qk, qw, qr, qg, qt, qs, ql, qd⟩ : Rq)) hen hne g Q qn qc w1 HD.out)).mono ?_
    rintro e w2 ⟨rfl, b2⟩
    have HB2 := Lib.hid (HB1.out.trans (b2.mono (HB1.out).size))
    clear b2
    clear q0 q1 q2 q3 q4 q5 q6 q7
    have HF := Lib.hid (unpub_err (q := (⟨qk, qw, qr, qg, qt, qs, ql, qd⟩ : Rq)) HX.out.r.ts hen hne)
    go_wp2_with fail
    go_ret
    exact ⟨by rw [HF.out]; rfl, HBW.out.trans (but_of_below HB2.out), fun h => by rw [HF.out] at h; exact absurd h hne⟩

set_option maxHeartbeats 3200000 in
theorem dreplace (base g : Nat) (s : Sm) (q : Rq) (Q : Option Addr) (qc : Nat) (w : World) (h : Nx base w g s) (hI : Inv s.X) (hbase : base ≤ w.heap.size) (hqr : Row w base 1 Q q.ss.length (n32 q.ss)) (hql : q.ss.length ≤ 4096) (hqc : q.ss.length ≤ qc) (hqu : ∀ x ∈ q.ss, 0 ≤ x) :
    Calls Try.prog 43 #[.pointer (some ⟨g, 0, none⟩), .agg (reqA q Q q.ss.length qc)] w (MOut base g (replS s.X q) w) := by
  obtain ⟨qk, qw, qr, qg, qt, qs, ql, qd⟩ := q
  unfold reqA MOut
  dsimp only
  obtain ⟨qn, hqn⟩ : ∃ n, qs.length = n := ⟨_, rfl⟩
  rw [hqn]
  obtain ⟨w1, hw1⟩ : ∃ z, z = w.alloc (.cells #[.int .i64 qk, .int .i64 qw, .int .i64 qr, .int .i64 qg, .int .i64 qt, .slice Q qn qc, .int .i64 ql, .int .i64 qd] 45) := ⟨_, rfl⟩
  have b1 : Below w.heap.size w w1 := by rw [hw1]; exact (Below.refl _ _).alloc (Nat.le_refl _) _
  have hq : Whole w1 w.heap.size 45 #[.int .i64 qk, .int .i64 qw, .int .i64 qr, .int .i64 qg, .int .i64 qt, .slice Q qn qc, .int .i64 ql, .int .i64 qd] := by rw [hw1]; exact Whole.new w _ _
  have h1 := h.next b1
  have lg := h.at'.lt
  have lg1 := h1.at'.lt
  have lq := hq.lt
  have gq : g ≠ w.heap.size := by omega
  have hg := h1.at'
  obtain ⟨np, hnp⟩ : ∃ n, s.X.ps.length = n := ⟨_, rfl⟩
  obtain ⟨nt, hnt⟩ : ∃ n, s.T.length = n := ⟨_, rfl⟩
  obtain ⟨nb, hnb⟩ : ∃ n, s.X.bs.length = n := ⟨_, rfl⟩
  unfold smA at hg
  simp only [hnp, hnt, hnb] at hg
  have HNP := Lib.hid hnp
  have HNT := Lib.hid hnt
  have HNB := Lib.hid hnb
  have HQN := Lib.hid hqn
  have HG := Lib.hid hg
  have HQ := Lib.hid hq
  have HX := Lib.hid h1
  have HD := Lib.hid h1.rd
  have HB1 := Lib.hid (Below.refl w1.heap.size w1)
  have HBW := Lib.hid (show But (fun k => base ≤ k) w w1 from but_of_below b1)
  have HI := Lib.hid hI
  have hb1 : base ≤ w1.heap.size := Nat.le_trans hbase b1.size
  have hsm := h.r.small
  rw [hnp, hnt, hnb] at hsm
  have HQR := Lib.hid hqr
  have HU := Lib.hid hqu
  have BW1 := Lib.hid b1
  rw [hqn] at HQR hql hqc
  clear hqr hqu
  clear h h1 hq hg b1 hI hnp hnt hnb hqn
  obtain ⟨en, hen⟩ : ∃ n, ownF s.T (⟨qk, qw, qr, qg, qt, qs, ql, qd⟩ : Rq) = n := ⟨_, rfl⟩
  by_cases hne : en = 0
  · subst hne
    cases e2 : mayL qs with
    | false =>
      go_enter Try.func43, Try.ntmps43
      go_upto_region 1 with fail
      rw [← hw1]
      clear hw1
      have q0 : w1.cell? ⟨w.heap.size, 0, none⟩ = some (.int .i64 qk) := ((HQ.out.below HB1.out lq).cell 0).trans rfl
      have q1 : w1.cell? ⟨w.heap.size, 1, none⟩ = some (.int .i64 qw) := ((HQ.out.below HB1.out lq).cell 1).trans rfl
      have q2 : w1.cell? ⟨w.heap.size, 2, none⟩ = some (.int .i64 qr) := ((HQ.out.below HB1.out lq).cell 2).trans rfl
      have q3 : w1.cell? ⟨w.heap.size, 3, none⟩ = some (.int .i64 qg) := ((HQ.out.below HB1.out lq).cell 3).trans rfl
      have q4 : w1.cell? ⟨w.heap.size, 4, none⟩ = some (.int .i64 qt) := ((HQ.out.below HB1.out lq).cell 4).trans rfl
      have q5 : w1.cell? ⟨w.heap.size, 5, none⟩ = some (.slice Q qn qc) := ((HQ.out.below HB1.out lq).cell 5).trans rfl
      have q6 : w1.cell? ⟨w.heap.size, 6, none⟩ = some (.int .i64 ql) := ((HQ.out.below HB1.out lq).cell 6).trans rfl
      have q7 : w1.cell? ⟨w.heap.size, 7, none⟩ = some (.int .i64 qd) := ((HQ.out.below HB1.out lq).cell 7).trans rfl
      go_wp2_with fail
      refine ((show Calls Try.prog 69 #[.pointer (some ⟨g, 0, none⟩), .agg #[.int .i64 qk, .int .i64 qw, .int .i64 qr, .int .i64 qg, .int .i64 qt, .slice Q qn qc, .int .i64 ql, .int .i64 qd]] w1 _ from down_yes (q := (⟨qk, qw, qr, qg, qt, qs, ql, qd⟩ : Rq)) hen g Q qn qc w1 HD.out)).mono ?_
      rintro e w2 ⟨⟨i, x, gB, o, rfl, hxi, hxf, hBB⟩, b2⟩
      have HB2 := Lib.hid (HB1.out.trans (b2.mono (HB1.out).size))
      have HXI := Lib.hid (And.intro hxi (And.intro hxf hBB))
      clear hxi hxf hBB
      clear b2
      clear q0 q1 q2 q3 q4 q5 q6 q7
      have q5 : w2.cell? ⟨w.heap.size, 5, none⟩ = some (.slice Q qn qc) := ((HQ.out.below HB2.out lq).cell 5).trans rfl
      go_wp2_with fail
      refine ((show Calls Try.prog 64 #[.slice Q qn qc] w2 (fun e w' => e = .returned (.bool false) ∧ Below w2.heap.size w2 w') by have h := dmayBe Q qc qs w2 (by rw [HQN.out]; exact (((HQR.out.below (BW1.out.trans ((HB2.out).mono BW1.out.size)) hbase).more (Nat.le_trans hbase (Nat.le_trans BW1.out.size (HB2.out).size))))) (by rw [HQN.out]; exact hql) (by rw [HQN.out]; exact hqc) HU.out; rw [HQN.out, e2] at h; exact h)).mono ?_
      rintro e w3 ⟨rfl, b3⟩
      have HB3 := Lib.hid (HB2.out.trans (b3.mono (HB2.out).size))
      clear b3
      clear q5
      have HF := Lib.hid (show (replS s.X (⟨qk, qw, qr, qg, qt, qs, ql, qd⟩ : Rq)).2 = 1 by obtain ⟨t, ht, ho⟩ := repl_at (q := (⟨qk, qw, qr, qg, qt, qs, ql, qd⟩ : Rq)) HX.out.r.ts hen; unfold replS; dsimp only at ht ho ⊢; rw [ht]; dsimp only; rw [if_neg (by rw [ho]; simp), if_pos e2])
      go_wp2_with fail
      go_ret
      exact ⟨by rw [HF.out]; rfl, HBW.out.trans (but_of_below HB3.out), fun h => by rw [HF.out] at h; cases h⟩
    | true =>
      cases e3 : takenM s.T qs with
      | true =>
        go_enter Try.func43, Try.ntmps43
        go_upto_region 1 with fail
        rw [← hw1]
        clear hw1
        have q0 : w1.cell? ⟨w.heap.size, 0, none⟩ = some (.int .i64 qk) := ((HQ.out.below HB1.out lq).cell 0).trans rfl
        have q1 : w1.cell? ⟨w.heap.size, 1, none⟩ = some (.int .i64 qw) := ((HQ.out.below HB1.out lq).cell 1).trans rfl
        have q2 : w1.cell? ⟨w.heap.size, 2, none⟩ = some (.int .i64 qr) := ((HQ.out.below HB1.out lq).cell 2).trans rfl
        have q3 : w1.cell? ⟨w.heap.size, 3, none⟩ = some (.int .i64 qg) := ((HQ.out.below HB1.out lq).cell 3).trans rfl
        have q4 : w1.cell? ⟨w.heap.size, 4, none⟩ = some (.int .i64 qt) := ((HQ.out.below HB1.out lq).cell 4).trans rfl
        have q5 : w1.cell? ⟨w.heap.size, 5, none⟩ = some (.slice Q qn qc) := ((HQ.out.below HB1.out lq).cell 5).trans rfl
        have q6 : w1.cell? ⟨w.heap.size, 6, none⟩ = some (.int .i64 ql) := ((HQ.out.below HB1.out lq).cell 6).trans rfl
        have q7 : w1.cell? ⟨w.heap.size, 7, none⟩ = some (.int .i64 qd) := ((HQ.out.below HB1.out lq).cell 7).trans rfl
        go_wp2_with fail
        refine ((show Calls Try.prog 69 #[.pointer (some ⟨g, 0, none⟩), .agg #[.int .i64 qk, .int .i64 qw, .int .i64 qr, .int .i64 qg, .int .i64 qt, .slice Q qn qc, .int .i64 ql, .int .i64 qd]] w1 _ from down_yes (q := (⟨qk, qw, qr, qg, qt, qs, ql, qd⟩ : Rq)) hen g Q qn qc w1 HD.out)).mono ?_
        rintro e w2 ⟨⟨i, x, gB, o, rfl, hxi, hxf, hBB⟩, b2⟩
        have HB2 := Lib.hid (HB1.out.trans (b2.mono (HB1.out).size))
        have HXI := Lib.hid (And.intro hxi (And.intro hxf hBB))
        clear hxi hxf hBB
        clear b2
        clear q0 q1 q2 q3 q4 q5 q6 q7
        have q5 : w2.cell? ⟨w.heap.size, 5, none⟩ = some (.slice Q qn qc) := ((HQ.out.below HB2.out lq).cell 5).trans rfl
        go_wp2_with fail
        refine ((show Calls Try.prog 64 #[.slice Q qn qc] w2 (fun e w' => e = .returned (.bool true) ∧ Below w2.heap.size w2 w') by have h := dmayBe Q qc qs w2 (by rw [HQN.out]; exact (((HQR.out.below (BW1.out.trans ((HB2.out).mono BW1.out.size)) hbase).more (Nat.le_trans hbase (Nat.le_trans BW1.out.size (HB2.out).size))))) (by rw [HQN.out]; exact hql) (by rw [HQN.out]; exact hqc) HU.out; rw [HQN.out, e2] at h; exact h)).mono ?_
        rintro e w3 ⟨rfl, b3⟩
        have HB3 := Lib.hid (HB2.out.trans (b3.mono (HB2.out).size))
        clear b3
        clear q5
        have q5 : w3.cell? ⟨w.heap.size, 5, none⟩ = some (.slice Q qn qc) := ((HQ.out.below HB3.out lq).cell 5).trans rfl
        go_wp2_with fail
        refine ((show Calls Try.prog 66 #[.pointer (some ⟨g, 0, none⟩), .slice Q qn qc] w3 (fun e w' => e = .returned (.bool true) ∧ Below w3.heap.size w3 w') by have h := dhasAny s g Q qc qs w3 (HD.out.next HB3.out) (by rw [HQN.out]; exact (((HQR.out.below (BW1.out.trans ((HB3.out).mono BW1.out.size)) hbase).more (Nat.le_trans hbase (Nat.le_trans BW1.out.size (HB3.out).size))))) (by rw [HQN.out]; exact hql); rw [HQN.out, e3] at h; exact h)).mono ?_
        rintro e w4 ⟨rfl, b4⟩
        have HB4 := Lib.hid (HB3.out.trans (b4.mono (HB3.out).size))
        clear b4
        clear q5
        have HF := Lib.hid (show (replS s.X (⟨qk, qw, qr, qg, qt, qs, ql, qd⟩ : Rq)).2 = 22 by obtain ⟨t, ht, ho⟩ := repl_at (q := (⟨qk, qw, qr, qg, qt, qs, ql, qd⟩ : Rq)) HX.out.r.ts hen; unfold replS; dsimp only at ht ho ⊢; rw [ht]; dsimp only; rw [if_neg (by rw [ho]; simp), if_neg (by rw [e2]; decide), if_pos (by rw [← taken_is HX.out.r.ts, e3])])
        go_wp2_with fail
        go_ret
        exact ⟨by rw [HF.out]; rfl, HBW.out.trans (but_of_below HB4.out), fun h => by rw [HF.out] at h; cases h⟩
      | false =>
        go_enter Try.func43, Try.ntmps43
        go_upto_region 1 with fail
        rw [← hw1]
        clear hw1
        have q0 : w1.cell? ⟨w.heap.size, 0, none⟩ = some (.int .i64 qk) := ((HQ.out.below HB1.out lq).cell 0).trans rfl
        have q1 : w1.cell? ⟨w.heap.size, 1, none⟩ = some (.int .i64 qw) := ((HQ.out.below HB1.out lq).cell 1).trans rfl
        have q2 : w1.cell? ⟨w.heap.size, 2, none⟩ = some (.int .i64 qr) := ((HQ.out.below HB1.out lq).cell 2).trans rfl
        have q3 : w1.cell? ⟨w.heap.size, 3, none⟩ = some (.int .i64 qg) := ((HQ.out.below HB1.out lq).cell 3).trans rfl
        have q4 : w1.cell? ⟨w.heap.size, 4, none⟩ = some (.int .i64 qt) := ((HQ.out.below HB1.out lq).cell 4).trans rfl
        have q5 : w1.cell? ⟨w.heap.size, 5, none⟩ = some (.slice Q qn qc) := ((HQ.out.below HB1.out lq).cell 5).trans rfl
        have q6 : w1.cell? ⟨w.heap.size, 6, none⟩ = some (.int .i64 ql) := ((HQ.out.below HB1.out lq).cell 6).trans rfl
        have q7 : w1.cell? ⟨w.heap.size, 7, none⟩ = some (.int .i64 qd) := ((HQ.out.below HB1.out lq).cell 7).trans rfl
        go_wp2_with fail
        refine ((show Calls Try.prog 69 #[.pointer (some ⟨g, 0, none⟩), .agg #[.int .i64 qk, .int .i64 qw, .int .i64 qr, .int .i64 qg, .int .i64 qt, .slice Q qn qc, .int .i64 ql, .int .i64 qd]] w1 _ from down_yes (q := (⟨qk, qw, qr, qg, qt, qs, ql, qd⟩ : Rq)) hen g Q qn qc w1 HD.out)).mono ?_
        rintro e w2 ⟨⟨i, x, gB, o, rfl, hxi, hxf, hBB⟩, b2⟩
        have HB2 := Lib.hid (HB1.out.trans (b2.mono (HB1.out).size))
        have HXI := Lib.hid (And.intro hxi (And.intro hxf hBB))
        clear hxi hxf hBB
        clear b2
        clear q0 q1 q2 q3 q4 q5 q6 q7
        have q5 : w2.cell? ⟨w.heap.size, 5, none⟩ = some (.slice Q qn qc) := ((HQ.out.below HB2.out lq).cell 5).trans rfl
        go_wp2_with fail
        refine ((show Calls Try.prog 64 #[.slice Q qn qc] w2 (fun e w' => e = .returned (.bool true) ∧ Below w2.heap.size w2 w') by have h := dmayBe Q qc qs w2 (by rw [HQN.out]; exact (((HQR.out.below (BW1.out.trans ((HB2.out).mono BW1.out.size)) hbase).more (Nat.le_trans hbase (Nat.le_trans BW1.out.size (HB2.out).size))))) (by rw [HQN.out]; exact hql) (by rw [HQN.out]; exact hqc) HU.out; rw [HQN.out, e2] at h; exact h)).mono ?_
        rintro e w3 ⟨rfl, b3⟩
        have HB3 := Lib.hid (HB2.out.trans (b3.mono (HB2.out).size))
        clear b3
        clear q5
        have q5 : w3.cell? ⟨w.heap.size, 5, none⟩ = some (.slice Q qn qc) := ((HQ.out.below HB3.out lq).cell 5).trans rfl
        go_wp2_with fail
        refine ((show Calls Try.prog 66 #[.pointer (some ⟨g, 0, none⟩), .slice Q qn qc] w3 (fun e w' => e = .returned (.bool false) ∧ Below w3.heap.size w3 w') by have h := dhasAny s g Q qc qs w3 (HD.out.next HB3.out) (by rw [HQN.out]; exact (((HQR.out.below (BW1.out.trans ((HB3.out).mono BW1.out.size)) hbase).more (Nat.le_trans hbase (Nat.le_trans BW1.out.size (HB3.out).size))))) (by rw [HQN.out]; exact hql); rw [HQN.out, e3] at h; exact h)).mono ?_
        rintro e w4 ⟨rfl, b4⟩
        have HB4 := Lib.hid (HB3.out.trans (b4.mono (HB3.out).size))
        clear b4
        clear q5
        have q5 : w4.cell? ⟨w.heap.size, 5, none⟩ = some (.slice Q qn qc) := ((HQ.out.below HB4.out lq).cell 5).trans rfl
        have CU := Lib.hid (dcloneU Q qc qn (n32 qs) w4 (((HQR.out.below (BW1.out.trans ((HB4.out).mono BW1.out.size)) hbase).more (Nat.le_trans hbase (Nat.le_trans BW1.out.size (HB4.out).size)))) hql (fun u hu => by obtain ⟨_, _, rfl⟩ := List.mem_map.1 hu; rfl))
        go_wp2_with fail
        refine CU.out.mono ?_
        rintro e w5 ⟨uA, uc, rfl, oU, b5⟩
        have HB5 := Lib.hid (HB4.out.trans (b5.mono HB4.out.size))
        have HU5 := Lib.hid (own_base oU (show base ≤ w4.heap.size from Nat.le_trans hb1 HB4.out.size))
        clear oU b5 CU q5
        have hlen := (List.getElem?_eq_some_iff.1 HXI.out.1).1
        obtain ⟨gD, cur, hCA, hgb, hW, hcz⟩ := own_wholeX HX.out.r.ot (by omega)
        have hee := HXI.out.2.2
        rw [hCA] at hee
        injection hee with hee
        injection hee with x1 x2 _
        subst x1
        subst x2
        have htk : ∀ (j : Nat) (v : Value), (tmC s.T)[j]? = some v → w5.cell? ⟨gD, j, none⟩ = some v := fun j v hv => by
          have h2 := ((Row.of_own HX.out.r.ot).below HB5.out (Nat.le_refl _)).2 (by omega)
          obtain ⟨g', o', e', _, hc⟩ := h2
          rw [hCA] at e'
          injection e' with e'
          injection e' with e1 e2 _
          subst e1
          subst e2
          have := hc j v hv
          rwa [Nat.zero_add] at this
        have c3 : w5.cell? ⟨gD, i * 4 + 3, none⟩ = some (.slice x.A x.t.ss.length x.c) := htk _ _ ((tmC_get HXI.out.1 3 (by decide)).trans rfl)
        have c2 : w5.cell? ⟨gD, i * 4 + 2, none⟩ = some (.int .i64 x.t.from') := htk _ _ ((tmC_get HXI.out.1 2 (by decide)).trans rfl)
        have hWn := hW.below HB5.out hW.lt
        have f2 := hWn.free (i * 4 + 2)
        have f3 := hWn.free (i * 4 + 3)
        have l4 := hWn.lt
        have HCA := Lib.hid hCA
        obtain ⟨Y, hY⟩ : ∃ Y : Tm, (⟨⟨x.t.id, x.t.owner, wrap64 (x.t.from' + 1), qs⟩, uA, uc⟩ : Tm) = Y := ⟨_, rfl⟩
        have HJ := Lib.hid (show replS s.X (⟨qk, qw, qr, qg, qt, qs, ql, qd⟩ : Rq) = ({ s.X with ts := tks (s.T.set i Y) }, 0) by rw [← hY]; exact repl_ok (q := (⟨qk, qw, qr, qg, qt, qs, ql, qd⟩ : Rq)) HI.out HX.out.r.ts hen HXI.out.1 HXI.out.2.1 e2 e3)
        have HF := Lib.hid (show Turned base g { s.X with ts := tks (s.T.set i Y) } w ((w5.setCell ⟨gD, i * 4 + 3, none⟩ (.slice uA qn uc)).setCell ⟨gD, i * 4 + 2, none⟩ (.int .i64 (wrap64 (x.t.from' + 1)))) from by
          have N2 := HX.out.next HB5.out
          have ho := N2.r.ot
          rw [HCA.out] at ho
          have o5 := own_setY (j := i * 4 + 2) (u := .int .i64 (wrap64 (x.t.from' + 1))) (own_setY (j := i * 4 + 3) (u := .slice uA qn uc) ho (by omega)) (by omega)
          rw [tmC_set (y := Y) HXI.out.1 (by rw [← hY, ← HQN.out]; rfl), ← HCA.out] at o5
          refine ⟨_, rfl, N2.elemT HCA.out o5 (((But.refl (fun k => k = gD) w5).set (p := ⟨gD, i * 4 + 3, none⟩) (.inl rfl) _).set (p := ⟨gD, i * 4 + 2, none⟩) (.inl rfl) _) (by rw [List.length_set]) (fun z hz => ?_), ((HBW.out.trans (but_of_below HB5.out)).set (p := ⟨gD, i * 4 + 3, none⟩) (.inl (HX.out.loT gD (by rw [HCA.out]; rfl))) _).set (p := ⟨gD, i * 4 + 2, none⟩) (.inl (HX.out.loT gD (by rw [HCA.out]; rfl))) _⟩
          rcases List.mem_or_eq_of_mem_set hz with hz | hz
          · exact .inl hz
          · refine .inr ?_
            rw [hz, ← hY]
            dsimp only
            rw [HQN.out]
            exact ⟨HU5.out, hql⟩)
        clear htk hW hgb hcz hCA hWn HG HD HQ HX hY
        go_wp2_with fail
        go_ret
        exact ⟨by rw [HJ.out]; rfl, by obtain ⟨_, _, _, h⟩ := HF.out; exact h, fun _ => by rw [HJ.out]; exact HF.out⟩
  · skip
    go_enter Try.func43, Try.ntmps43
    go_upto_region 1 with fail
    rw [← hw1]
    clear hw1
    have q0 : w1.cell? ⟨w.heap.size, 0, none⟩ = some (.int .i64 qk) := ((HQ.out.below HB1.out lq).cell 0).trans rfl
    have q1 : w1.cell? ⟨w.heap.size, 1, none⟩ = some (.int .i64 qw) := ((HQ.out.below HB1.out lq).cell 1).trans rfl
    have q2 : w1.cell? ⟨w.heap.size, 2, none⟩ = some (.int .i64 qr) := ((HQ.out.below HB1.out lq).cell 2).trans rfl
    have q3 : w1.cell? ⟨w.heap.size, 3, none⟩ = some (.int .i64 qg) := ((HQ.out.below HB1.out lq).cell 3).trans rfl
    have q4 : w1.cell? ⟨w.heap.size, 4, none⟩ = some (.int .i64 qt) := ((HQ.out.below HB1.out lq).cell 4).trans rfl
    have q5 : w1.cell? ⟨w.heap.size, 5, none⟩ = some (.slice Q qn qc) := ((HQ.out.below HB1.out lq).cell 5).trans rfl
    have q6 : w1.cell? ⟨w.heap.size, 6, none⟩ = some (.int .i64 ql) := ((HQ.out.below HB1.out lq).cell 6).trans rfl
    have q7 : w1.cell? ⟨w.heap.size, 7, none⟩ = some (.int .i64 qd) := ((HQ.out.below HB1.out lq).cell 7).trans rfl
    go_wp2_with fail
    refine ((show Calls Try.prog 69 #[.pointer (some ⟨g, 0, none⟩), .agg #[.int .i64 qk, .int .i64 qw, .int .i64 qr, .int .i64 qg, .int .i64 qt, .slice Q qn qc, .int .i64 ql, .int .i64 qd]] w1 (fun e w' => e = .returned (.tuple #[.pointer none, .int .i64 en]) ∧ Below w1.heap.size w1 w') from down_no (q := (⟨qk, qw, qr, qg, qt, qs, ql, qd⟩ : Rq)) hen hne g Q qn qc w1 HD.out)).mono ?_
    rintro e w2 ⟨rfl, b2⟩
    have HB2 := Lib.hid (HB1.out.trans (b2.mono (HB1.out).size))
    clear b2
    clear q0 q1 q2 q3 q4 q5 q6 q7
    have HF := Lib.hid (repl_err (q := (⟨qk, qw, qr, qg, qt, qs, ql, qd⟩ : Rq)) HX.out.r.ts hen hne)
    go_wp2_with fail
    go_ret
    exact ⟨by rw [HF.out]; rfl, HBW.out.trans (but_of_below HB2.out), fun h => by rw [HF.out] at h; exact absurd h hne⟩
end Go.Proofs.Ytmmeceehfdbdoaa
