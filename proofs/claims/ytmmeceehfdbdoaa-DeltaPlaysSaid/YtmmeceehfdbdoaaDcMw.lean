/-
  Package delta: leave, at the copy.
-/
import Derived.Test.YtmmeceehfdbdoaaDcMk
namespace Go.Proofs.Ytmmeceehfdbdoaa
open Go.RowKit
open Dl
set_option linter.unusedSimpArgs false
set_option linter.unusedVariables false
set_option maxRecDepth 100000

namespace Dl
def gone1 (k : Int) (l : List Tm) (b : Sb) : Bool := l.any fun x => decide (x.t.owner = k ∧ b.track = x.t.id)
def bsK (k : Int) (l : List Tm) (bs : List Sb) : List Sb := bs.filter fun b => !gone1 k l b
theorem bsK_nil (k : Int) (bs : List Sb) : bsK k [] bs = bs := by
  unfold bsK gone1
  simp
theorem bsK_yes {k : Int} {l : List Tm} {j : Nat} {x : Tm} {bs : List Sb} (hx : l[j]? = some x) (h : x.t.owner = k) : bsK k (l.take (j + 1)) bs = outS (fun b => decide (b.track = x.t.id)) (bsK k (l.take j) bs) := by
  unfold bsK outS gone1
  rw [List.take_add_one, hx, List.filter_filter]
  refine List.filter_congr fun b _ => ?_
  simp [List.any_append, h, Bool.and_comm]
theorem bsK_no {k : Int} {l : List Tm} {j : Nat} {x : Tm} {bs : List Sb} (hx : l[j]? = some x) (h : ¬ x.t.owner = k) : bsK k (l.take (j + 1)) bs = bsK k (l.take j) bs := by
  unfold bsK gone1
  rw [List.take_add_one, hx]
  refine List.filter_congr fun b _ => ?_
  simp [List.any_append, h]
theorem bsK_le (k : Int) (l : List Tm) (bs : List Sb) : (bsK k l bs).length ≤ bs.length := List.length_filter_le _ _
theorem leave_ok {X : St} {q : Rq} {l : List Tm} (hI : Inv X) (h : X.ts = tks l) :
    leaveS X q = ({ X with ps := outS (isP q.who) X.ps, ts := tks (outS (fun x => decide (x.t.owner = q.who)) l), bs := outS (ofB q.who) (bsK q.who l X.bs) }, 0) := by
  have e1 : X.ts.filter (fun t => !decide (t.owner = q.who)) = tks (outS (fun x => decide (x.t.owner = q.who)) l) := by rw [h, tks_filter]; rfl
  have e2 : (X.bs.filter fun b => !ofB q.who b && (X.ts.filter fun t => !decide (t.owner = q.who)).any (isT b.track)) = outS (ofB q.who) (bsK q.who l X.bs) := by
    unfold outS bsK
    rw [List.filter_filter]
    refine List.filter_congr fun b hb => ?_
    congr 1
    obtain ⟨_, p, hp, t, ht, o, ho, _, _, et, _⟩ := hI.bm b hb
    have e3 : gone1 q.who l b = X.ts.any fun t => decide (t.owner = q.who ∧ b.track = t.id) := by
      unfold gone1
      rw [h]
      unfold tks
      rw [any_map']
    rw [e3]
    by_cases how : t.owner = q.who
    · have a1 : (X.ts.any fun t => decide (t.owner = q.who ∧ b.track = t.id)) = true := List.any_eq_true.mpr ⟨t, ht, by simp [how, et]⟩
      rw [a1, Bool.not_true, List.any_eq_false]
      intro z hz
      obtain ⟨hz1, hz2⟩ := List.mem_filter.mp hz
      intro hz3
      have hz4 := isT_iff.mp hz3
      have := hI.track hz1
      rw [hz4, ← et, hI.track ht] at this
      injection this with this
      subst this
      simp [how] at hz2
    · have a1 : (X.ts.any fun t => decide (t.owner = q.who ∧ b.track = t.id)) = false := by
        rw [List.any_eq_false]
        intro z hz hz3
        simp only [decide_eq_true_eq] at hz3
        have := hI.track hz
        rw [← hz3.2, ← et, hI.track ht] at this
        injection this with this
        subst this
        exact how hz3.1
      rw [a1, Bool.not_false, List.any_eq_true]
      exact ⟨t, List.mem_filter.mpr ⟨ht, by simp [how]⟩, isT_iff.mpr et⟩
  unfold leaveS
  rw [e1] at e2 ⊢
  rw [e2]
  rfl
end Dl

set_option maxHeartbeats 6400000 in
theorem dleave (base g : Nat) (s : Sm) (q : Rq) (Q : Option Addr) (qc : Nat) (w : World) (h : Nx base w g s) (hI : Inv s.X) (hbase : base ≤ w.heap.size) :
    Calls Try.prog 40 #[.pointer (some ⟨g, 0, none⟩), .agg (reqA q Q q.ss.length qc)] w (MOut base g (leaveS s.X q) w) := by
  obtain ⟨qk, qw, qr, qg, qt, qs, ql, qd⟩ := q
  unfold reqA MOut
  dsimp only
  obtain ⟨qn, hqn⟩ : ∃ n, qs.length = n := ⟨_, rfl⟩
  rw [hqn]
  obtain ⟨w1, hw1⟩ : ∃ z, z = w.alloc (.cells #[.int .i64 qk, .int .i64 qw, .int .i64 qr, .int .i64 qg, .int .i64 qt, .slice Q qn qc, .int .i64 ql, .int .i64 qd] 45) := ⟨_, rfl⟩
  have b1 : Below w.heap.size w w1 := by rw [hw1]; exact (Below.refl _ _).alloc (Nat.le_refl _) _
  have hq : Whole w1 w.heap.size 45 #[.int .i64 qk, .int .i64 qw, .int .i64 qr, .int .i64 qg, .int .i64 qt, .slice Q qn qc, .int .i64 ql, .int .i64 qd] := by rw [hw1]; exact Whole.new w _ _
  have h1 := h.next b1
  have lg := h.at'.lt
  have lg1 := h1.at'.lt
  have lq := hq.lt
  have gq : g ≠ w.heap.size := by omega
  have hg := h1.at'
  obtain ⟨np, hnp⟩ : ∃ n, s.X.ps.length = n := ⟨_, rfl⟩
  obtain ⟨nt, hnt⟩ : ∃ n, s.T.length = n := ⟨_, rfl⟩
  obtain ⟨nb, hnb⟩ : ∃ n, s.X.bs.length = n := ⟨_, rfl⟩
  unfold smA at hg
  simp only [hnp, hnt, hnb] at hg
  have HNP := Lib.hid hnp
  have HNT := Lib.hid hnt
  have HNB := Lib.hid hnb
  have HQN := Lib.hid hqn
  have HG := Lib.hid hg
  have HQ := Lib.hid hq
  have HX := Lib.hid h1
  have HD := Lib.hid h1.rd
  have HB1 := Lib.hid (Below.refl w1.heap.size w1)
  have HBW := Lib.hid (show But (fun k => base ≤ k) w w1 from but_of_below b1)
  have HI := Lib.hid hI
  have hb1 : base ≤ w1.heap.size := Nat.le_trans hbase b1.size
  have hsm := h.r.small
  rw [hnp, hnt, hnb] at hsm
  clear h h1 hq hg b1 hI hnp hnt hnb hqn
  have g5 : w1.cell? ⟨g, 5, none⟩ = some (.slice s.B nt s.b) := (HG.out.cell 5).trans rfl
  go_enter Try.func40, Try.ntmps40
  go_upto_region 1 with fail
  rw [← hw1]
  clear hw1
  go_wp2_with fail
  have HT0 := Lib.hid (show bsK qw (s.T.take 0) s.X.bs = s.X.bs from by rw [List.take_zero]; exact bsK_nil _ _)
  clear g5
  go_loopw [14] (fun v14 wr => ∃ k : Nat, k ≤ nt ∧ v14 = .int .i64 (k : Int) ∧ Hid (Nx base wr g ⟨{ s.X with bs := bsK qw (s.T.take k) s.X.bs }, s.T, s.A, s.a, s.B, s.b, s.C, s.c⟩) ∧ Hid (Whole wr w.heap.size 45 #[.int .i64 qk, .int .i64 qw, .int .i64 qr, .int .i64 qg, .int .i64 qt, .slice Q qn qc, .int .i64 ql, .int .i64 qd]) ∧ Hid (But (fun k => base ≤ k) w1 wr)) (fun v14 _ => nt - (intOf v14).toNat)
  case atStart => exact ⟨0, Nat.zero_le _, rfl, Lib.hid (by rw [HT0.out]; exact HX.out), HQ, Lib.hid (But.refl _ _)⟩
  case round =>
    obtain ⟨k, hk, rfl, HN, HQr, HK⟩ := hrel
    have hsz := HK.out.size
    by_cases hlt : k < nt
    · obtain ⟨y, hy⟩ : ∃ y, s.T[k]? = some y := ⟨_, List.getElem?_eq_getElem (by rw [HNT.out]; exact hlt)⟩
      obtain ⟨gB, o, hBA, hgb, hc⟩ := (Row.of_own HN.out.r.ot).2 (by dsimp only; rw [HNT.out]; omega)
      dsimp only at hBA hc
      have c0 := hc _ _ ((tmC_get hy 0 (by decide)).trans rfl)
      have c1 := hc _ _ ((tmC_get hy 1 (by decide)).trans rfl)
      have c2 := hc _ _ ((tmC_get hy 2 (by decide)).trans rfl)
      have c3 := hc _ _ ((tmC_get hy 3 (by decide)).trans rfl)
      rw [← Nat.add_assoc] at c1 c2 c3
      rw [Nat.add_zero] at c0
      have i0 : (0 : Int) ≤ (k : Int) := by omega
      have i1 : (k : Int) < (nt : Int) := by omega
      have lB : gB < wr.heap.size := hgb
      have lgr := HN.out.at'.lt
      obtain ⟨⟨xi, xo, xf, xs⟩, xA, xc⟩ := y
      obtain ⟨n5, hn5⟩ : ∃ z, xs.length = z := ⟨_, rfl⟩
      dsimp only [tmV] at c0 c1 c2 c3
      rw [hn5] at c3
      rw [hBA]
      have HBA := Lib.hid hBA
      clear hBA
      have HN5 := Lib.hid hn5
      have HY := Lib.hid hy
      have gqr : g ≠ wr.heap.size := by omega
      have lqr := HQr.out.lt
      obtain ⟨wb, hwb⟩ : ∃ z, z = wr.alloc (.cells #[.int .i64 xi, .int .i64 xo, .int .i64 xf, .slice xA n5 xc] 72) := ⟨_, rfl⟩
      have bb : Below wr.heap.size wr wb := by rw [hwb]; exact (Below.refl _ _).alloc (Nat.le_refl _) _
      have hT : Whole wb wr.heap.size 72 #[.int .i64 xi, .int .i64 xo, .int .i64 xf, .slice xA n5 xc] := by rw [hwb]; exact Whole.new wr _ _
      have HNb := Lib.hid (HN.out.next bb)
      have HQb := Lib.hid (HQr.out.below bb lqr)
      have HKb := Lib.hid (HK.out.trans (but_of_below bb))
      have HTb := Lib.hid hT
      have CO := Lib.hid (cl_owns ⟨⟨xi, xo, xf, xs⟩, xA, xc⟩ w.heap.size qw wb (HQb.out.cell 1) HQb.out.lt)
      rw [show (tmV ⟨⟨xi, xo, xf, xs⟩, xA, xc⟩).toArray = #[.int .i64 xi, .int .i64 xo, .int .i64 xf, .slice xA n5 xc] from by rw [← hn5]; rfl] at CO
      have z0 := (hT.cell 0).trans rfl
      have z1 := (hT.cell 1).trans rfl
      have z2 := (hT.cell 2).trans rfl
      have z3 := (hT.cell 3).trans rfl
      have lT := hT.lt
      dsimp only at CO
      clear hy hc hn5 hT bb HN HQr HK
      by_cases how : xo = qw
      · rw [decide_eq_true how] at CO
        have HSK := Lib.hid (bsK_yes (bs := s.X.bs) HY.out how)
        have HOW := Lib.hid how
        clear how
        go_upto_region 5 with fail
        rw [← hwb]
        clear hwb c0 c1 c2 c3
        go_wp2_with fail
        refine CO.out.mono ?_
        rintro e w8 ⟨rfl, b8⟩
        have HN8 := Lib.hid (HNb.out.next b8)
        have HQ8 := Lib.hid (HQb.out.below b8 HQb.out.lt)
        have HK8 := Lib.hid (HKb.out.trans (but_of_below b8))
        have t0 : w8.cell? ⟨wr.heap.size, 0, none⟩ = some (.int .i64 xi) := ((HTb.out.below b8 lT).cell 0).trans rfl
        have lT8 := (HTb.out.below b8 lT).lt
        have CR := Lib.hid (ddrop base g _ xi w8 HN8.out (Nat.le_trans hb1 HK8.out.size))
        clear b8 CO z0 z1 z2 z3 HNb HQb HKb HTb
        go_wp2_with fail
        refine CR.out.mono ?_
        rintro e w9 ⟨rfl, n9, k9⟩
        rw [← HSK.out] at n9
        have HK9 := Lib.hid (HK8.out.trans (k9.mono (fun k _ hk => hk.elim (fun e => by rw [e]; exact HX.out.lo) (fun e => HN8.out.loB k e))))
        have HQ9 := Lib.hid (HQ8.out.but k9 (fun hk => hk.elim (fun e => gq e.symm) (fun e => own_far HN8.out.r.ob HQ8.out (by decide) e.symm)))
        have HN9 := Lib.hid n9
        clear n9 k9 CR HN8 HQ8 HK8 t0
        go_wp2_with fail
        go_roundw
        case rel => exact ⟨k + 1, by omega, by go_num, (by rw [← HBA.out]; exact HN9), HQ9, HK9⟩
        case measure => simp [intOf]; omega
      · rw [decide_eq_false how] at CO
        have HSK := Lib.hid (bsK_no (bs := s.X.bs) HY.out how)
        clear how
        go_upto_region 5 with fail
        rw [← hwb]
        clear hwb c0 c1 c2 c3
        go_wp2_with fail
        refine CO.out.mono ?_
        rintro e w8 ⟨rfl, b8⟩
        have HN8 := Lib.hid (show Nx base w8 g ⟨{ s.X with bs := bsK qw (s.T.take (k + 1)) s.X.bs }, s.T, s.A, s.a, s.B, s.b, s.C, s.c⟩ by rw [HSK.out]; exact HNb.out.next b8)
        have HQ8 := Lib.hid (HQb.out.below b8 HQb.out.lt)
        have HK8 := Lib.hid (HKb.out.trans (but_of_below b8))
        clear b8 CO z0 z1 z2 z3 HNb HQb HKb HTb
        go_wp2_with fail
        go_roundw
        case rel => exact ⟨k + 1, by omega, by go_num, (by rw [← HBA.out]; exact HN8), HQ8, HK8⟩
        case measure => simp [intOf]; omega
    · obtain rfl : nt = k := by omega
      have hkT : s.T.take nt = s.T := by rw [← HNT.out]; exact List.take_length
      have HJ := Lib.hid (leave_ok (q := (⟨qk, qw, qr, qg, qt, qs, ql, qd⟩ : Rq)) HI.out HX.out.r.ts)
      dsimp only at HJ
      rw [hkT] at HN
      have HN8 := HN
      have HQ8 := HQr
      have HK8 := HK
      clear HN HQr HK hkT
      obtain ⟨b0, hb0⟩ : ∃ b0, bsK qw s.T s.X.bs = b0 := ⟨_, rfl⟩
      rw [hb0] at HJ HN8
      have hB0 : b0.length ≤ 64 := HN8.out.r.small.2.2
      clear hb0
      obtain ⟨m0, hm0⟩ : ∃ m, b0.length = m := ⟨_, rfl⟩
      have HM0 := Lib.hid hm0
      rw [hm0] at hB0
      clear hm0
      have g6' : wr.cell? ⟨g, 6, none⟩ = some (.slice s.C m0 s.c) := by rw [← HM0.out]; exact (HN8.out.at'.cell 6).trans rfl
      have lg8 := HN8.out.at'.lt
      have CD := Lib.hid (ddelB base 60 (.pointer (some ⟨w.heap.size, 0, none⟩)) (ofB qw) s.C s.c b0 wr (enters Try.func60 (by kernel_rfl) (by kernel_rfl)) HN8.out.r.ob (by (try dsimp only); rw [HM0.out]; omega)
        (fun x _ wx hb' => by
          have h2 := HQ8.out.but hb' (fun e => own_far HN8.out.r.ob HQ8.out (by decide) e.symm)
          exact cl_leaveB x w.heap.size qw wx (h2.cell 1) h2.lt))
      unfold DelB at CD
      rw [HM0.out] at CD
      obtain ⟨b1, hb1⟩ : ∃ L, outS (ofB qw) b0 = L := ⟨_, rfl⟩
      have HLb1 := Lib.hid (show b1.length ≤ 64 by rw [← hb1]; have h1 := List.length_filter_le (fun z => !(ofB qw) z) b0; rw [HM0.out] at h1; unfold outS; omega)
      rw [hb1] at CD HJ
      clear hb1
      go_wp2_with fail
      refine CD.out.mono ?_
      rintro e v8 ⟨rfl, o5, k5⟩
      have k5' : But (fun k => (Value.slice s.C b0.length s.c).ownBlock = some k) wr v8 := by rw [HM0.out]; exact k5
      have hg5 := HN8.out.at'.but k5' (fun e => own_far HN8.out.r.ob HN8.out.at' (by decide) e.symm)
      have hc5 : v8.cell? ⟨g, 6, none⟩ = some (.slice s.C b0.length s.c) := (hg5.cell 6).trans rfl
      have f5 := hg5.free 6
      have lg5 := hg5.lt
      obtain ⟨u8, hu8⟩ : ∃ z, z = v8.setCell ⟨g, 6, none⟩ (.slice s.C b1.length s.c) := ⟨_, rfl⟩
      have HN9 := Lib.hid (show Nx base u8 g ⟨{ s.X with bs := b1 }, s.T, s.A, s.a, s.B, s.b, s.C, s.c⟩ by rw [hu8]; exact HN8.out.setB o5 k5' HLb1.out)
      have HQ9 := Lib.hid (show Whole u8 w.heap.size 45 #[.int .i64 qk, .int .i64 qw, .int .i64 qr, .int .i64 qg, .int .i64 qt, .slice Q qn qc, .int .i64 ql, .int .i64 qd] by rw [hu8]; exact (HQ8.out.but k5' (fun e => own_far HN8.out.r.ob HQ8.out (by decide) e.symm)).far (p := ⟨g, 6, none⟩) (fun e => gq e.symm) _)
      have HK9 := Lib.hid (show But (fun k => base ≤ k) w1 u8 by rw [hu8]; exact (HK8.out.trans (k5'.mono (fun k _ hk => HN8.out.loB k hk))).set (p := ⟨g, 6, none⟩) (.inl HX.out.lo) _)
      clear k5 k5' o5 hg5 CD HN8 HQ8 HK8 g6'
      go_upto_region 9 with fail
      rw [← hu8]
      clear hu8 hc5 f5 lg5
      have g5' : u8.cell? ⟨g, 5, none⟩ = some (.slice s.B nt s.b) := by rw [← HNT.out]; exact (HN9.out.at'.cell 5).trans rfl
      have lg9 := HN9.out.at'.lt
      have CD := Lib.hid (ddelT base 58 (.pointer (some ⟨w.heap.size, 0, none⟩)) (fun x : Tm => decide (x.t.owner = qw)) s.B s.b s.T u8 (enters Try.func58 (by kernel_rfl) (by kernel_rfl)) HN9.out.r.ot (by (try dsimp only); rw [HNT.out]; omega)
        (fun x _ wx hb' => by
          have h2 := HQ9.out.but hb' (fun e => own_far HN9.out.r.ot HQ9.out (by decide) e.symm)
          exact cl_owns x w.heap.size qw wx (h2.cell 1) h2.lt))
      unfold DelT at CD
      rw [HNT.out] at CD
      obtain ⟨t1, ht1⟩ : ∃ L, outS (fun x : Tm => decide (x.t.owner = qw)) s.T = L := ⟨_, rfl⟩
      have HLt1 := Lib.hid (show t1.length ≤ 64 by rw [← ht1]; have h1 := List.length_filter_le (fun z => !(fun x : Tm => decide (x.t.owner = qw)) z) s.T; rw [HNT.out] at h1; unfold outS; omega)
      have HSUB := Lib.hid (show ∀ x ∈ t1, x ∈ s.T from fun x hx => by rw [← ht1] at hx; exact (List.mem_filter.mp hx).1)
      rw [ht1] at CD HJ
      clear ht1
      go_wp2_with fail
      refine CD.out.mono ?_
      rintro e v9 ⟨rfl, o5, k5⟩
      have k5' : But (fun k => (Value.slice s.B s.T.length s.b).ownBlock = some k) u8 v9 := by rw [HNT.out]; exact k5
      have hg5 := HN9.out.at'.but k5' (fun e => own_far HN9.out.r.ot HN9.out.at' (by decide) e.symm)
      have hc5 : v9.cell? ⟨g, 5, none⟩ = some (.slice s.B s.T.length s.b) := (hg5.cell 5).trans rfl
      have f5 := hg5.free 5
      have lg5 := hg5.lt
      obtain ⟨u9, hu9⟩ : ∃ z, z = v9.setCell ⟨g, 5, none⟩ (.slice s.B t1.length s.b) := ⟨_, rfl⟩
      have HN10 := Lib.hid (show Nx base u9 g ⟨{ s.X with ts := tks t1, bs := b1 }, t1, s.A, s.a, s.B, s.b, s.C, s.c⟩ by rw [hu9]; exact HN9.out.setT o5 k5' HLt1.out (fun x hx => .inl (HSUB.out x hx)))
      have HQ10 := Lib.hid (show Whole u9 w.heap.size 45 #[.int .i64 qk, .int .i64 qw, .int .i64 qr, .int .i64 qg, .int .i64 qt, .slice Q qn qc, .int .i64 ql, .int .i64 qd] by rw [hu9]; exact (HQ9.out.but k5' (fun e => own_far HN9.out.r.ot HQ9.out (by decide) e.symm)).far (p := ⟨g, 5, none⟩) (fun e => gq e.symm) _)
      have HK10 := Lib.hid (show But (fun k => base ≤ k) w1 u9 by rw [hu9]; exact (HK9.out.trans (k5'.mono (fun k _ hk => HN9.out.loT k hk))).set (p := ⟨g, 5, none⟩) (.inl HX.out.lo) _)
      clear k5 k5' o5 hg5 CD HN9 HQ9 HK9 g5'
      go_upto_region 10 with fail
      rw [← hu9]
      clear hu9 hc5 f5 lg5
      have g4' : u9.cell? ⟨g, 4, none⟩ = some (.slice s.A np s.a) := by rw [← HNP.out]; exact (HN10.out.at'.cell 4).trans rfl
      have lg10 := HN10.out.at'.lt
      have CD := Lib.hid (ddelP base 63 (.pointer (some ⟨w.heap.size, 0, none⟩)) (isP qw) s.A s.a s.X.ps u9 (enters Try.func63 (by kernel_rfl) (by kernel_rfl)) HN10.out.r.op (by (try dsimp only); rw [HNP.out]; omega)
        (fun x _ wx hb' => by
          have h2 := HQ10.out.but hb' (fun e => own_far HN10.out.r.op HQ10.out (by decide) e.symm)
          exact cl_leaveP x w.heap.size qw wx (h2.cell 1) h2.lt))
      unfold DelP at CD
      rw [HNP.out] at CD
      obtain ⟨p1, hp1⟩ : ∃ L, outS (isP qw) s.X.ps = L := ⟨_, rfl⟩
      have HLp1 := Lib.hid (show p1.length ≤ 64 by rw [← hp1]; have h1 := List.length_filter_le (fun z => !(isP qw) z) s.X.ps; rw [HNP.out] at h1; unfold outS; omega)
      rw [hp1] at CD HJ
      clear hp1
      go_wp2_with fail
      refine CD.out.mono ?_
      rintro e v10 ⟨rfl, o5, k5⟩
      have k5' : But (fun k => (Value.slice s.A s.X.ps.length s.a).ownBlock = some k) u9 v10 := by rw [HNP.out]; exact k5
      have hg5 := HN10.out.at'.but k5' (fun e => own_far HN10.out.r.op HN10.out.at' (by decide) e.symm)
      have hc5 : v10.cell? ⟨g, 4, none⟩ = some (.slice s.A s.X.ps.length s.a) := (hg5.cell 4).trans rfl
      have f5 := hg5.free 4
      have lg5 := hg5.lt
      obtain ⟨u10, hu10⟩ : ∃ z, z = v10.setCell ⟨g, 4, none⟩ (.slice s.A p1.length s.a) := ⟨_, rfl⟩
      have HN11 := Lib.hid (show Nx base u10 g ⟨{ s.X with ps := p1, ts := tks t1, bs := b1 }, t1, s.A, s.a, s.B, s.b, s.C, s.c⟩ by rw [hu10]; exact HN10.out.setP o5 k5' HLp1.out)
      have HQ11 := Lib.hid (show Whole u10 w.heap.size 45 #[.int .i64 qk, .int .i64 qw, .int .i64 qr, .int .i64 qg, .int .i64 qt, .slice Q qn qc, .int .i64 ql, .int .i64 qd] by rw [hu10]; exact (HQ10.out.but k5' (fun e => own_far HN10.out.r.op HQ10.out (by decide) e.symm)).far (p := ⟨g, 4, none⟩) (fun e => gq e.symm) _)
      have HK11 := Lib.hid (show But (fun k => base ≤ k) w1 u10 by rw [hu10]; exact (HK10.out.trans (k5'.mono (fun k _ hk => HN10.out.loP k hk))).set (p := ⟨g, 4, none⟩) (.inl HX.out.lo) _)
      clear k5 k5' o5 hg5 CD HN10 HQ10 HK10 g4'
      have HF := Lib.hid (show Turned base g { s.X with ps := p1, ts := tks t1, bs := b1 } w u10 from ⟨_, rfl, HN11.out, HBW.out.trans HK11.out⟩)
      go_upto_region 11 with fail
      rw [← hu10]
      clear hu10 hc5 f5 lg5 HN11 HQ11 HK11 HG HD HQ HX
      go_wp2_with fail
      go_ret
      exact ⟨by rw [HJ.out]; rfl, by obtain ⟨_, _, _, h⟩ := HF.out; exact h, fun _ => by rw [HJ.out]; exact HF.out⟩
end Go.Proofs.Ytmmeceehfdbdoaa
