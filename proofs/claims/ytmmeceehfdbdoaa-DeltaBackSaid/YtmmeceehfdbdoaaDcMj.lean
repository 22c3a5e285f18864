/-
 Package delta: join, at the copy.
-/
import Derived.Conc.WalkWords
import Derived.Test.YtmmeceehfdbdoaaDcN
namespace Go.Proofs.Ytmmeceehfdbdoaa
open Go.RowKit
open Dl
set_option linter.unusedSimpArgs false
set_option linter.unusedVariables false
set_option maxRecDepth 100000
namespace Dl
theorem place_cons {α : Type} (f : α → Bool) (a : α) (l : List α) : placeS f (a :: l) = if f a = true then 0 else placeS f l + 1 := by
 unfold placeS
 rw [List.findIdx?_cons]
 cases f a with
 | true => rfl
 | false =>
  cases l.findIdx? f <;> simp
theorem put_ins {α : Type} {f : α → Bool} {lt : α → α → Bool} {x : α} : ∀ {l : List α}, (∀ z ∈ l, f z = !(lt z x)) → putS f l x = insK lt l x := by
 intro l h
 rw [insK_at]
 have e : placeS f l = (l.takeWhile fun z => lt z x).length := by
  induction l with
  | nil => rfl
  | cons a l ih =>
   rw [place_cons, List.takeWhile_cons, h a (by simp)]
   cases lt a x with
   | true => simp; exact ih (fun z hz => h z (by simp [hz]))
   | false => simp
 unfold putS
 rw [e]
end Dl
theorem of_drew {w w' : World} (h : Below w.drew.heap.size w.drew w') : Below w.heap.size w w' := ⟨h.os, h.tape, h.output, h.size, h.block⟩
/-- What a request comes to at the copy. -/
def MOut (base g : Nat) (r : St × Int) (w : World) (e : Ending) (w' : World) : Prop :=
 e = .returned (.int .i64 r.2) ∧ But (fun k => base ≤ k) w w' ∧ (r.2 = 0 → Turned base g r.1 w w')
theorem dwithin_yes {n lo hi : Int} (h : lo ≤ n ∧ n ≤ hi) (w : World) : Calls Try.prog 35 #[.int .i64 n, .int .i64 lo, .int .i64 hi] w fun e w' => e = .returned (.bool true) ∧ Below w.heap.size w w' := by
 have := dwithin n lo hi w
 rw [decide_eq_true h] at this
 exact this
theorem dwithin_no {n lo hi : Int} (h : ¬ (lo ≤ n ∧ n ≤ hi)) (w : World) : Calls Try.prog 35 #[.int .i64 n, .int .i64 lo, .int .i64 hi] w fun e w' => e = .returned (.bool false) ∧ Below w.heap.size w w' := by
 have := dwithin n lo hi w
 rw [decide_eq_false h] at this
 exact this
theorem dperson_no {s : Sm} {k : Int} (hno : s.X.ps.find? (isP k) = none) (g : Nat) (w : World) (h : Rd w g s) : Calls Try.prog 49 #[.pointer (some ⟨g, 0, none⟩), .int .i64 k] w fun e w' => e = .returned (.pointer none) ∧ Below w.heap.size w w' := by
 have := dperson s g k w h
 rcases ix_find (f := isP k) (l := s.X.ps) with ⟨a, _⟩ | ⟨i, x, _, _, b, _⟩
 · rw [ptrS_no a] at this; exact this
 · rw [hno] at b; cases b
theorem dperson_yes {s : Sm} {k : Int} {x : Pn} (hf : s.X.ps.find? (isP k) = some x) (g : Nat) (w : World) (h : Rd w g s) : Calls Try.prog 49 #[.pointer (some ⟨g, 0, none⟩), .int .i64 k] w fun e w' => (∃ gB o i, e = .returned (.pointer (some ⟨gB, o + i * 3, none⟩)) ∧ gB < w'.heap.size ∧ w'.cell? ⟨gB, o + i * 3, none⟩ = some (.int .i64 x.who) ∧ w'.cell? ⟨gB, o + i * 3 + 1, none⟩ = some (.int .i64 x.room) ∧ w'.cell? ⟨gB, o + i * 3 + 2, none⟩ = some (.int .i64 x.rights)) ∧ Below w.heap.size w w' := by
 refine (dperson s g k w h).mono ?_
 rintro e w' ⟨rfl, hb⟩
 refine ⟨?_, hb⟩
 rcases ix_find (f := isP k) (l := s.X.ps) with ⟨_, a⟩ | ⟨i, y, hi, hy, b, _⟩
 · rw [hf] at a; cases a
 · rw [hf] at b
   injection b with b
   subst b
   obtain ⟨gB, o, hA, hg, hc⟩ := h.rp.2 (by have := (List.getElem?_eq_some_iff.1 hy).1; omega)
   refine ⟨gB, o, i, by rw [hi, hA, ptrS_at], by have := hb.size; omega, ?_, ?_, ?_⟩
   · exact (hb.cell (p := ⟨gB, o + i * 3, none⟩) hg).trans (by have := hc _ _ ((pnC_get hy 0 (by decide)).trans rfl); simpa using this)
   · exact (hb.cell (p := ⟨gB, o + i * 3 + 1, none⟩) hg).trans (by have := hc _ _ ((pnC_get hy 1 (by decide)).trans rfl); rwa [← Nat.add_assoc] at this)
   · exact (hb.cell (p := ⟨gB, o + i * 3 + 2, none⟩) hg).trans (by have := hc _ _ ((pnC_get hy 2 (by decide)).trans rfl); rwa [← Nat.add_assoc] at this)

set_option maxHeartbeats 3200000 in
theorem djoin (base g : Nat) (s : Sm) (q : Rq) (Q : Option Addr) (qc : Nat) (w : World) (h : Nx base w g s) (hI : Inv s.X) (hbase : base ≤ w.heap.size) :
 Calls Try.prog 39 #[.pointer (some ⟨g, 0, none⟩), .agg (reqA q Q q.ss.length qc)] w (MOut base g (joinS s.X q) w) := by
 obtain ⟨qk, qw, qr, qg, qt, qs, ql, qd⟩ := q
 unfold reqA MOut
 dsimp only
 obtain ⟨qn, hqn⟩ : ∃ n, qs.length = n := ⟨_, rfl⟩
 rw [hqn]
 obtain ⟨w1, hw1⟩ : ∃ z, z = w.alloc (.cells #[.int .i64 qk, .int .i64 qw, .int .i64 qr, .int .i64 qg, .int .i64 qt, .slice Q qn qc, .int .i64 ql, .int .i64 qd] 45) := ⟨_, rfl⟩
 have b1 : Below w.heap.size w w1 := by rw [hw1]; exact (Below.refl _ _).alloc (Nat.le_refl _) _
 have hq : Whole w1 w.heap.size 45 #[.int .i64 qk, .int .i64 qw, .int .i64 qr, .int .i64 qg, .int .i64 qt, .slice Q qn qc, .int .i64 ql, .int .i64 qd] := by rw [hw1]; exact Whole.new w _ _
 have h1 := h.next b1
 have lg := h.at'.lt
 have lg1 := h1.at'.lt
 have lq := hq.lt
 have gq : g ≠ w.heap.size := by omega
 have hg := h1.at'
 obtain ⟨np, hnp⟩ : ∃ n, s.X.ps.length = n := ⟨_, rfl⟩
 obtain ⟨nt, hnt⟩ : ∃ n, s.T.length = n := ⟨_, rfl⟩
 obtain ⟨nb, hnb⟩ : ∃ n, s.X.bs.length = n := ⟨_, rfl⟩
 unfold smA at hg
 simp only [hnp, hnt, hnb] at hg
 have HNP := Lib.hid hnp
 have HNT := Lib.hid hnt
 have HNB := Lib.hid hnb
 have HQN := Lib.hid hqn
 have HG := Lib.hid hg
 have HQ := Lib.hid hq
 have HX := Lib.hid h1
 have HD := Lib.hid h1.rd
 have HB1 := Lib.hid (Below.refl w1.heap.size w1)
 have HBW := Lib.hid (show But (fun k => base ≤ k) w w1 from but_of_below b1)
 have HI := Lib.hid hI
 have hb1 : base ≤ w1.heap.size := Nat.le_trans hbase b1.size
 have hsm := h.r.small
 rw [hnp, hnt, hnb] at hsm
 clear h h1 hq hg b1 hI hnp hnt hnb hqn
 by_cases e1 : 1 ≤ qw ∧ qw ≤ 999
 · by_cases e2 : 1 ≤ qr ∧ qr ≤ 9
   · by_cases e3 : 0 ≤ qg ∧ qg ≤ 3
     · cases hno : s.X.ps.find? (isP qw) with
       | some y =>
        have hy := hno
        go_enter Try.func39, Try.ntmps39
        go_upto_region 1 with fail
        rw [← hw1]
        clear hw1
        have q1 : w1.cell? ⟨w.heap.size, 1, none⟩ = some (.int .i64 qw) := ((HQ.out.below HB1.out lq).cell 1).trans rfl
        go_wp2_with fail
        refine (dwithin_yes e1 w1).mono ?_
        rintro e w2 ⟨rfl, b2⟩
        have HB2 := Lib.hid (HB1.out.trans (b2.mono (HB1.out).size))
        clear b2
        clear q1
        have q2 : w2.cell? ⟨w.heap.size, 2, none⟩ = some (.int .i64 qr) := ((HQ.out.below HB2.out lq).cell 2).trans rfl
        go_wp2_with fail
        refine (dwithin_yes e2 w2).mono ?_
        rintro e w3 ⟨rfl, b3⟩
        have HB3 := Lib.hid (HB2.out.trans (b3.mono (HB2.out).size))
        clear b3
        clear q2
        have q3 : w3.cell? ⟨w.heap.size, 3, none⟩ = some (.int .i64 qg) := ((HQ.out.below HB3.out lq).cell 3).trans rfl
        go_wp2_with fail
        refine (dwithin_yes e3 w3).mono ?_
        rintro e w4 ⟨rfl, b4⟩
        have HB4 := Lib.hid (HB3.out.trans (b4.mono (HB3.out).size))
        clear b4
        clear q3
        have q1 : w4.cell? ⟨w.heap.size, 1, none⟩ = some (.int .i64 qw) := ((HQ.out.below HB4.out lq).cell 1).trans rfl
        go_wp2_with fail
        refine (dperson_yes hy g w4 (HD.out.next HB4.out)).mono ?_
        rintro e w5 ⟨⟨gB, o, i, rfl, _, _, _, _⟩, b5⟩
        have HB5 := Lib.hid (HB4.out.trans (b5.mono (HB4.out).size))
        clear b5
        clear q1
        have HF := Lib.hid (show (joinS s.X (⟨qk, qw, qr, qg, qt, qs, ql, qd⟩ : Rq)).2 = 22 by unfold joinS; dsimp only; rw [if_neg (by omega), if_pos (by rw [hy]; rfl)])
        go_wp2_with fail
        go_ret
        exact ⟨by rw [HF.out]; rfl, HBW.out.trans (but_of_below HB5.out), fun h => by rw [HF.out] at h; cases h⟩
       | none =>
        by_cases hfull : s.X.cf.ps ≤ (np : Int)
        · have t5 : s.X.cf.ps ≤ (np : Int) := hfull
          go_enter Try.func39, Try.ntmps39
          go_upto_region 1 with fail
          rw [← hw1]
          clear hw1
          have q1 : w1.cell? ⟨w.heap.size, 1, none⟩ = some (.int .i64 qw) := ((HQ.out.below HB1.out lq).cell 1).trans rfl
          go_wp2_with fail
          refine (dwithin_yes e1 w1).mono ?_
          rintro e w2 ⟨rfl, b2⟩
          have HB2 := Lib.hid (HB1.out.trans (b2.mono (HB1.out).size))
          clear b2
          clear q1
          have q2 : w2.cell? ⟨w.heap.size, 2, none⟩ = some (.int .i64 qr) := ((HQ.out.below HB2.out lq).cell 2).trans rfl
          go_wp2_with fail
          refine (dwithin_yes e2 w2).mono ?_
          rintro e w3 ⟨rfl, b3⟩
          have HB3 := Lib.hid (HB2.out.trans (b3.mono (HB2.out).size))
          clear b3
          clear q2
          have q3 : w3.cell? ⟨w.heap.size, 3, none⟩ = some (.int .i64 qg) := ((HQ.out.below HB3.out lq).cell 3).trans rfl
          go_wp2_with fail
          refine (dwithin_yes e3 w3).mono ?_
          rintro e w4 ⟨rfl, b4⟩
          have HB4 := Lib.hid (HB3.out.trans (b4.mono (HB3.out).size))
          clear b4
          clear q3
          have q1 : w4.cell? ⟨w.heap.size, 1, none⟩ = some (.int .i64 qw) := ((HQ.out.below HB4.out lq).cell 1).trans rfl
          go_wp2_with fail
          refine (dperson_no hno g w4 (HD.out.next HB4.out)).mono ?_
          rintro e w5 ⟨rfl, b5⟩
          have HB5 := Lib.hid (HB4.out.trans (b5.mono (HB4.out).size))
          clear b5
          clear q1
          have g0 : w5.cell? ⟨g, 0, none⟩ = some (.int .i64 s.X.cf.ps) := ((HG.out.below HB5.out lg1).cell 0).trans rfl
          have g4 : w5.cell? ⟨g, 4, none⟩ = some (.slice s.A np s.a) := ((HG.out.below HB5.out lg1).cell 4).trans rfl
          go_upto_region 5 with fail
          go_region
          obtain ⟨w6, hw6⟩ : ∃ z, z = w5.drew := ⟨_, rfl⟩
          have HB6 := Lib.hid (show Below w1.heap.size w1 w6 by rw [hw6]; exact (HB5.out).drew)
          rw [← hw6]
          clear hw6
          clear g0 g4
          have HF := Lib.hid (show (joinS s.X (⟨qk, qw, qr, qg, qt, qs, ql, qd⟩ : Rq)).2 = 20 by unfold joinS; dsimp only; rw [if_neg (by omega), if_neg (by rw [hno]; decide), if_pos (by rw [HNP.out]; exact hfull)])
          go_wp2_with fail
          go_ret
          exact ⟨by rw [HF.out]; rfl, HBW.out.trans (but_of_below HB6.out), fun h => by rw [HF.out] at h; cases h⟩
        · have PL := Lib.hid (show (np : Int) < 64 by have := HI.out.pl; have := HI.out.cf; unfold confL at this; simp only [decide_eq_true_eq] at this; rw [HNP.out] at *; omega)
          have t5 : ¬ s.X.cf.ps ≤ (np : Int) := hfull
          go_enter Try.func39, Try.ntmps39
          go_upto_region 1 with fail
          rw [← hw1]
          clear hw1
          have q1 : w1.cell? ⟨w.heap.size, 1, none⟩ = some (.int .i64 qw) := ((HQ.out.below HB1.out lq).cell 1).trans rfl
          go_wp2_with fail
          refine (dwithin_yes e1 w1).mono ?_
          rintro e w2 ⟨rfl, b2⟩
          have HB2 := Lib.hid (HB1.out.trans (b2.mono (HB1.out).size))
          clear b2
          clear q1
          have q2 : w2.cell? ⟨w.heap.size, 2, none⟩ = some (.int .i64 qr) := ((HQ.out.below HB2.out lq).cell 2).trans rfl
          go_wp2_with fail
          refine (dwithin_yes e2 w2).mono ?_
          rintro e w3 ⟨rfl, b3⟩
          have HB3 := Lib.hid (HB2.out.trans (b3.mono (HB2.out).size))
          clear b3
          clear q2
          have q3 : w3.cell? ⟨w.heap.size, 3, none⟩ = some (.int .i64 qg) := ((HQ.out.below HB3.out lq).cell 3).trans rfl
          go_wp2_with fail
          refine (dwithin_yes e3 w3).mono ?_
          rintro e w4 ⟨rfl, b4⟩
          have HB4 := Lib.hid (HB3.out.trans (b4.mono (HB3.out).size))
          clear b4
          clear q3
          have q1 : w4.cell? ⟨w.heap.size, 1, none⟩ = some (.int .i64 qw) := ((HQ.out.below HB4.out lq).cell 1).trans rfl
          go_wp2_with fail
          refine (dperson_no hno g w4 (HD.out.next HB4.out)).mono ?_
          rintro e w5 ⟨rfl, b5⟩
          have HB5 := Lib.hid (HB4.out.trans (b5.mono (HB4.out).size))
          clear b5
          clear q1
          have g0 : w5.cell? ⟨g, 0, none⟩ = some (.int .i64 s.X.cf.ps) := ((HG.out.below HB5.out lg1).cell 0).trans rfl
          have g4 : w5.cell? ⟨g, 4, none⟩ = some (.slice s.A np s.a) := ((HG.out.below HB5.out lg1).cell 4).trans rfl
          go_upto_region 5 with fail
          go_region
          obtain ⟨w6, hw6⟩ : ∃ z, z = w5.drew := ⟨_, rfl⟩
          have HB6 := Lib.hid (show Below w1.heap.size w1 w6 by rw [hw6]; exact (HB5.out).drew)
          rw [← hw6]
          clear hw6
          clear g0 g4
          have q1 : w6.cell? ⟨w.heap.size, 1, none⟩ = some (.int .i64 qw) := ((HQ.out.below HB6.out lq).cell 1).trans rfl
          have q2 : w6.cell? ⟨w.heap.size, 2, none⟩ = some (.int .i64 qr) := ((HQ.out.below HB6.out lq).cell 2).trans rfl
          have q3 : w6.cell? ⟨w.heap.size, 3, none⟩ = some (.int .i64 qg) := ((HQ.out.below HB6.out lq).cell 3).trans rfl
          have g4 : w6.cell? ⟨g, 4, none⟩ = some (.slice s.A np s.a) := ((HG.out.below HB6.out lg1).cell 4).trans rfl
          go_upto_region 8 with fail
          obtain ⟨wo, hwo⟩ : ∃ z, z = (w6.alloc (.cells #[.int .i64 qw, .int .i64 qr, .int .i64 qg] 71)) := ⟨_, rfl⟩
          have bo : Below w1.heap.size w1 wo := by rw [hwo]; exact HB6.out.alloc HB6.out.size _
          have hbo := bo.size
          have hP : Whole wo w6.heap.size 71 #[.int .i64 qw, .int .i64 qr, .int .i64 qg] := by rw [hwo]; exact Whole.new w6 _ _
          have hXo := HX.out.next bo
          have hqo := HQ.out.below bo lq
          have s6 := HB6.out.size
          clear q1 q2 q3 g4
          have hlt : ∀ k, (Value.slice s.A np s.a).ownBlock = some k → k < w1.heap.size := fun k hk => (HX.out.r.op.lt k (by rw [HNP.out]; exact hk)).2
          have CP := Lib.hid (show Calls Try.prog 56 #[.slice s.A np s.a, .agg #[.int .i64 qw, .int .i64 qr, .int .i64 qg], .func (.func 57) #[] #[.pointer (some ⟨w.heap.size, 0, none⟩)]] wo.drew fun e w' => ∃ A' c', e = .returned (.slice A' (np + 1) c') ∧ w'.ownsRow base 71 3 (.slice A' (np + 1) c') (np + 1) (pnC (putS (fun p : Pn => decide (qw < p.who)) s.X.ps ⟨qw, qr, qg⟩)) ∧ But (fun k => (Value.slice s.A np s.a).ownBlock = some k) wo w' from by
           have h2 := dputP base 57 (.pointer (some ⟨w.heap.size, 0, none⟩)) (fun p : Pn => decide (qw < p.who)) s.A s.a s.X.ps ⟨qw, qr, qg⟩ wo.drew (enters Try.func57 (by kernel_rfl) (by kernel_rfl)) hXo.r.op (by rw [HNP.out]; omega) (Nat.le_trans hb1 hbo)
            (fun x _ wx hb => cl_join x w.heap.size qw wx ((hqo.below (of_drew hb) hqo.lt).cell 1) (by have h3 : wo.heap.size ≤ wx.heap.size := hb.size; have := hqo.lt; omega))
           rw [HNP.out] at h2
           exact h2.mono (fun e w' ⟨A', c', x1, x2, x3⟩ => ⟨A', c', x1, x2, (But.refl _ wo).drew.trans x3⟩))
          have HGO := Lib.hid (show Whole wo g 31 #[.int .i64 s.X.cf.ps, .int .i64 s.X.cf.ts, .int .i64 s.X.cf.bs, .int .i64 s.X.cf.sl, .slice s.A np s.a, .slice s.B nt s.b, .slice s.C nb s.c] from HG.out.below bo lg1)
          have FARG := Lib.hid (fun (e : (Value.slice s.A np s.a).ownBlock = some g) => (own_far HX.out.r.op HX.out.at' (by decide) (by rw [HNP.out]; exact e.symm) : False))
          have FARP := Lib.hid (fun (e : (Value.slice s.A np s.a).ownBlock = some w6.heap.size) => (by have := hlt _ e; omega : False))
          have KS := Lib.hid (fun w' (b' : But (fun k => (Value.slice s.A np s.a).ownBlock = some k) wo w') => show (fun w' => w'.cell? ⟨g, 4, none⟩ = some (.slice s.A np s.a) ∧ w'.cell? ⟨w6.heap.size, 0, none⟩ = some (.int .i64 qw) ∧ w'.cell? ⟨w6.heap.size, 1, none⟩ = some (.int .i64 qr) ∧ w'.cell? ⟨w6.heap.size, 2, none⟩ = some (.int .i64 qg)) w' from ⟨(HGO.out.but b' FARG.out).cell 4, (hP.but b' FARP.out).cell 0, (hP.but b' FARP.out).cell 1, (hP.but b' FARP.out).cell 2⟩)
          have HXO := Lib.hid hXo
          have HBO := Lib.hid bo
          have lgo := HGO.out.lt
          have lpo := hP.lt
          rw [← hwo]
          clear hwo hP hXo hqo bo hlt
          refine wp_region_X (S := fun w' => w'.cell? ⟨g, 4, none⟩ = some (.slice s.A np s.a) ∧ w'.cell? ⟨w6.heap.size, 0, none⟩ = some (.int .i64 qw) ∧ w'.cell? ⟨w6.heap.size, 1, none⟩ = some (.int .i64 qr) ∧ w'.cell? ⟨w6.heap.size, 2, none⟩ = some (.int .i64 qg)) [10] (by kernel_rfl) (KS.out _ (But.refl _ _).drew) (fun hHeld0 => ?_)
          refine tk (i := 0) [8, 9, 10] (v := ?_) ?_ ?_
          rotate_left 1
          · (intro w hSw; obtain ⟨m0, m1, m2, m3⟩ := hSw; go_simp; try (with_reducible rfl))
          (try walk_nrm)
          refine tk (i := 1) [2, 3, 4, 7, 8, 9, 10] (v := ?_) ?_ ?_
          rotate_left 1
          · (intro w hSw; obtain ⟨m0, m1, m2, m3⟩ := hSw; go_simp; try (with_reducible rfl))
          (try walk_nrm)
          refine tk (i := 2) [3, 4, 7, 8, 9, 10] (v := ?_) ?_ ?_
          rotate_left 1
          · (intro w hSw; obtain ⟨m0, m1, m2, m3⟩ := hSw; go_simp; try (with_reducible rfl))
          (try walk_nrm)
          refine tk (i := 3) [4, 7, 8, 9, 10] (v := ?_) ?_ ?_
          rotate_left 1
          · (intro w hSw; obtain ⟨m0, m1, m2, m3⟩ := hSw; go_simp; try (with_reducible rfl))
          (try walk_nrm)
          refine tk (i := 4) [7, 8, 9, 10] (v := ?_) ?_ ?_
          rotate_left 1
          · (intro w hSw; obtain ⟨m0, m1, m2, m3⟩ := hSw; go_simp; try (with_reducible rfl))
          (try walk_nrm)
          refine tk (i := 5) [7, 8, 9, 10] (v := ?_) ?_ ?_
          rotate_left 1
          · (intro w hSw; obtain ⟨m0, m1, m2, m3⟩ := hSw; go_simp; try (with_reducible rfl))
          (try walk_nrm)
          refine tk (i := 6) [7, 8, 9, 10] (v := ?_) ?_ ?_
          rotate_left 1
          · (intro w hSw; obtain ⟨m0, m1, m2, m3⟩ := hSw; go_simp; try (with_reducible rfl))
          (try walk_nrm)
          refine wpAnyX_one 7 (by kernel_rfl) rfl (fun K hK => ?_)
          go_simp
          go_wp2_with (refine (CP.out).mono ?_; rintro e v1 ⟨A', c', rfl, oA, bv1⟩)
          have G1 := HGO.out.but bv1 (fun e => FARG.out e)
          have e9 := G1.cell 4
          have f9 := G1.free 4
          have l9 := G1.lt
          refine hK.out _ _ (.inr (KS.out _ bv1)) ?_
          have hHeld1 := KS.out _ bv1
          clear hK K
          (try walk_nrm)
          refine tk (i := 8) [9, 10] (v := ?_) ?_ ?_
          rotate_left 1
          · (intro w hSw; obtain ⟨m0, m1, m2, m3⟩ := hSw; go_simp; try (with_reducible rfl))
          (try walk_nrm)
          refine tk (i := 9) [10] (v := ?_) ?_ ?_
          rotate_left 1
          · (intro w hSw; obtain ⟨m0, m1, m2, m3⟩ := hSw; go_simp; try (with_reducible rfl))
          (try walk_nrm)
          refine wpAnyX_one 10 (by kernel_rfl) rfl (fun K hK => ?_)
          go_simp
          refine hK.out _ _ (.inl (by decide)) ?_
          clear hK K
          (try walk_nrm)
          refine wpAnyX_done (by kernel_rfl) ?_ _
          have LL := Lib.hid (show (putS (fun p : Pn => decide (qw < p.who)) s.X.ps ⟨qw, qr, qg⟩).length = np + 1 by rw [putS_length, HNP.out])
          have HF := Lib.hid (show Turned base g { s.X with ps := putS (fun p : Pn => decide (qw < p.who)) s.X.ps ⟨qw, qr, qg⟩ } w (v1.setCell ⟨g, 4, none⟩ (.slice A' (np + 1) c')) from by
           have h2 := HXO.out.setP (ps' := putS (fun p : Pn => decide (qw < p.who)) s.X.ps ⟨qw, qr, qg⟩) (C' := A') (c' := c') (w5 := v1) (by rw [LL.out]; exact oA) (by rw [HNP.out]; exact bv1) (by rw [LL.out]; have := PL.out; omega)
           rw [LL.out] at h2
           exact ⟨_, rfl, h2, ((HBW.out.trans (but_of_below HBO.out)).trans (bv1.mono (fun k _ hk => HX.out.loP k (by rw [HNP.out]; exact hk)))).set (p := ⟨g, 4, none⟩) (.inl HX.out.lo) _⟩)
          have HJ := Lib.hid (show joinS s.X (⟨qk, qw, qr, qg, qt, qs, ql, qd⟩ : Rq) = ({ s.X with ps := putS (fun p : Pn => decide (qw < p.who)) s.X.ps ⟨qw, qr, qg⟩ }, 0) from by
           unfold joinS; dsimp only
           rw [if_neg (by omega), if_neg (by rw [hno]; decide), if_neg (by rw [HNP.out]; omega), put_ins (lt := ltP) (fun z hz => ?_)]
           have := isP_not.mp (find_no (by rw [hno]; decide) z hz)
           unfold ltP; dsimp only
           by_cases hh : z.who < qw
           · rw [decide_eq_true hh, decide_eq_false (by omega)]; rfl
           · rw [decide_eq_false hh, decide_eq_true (by omega)]; rfl)
          clear oA bv1 hHeld0 hHeld1 KS CP HGO HXO HBO G1 e9 f9 HG HD HQ HX
          go_wp2_with fail
          go_ret
          exact ⟨by rw [HJ.out]; rfl, by obtain ⟨_, _, _, h⟩ := HF.out; exact h, fun _ => by rw [HJ.out]; exact HF.out⟩
     · skip
       go_enter Try.func39, Try.ntmps39
       go_upto_region 1 with fail
       rw [← hw1]
       clear hw1
       have q1 : w1.cell? ⟨w.heap.size, 1, none⟩ = some (.int .i64 qw) := ((HQ.out.below HB1.out lq).cell 1).trans rfl
       go_wp2_with fail
       refine (dwithin_yes e1 w1).mono ?_
       rintro e w2 ⟨rfl, b2⟩
       have HB2 := Lib.hid (HB1.out.trans (b2.mono (HB1.out).size))
       clear b2
       clear q1
       have q2 : w2.cell? ⟨w.heap.size, 2, none⟩ = some (.int .i64 qr) := ((HQ.out.below HB2.out lq).cell 2).trans rfl
       go_wp2_with fail
       refine (dwithin_yes e2 w2).mono ?_
       rintro e w3 ⟨rfl, b3⟩
       have HB3 := Lib.hid (HB2.out.trans (b3.mono (HB2.out).size))
       clear b3
       clear q2
       have q3 : w3.cell? ⟨w.heap.size, 3, none⟩ = some (.int .i64 qg) := ((HQ.out.below HB3.out lq).cell 3).trans rfl
       go_wp2_with fail
       refine (dwithin_no e3 w3).mono ?_
       rintro e w4 ⟨rfl, b4⟩
       have HB4 := Lib.hid (HB3.out.trans (b4.mono (HB3.out).size))
       clear b4
       clear q3
       have HF := Lib.hid (show (joinS s.X (⟨qk, qw, qr, qg, qt, qs, ql, qd⟩ : Rq)).2 = 1 by unfold joinS; dsimp only; rw [if_pos (by omega)])
       go_wp2_with fail
       go_ret
       exact ⟨by rw [HF.out]; rfl, HBW.out.trans (but_of_below HB4.out), fun h => by rw [HF.out] at h; cases h⟩
   · skip
     go_enter Try.func39, Try.ntmps39
     go_upto_region 1 with fail
     rw [← hw1]
     clear hw1
     have q1 : w1.cell? ⟨w.heap.size, 1, none⟩ = some (.int .i64 qw) := ((HQ.out.below HB1.out lq).cell 1).trans rfl
     go_wp2_with fail
     refine (dwithin_yes e1 w1).mono ?_
     rintro e w2 ⟨rfl, b2⟩
     have HB2 := Lib.hid (HB1.out.trans (b2.mono (HB1.out).size))
     clear b2
     clear q1
     have q2 : w2.cell? ⟨w.heap.size, 2, none⟩ = some (.int .i64 qr) := ((HQ.out.below HB2.out lq).cell 2).trans rfl
     go_wp2_with fail
     refine (dwithin_no e2 w2).mono ?_
     rintro e w3 ⟨rfl, b3⟩
     have HB3 := Lib.hid (HB2.out.trans (b3.mono (HB2.out).size))
     clear b3
     clear q2
     have HF := Lib.hid (show (joinS s.X (⟨qk, qw, qr, qg, qt, qs, ql, qd⟩ : Rq)).2 = 1 by unfold joinS; dsimp only; rw [if_pos (by omega)])
     go_wp2_with fail
     go_ret
     exact ⟨by rw [HF.out]; rfl, HBW.out.trans (but_of_below HB3.out), fun h => by rw [HF.out] at h; cases h⟩
 · skip
   go_enter Try.func39, Try.ntmps39
   go_upto_region 1 with fail
   rw [← hw1]
   clear hw1
   have q1 : w1.cell? ⟨w.heap.size, 1, none⟩ = some (.int .i64 qw) := ((HQ.out.below HB1.out lq).cell 1).trans rfl
   go_wp2_with fail
   refine (dwithin_no e1 w1).mono ?_
   rintro e w2 ⟨rfl, b2⟩
   have HB2 := Lib.hid (HB1.out.trans (b2.mono (HB1.out).size))
   clear b2
   clear q1
   have HF := Lib.hid (show (joinS s.X (⟨qk, qw, qr, qg, qt, qs, ql, qd⟩ : Rq)).2 = 1 by unfold joinS; dsimp only; rw [if_pos (by omega)])
   go_wp2_with fail
   go_ret
   exact ⟨by rw [HF.out]; rfl, HBW.out.trans (but_of_below HB2.out), fun h => by rw [HF.out] at h; cases h⟩
end Go.Proofs.Ytmmeceehfdbdoaa
