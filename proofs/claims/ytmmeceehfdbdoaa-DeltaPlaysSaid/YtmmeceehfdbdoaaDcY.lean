/-
  Package delta: New, Do, Gone, as the laws want them: a state in memory whose rows lie in blocks of P.
-/
import Derived.Test.YtmmeceehfdbdoaaDcX
import Derived.Test.YtmmeceehfdbdoaaDeF
import Derived.Test.YtmmeceehfdbdoaaDeG
import Derived.Test.YtmmeceehfdbdoaaDeM
namespace Go.Proofs.Ytmmeceehfdbdoaa
open Go.RowKit
open Dl
set_option linter.unusedSimpArgs false
set_option linter.unusedVariables false
set_option maxRecDepth 100000
/-- Where a row with elements lies: in a block of P; and its room. -/
structure InP (P : Nat → Prop) (A : Option Addr) (n c : Nat) : Prop where
  pl : 0 < n → ∀ a, A = some a → P a.block
  form : (A = none ∧ c = 0) ∨ ∃ g o, A = some ⟨g, o, none⟩
  le : n ≤ c
  cap : c ≤ maxLen
structure InQ (P : Nat → Prop) (A : Option Addr) (n c : Nat) : Prop where
  pl : 0 < n → ∀ a, A = some a → P a.block
  le : n ≤ c
  cap : c ≤ maxLen
theorem InP.q {P : Nat → Prop} {A : Option Addr} {n c : Nat} (h : InP P A n c) : InQ P A n c := ⟨h.pl, h.le, h.cap⟩
/-- A state in memory. -/
structure SAt (P : Nat → Prop) (w : World) (s : Sm) : Prop where
  rp : Row w w.heap.size 3 s.A s.X.ps.length (pnC s.X.ps)
  rt : TsAt w w.heap.size s.B s.T
  rb : Row w w.heap.size 5 s.C s.X.bs.length (sbC s.X.bs)
  ts : s.X.ts = tks s.T
  inv : Inv s.X
  pA : InP P s.A s.X.ps.length s.a
  pB : InP P s.B s.T.length s.b
  pC : InP P s.C s.X.bs.length s.c
  pS : ∀ x ∈ s.T, InQ P x.A x.t.ss.length x.c
section
variable {P : Nat → Prop} {w w' : World} {s : Sm}
theorem SAt.next (h : SAt P w s) (hb : Below w.heap.size w w') : SAt P w' s :=
  ⟨(h.rp.below hb (Nat.le_refl _)).more hb.size, (h.rt.below hb (Nat.le_refl _)).more hb.size, (h.rb.below hb (Nat.le_refl _)).more hb.size, h.ts, h.inv, h.pA, h.pB, h.pC, h.pS⟩
theorem row_setP {z n c : Nat} {A : Option Addr} {xs : List Value} {p : Addr} {u : Value} (h : Row w w.heap.size z A n xs) (hp : InQ P A n c) (hn : ¬ P p.block) : Row (w.setCell p u) (w.setCell p u).heap.size z A n xs := by
  refine ⟨h.1, fun h0 => ?_⟩
  obtain ⟨g, o, e, hb, hc⟩ := h.2 h0
  refine ⟨g, o, e, by simpa using hb, fun j v hv => ?_⟩
  refine (World.cell?_of_block (a := ⟨g, o + j, none⟩) (Below.heap_setCell _ _ _ _ (fun e' => hn ?_))).trans (hc j v hv)
  have := hp.pl h0 _ e
  rw [← e']
  exact this
/-- A cell of a block that isn't of P is written. -/
theorem SAt.set (h : SAt P w s) {p : Addr} (hp : ¬ P p.block) (u : Value) : SAt P (w.setCell p u) s :=
  ⟨row_setP h.rp h.pA.q hp, ⟨row_setP h.rt.1 h.pB.q hp, fun x hx => ⟨row_setP (h.rt.2 x hx).1 (h.pS x hx) hp, (h.rt.2 x hx).2⟩⟩, row_setP h.rb h.pC.q hp, h.ts, h.inv, h.pA, h.pB, h.pC, h.pS⟩
theorem SAt.small (h : SAt P w s) : s.X.ps.length ≤ 64 ∧ s.T.length ≤ 64 ∧ s.X.bs.length ≤ 64 := by
  have hc := h.inv.cf
  have h1 := h.inv.pl
  have h2 := h.inv.tl
  have h3 := h.inv.bl
  have h4 : s.X.ts.length = s.T.length := by rw [h.ts]; simp [tks]
  unfold confL at hc
  simp only [decide_eq_true_eq] at hc
  omega
theorem SAt.rd (h : SAt P w s) {g : Nat} (hg : Whole w g 31 (smA s)) : Rd w g s := ⟨hg, h.rp, h.rt, h.rb, h.ts, h.small⟩
theorem InP.own {base : Nat} {e : TypeId} {z n c : Nat} {A : Option Addr} {xs : List Value} (h : w.ownsRow base e z (.slice A n c) n xs) (hP : ∀ k, base ≤ k → P k) : InP P A n c := by
  refine ⟨fun _ a ha => hP _ (own_lo h a ha), ?_, (own_cap h).1, (own_cap h).2⟩
  rcases h.2 with ⟨hv, _⟩ | ⟨g, cap, cur, hv, _⟩
  · injection hv with h1 _ h3
    exact .inl ⟨h1, h3⟩
  · injection hv with h1 _ _
    exact .inr ⟨g, 0, h1⟩
theorem NxR.sat {base : Nat} (h : NxR base w s) (hI : Inv s.X) (hP : ∀ k, base ≤ k → P k) : SAt P w s :=
  ⟨Row.of_own h.op, ⟨Row.of_own h.ot, fun x hx => ⟨Row.of_own (h.os x hx).1, (h.os x hx).2⟩⟩, Row.of_own h.ob, h.ts, hI, .own h.op hP, .own h.ot hP, .own h.ob hP, fun x hx => (InP.own (h.os x hx).1 hP).q⟩
end
/-- A request in memory. -/
structure QAt (P : Nat → Prop) (w : World) (x : Qm) : Prop where
  r : Row w w.heap.size 1 x.A x.q.ss.length (n32 x.q.ss)
  len : x.q.ss.length ≤ 4096
  p : InQ P x.A x.q.ss.length x.c
  u : ∀ y ∈ x.q.ss, 0 ≤ y
theorem QAt.next {P : Nat → Prop} {w w' : World} {x : Qm} (h : QAt P w x) (hb : Below w.heap.size w w') : QAt P w' x := ⟨(h.r.below hb (Nat.le_refl _)).more hb.size, h.len, h.p, h.u⟩
theorem impP {P R : Nat → Prop} {A : Option Addr} {n c : Nat} (h : InP (fun k => P k ∧ R k) A n c) : InP P A n c := ⟨fun h0 a ha => (h.pl h0 a ha).1, h.form, h.le, h.cap⟩
theorem impQ {P R : Nat → Prop} {A : Option Addr} {n c : Nat} (h : InQ (fun k => P k ∧ R k) A n c) : InQ P A n c := ⟨fun h0 a ha => (h.pl h0 a ha).1, h.le, h.cap⟩
theorem inq_with {P R : Nat → Prop} {w : World} {z n c : Nat} {A : Option Addr} {xs : List Value} (hr : Row w w.heap.size z A n xs) (h : InQ P A n c) (hR : ∀ k, k < w.heap.size → R k) : InQ (fun k => P k ∧ R k) A n c :=
  ⟨fun h0 a ha => ⟨h.pl h0 a ha, by
    obtain ⟨g, o, e, hb, _⟩ := hr.2 h0
    rw [e] at ha
    injection ha with ha
    subst ha
    exact hR _ hb⟩, h.le, h.cap⟩
theorem inp_with {P R : Nat → Prop} {w : World} {z n c : Nat} {A : Option Addr} {xs : List Value} (hr : Row w w.heap.size z A n xs) (h : InP P A n c) (hR : ∀ k, k < w.heap.size → R k) : InP (fun k => P k ∧ R k) A n c :=
  ⟨fun h0 a ha => ⟨h.pl h0 a ha, by
    obtain ⟨g, o, e, hb, _⟩ := hr.2 h0
    rw [e] at ha
    injection ha with ha
    subst ha
    exact hR _ hb⟩, h.form, h.le, h.cap⟩
theorem SAt.with {P : Nat → Prop} {w : World} {s : Sm} (h : SAt P w s) (R : Nat → Prop) (hR : ∀ k, k < w.heap.size → R k) : SAt (fun k => P k ∧ R k) w s :=
  ⟨h.rp, h.rt, h.rb, h.ts, h.inv, inp_with h.rp h.pA hR, inp_with h.rt.1 h.pB hR, inp_with h.rb h.pC hR, fun x hx => inq_with (h.rt.2 x hx).1 (h.pS x hx) hR⟩
/-- What Do tells. -/
def DoTold (P : Nat → Prop) (s : Sm) (q : Rq) (w : World) (e : Ending) (w' : World) : Prop :=
  Below w.heap.size w w' ∧ ∃ s' : Sm, s'.X = (doS s.X q).1 ∧ SAt P w' s' ∧ e = .returned (.tuple #[.agg (smA s'), .int .i64 (doS s.X q).2])
set_option maxHeartbeats 6400000 in
theorem cdo_any (P : Nat → Prop) (s : Sm) (x : Qm) (w : World) (h : SAt P w s) (hq : QAt P w x) (hP : ∀ k, w.heap.size ≤ k → P k) :
    Calls Try.prog 12 #[.agg (smA s), .agg (qmV x).toArray] w (DoTold P s x.q w) := by
  unfold DoTold
  obtain ⟨⟨qk, qw, qr, qg, qt, qs, ql, qd⟩, Q, qc⟩ := x
  obtain ⟨hqr, hql, hqp, hqu⟩ := hq
  dsimp only at hqr hql hqp hqu ⊢
  obtain ⟨qn, hqn⟩ : ∃ n, qs.length = n := ⟨_, rfl⟩
  rw [show (qmV ⟨⟨qk, qw, qr, qg, qt, qs, ql, qd⟩, Q, qc⟩).toArray = #[.int .i64 qk, .int .i64 qw, .int .i64 qr, .int .i64 qg, .int .i64 qt, .slice Q qn qc, .int .i64 ql, .int .i64 qd] from by rw [← hqn]; rfl]
  obtain ⟨np, hnp⟩ : ∃ n, s.X.ps.length = n := ⟨_, rfl⟩
  obtain ⟨nt, hnt⟩ : ∃ n, s.T.length = n := ⟨_, rfl⟩
  obtain ⟨nb, hnb⟩ : ∃ n, s.X.bs.length = n := ⟨_, rfl⟩
  rw [show smA s = #[.int .i64 s.X.cf.ps, .int .i64 s.X.cf.ts, .int .i64 s.X.cf.bs, .int .i64 s.X.cf.sl, .slice s.A np s.a, .slice s.B nt s.b, .slice s.C nb s.c] from by unfold smA; rw [hnp, hnt, hnb]]
  have HSM := Lib.hid (show #[.int .i64 s.X.cf.ps, .int .i64 s.X.cf.ts, .int .i64 s.X.cf.bs, .int .i64 s.X.cf.sl, .slice s.A np s.a, .slice s.B nt s.b, .slice s.C nb s.c] = smA s from by unfold smA; rw [hnp, hnt, hnb])
  obtain ⟨w1, hw1⟩ : ∃ z, z = ((w.alloc (.cells #[.int .i64 s.X.cf.ps, .int .i64 s.X.cf.ts, .int .i64 s.X.cf.bs, .int .i64 s.X.cf.sl, .slice s.A np s.a, .slice s.B nt s.b, .slice s.C nb s.c] 31)).alloc (.cells #[.int .i64 qk, .int .i64 qw, .int .i64 qr, .int .i64 qg, .int .i64 qt, .slice Q qn qc, .int .i64 ql, .int .i64 qd] 45)).alloc (.cells #[.int .i64 0, .int .i64 0, .int .i64 0, .int .i64 0, .slice none 0 0, .slice none 0 0, .slice none 0 0] 31) := ⟨_, rfl⟩
  have b1 : Below w.heap.size w w1 := by rw [hw1]; exact (((Below.refl _ _).alloc (Nat.le_refl _) _).alloc (by simp) _).alloc (by simp; omega) _
  have hS : Whole w1 w.heap.size 31 #[.int .i64 s.X.cf.ps, .int .i64 s.X.cf.ts, .int .i64 s.X.cf.bs, .int .i64 s.X.cf.sl, .slice s.A np s.a, .slice s.B nt s.b, .slice s.C nb s.c] := by rw [hw1]; exact ((Whole.new w _ _).alloc _).alloc _
  have hQ : Whole w1 (w.heap.size + 1) 45 #[.int .i64 qk, .int .i64 qw, .int .i64 qr, .int .i64 qg, .int .i64 qt, .slice Q qn qc, .int .i64 ql, .int .i64 qd] := by rw [hw1]; exact (Whole.new2 w _ _ _).alloc _
  have hR : Whole w1 (w.heap.size + 2) 31 #[.int .i64 0, .int .i64 0, .int .i64 0, .int .i64 0, .slice none 0 0, .slice none 0 0, .slice none 0 0] := by rw [hw1]; have := Whole.new2 (w.alloc (.cells #[.int .i64 s.X.cf.ps, .int .i64 s.X.cf.ts, .int .i64 s.X.cf.bs, .int .i64 s.X.cf.sl, .slice s.A np s.a, .slice s.B nt s.b, .slice s.C nb s.c] 31)) (.cells #[.int .i64 qk, .int .i64 qw, .int .i64 qr, .int .i64 qg, .int .i64 qt, .slice Q qn qc, .int .i64 ql, .int .i64 qd] 45) 31 #[.int .i64 0, .int .i64 0, .int .i64 0, .int .i64 0, .slice none 0 0, .slice none 0 0, .slice none 0 0]; simpa using this
  have hz1 : w.heap.size + 3 ≤ w1.heap.size := by rw [hw1]; simp
  obtain ⟨N, hN⟩ : ∃ N, w.heap.size + 2 = N := ⟨_, rfl⟩
  have hNw : w.heap.size < N := by omega
  have hNw1 : N ≠ w.heap.size := by omega
  rw [hN] at hR
  have HQR := Lib.hid (hqr.below b1 (Nat.le_refl _) |>.more b1.size)
  have h1 := h.next b1
  have H0 := Lib.hid h
  have CC := Lib.hid (dcopied w.heap.size s w1 (h1.rd (by rw [← HSM.out]; exact hS)))
  have HS := Lib.hid hS
  have HQ := Lib.hid hQ
  have HR := Lib.hid hR
  have H1 := Lib.hid h1
  have HB1 := Lib.hid b1
  have HP := Lib.hid hP
  have HQN := Lib.hid hqn
  have HQU := Lib.hid hqu
  have HQP := Lib.hid hqp
  have lS := hS.lt
  have lQ := hQ.lt
  have lR := hR.lt
  have hqc := hqp.le
  rw [hqn] at hqc hql HQR
  clear hS hQ hR h1 b1 hP hnp hnt hnb hqn hqr hqp hqu h
  go_enter Try.func12, Try.ntmps12
  go_upto_region 1 with fail
  rw [← hw1]
  clear hw1 hN
  go_wp2_with fail
  refine CC.out.mono ?_
  rintro e w2 ⟨s2, rfl, hX2, hN2, b2⟩
  obtain ⟨np2, hnp2⟩ : ∃ n, s2.X.ps.length = n := ⟨_, rfl⟩
  obtain ⟨nt2, hnt2⟩ : ∃ n, s2.T.length = n := ⟨_, rfl⟩
  obtain ⟨nb2, hnb2⟩ : ∃ n, s2.X.bs.length = n := ⟨_, rfl⟩
  have HSM2 := Lib.hid (show #[.int .i64 s2.X.cf.ps, .int .i64 s2.X.cf.ts, .int .i64 s2.X.cf.bs, .int .i64 s2.X.cf.sl, .slice s2.A np2 s2.a, .slice s2.B nt2 s2.b, .slice s2.C nb2 s2.c] = smA s2 from by unfold smA; rw [hnp2, hnt2, hnb2])
  rw [← HSM2.out]
  clear hnp2 hnt2 hnb2
  have b3 : Below w2.heap.size w2 (w2.alloc (.cells #[.int .i64 s2.X.cf.ps, .int .i64 s2.X.cf.ts, .int .i64 s2.X.cf.bs, .int .i64 s2.X.cf.sl, .slice s2.A np2 s2.a, .slice s2.B nt2 s2.b, .slice s2.C nb2 s2.c] 31)) := (Below.refl _ _).alloc (Nat.le_refl _) _
  have hz2 := b2.size
  have HN3 := Lib.hid (show Nx w1.heap.size (w2.alloc (.cells #[.int .i64 s2.X.cf.ps, .int .i64 s2.X.cf.ts, .int .i64 s2.X.cf.bs, .int .i64 s2.X.cf.sl, .slice s2.A np2 s2.a, .slice s2.B nt2 s2.b, .slice s2.C nb2 s2.c] 31)) w2.heap.size s2 from ⟨by rw [← HSM2.out]; exact Whole.new w2 _ _, hz2, hN2.next b3⟩)
  have b13 : Below w1.heap.size w1 (w2.alloc (.cells #[.int .i64 s2.X.cf.ps, .int .i64 s2.X.cf.ts, .int .i64 s2.X.cf.bs, .int .i64 s2.X.cf.sl, .slice s2.A np2 s2.a, .slice s2.B nt2 s2.b, .slice s2.C nb2 s2.c] 31)) := b2.trans (b3.mono hz2)
  have hS3 := HS.out.below b13 lS
  have hQ3 := HQ.out.below b13 lQ
  have hR3 := HR.out.below b13 lR
  have CD := ddo w1.heap.size w2.heap.size s2 (⟨qk, qw, qr, qg, qt, qs, ql, qd⟩ : Rq) Q qc (w2.alloc (.cells #[.int .i64 s2.X.cf.ps, .int .i64 s2.X.cf.ts, .int .i64 s2.X.cf.bs, .int .i64 s2.X.cf.sl, .slice s2.A np2 s2.a, .slice s2.B nt2 s2.b, .slice s2.C nb2 s2.c] 31)) HN3.out (by rw [hX2]; exact H1.out.inv) (by have := b13.size; exact this) (by dsimp only; rw [HQN.out]; exact HQR.out.below b13 (Nat.le_refl _)) (by dsimp only; rw [HQN.out]; exact hql) (by dsimp only; rw [HQN.out]; exact hqc) HQU.out
  unfold reqA MOut at CD
  dsimp only at CD
  have hdo : doS s2.X (⟨qk, qw, qr, qg, qt, qs, ql, qd⟩ : Rq) = doS s.X (⟨qk, qw, qr, qg, qt, qs, ql, qd⟩ : Rq) := by rw [hX2]
  rw [HQN.out, hdo] at CD
  clear hdo
  replace CD := Lib.hid CD
  have HX2 := Lib.hid hX2
  have HB3 := Lib.hid b13
  have q0 := (hQ3.cell 0).trans rfl
  have q1 := (hQ3.cell 1).trans rfl
  have q2 := (hQ3.cell 2).trans rfl
  have q3 := (hQ3.cell 3).trans rfl
  have q4 := (hQ3.cell 4).trans rfl
  have q5 := (hQ3.cell 5).trans rfl
  have q6 := (hQ3.cell 6).trans rfl
  have q7 := (hQ3.cell 7).trans rfl
  have lQ3 := hQ3.lt
  have HS3 := Lib.hid hS3
  have HQ3 := Lib.hid hQ3
  have HR3 := Lib.hid hR3
  clear hS3 hQ3 hR3 b3 b13 hX2 hN2 CC b2
  go_wp2_with fail
  refine CD.out.mono ?_
  rintro e w4 ⟨rfl, k4, t4⟩
  have lo : ∀ k, k < w1.heap.size → ¬ w1.heap.size ≤ k := fun k hk => Nat.not_le_of_lt hk
  have hz4 := k4.size
  have hS4 := HS3.out.but k4 (lo _ lS)
  have hR4 := HR3.out.but k4 (lo _ lR)
  have HB4 := Lib.hid (show Below w.heap.size w w4 from HB1.out.trans ((HB3.out.trans (k4.below (by have := HB3.out.size; exact this) lo)).mono HB1.out.size))
  have HS14 := Lib.hid (show Below w1.heap.size w1 w4 from HB3.out.trans (k4.below (by have := HB3.out.size; exact this) lo))
  obtain ⟨r, hr⟩ : ∃ r, doS s.X (⟨qk, qw, qr, qg, qt, qs, ql, qd⟩ : Rq) = r := ⟨_, rfl⟩
  have HR0 := Lib.hid hr
  rw [hr] at t4 ⊢
  have hinv := inv_do H1.out.inv (⟨qk, qw, qr, qg, qt, qs, ql, qd⟩ : Rq)
  rw [hr] at hinv
  have herr := do_err (X := s.X) (q := (⟨qk, qw, qr, qg, qt, qs, ql, qd⟩ : Rq))
  rw [hr] at herr
  clear hr
  obtain ⟨r1, r2⟩ := r
  dsimp only at t4 hinv herr ⊢
  have HERR := Lib.hid herr
  have HT4 := Lib.hid t4
  have HINV := Lib.hid hinv
  have hw4 : w.heap.size + 3 ≤ w4.heap.size := by have := HB3.out.size; omega
  clear herr t4 hinv CD k4 q0 q1 q2 q3 q4 q5 q6 q7
  by_cases h0 : r2 = 0
  · subst h0
    obtain ⟨s5, hX5, hN5, k5⟩ := HT4.out rfl
    obtain ⟨np5, hnp5⟩ : ∃ n, s5.X.ps.length = n := ⟨_, rfl⟩
    obtain ⟨nt5, hnt5⟩ : ∃ n, s5.T.length = n := ⟨_, rfl⟩
    obtain ⟨nb5, hnb5⟩ : ∃ n, s5.X.bs.length = n := ⟨_, rfl⟩
    have HSM5 := Lib.hid (show #[.int .i64 s5.X.cf.ps, .int .i64 s5.X.cf.ts, .int .i64 s5.X.cf.bs, .int .i64 s5.X.cf.sl, .slice s5.A np5 s5.a, .slice s5.B nt5 s5.b, .slice s5.C nb5 s5.c] = smA s5 from by unfold smA; rw [hnp5, hnt5, hnb5])
    have hN4 := hN5.at'
    rw [← HSM5.out] at hN4
    have l5 := hN4.lt
    have HN5 := Lib.hid hN5
    have HX5 := Lib.hid hX5
    have HN4 := Lib.hid hN4
    have HHR4 := Lib.hid hR4
    have ne5 : w2.heap.size ≠ N := by omega
    have n0 : w4.cell? ⟨w2.heap.size, 0, none⟩ = some (.int .i64 s5.X.cf.ps) := (hN4.cell 0).trans rfl
    have n1 : w4.cell? ⟨w2.heap.size, 1, none⟩ = some (.int .i64 s5.X.cf.ts) := (hN4.cell 1).trans rfl
    have n2 : w4.cell? ⟨w2.heap.size, 2, none⟩ = some (.int .i64 s5.X.cf.bs) := (hN4.cell 2).trans rfl
    have n3 : w4.cell? ⟨w2.heap.size, 3, none⟩ = some (.int .i64 s5.X.cf.sl) := (hN4.cell 3).trans rfl
    have n4 : w4.cell? ⟨w2.heap.size, 4, none⟩ = some (.slice s5.A np5 s5.a) := (hN4.cell 4).trans rfl
    have n5 : w4.cell? ⟨w2.heap.size, 5, none⟩ = some (.slice s5.B nt5 s5.b) := (hN4.cell 5).trans rfl
    have n6 : w4.cell? ⟨w2.heap.size, 6, none⟩ = some (.slice s5.C nb5 s5.c) := (hN4.cell 6).trans rfl
    have z0 := hR4.cell 0
    have y0 := hR4.free 0
    have z1 := hR4.cell 1
    have y1 := hR4.free 1
    have z2 := hR4.cell 2
    have y2 := hR4.free 2
    have z3 := hR4.cell 3
    have y3 := hR4.free 3
    have z4 := hR4.cell 4
    have y4 := hR4.free 4
    have z5 := hR4.cell 5
    have y5 := hR4.free 5
    have z6 := hR4.cell 6
    have y6 := hR4.free 6
    have lz := hR4.lt
    have ls := hS4.lt
    clear lo hz4 hN5 hX5 hN4 hnp5 hnt5 hnb5 k5 hR4 hS4 HT4 HS HQ HR HS3 HQ3 HR3 HN3
    go_wp2_with fail
    have hN5 := HN5.out
    have hX5 := HX5.out
    have hN4 := HN4.out
    have hR4 := HHR4.out
    have HF := Lib.hid (show ∃ s' : Sm, s'.X = r1 ∧ SAt P (((((((w4.setCell ⟨N, 0, none⟩ (.int .i64 s5.X.cf.ps)).setCell ⟨N, 1, none⟩ (.int .i64 s5.X.cf.ts)).setCell ⟨N, 2, none⟩ (.int .i64 s5.X.cf.bs)).setCell ⟨N, 3, none⟩ (.int .i64 s5.X.cf.sl)).setCell ⟨N, 4, none⟩ (.slice s5.A np5 s5.a)).setCell ⟨N, 5, none⟩ (.slice s5.B nt5 s5.b)).setCell ⟨N, 6, none⟩ (.slice s5.C nb5 s5.c)) s' ∧ Ending.returned (.tuple #[.agg #[.int .i64 s5.X.cf.ps, .int .i64 s5.X.cf.ts, .int .i64 s5.X.cf.bs, .int .i64 s5.X.cf.sl, .slice s5.A np5 s5.a, .slice s5.B nt5 s5.b, .slice s5.C nb5 s5.c], .int .i64 0]) = .returned (.tuple #[.agg (smA s'), .int .i64 0]) from
      ⟨s5, hX5, by
        have h9 := (hN5.r.sat (P := fun k => P k ∧ k ≠ N) (by rw [hX5]; exact HINV.out) (fun k hk => ⟨HP.out k (by omega), by omega⟩))
        have h8 := (((((((h9.set (p := ⟨N, 0, none⟩) (fun h => h.2 rfl) (.int .i64 s5.X.cf.ps)).set (p := ⟨N, 1, none⟩) (fun h => h.2 rfl) (.int .i64 s5.X.cf.ts)).set (p := ⟨N, 2, none⟩) (fun h => h.2 rfl) (.int .i64 s5.X.cf.bs)).set (p := ⟨N, 3, none⟩) (fun h => h.2 rfl) (.int .i64 s5.X.cf.sl)).set (p := ⟨N, 4, none⟩) (fun h => h.2 rfl) (.slice s5.A np5 s5.a)).set (p := ⟨N, 5, none⟩) (fun h => h.2 rfl) (.slice s5.B nt5 s5.b)).set (p := ⟨N, 6, none⟩) (fun h => h.2 rfl) (.slice s5.C nb5 s5.c))
        exact ⟨h8.rp, h8.rt, h8.rb, h8.ts, h8.inv, impP h8.pA, impP h8.pB, impP h8.pC, fun x hx => impQ (h8.pS x hx)⟩, by rw [HSM5.out]⟩)
    have HBF := Lib.hid (show Below w.heap.size w (((((((w4.setCell ⟨N, 0, none⟩ (.int .i64 s5.X.cf.ps)).setCell ⟨N, 1, none⟩ (.int .i64 s5.X.cf.ts)).setCell ⟨N, 2, none⟩ (.int .i64 s5.X.cf.bs)).setCell ⟨N, 3, none⟩ (.int .i64 s5.X.cf.sl)).setCell ⟨N, 4, none⟩ (.slice s5.A np5 s5.a)).setCell ⟨N, 5, none⟩ (.slice s5.B nt5 s5.b)).setCell ⟨N, 6, none⟩ (.slice s5.C nb5 s5.c)) from (((((((HB4.out.setCell (p := ⟨N, 0, none⟩) (by show w.heap.size ≤ N; omega) (.int .i64 s5.X.cf.ps)).setCell (p := ⟨N, 1, none⟩) (by show w.heap.size ≤ N; omega) (.int .i64 s5.X.cf.ts)).setCell (p := ⟨N, 2, none⟩) (by show w.heap.size ≤ N; omega) (.int .i64 s5.X.cf.bs)).setCell (p := ⟨N, 3, none⟩) (by show w.heap.size ≤ N; omega) (.int .i64 s5.X.cf.sl)).setCell (p := ⟨N, 4, none⟩) (by show w.heap.size ≤ N; omega) (.slice s5.A np5 s5.a)).setCell (p := ⟨N, 5, none⟩) (by show w.heap.size ≤ N; omega) (.slice s5.B nt5 s5.b)).setCell (p := ⟨N, 6, none⟩) (by show w.heap.size ≤ N; omega) (.slice s5.C nb5 s5.c)))
    have hRF : Whole (((((((w4.setCell ⟨N, 0, none⟩ (.int .i64 s5.X.cf.ps)).setCell ⟨N, 1, none⟩ (.int .i64 s5.X.cf.ts)).setCell ⟨N, 2, none⟩ (.int .i64 s5.X.cf.bs)).setCell ⟨N, 3, none⟩ (.int .i64 s5.X.cf.sl)).setCell ⟨N, 4, none⟩ (.slice s5.A np5 s5.a)).setCell ⟨N, 5, none⟩ (.slice s5.B nt5 s5.b)).setCell ⟨N, 6, none⟩ (.slice s5.C nb5 s5.c)) (N) 31 #[.int .i64 s5.X.cf.ps, .int .i64 s5.X.cf.ts, .int .i64 s5.X.cf.bs, .int .i64 s5.X.cf.sl, .slice s5.A np5 s5.a, .slice s5.B nt5 s5.b, .slice s5.C nb5 s5.c] := (((((((hR4.set 0 (.int .i64 s5.X.cf.ps)).set 1 (.int .i64 s5.X.cf.ts)).set 2 (.int .i64 s5.X.cf.bs)).set 3 (.int .i64 s5.X.cf.sl)).set 4 (.slice s5.A np5 s5.a)).set 5 (.slice s5.B nt5 s5.b)).set 6 (.slice s5.C nb5 s5.c))
    have HRF := Lib.hid hRF
    obtain ⟨s', e1, e2, e3⟩ := HF.out
    have rf0 := HRF.out.cell 0
    have rf1 := HRF.out.cell 1
    have rf2 := HRF.out.cell 2
    have rf3 := HRF.out.cell 3
    have rf4 := HRF.out.cell 4
    have rf5 := HRF.out.cell 5
    have rf6 := HRF.out.cell 6
    exact bodyPost_ret (v := .tuple #[.agg #[.int .i64 s5.X.cf.ps, .int .i64 s5.X.cf.ts, .int .i64 s5.X.cf.bs, .int .i64 s5.X.cf.sl, .slice s5.A np5 s5.a, .slice s5.B nt5 s5.b, .slice s5.C nb5 s5.c], .int .i64 0]) (by simp [results, Try.results12, go_sem, rf0, rf1, rf2, rf3, rf4, rf5, rf6]) rfl ⟨HBF.out, s', by rw [HR0.out]; exact e1, e2, by rw [HR0.out]; exact e3⟩
  · have hr1 := HERR.out h0
    have n0 : w4.cell? ⟨w.heap.size, 0, none⟩ = some (.int .i64 s.X.cf.ps) := (hS4.cell 0).trans rfl
    have n1 : w4.cell? ⟨w.heap.size, 1, none⟩ = some (.int .i64 s.X.cf.ts) := (hS4.cell 1).trans rfl
    have n2 : w4.cell? ⟨w.heap.size, 2, none⟩ = some (.int .i64 s.X.cf.bs) := (hS4.cell 2).trans rfl
    have n3 : w4.cell? ⟨w.heap.size, 3, none⟩ = some (.int .i64 s.X.cf.sl) := (hS4.cell 3).trans rfl
    have n4 : w4.cell? ⟨w.heap.size, 4, none⟩ = some (.slice s.A np s.a) := (hS4.cell 4).trans rfl
    have n5 : w4.cell? ⟨w.heap.size, 5, none⟩ = some (.slice s.B nt s.b) := (hS4.cell 5).trans rfl
    have n6 : w4.cell? ⟨w.heap.size, 6, none⟩ = some (.slice s.C nb s.c) := (hS4.cell 6).trans rfl
    have z0 := hR4.cell 0
    have y0 := hR4.free 0
    have z1 := hR4.cell 1
    have y1 := hR4.free 1
    have z2 := hR4.cell 2
    have y2 := hR4.free 2
    have z3 := hR4.cell 3
    have y3 := hR4.free 3
    have z4 := hR4.cell 4
    have y4 := hR4.free 4
    have z5 := hR4.cell 5
    have y5 := hR4.free 5
    have z6 := hR4.cell 6
    have y6 := hR4.free 6
    have lz := hR4.lt
    have ls := hS4.lt
    have HR1 := Lib.hid hr1
    have HHR4 := Lib.hid hR4
    clear lo hz4 hr1 hR4 hS4 HT4 HS HQ HR HS3 HQ3 HR3 HN3
    go_wp2_with fail
    have hr1 := HR1.out
    have hR4 := HHR4.out
    have HF := Lib.hid (show ∃ s' : Sm, s'.X = r1 ∧ SAt P (((((((w4.setCell ⟨N, 0, none⟩ (.int .i64 s.X.cf.ps)).setCell ⟨N, 1, none⟩ (.int .i64 s.X.cf.ts)).setCell ⟨N, 2, none⟩ (.int .i64 s.X.cf.bs)).setCell ⟨N, 3, none⟩ (.int .i64 s.X.cf.sl)).setCell ⟨N, 4, none⟩ (.slice s.A np s.a)).setCell ⟨N, 5, none⟩ (.slice s.B nt s.b)).setCell ⟨N, 6, none⟩ (.slice s.C nb s.c)) s' ∧ Ending.returned (.tuple #[.agg #[.int .i64 s.X.cf.ps, .int .i64 s.X.cf.ts, .int .i64 s.X.cf.bs, .int .i64 s.X.cf.sl, .slice s.A np s.a, .slice s.B nt s.b, .slice s.C nb s.c], .int .i64 r2]) = .returned (.tuple #[.agg (smA s'), .int .i64 r2]) from
      ⟨s, hr1.symm, by
        have h9 := (SAt.with H0.out (fun k => k ≠ N) (fun k hk e => by omega)).next HB4.out
        have h8 := (((((((h9.set (p := ⟨N, 0, none⟩) (fun h => h.2 rfl) (.int .i64 s.X.cf.ps)).set (p := ⟨N, 1, none⟩) (fun h => h.2 rfl) (.int .i64 s.X.cf.ts)).set (p := ⟨N, 2, none⟩) (fun h => h.2 rfl) (.int .i64 s.X.cf.bs)).set (p := ⟨N, 3, none⟩) (fun h => h.2 rfl) (.int .i64 s.X.cf.sl)).set (p := ⟨N, 4, none⟩) (fun h => h.2 rfl) (.slice s.A np s.a)).set (p := ⟨N, 5, none⟩) (fun h => h.2 rfl) (.slice s.B nt s.b)).set (p := ⟨N, 6, none⟩) (fun h => h.2 rfl) (.slice s.C nb s.c))
        exact ⟨h8.rp, h8.rt, h8.rb, h8.ts, h8.inv, impP h8.pA, impP h8.pB, impP h8.pC, fun x hx => impQ (h8.pS x hx)⟩, by rw [HSM.out]⟩)
    have HBF := Lib.hid (show Below w.heap.size w (((((((w4.setCell ⟨N, 0, none⟩ (.int .i64 s.X.cf.ps)).setCell ⟨N, 1, none⟩ (.int .i64 s.X.cf.ts)).setCell ⟨N, 2, none⟩ (.int .i64 s.X.cf.bs)).setCell ⟨N, 3, none⟩ (.int .i64 s.X.cf.sl)).setCell ⟨N, 4, none⟩ (.slice s.A np s.a)).setCell ⟨N, 5, none⟩ (.slice s.B nt s.b)).setCell ⟨N, 6, none⟩ (.slice s.C nb s.c)) from (((((((HB4.out.setCell (p := ⟨N, 0, none⟩) (by show w.heap.size ≤ N; omega) (.int .i64 s.X.cf.ps)).setCell (p := ⟨N, 1, none⟩) (by show w.heap.size ≤ N; omega) (.int .i64 s.X.cf.ts)).setCell (p := ⟨N, 2, none⟩) (by show w.heap.size ≤ N; omega) (.int .i64 s.X.cf.bs)).setCell (p := ⟨N, 3, none⟩) (by show w.heap.size ≤ N; omega) (.int .i64 s.X.cf.sl)).setCell (p := ⟨N, 4, none⟩) (by show w.heap.size ≤ N; omega) (.slice s.A np s.a)).setCell (p := ⟨N, 5, none⟩) (by show w.heap.size ≤ N; omega) (.slice s.B nt s.b)).setCell (p := ⟨N, 6, none⟩) (by show w.heap.size ≤ N; omega) (.slice s.C nb s.c)))
    have hRF : Whole (((((((w4.setCell ⟨N, 0, none⟩ (.int .i64 s.X.cf.ps)).setCell ⟨N, 1, none⟩ (.int .i64 s.X.cf.ts)).setCell ⟨N, 2, none⟩ (.int .i64 s.X.cf.bs)).setCell ⟨N, 3, none⟩ (.int .i64 s.X.cf.sl)).setCell ⟨N, 4, none⟩ (.slice s.A np s.a)).setCell ⟨N, 5, none⟩ (.slice s.B nt s.b)).setCell ⟨N, 6, none⟩ (.slice s.C nb s.c)) (N) 31 #[.int .i64 s.X.cf.ps, .int .i64 s.X.cf.ts, .int .i64 s.X.cf.bs, .int .i64 s.X.cf.sl, .slice s.A np s.a, .slice s.B nt s.b, .slice s.C nb s.c] := (((((((hR4.set 0 (.int .i64 s.X.cf.ps)).set 1 (.int .i64 s.X.cf.ts)).set 2 (.int .i64 s.X.cf.bs)).set 3 (.int .i64 s.X.cf.sl)).set 4 (.slice s.A np s.a)).set 5 (.slice s.B nt s.b)).set 6 (.slice s.C nb s.c))
    have HRF := Lib.hid hRF
    obtain ⟨s', e1, e2, e3⟩ := HF.out
    have rf0 := HRF.out.cell 0
    have rf1 := HRF.out.cell 1
    have rf2 := HRF.out.cell 2
    have rf3 := HRF.out.cell 3
    have rf4 := HRF.out.cell 4
    have rf5 := HRF.out.cell 5
    have rf6 := HRF.out.cell 6
    exact bodyPost_ret (v := .tuple #[.agg #[.int .i64 s.X.cf.ps, .int .i64 s.X.cf.ts, .int .i64 s.X.cf.bs, .int .i64 s.X.cf.sl, .slice s.A np s.a, .slice s.B nt s.b, .slice s.C nb s.c], .int .i64 r2]) (by simp [results, Try.results12, go_sem, rf0, rf1, rf2, rf3, rf4, rf5, rf6]) rfl ⟨HBF.out, s', by rw [HR0.out]; exact e1, e2, by rw [HR0.out]; exact e3⟩
end Go.Proofs.Ytmmeceehfdbdoaa
