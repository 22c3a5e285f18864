/-
  Contract of the document's own (layer 18): Unpublish, Replace.
-/
import Derived.Test.YtmmeceehfdbdoaaDeP
namespace Go.Proofs.Ytmmeceehfdbdoaa
open Go.RowKit
open Dl
set_option linter.unusedSimpArgs false
set_option linter.unusedVariables false
set_option maxRecDepth 100000

namespace Dl
def ownE (l : List Tm) (q : Rq) : Int :=
  match l.find? (fun x => isT q.track x.t) with
  | none => 21
  | some x =>
    if x.t.owner ≠ q.who then 24
    else if q.kind = 3 then 0
    else if mayL q.ss = false then 1
    else if takenM l q.ss = true then 22 else 0
theorem ix_get {α : Type} {f : α → Bool} {l : List α} (h : 0 ≤ ixS f l) : ∃ (i : Nat) (x : α), ixS f l = (i : Int) ∧ l[i]? = some x ∧ l.find? f = some x := by
  unfold ixS at h ⊢
  cases e : l.findIdx? f with
  | none => rw [e] at h; simp at h
  | some i =>
    obtain ⟨hi, h1, h2⟩ := List.findIdx?_eq_some_iff_getElem.mp e
    refine ⟨i, l[i], rfl, List.getElem?_eq_getElem hi, ?_⟩
    exact List.find?_eq_some_iff_getElem.mpr ⟨h1, i, hi, rfl, fun j hj => by simpa using h2 j hj⟩
theorem ix_none {α : Type} {f : α → Bool} {l : List α} (h : ixS f l < 0) : l.find? f = none := by
  cases e : l.find? f with
  | none => rfl
  | some x =>
    have := find_ix.mp (show (l.find? f).isSome = true by rw [e]; rfl)
    omega
theorem own_setY {w : World} {base : Nat} {e : TypeId} {z n c g j : Nat} {xs : List Value} {u : Value} (h : w.ownsRow base e z (.slice (some ⟨g, 0, none⟩) n c) n xs) (hn : 0 < n) : (w.setCell ⟨g, j, none⟩ u).ownsRow base e z (.slice (some ⟨g, 0, none⟩) n c) n (xs.set j u) := by
  refine ⟨by rw [List.length_set]; exact h.1, ?_⟩
  rcases h.2 with ⟨hv, h0⟩ | ⟨g', cap, cur, hv, hb, hh, h1, h2, h3, h4⟩
  · omega
  · injection hv with hv _ hc
    injection hv with hv
    injection hv with hv _ _
    subst hv
    subst hc
    have hw : Whole w g e cur := hh
    exact .inr ⟨g, c, cur.setIfInBounds j u, rfl, hb, hw.set j u, h1, h2, by rw [Array.size_setIfInBounds]; exact h3, by rw [Array.toList_setIfInBounds, List.take_set, h4]⟩
theorem tmC_set {a b : Value} {y : Tm} : ∀ {l : List Tm} {i : Nat} {x : Tm}, l[i]? = some x → tmV y = [.int .i64 x.t.id, .int .i64 x.t.owner, b, a] → ((tmC l).set (i * 4 + 3) a).set (i * 4 + 2) b = tmC (l.set i y)
  | [], i, x, h, _ => by simp at h
  | z :: l, 0, x, h, e => by
    simp at h
    subst h
    have e1 : tmC (z :: l) = tmV z ++ tmC l := rfl
    have e2 : tmC (y :: l) = tmV y ++ tmC l := rfl
    rw [List.set_cons_zero, e1, e2, e]
    rfl
  | z :: l, i + 1, x, h, e => by
    have ih := tmC_set (l := l) (i := i) (x := x) (by simpa using h) e
    have e1 : tmC (z :: l) = .int .i64 z.t.id :: .int .i64 z.t.owner :: .int .i64 z.t.from' :: .slice z.A z.t.ss.length z.c :: tmC l := rfl
    have e2 : tmC (z :: l.set i y) = .int .i64 z.t.id :: .int .i64 z.t.owner :: .int .i64 z.t.from' :: .slice z.A z.t.ss.length z.c :: tmC (l.set i y) := rfl
    rw [List.set_cons_succ, e1, e2, ← ih, show (i + 1) * 4 + 3 = i * 4 + 3 + 1 + 1 + 1 + 1 by omega, show (i + 1) * 4 + 2 = i * 4 + 2 + 1 + 1 + 1 + 1 by omega]
    simp only [List.set_cons_succ]
/-- A track that was replaced. -/
def replM (x : Tm) (ss : List Int) (Q : Option Addr) (c : Nat) : Tm := ⟨⟨x.t.id, x.t.owner, wrap64 (x.t.from' + 1), ss⟩, Q, c⟩
end Dl
set_option maxHeartbeats 6400000 in
theorem rown18 (a1 a2 a3 a4 : Int) (PA : Option Addr) (pn pc : Nat) (A : Option Addr) (c : Nat) (l : List Tm) (B : Option Addr) (bc : Nat) (m : List Sb) (q : Rq) (Q : Option Addr) (qc : Nat) (w : World)
    (hq : Row w w.heap.size 1 Q q.ss.length (n32 q.ss)) (hql : q.ss.length ≤ 4096) (hk : q.kind = 3 ∨ q.kind = 4)
    (hr : TsAt w w.heap.size A l) (hl : l.length ≤ 4096) (hb : Row w w.heap.size 5 B m.length (sbC m)) (hm : m.length ≤ 4096) :
    Calls Try.prog 27 #[.agg #[.int .i64 a1, .int .i64 a2, .int .i64 a3, .int .i64 a4, .slice PA pn pc, .slice A l.length c, .slice B m.length bc], .agg #[.int .i64 q.kind, .int .i64 q.who, .int .i64 q.room, .int .i64 q.rights, .int .i64 q.track, .slice Q q.ss.length qc, .int .i64 q.layer, .int .i64 q.tid]] w fun e w' => Below w.heap.size w w' ∧
      ((ownE l q ≠ 0 ∧ e = .returned (.tuple #[.agg #[.int .i64 a1, .int .i64 a2, .int .i64 a3, .int .i64 a4, .slice PA pn pc, .slice A l.length c, .slice B m.length bc], .int .i64 (ownE l q)])) ∨
       (ownE l q = 0 ∧ q.kind = 3 ∧ ∃ A' c' B' d', e = .returned (.tuple #[.agg #[.int .i64 a1, .int .i64 a2, .int .i64 a3, .int .i64 a4, .slice PA pn pc, .slice A' (l.filter (keepT q.track 0)).length c', .slice B' (m.filter (keepB 0 (l.filter (keepT q.track 0)))).length d'], .int .i64 0]) ∧ w'.ownsRow (w.heap.size + 3) 60 4 (.slice A' (l.filter (keepT q.track 0)).length c') (l.filter (keepT q.track 0)).length (tmC (l.filter (keepT q.track 0))) ∧ w'.ownsRow (w.heap.size + 3) 56 5 (.slice B' (m.filter (keepB 0 (l.filter (keepT q.track 0)))).length d') (m.filter (keepB 0 (l.filter (keepT q.track 0)))).length (sbC (m.filter (keepB 0 (l.filter (keepT q.track 0)))))) ∨
       (ownE l q = 0 ∧ q.kind = 4 ∧ ∃ (i : Nat) (x : Tm) (A' : Option Addr) (c' : Nat), l[i]? = some x ∧ l.find? (fun x => isT q.track x.t) = some x ∧ e = .returned (.tuple #[.agg #[.int .i64 a1, .int .i64 a2, .int .i64 a3, .int .i64 a4, .slice PA pn pc, .slice A' l.length c', .slice B m.length bc], .int .i64 0]) ∧ w'.ownsRow (w.heap.size + 3) 60 4 (.slice A' l.length c') l.length (tmC (l.set i (replM x q.ss Q qc))))) := by
  obtain ⟨n, hn⟩ : ∃ n, l.length = n := ⟨_, rfl⟩
  obtain ⟨bn, hbn⟩ : ∃ n, m.length = n := ⟨_, rfl⟩
  obtain ⟨qk, qw, qr, qg, qt, qs, ql, qd⟩ := q
  obtain ⟨qn, hqn⟩ : ∃ n, qs.length = n := ⟨_, rfl⟩
  dsimp only at hq hql hk ⊢
  have HN := Lib.hid hn
  have HBN := Lib.hid hbn
  have HQN := Lib.hid hqn
  have HR := Lib.hid hr
  have HRB := Lib.hid hb
  have HQS := Lib.hid hq
  rw [hn] at hl ⊢
  rw [hbn] at hm ⊢
  rw [hqn] at hql ⊢
  obtain ⟨w1, hw1⟩ : ∃ z, z = w.alloc (.cells #[.int .i64 a1, .int .i64 a2, .int .i64 a3, .int .i64 a4, .slice PA pn pc, .slice A n c, .slice B bn bc] 37) := ⟨_, rfl⟩
  have HB1 := Lib.hid (show Below w.heap.size w w1 by rw [hw1]; exact (Below.refl _ _).alloc (Nat.le_refl _) _)
  have HS1 := Lib.hid (show Whole w1 w.heap.size 37 #[.int .i64 a1, .int .i64 a2, .int .i64 a3, .int .i64 a4, .slice PA pn pc, .slice A n c, .slice B bn bc] by rw [hw1]; exact Whole.new w _ _)
  have hz1 : w1.heap.size = w.heap.size + 1 := by rw [hw1]; simp
  obtain ⟨w2, hw2⟩ : ∃ z, z = w1.alloc (.cells #[.int .i64 qk, .int .i64 qw, .int .i64 qr, .int .i64 qg, .int .i64 qt, .slice Q qn qc, .int .i64 ql, .int .i64 qd] 48) := ⟨_, rfl⟩
  have HB2 := Lib.hid (show Below w1.heap.size w1 w2 by rw [hw2]; exact (Below.refl _ _).alloc (Nat.le_refl _) _)
  have HQ2 := Lib.hid (show Whole w2 (w.heap.size + 1) 48 #[.int .i64 qk, .int .i64 qw, .int .i64 qr, .int .i64 qg, .int .i64 qt, .slice Q qn qc, .int .i64 ql, .int .i64 qd] by rw [hw2, ← hz1]; exact Whole.new w1 _ _)
  have hz2 : w2.heap.size = w.heap.size + 2 := by rw [hw2]; simp; omega
  obtain ⟨w3, hw3⟩ : ∃ z, z = w2.alloc (.cells #[.int .i64 0, .int .i64 0, .int .i64 0, .int .i64 0, .slice none 0 0, .slice none 0 0, .slice none 0 0] 37) := ⟨_, rfl⟩
  have HB3 := Lib.hid (show Below w2.heap.size w2 w3 by rw [hw3]; exact (Below.refl _ _).alloc (Nat.le_refl _) _)
  have HV := Lib.hid (show Whole w3 (w.heap.size + 2) 37 #[.int .i64 0, .int .i64 0, .int .i64 0, .int .i64 0, .slice none 0 0, .slice none 0 0, .slice none 0 0] by rw [hw3, ← hz2]; exact Whole.new w2 _ _)
  have hz3 : w3.heap.size = w.heap.size + 3 := by rw [hw3]; simp; omega
  have HS := Lib.hid (Whole.below (Whole.below HS1.out HB2.out (by omega)) HB3.out (by omega))
  have HQ := Lib.hid (Whole.below HQ2.out HB3.out (by omega))
  have HB := Lib.hid ((HB1.out.trans (HB2.out.mono (by omega))).trans (HB3.out.mono (by omega)))
  have lv : w.heap.size + 2 < w3.heap.size := by omega
  have ls : w.heap.size < w3.heap.size := by omega
  have lq : w.heap.size + 1 < w3.heap.size := by omega
  have HZ3 := Lib.hid (show w.heap.size + 3 ≤ w3.heap.size by omega)
  go_enter Try.func27, Try.ntmps27
  go_upto_region 1 with fail
  rw [← hw1, show w.heap.size + 1 + 1 = w.heap.size + 2 from rfl]
  rw [← hw2, ← hw3]
  clear hr hn hw1 hw2 hw3 HS1 HB1 HB2 HB3 HQ2 hz1 hz2 hz3 hb hbn hqn hq
  have r0 := HS.out.cell 0
  have r1 := HS.out.cell 1
  have r2 := HS.out.cell 2
  have r3 := HS.out.cell 3
  have r4 := HS.out.cell 4
  have r5 := HS.out.cell 5
  have r6 := HS.out.cell 6
  have p0 := HQ.out.cell 0
  have p1 := HQ.out.cell 1
  have p2 := HQ.out.cell 2
  have p3 := HQ.out.cell 3
  have p4 := HQ.out.cell 4
  have p5 := HQ.out.cell 5
  have p6 := HQ.out.cell 6
  have p7 := HQ.out.cell 7
  have CT := Lib.hid (show Calls Try.prog 50 #[.agg #[.int .i64 a1, .int .i64 a2, .int .i64 a3, .int .i64 a4, .slice PA pn pc, .slice A n c, .slice B bn bc], .int .i64 qt] w3 (fun e w' => e = .returned (.int .i64 (ixS (fun x : Tm => isT qt x.t) l)) ∧ Below w3.heap.size w3 w') by
    have h := rtrack18 a1 a2 a3 a4 (.slice PA pn pc) (.slice B bn bc) A c l qt w3 ((HR.out.1.below HB.out (Nat.le_refl _)).more (by omega)) (by rw [HN.out]; exact hl)
    rw [HN.out] at h; exact h)
  go_wp2_with fail
  refine CT.out.mono ?_
  rintro e v1 ⟨rfl, b1⟩
  clear CT
  have HSn := Lib.hid (Whole.below HS.out b1 ls)
  have HQn := Lib.hid (Whole.below HQ.out b1 lq)
  have HVn := Lib.hid (Whole.below HV.out b1 lv)
  have HBn := Lib.hid (HB.out.trans ((b1).mono (by omega)))
  have lsn : w.heap.size < v1.heap.size := by have := (b1).size; omega
  have lqn : w.heap.size + 1 < v1.heap.size := by have := (b1).size; omega
  have lvn : w.heap.size + 2 < v1.heap.size := by have := (b1).size; omega
  clear r0 r1 r2 r3 r4 r5 r6 p0 p1 p2 p3 p4 p5 p6 p7 HS HQ HV HB ls lq lv
  have HS := Lib.hid HSn.out
  have HQ := Lib.hid HQn.out
  have HV := Lib.hid HVn.out
  have HB := Lib.hid HBn.out
  have ls := lsn
  have lq := lqn
  have lv := lvn
  clear HSn HQn HVn HBn lsn lqn lvn
  have r0 := HS.out.cell 0
  have r1 := HS.out.cell 1
  have r2 := HS.out.cell 2
  have r3 := HS.out.cell 3
  have r4 := HS.out.cell 4
  have r5 := HS.out.cell 5
  have r6 := HS.out.cell 6
  have p0 := HQ.out.cell 0
  have p1 := HQ.out.cell 1
  have p2 := HQ.out.cell 2
  have p3 := HQ.out.cell 3
  have p4 := HQ.out.cell 4
  have p5 := HQ.out.cell 5
  have p6 := HQ.out.cell 6
  have p7 := HQ.out.cell 7
  clear b1
  by_cases hi : ixS (fun x : Tm => isT qt x.t) l < 0
  · obtain ⟨ix, hix⟩ : ∃ z, ixS (fun x : Tm => isT qt x.t) l = z := ⟨_, rfl⟩
    have HX := Lib.hid (ix_none hi)
    rw [hix] at hi ⊢
    clear hix
    have q0 := HV.out.cell 0; have g0 := HV.out.free 0; have q1 := HV.out.cell 1; have g1 := HV.out.free 1; have q2 := HV.out.cell 2; have g2 := HV.out.free 2; have q3 := HV.out.cell 3; have g3 := HV.out.free 3; have q4 := HV.out.cell 4; have g4 := HV.out.free 4; have q5 := HV.out.cell 5; have g5 := HV.out.free 5; have q6 := HV.out.cell 6; have g6 := HV.out.free 6
    have HE := Lib.hid (show ownE l ⟨qk, qw, qr, qg, qt, qs, ql, qd⟩ = 21 from by unfold ownE; dsimp only; rw [HX.out])
    have HF := Lib.hid (show Below w.heap.size w (((((((v1.setCell ⟨w.heap.size + 2, 0, none⟩ (.int .i64 a1)).setCell ⟨w.heap.size + 2, 1, none⟩ (.int .i64 a2)).setCell ⟨w.heap.size + 2, 2, none⟩ (.int .i64 a3)).setCell ⟨w.heap.size + 2, 3, none⟩ (.int .i64 a4)).setCell ⟨w.heap.size + 2, 4, none⟩ (.slice PA pn pc)).setCell ⟨w.heap.size + 2, 5, none⟩ (.slice A n c)).setCell ⟨w.heap.size + 2, 6, none⟩ (.slice B bn bc)) from (Below.setCell (p := ⟨w.heap.size + 2, 6, none⟩) (Below.setCell (p := ⟨w.heap.size + 2, 5, none⟩) (Below.setCell (p := ⟨w.heap.size + 2, 4, none⟩) (Below.setCell (p := ⟨w.heap.size + 2, 3, none⟩) (Below.setCell (p := ⟨w.heap.size + 2, 2, none⟩) (Below.setCell (p := ⟨w.heap.size + 2, 1, none⟩) (Below.setCell (p := ⟨w.heap.size + 2, 0, none⟩) (HB.out) (by show w.heap.size ≤ w.heap.size + 2; omega) (.int .i64 a1)) (by show w.heap.size ≤ w.heap.size + 2; omega) (.int .i64 a2)) (by show w.heap.size ≤ w.heap.size + 2; omega) (.int .i64 a3)) (by show w.heap.size ≤ w.heap.size + 2; omega) (.int .i64 a4)) (by show w.heap.size ≤ w.heap.size + 2; omega) (.slice PA pn pc)) (by show w.heap.size ≤ w.heap.size + 2; omega) (.slice A n c)) (by show w.heap.size ≤ w.heap.size + 2; omega) (.slice B bn bc)))
    clear HB
    go_wp2_with fail
    exact bodyPost_ret (v := .tuple #[.agg #[.int .i64 a1, .int .i64 a2, .int .i64 a3, .int .i64 a4, .slice PA pn pc, .slice A n c, .slice B bn bc], .int .i64 21]) (by simp [results, Try.results27, go_sem, q0, q1, q2, q3, q4, q5, q6, lv]) rfl ⟨HF.out, .inl ⟨by rw [HE.out]; decide, by rw [HE.out]⟩⟩
  · obtain ⟨i, x, hix, hx, hfx⟩ := ix_get (f := fun x : Tm => isT qt x.t) (l := l) (by omega)
    rw [hix]
    have HX := Lib.hid hx
    have HFX := Lib.hid hfx
    have hin : i < n := by have := (List.getElem?_eq_some_iff.1 hx).1; rw [HN.out] at this; exact this
    obtain ⟨g, o, rfl, hg, hc⟩ := HR.out.1.2 (by rw [HN.out]; omega)
    have CE := Lib.hid (hc _ _ ((tmC_get hx 1 (by decide)).trans rfl))
    obtain ⟨⟨xi, xo, xf, xs⟩, xA, xc⟩ := x
    have c1 := (HB.out.cell (p := ⟨g, o + (i * 4 + 1), none⟩) hg).trans CE.out
    rw [← Nat.add_assoc] at c1
    dsimp only at c1
    have i0 : (0 : Int) ≤ (i : Int) := by omega
    have i1 : (i : Int) < (n : Int) := by omega
    have lg : g < v1.heap.size := by omega
    clear hix hx hfx hc CE hi
    go_wp2_with fail
    have bd : Below v1.heap.size v1 v1.drew := (Below.refl _ _).drew
    by_cases ho : xo = qw
    · have b1 : (xo != qw) = false := by simp [ho]
      go_region
      obtain ⟨w4, hw4⟩ : ∃ z, z = v1.drew := ⟨_, rfl⟩
      rw [← hw4] at bd ⊢
      clear hw4
      have HSn := Lib.hid (Whole.below HS.out bd ls)
      have HQn := Lib.hid (Whole.below HQ.out bd lq)
      have HVn := Lib.hid (Whole.below HV.out bd lv)
      have HBn := Lib.hid (HB.out.trans ((bd).mono (by omega)))
      have lsn : w.heap.size < w4.heap.size := by have := (bd).size; omega
      have lqn : w.heap.size + 1 < w4.heap.size := by have := (bd).size; omega
      have lvn : w.heap.size + 2 < w4.heap.size := by have := (bd).size; omega
      clear r0 r1 r2 r3 r4 r5 r6 p0 p1 p2 p3 p4 p5 p6 p7 HS HQ HV HB ls lq lv
      have HS := Lib.hid HSn.out
      have HQ := Lib.hid HQn.out
      have HV := Lib.hid HVn.out
      have HB := Lib.hid HBn.out
      have ls := lsn
      have lq := lqn
      have lv := lvn
      clear HSn HQn HVn HBn lsn lqn lvn
      have r0 := HS.out.cell 0
      have r1 := HS.out.cell 1
      have r2 := HS.out.cell 2
      have r3 := HS.out.cell 3
      have r4 := HS.out.cell 4
      have r5 := HS.out.cell 5
      have r6 := HS.out.cell 6
      have p0 := HQ.out.cell 0
      have p1 := HQ.out.cell 1
      have p2 := HQ.out.cell 2
      have p3 := HQ.out.cell 3
      have p4 := HQ.out.cell 4
      have p5 := HQ.out.cell 5
      have p6 := HQ.out.cell 6
      have p7 := HQ.out.cell 7
      clear bd c1 lg b1
      have HO := Lib.hid ho
      clear ho
      rcases hk with hk | hk
      · subst hk
        have CW := Lib.hid (rwithout18 a1 a2 a3 a4 PA pn pc (some ⟨g, o, none⟩) c l B bc m qt 0 0 w4 ((HR.out.below HB.out (Nat.le_refl _)).more (by omega)) (by rw [HN.out]; exact hl) ((HRB.out.below HB.out (Nat.le_refl _)).more (by omega)) (by rw [HBN.out]; exact hm))
        have CW := Lib.hid (by have h := CW.out; rw [HN.out, HBN.out] at h; exact h)
        have HE := Lib.hid (show ownE l ⟨3, qw, qr, qg, qt, qs, ql, qd⟩ = 0 from by unfold ownE; dsimp only; rw [HFX.out]; dsimp only; rw [if_neg (by simp [HO.out]), if_pos rfl])
        obtain ⟨L, hL⟩ : ∃ z, l.filter (keepT qt 0) = z := ⟨_, rfl⟩
        rw [hL] at CW
        have HLe := Lib.hid hL
        obtain ⟨M, hM⟩ : ∃ z, m.filter (keepB 0 L) = z := ⟨_, rfl⟩
        rw [hM] at CW
        have HMe := Lib.hid hM
        obtain ⟨LT, hLT⟩ : ∃ z, L.length = z := ⟨_, rfl⟩
        rw [hLT] at CW
        have HLTe := Lib.hid hLT
        obtain ⟨LB, hLB⟩ : ∃ z, M.length = z := ⟨_, rfl⟩
        rw [hLB] at CW
        have HLBe := Lib.hid hLB
        clear hL hM hLT hLB
        go_wp2_with fail
        refine CW.out.mono ?_
        rintro e v5 ⟨Av, cv, Bv, dv, rfl, ot, ob, b5⟩
        have hz4 : w.heap.size + 3 ≤ w4.heap.size := by have := lv; omega
        have HOT := Lib.hid (own_base ot (show w.heap.size + 3 ≤ w4.heap.size + 2 by omega))
        have HOB := Lib.hid (own_base ob (show w.heap.size + 3 ≤ w4.heap.size + 2 by omega))
        clear CW ot ob hz4
        have HSn := Lib.hid (Whole.below HS.out b5 ls)
        have HQn := Lib.hid (Whole.below HQ.out b5 lq)
        have HVn := Lib.hid (Whole.below HV.out b5 lv)
        have HBn := Lib.hid (HB.out.trans ((b5).mono (by omega)))
        have lsn : w.heap.size < v5.heap.size := by have := (b5).size; omega
        have lqn : w.heap.size + 1 < v5.heap.size := by have := (b5).size; omega
        have lvn : w.heap.size + 2 < v5.heap.size := by have := (b5).size; omega
        clear r0 r1 r2 r3 r4 r5 r6 p0 p1 p2 p3 p4 p5 p6 p7 HS HQ HV HB ls lq lv
        have HS := Lib.hid HSn.out
        have HQ := Lib.hid HQn.out
        have HV := Lib.hid HVn.out
        have HB := Lib.hid HBn.out
        have ls := lsn
        have lq := lqn
        have lv := lvn
        clear HSn HQn HVn HBn lsn lqn lvn
        have r0 := HS.out.cell 0
        have r1 := HS.out.cell 1
        have r2 := HS.out.cell 2
        have r3 := HS.out.cell 3
        have r4 := HS.out.cell 4
        have r5 := HS.out.cell 5
        have r6 := HS.out.cell 6
        have p0 := HQ.out.cell 0
        have p1 := HQ.out.cell 1
        have p2 := HQ.out.cell 2
        have p3 := HQ.out.cell 3
        have p4 := HQ.out.cell 4
        have p5 := HQ.out.cell 5
        have p6 := HQ.out.cell 6
        have p7 := HQ.out.cell 7
        clear b5
        have q0 := HV.out.cell 0; have g0 := HV.out.free 0; have q1 := HV.out.cell 1; have g1 := HV.out.free 1; have q2 := HV.out.cell 2; have g2 := HV.out.free 2; have q3 := HV.out.cell 3; have g3 := HV.out.free 3; have q4 := HV.out.cell 4; have g4 := HV.out.free 4; have q5 := HV.out.cell 5; have g5 := HV.out.free 5; have q6 := HV.out.cell 6; have g6 := HV.out.free 6
        have HF := Lib.hid (show ((((((((v5.setCell ⟨w.heap.size + 2, 0, none⟩ (.int .i64 a1)).setCell ⟨w.heap.size + 2, 1, none⟩ (.int .i64 a2)).setCell ⟨w.heap.size + 2, 2, none⟩ (.int .i64 a3)).setCell ⟨w.heap.size + 2, 3, none⟩ (.int .i64 a4)).setCell ⟨w.heap.size + 2, 4, none⟩ (.slice PA pn pc)).setCell ⟨w.heap.size + 2, 5, none⟩ (.slice Av LT cv)).setCell ⟨w.heap.size + 2, 6, none⟩ (.slice Bv LB dv))).ownsRow (w.heap.size + 3) 60 4 (.slice Av LT cv) LT (tmC L) ∧ ((((((((v5.setCell ⟨w.heap.size + 2, 0, none⟩ (.int .i64 a1)).setCell ⟨w.heap.size + 2, 1, none⟩ (.int .i64 a2)).setCell ⟨w.heap.size + 2, 2, none⟩ (.int .i64 a3)).setCell ⟨w.heap.size + 2, 3, none⟩ (.int .i64 a4)).setCell ⟨w.heap.size + 2, 4, none⟩ (.slice PA pn pc)).setCell ⟨w.heap.size + 2, 5, none⟩ (.slice Av LT cv)).setCell ⟨w.heap.size + 2, 6, none⟩ (.slice Bv LB dv))).ownsRow (w.heap.size + 3) 56 5 (.slice Bv LB dv) LB (sbC M) ∧ Below w.heap.size w (((((((v5.setCell ⟨w.heap.size + 2, 0, none⟩ (.int .i64 a1)).setCell ⟨w.heap.size + 2, 1, none⟩ (.int .i64 a2)).setCell ⟨w.heap.size + 2, 2, none⟩ (.int .i64 a3)).setCell ⟨w.heap.size + 2, 3, none⟩ (.int .i64 a4)).setCell ⟨w.heap.size + 2, 4, none⟩ (.slice PA pn pc)).setCell ⟨w.heap.size + 2, 5, none⟩ (.slice Av LT cv)).setCell ⟨w.heap.size + 2, 6, none⟩ (.slice Bv LB dv)) from by
          refine ⟨?_, ?_, (Below.setCell (p := ⟨w.heap.size + 2, 6, none⟩) (Below.setCell (p := ⟨w.heap.size + 2, 5, none⟩) (Below.setCell (p := ⟨w.heap.size + 2, 4, none⟩) (Below.setCell (p := ⟨w.heap.size + 2, 3, none⟩) (Below.setCell (p := ⟨w.heap.size + 2, 2, none⟩) (Below.setCell (p := ⟨w.heap.size + 2, 1, none⟩) (Below.setCell (p := ⟨w.heap.size + 2, 0, none⟩) (HB.out) (by show w.heap.size ≤ w.heap.size + 2; omega) (.int .i64 a1)) (by show w.heap.size ≤ w.heap.size + 2; omega) (.int .i64 a2)) (by show w.heap.size ≤ w.heap.size + 2; omega) (.int .i64 a3)) (by show w.heap.size ≤ w.heap.size + 2; omega) (.int .i64 a4)) (by show w.heap.size ≤ w.heap.size + 2; omega) (.slice PA pn pc)) (by show w.heap.size ≤ w.heap.size + 2; omega) (.slice Av LT cv)) (by show w.heap.size ≤ w.heap.size + 2; omega) (.slice Bv LB dv))⟩
          · have h := HOT.out
            have fq : ∀ q, (Value.slice Av LT cv).ownBlock = some q → ¬ q = w.heap.size + 2 := fun q hq => by have := (h.lt q hq).1; omega
            exact own_farX (own_farX (own_farX (own_farX (own_farX (own_farX (own_farX (h) (fun q hq e => fq q hq e.symm)) (fun q hq e => fq q hq e.symm)) (fun q hq e => fq q hq e.symm)) (fun q hq e => fq q hq e.symm)) (fun q hq e => fq q hq e.symm)) (fun q hq e => fq q hq e.symm)) (fun q hq e => fq q hq e.symm)
          · have h := HOB.out
            have fq : ∀ q, (Value.slice Bv LB dv).ownBlock = some q → ¬ q = w.heap.size + 2 := fun q hq => by have := (h.lt q hq).1; omega
            exact own_farX (own_farX (own_farX (own_farX (own_farX (own_farX (own_farX (h) (fun q hq e => fq q hq e.symm)) (fun q hq e => fq q hq e.symm)) (fun q hq e => fq q hq e.symm)) (fun q hq e => fq q hq e.symm)) (fun q hq e => fq q hq e.symm)) (fun q hq e => fq q hq e.symm)) (fun q hq e => fq q hq e.symm))
        clear HB HOT HOB
        go_wp2_with fail
        rw [HLe.out, HMe.out, HLTe.out, HLBe.out]
        exact bodyPost_ret (v := .tuple #[.agg #[.int .i64 a1, .int .i64 a2, .int .i64 a3, .int .i64 a4, .slice PA pn pc, .slice Av LT cv, .slice Bv LB dv], .int .i64 0]) (by simp [results, Try.results27, go_sem, q0, q1, q2, q3, q4, q5, q6, lv]) rfl ⟨HF.out.2.2, .inr ⟨HE.out, Av, cv, Bv, dv, rfl, HF.out.1, HF.out.2.1⟩⟩
      · subst hk
        have CM := Lib.hid (show Calls Try.prog 51 #[.slice Q qn qc] w4 (fun e w' => e = .returned (.bool (mayL qs)) ∧ Below w4.heap.size w4 w') by
          have h := rmay18 Q qc qs w4 ((HQS.out.below HB.out (Nat.le_refl _)).more (by omega)) (by rw [HQN.out]; exact hql)
          rw [HQN.out] at h; exact h)
        go_wp2_with fail
        refine CM.out.mono ?_
        rintro e w9 ⟨rfl, b9⟩
        clear CM
        have HSn := Lib.hid (Whole.below HS.out b9 ls)
        have HQn := Lib.hid (Whole.below HQ.out b9 lq)
        have HVn := Lib.hid (Whole.below HV.out b9 lv)
        have HBn := Lib.hid (HB.out.trans ((b9).mono (by omega)))
        have lsn : w.heap.size < w9.heap.size := by have := (b9).size; omega
        have lqn : w.heap.size + 1 < w9.heap.size := by have := (b9).size; omega
        have lvn : w.heap.size + 2 < w9.heap.size := by have := (b9).size; omega
        clear r0 r1 r2 r3 r4 r5 r6 p0 p1 p2 p3 p4 p5 p6 p7 HS HQ HV HB ls lq lv
        have HS := Lib.hid HSn.out
        have HQ := Lib.hid HQn.out
        have HV := Lib.hid HVn.out
        have HB := Lib.hid HBn.out
        have ls := lsn
        have lq := lqn
        have lv := lvn
        clear HSn HQn HVn HBn lsn lqn lvn
        have r0 := HS.out.cell 0
        have r1 := HS.out.cell 1
        have r2 := HS.out.cell 2
        have r3 := HS.out.cell 3
        have r4 := HS.out.cell 4
        have r5 := HS.out.cell 5
        have r6 := HS.out.cell 6
        have p0 := HQ.out.cell 0
        have p1 := HQ.out.cell 1
        have p2 := HQ.out.cell 2
        have p3 := HQ.out.cell 3
        have p4 := HQ.out.cell 4
        have p5 := HQ.out.cell 5
        have p6 := HQ.out.cell 6
        have p7 := HQ.out.cell 7
        clear b9
        obtain ⟨fine, hfine⟩ : ∃ z, mayL qs = z := ⟨_, rfl⟩
        have HFI := Lib.hid hfine
        rw [hfine]
        clear hfine
        cases fine with
        | false =>
          have q0 := HV.out.cell 0; have g0 := HV.out.free 0; have q1 := HV.out.cell 1; have g1 := HV.out.free 1; have q2 := HV.out.cell 2; have g2 := HV.out.free 2; have q3 := HV.out.cell 3; have g3 := HV.out.free 3; have q4 := HV.out.cell 4; have g4 := HV.out.free 4; have q5 := HV.out.cell 5; have g5 := HV.out.free 5; have q6 := HV.out.cell 6; have g6 := HV.out.free 6
          have HE := Lib.hid (show ownE l ⟨4, qw, qr, qg, qt, qs, ql, qd⟩ = 1 from by unfold ownE; dsimp only; rw [HFX.out]; dsimp only; rw [if_neg (by simp [HO.out]), if_neg (by omega), if_pos HFI.out])
          have HF := Lib.hid (show Below w.heap.size w (((((((w9.setCell ⟨w.heap.size + 2, 0, none⟩ (.int .i64 a1)).setCell ⟨w.heap.size + 2, 1, none⟩ (.int .i64 a2)).setCell ⟨w.heap.size + 2, 2, none⟩ (.int .i64 a3)).setCell ⟨w.heap.size + 2, 3, none⟩ (.int .i64 a4)).setCell ⟨w.heap.size + 2, 4, none⟩ (.slice PA pn pc)).setCell ⟨w.heap.size + 2, 5, none⟩ (.slice (some ⟨g, o, none⟩) n c)).setCell ⟨w.heap.size + 2, 6, none⟩ (.slice B bn bc)) from (Below.setCell (p := ⟨w.heap.size + 2, 6, none⟩) (Below.setCell (p := ⟨w.heap.size + 2, 5, none⟩) (Below.setCell (p := ⟨w.heap.size + 2, 4, none⟩) (Below.setCell (p := ⟨w.heap.size + 2, 3, none⟩) (Below.setCell (p := ⟨w.heap.size + 2, 2, none⟩) (Below.setCell (p := ⟨w.heap.size + 2, 1, none⟩) (Below.setCell (p := ⟨w.heap.size + 2, 0, none⟩) (HB.out) (by show w.heap.size ≤ w.heap.size + 2; omega) (.int .i64 a1)) (by show w.heap.size ≤ w.heap.size + 2; omega) (.int .i64 a2)) (by show w.heap.size ≤ w.heap.size + 2; omega) (.int .i64 a3)) (by show w.heap.size ≤ w.heap.size + 2; omega) (.int .i64 a4)) (by show w.heap.size ≤ w.heap.size + 2; omega) (.slice PA pn pc)) (by show w.heap.size ≤ w.heap.size + 2; omega) (.slice (some ⟨g, o, none⟩) n c)) (by show w.heap.size ≤ w.heap.size + 2; omega) (.slice B bn bc)))
          clear HB
          go_wp2_with fail
          exact bodyPost_ret (v := .tuple #[.agg #[.int .i64 a1, .int .i64 a2, .int .i64 a3, .int .i64 a4, .slice PA pn pc, .slice (some ⟨g, o, none⟩) n c, .slice B bn bc], .int .i64 1]) (by simp [results, Try.results27, go_sem, q0, q1, q2, q3, q4, q5, q6, lv]) rfl ⟨HF.out, .inl ⟨by rw [HE.out]; decide, by rw [HE.out]⟩⟩
        | true =>
          have CK := Lib.hid (show Calls Try.prog 52 #[.agg #[.int .i64 a1, .int .i64 a2, .int .i64 a3, .int .i64 a4, .slice PA pn pc, .slice (some ⟨g, o, none⟩) n c, .slice B bn bc], .slice Q qn qc] w9 (fun e w'' => e = .returned (.bool (takenM l qs)) ∧ Below w9.heap.size w9 w'') by
            have h := rtaken18 a1 a2 a3 a4 (.slice PA pn pc) (.slice B bn bc) (some ⟨g, o, none⟩) c l Q qc qs w9 ((HR.out.below HB.out (Nat.le_refl _)).more (by omega)) (by rw [HN.out]; exact hl) ((HQS.out.below HB.out (Nat.le_refl _)).more (by omega)) (by rw [HQN.out]; exact hql)
            rw [HN.out, HQN.out] at h; exact h)
          go_wp2_with fail
          refine CK.out.mono ?_
          rintro e v2 ⟨rfl, b2⟩
          obtain ⟨tk, htk⟩ : ∃ z, takenM l qs = z := ⟨_, rfl⟩
          have HTK := Lib.hid htk
          rw [htk]
          clear CK htk
          have HSn := Lib.hid (Whole.below HS.out b2 ls)
          have HQn := Lib.hid (Whole.below HQ.out b2 lq)
          have HVn := Lib.hid (Whole.below HV.out b2 lv)
          have HBn := Lib.hid (HB.out.trans ((b2).mono (by omega)))
          have lsn : w.heap.size < v2.heap.size := by have := (b2).size; omega
          have lqn : w.heap.size + 1 < v2.heap.size := by have := (b2).size; omega
          have lvn : w.heap.size + 2 < v2.heap.size := by have := (b2).size; omega
          clear r0 r1 r2 r3 r4 r5 r6 p0 p1 p2 p3 p4 p5 p6 p7 HS HQ HV HB ls lq lv
          have HS := Lib.hid HSn.out
          have HQ := Lib.hid HQn.out
          have HV := Lib.hid HVn.out
          have HB := Lib.hid HBn.out
          have ls := lsn
          have lq := lqn
          have lv := lvn
          clear HSn HQn HVn HBn lsn lqn lvn
          have r0 := HS.out.cell 0
          have r1 := HS.out.cell 1
          have r2 := HS.out.cell 2
          have r3 := HS.out.cell 3
          have r4 := HS.out.cell 4
          have r5 := HS.out.cell 5
          have r6 := HS.out.cell 6
          have p0 := HQ.out.cell 0
          have p1 := HQ.out.cell 1
          have p2 := HQ.out.cell 2
          have p3 := HQ.out.cell 3
          have p4 := HQ.out.cell 4
          have p5 := HQ.out.cell 5
          have p6 := HQ.out.cell 6
          have p7 := HQ.out.cell 7
          clear b2
          cases tk with
          | true =>
            have q0 := HV.out.cell 0; have g0 := HV.out.free 0; have q1 := HV.out.cell 1; have g1 := HV.out.free 1; have q2 := HV.out.cell 2; have g2 := HV.out.free 2; have q3 := HV.out.cell 3; have g3 := HV.out.free 3; have q4 := HV.out.cell 4; have g4 := HV.out.free 4; have q5 := HV.out.cell 5; have g5 := HV.out.free 5; have q6 := HV.out.cell 6; have g6 := HV.out.free 6
            have HE := Lib.hid (show ownE l ⟨4, qw, qr, qg, qt, qs, ql, qd⟩ = 22 from by unfold ownE; dsimp only; rw [HFX.out]; dsimp only; rw [if_neg (by simp [HO.out]), if_neg (by omega), if_neg (by rw [show mayL qs = true from HFI.out]; simp), if_pos HTK.out])
            have HF := Lib.hid (show Below w.heap.size w (((((((v2.setCell ⟨w.heap.size + 2, 0, none⟩ (.int .i64 a1)).setCell ⟨w.heap.size + 2, 1, none⟩ (.int .i64 a2)).setCell ⟨w.heap.size + 2, 2, none⟩ (.int .i64 a3)).setCell ⟨w.heap.size + 2, 3, none⟩ (.int .i64 a4)).setCell ⟨w.heap.size + 2, 4, none⟩ (.slice PA pn pc)).setCell ⟨w.heap.size + 2, 5, none⟩ (.slice (some ⟨g, o, none⟩) n c)).setCell ⟨w.heap.size + 2, 6, none⟩ (.slice B bn bc)) from (Below.setCell (p := ⟨w.heap.size + 2, 6, none⟩) (Below.setCell (p := ⟨w.heap.size + 2, 5, none⟩) (Below.setCell (p := ⟨w.heap.size + 2, 4, none⟩) (Below.setCell (p := ⟨w.heap.size + 2, 3, none⟩) (Below.setCell (p := ⟨w.heap.size + 2, 2, none⟩) (Below.setCell (p := ⟨w.heap.size + 2, 1, none⟩) (Below.setCell (p := ⟨w.heap.size + 2, 0, none⟩) (HB.out) (by show w.heap.size ≤ w.heap.size + 2; omega) (.int .i64 a1)) (by show w.heap.size ≤ w.heap.size + 2; omega) (.int .i64 a2)) (by show w.heap.size ≤ w.heap.size + 2; omega) (.int .i64 a3)) (by show w.heap.size ≤ w.heap.size + 2; omega) (.int .i64 a4)) (by show w.heap.size ≤ w.heap.size + 2; omega) (.slice PA pn pc)) (by show w.heap.size ≤ w.heap.size + 2; omega) (.slice (some ⟨g, o, none⟩) n c)) (by show w.heap.size ≤ w.heap.size + 2; omega) (.slice B bn bc)))
            clear HB
            go_wp2_with fail
            exact bodyPost_ret (v := .tuple #[.agg #[.int .i64 a1, .int .i64 a2, .int .i64 a3, .int .i64 a4, .slice PA pn pc, .slice (some ⟨g, o, none⟩) n c, .slice B bn bc], .int .i64 22]) (by simp [results, Try.results27, go_sem, q0, q1, q2, q3, q4, q5, q6, lv]) rfl ⟨HF.out, .inl ⟨by rw [HE.out]; decide, by rw [HE.out]⟩⟩
          | false =>
            have HE := Lib.hid (show ownE l ⟨4, qw, qr, qg, qt, qs, ql, qd⟩ = 0 from by unfold ownE; dsimp only; rw [HFX.out]; dsimp only; rw [if_neg (by simp [HO.out]), if_neg (by omega), if_neg (by rw [show mayL qs = true from HFI.out]; simp), if_neg (by rw [show takenM l qs = false from HTK.out]; simp)])
            have HR9 := Lib.hid (show Row v2 w.heap.size 4 (some ⟨g, o, none⟩) n (tmC l) by have h := HR.out.1.below HB.out (Nat.le_refl _); rw [HN.out] at h; exact h)
            have hz9 : w.heap.size + 3 ≤ v2.heap.size := by have := lv; omega
            go_wp2_with (at_builtin; refine wpl_append _ rfl (.tmp 44) (.tmp 46) 34 rfl v2.heap.size 60 (.agg #[.int .i64 0, .int .i64 0, .int .i64 0, .slice none 0 0]) 4 48 Try.underlying34 info_T18 rfl (by decide) _ 0 [] rfl (World.ownsRow_nil _ _ _ _) _ (some ⟨g, o, none⟩) n c _ rfl HR9.out (flat_one tm_one _) ?c1 ?c2 ?c3 ?_)
            case c1 => unfold maxLen; omega
            case c2 => omega
            case c3 => exact Nat.le_refl _
            intro v8 w8 hown8 hg8 hv8
            have b8 : Below v2.heap.size v2 w8 := ⟨hg8.os, hg8.tape, hg8.output, hg8.size, fun k hk => hg8.block k hk (by simp [Value.ownBlock])⟩
            obtain ⟨g8, c8, cur, rfl, hg8b, HW8⟩ : ∃ g8 c8 cur, v8 = .slice (some ⟨g8, 0, none⟩) n c8 ∧ v2.heap.size ≤ g8 ∧ Whole w8 g8 60 cur := by
              rcases hown8.2 with ⟨hv, h0⟩ | ⟨g', cap, cur, hv, hb, hh, _⟩
              · omega
              · exact ⟨g', cap, cur, hv, hb, hh⟩
            obtain ⟨g0, o0, e0, hl0, hc0⟩ := (Row.of_own hown8).2 (by omega)
            cases e0
            have m2 := hc0 _ _ ((tmC_get HX.out 2 (by decide)).trans rfl)
            have m3 := hc0 _ _ ((tmC_get HX.out 3 (by decide)).trans rfl)
            rw [Nat.zero_add] at m2 m3
            have n2 := HW8.free (i * 4 + 2)
            have n3 := HW8.free (i * 4 + 3)
            dsimp only at m2 m3
            have HO8 := Lib.hid hown8
            have hi8 : (i : Int) < (n : Int) := i1
            have ha3 : i * 4 + 3 ≠ i * 4 + 2 := by omega
            clear hc0 hv8 HW8 hg8
            have HSn := Lib.hid (Whole.below HS.out b8 ls)
            have HQn := Lib.hid (Whole.below HQ.out b8 lq)
            have HVn := Lib.hid (Whole.below HV.out b8 lv)
            have HBn := Lib.hid (HB.out.trans ((b8).mono (by omega)))
            have lsn : w.heap.size < w8.heap.size := by have := (b8).size; omega
            have lqn : w.heap.size + 1 < w8.heap.size := by have := (b8).size; omega
            have lvn : w.heap.size + 2 < w8.heap.size := by have := (b8).size; omega
            clear r0 r1 r2 r3 r4 r5 r6 p0 p1 p2 p3 p4 p5 p6 p7 HS HQ HV HB ls lq lv
            have HS := Lib.hid HSn.out
            have HQ := Lib.hid HQn.out
            have HV := Lib.hid HVn.out
            have HB := Lib.hid HBn.out
            have ls := lsn
            have lq := lqn
            have lv := lvn
            clear HSn HQn HVn HBn lsn lqn lvn
            have r0 := HS.out.cell 0
            have r1 := HS.out.cell 1
            have r2 := HS.out.cell 2
            have r3 := HS.out.cell 3
            have r4 := HS.out.cell 4
            have r5 := HS.out.cell 5
            have r6 := HS.out.cell 6
            have p0 := HQ.out.cell 0
            have p1 := HQ.out.cell 1
            have p2 := HQ.out.cell 2
            have p3 := HQ.out.cell 3
            have p4 := HQ.out.cell 4
            have p5 := HQ.out.cell 5
            have p6 := HQ.out.cell 6
            have p7 := HQ.out.cell 7
            clear b8
            have f5 := HS.out.free 5
            have q0 := HV.out.cell 0; have s0 := HV.out.free 0; have q1 := HV.out.cell 1; have s1 := HV.out.free 1; have q2 := HV.out.cell 2; have s2 := HV.out.free 2; have q3 := HV.out.cell 3; have s3 := HV.out.free 3; have q4 := HV.out.cell 4; have s4 := HV.out.free 4; have q5 := HV.out.cell 5; have s5 := HV.out.free 5; have q6 := HV.out.cell 6; have s6 := HV.out.free 6
            have hne : ¬ w.heap.size = w.heap.size + 2 := by omega
            have hn1 : ¬ g8 = w.heap.size := by omega
            have hn2 : ¬ g8 = w.heap.size + 2 := by omega
            have hn3 : ¬ g8 = w.heap.size + 1 := by omega
            have hn4 : ¬ w.heap.size = g8 := by omega
            have hn5 : ¬ w.heap.size + 2 = g8 := by omega
            have hn6 : ¬ w.heap.size + 1 = g8 := by omega
            have HF := Lib.hid (show (((((((((((w8.setCell ⟨g8, i * 4 + 3, none⟩ (.slice Q qn qc)).setCell ⟨g8, i * 4 + 2, none⟩ (.int .i64 (wrap64 (xf + 1)))).setCell ⟨w.heap.size, 5, none⟩ (.slice (some ⟨g8, 0, none⟩) n c8)).setCell ⟨w.heap.size + 2, 0, none⟩ (.int .i64 a1)).setCell ⟨w.heap.size + 2, 1, none⟩ (.int .i64 a2)).setCell ⟨w.heap.size + 2, 2, none⟩ (.int .i64 a3)).setCell ⟨w.heap.size + 2, 3, none⟩ (.int .i64 a4)).setCell ⟨w.heap.size + 2, 4, none⟩ (.slice PA pn pc)).setCell ⟨w.heap.size + 2, 5, none⟩ (.slice (some ⟨g8, 0, none⟩) n c8)).setCell ⟨w.heap.size + 2, 6, none⟩ (.slice B bn bc))).ownsRow (w.heap.size + 3) 60 4 (.slice (some ⟨g8, 0, none⟩) n c8) n (tmC (l.set i (replM ⟨⟨xi, xo, xf, xs⟩, xA, xc⟩ qs Q qc))) ∧ Below w.heap.size w ((((((((((w8.setCell ⟨g8, i * 4 + 3, none⟩ (.slice Q qn qc)).setCell ⟨g8, i * 4 + 2, none⟩ (.int .i64 (wrap64 (xf + 1)))).setCell ⟨w.heap.size, 5, none⟩ (.slice (some ⟨g8, 0, none⟩) n c8)).setCell ⟨w.heap.size + 2, 0, none⟩ (.int .i64 a1)).setCell ⟨w.heap.size + 2, 1, none⟩ (.int .i64 a2)).setCell ⟨w.heap.size + 2, 2, none⟩ (.int .i64 a3)).setCell ⟨w.heap.size + 2, 3, none⟩ (.int .i64 a4)).setCell ⟨w.heap.size + 2, 4, none⟩ (.slice PA pn pc)).setCell ⟨w.heap.size + 2, 5, none⟩ (.slice (some ⟨g8, 0, none⟩) n c8)).setCell ⟨w.heap.size + 2, 6, none⟩ (.slice B bn bc)) from by
              refine ⟨?_, (Below.setCell (p := ⟨w.heap.size + 2, 6, none⟩) (Below.setCell (p := ⟨w.heap.size + 2, 5, none⟩) (Below.setCell (p := ⟨w.heap.size + 2, 4, none⟩) (Below.setCell (p := ⟨w.heap.size + 2, 3, none⟩) (Below.setCell (p := ⟨w.heap.size + 2, 2, none⟩) (Below.setCell (p := ⟨w.heap.size + 2, 1, none⟩) (Below.setCell (p := ⟨w.heap.size + 2, 0, none⟩) (Below.setCell (p := ⟨w.heap.size, 5, none⟩) (Below.setCell (p := ⟨g8, i * 4 + 2, none⟩) (Below.setCell (p := ⟨g8, i * 4 + 3, none⟩) (HB.out) (by show w.heap.size ≤ g8; omega) (.slice Q qn qc)) (by show w.heap.size ≤ g8; omega) (.int .i64 (wrap64 (xf + 1)))) (Nat.le_refl _) (.slice (some ⟨g8, 0, none⟩) n c8)) (by show w.heap.size ≤ w.heap.size + 2; omega) (.int .i64 a1)) (by show w.heap.size ≤ w.heap.size + 2; omega) (.int .i64 a2)) (by show w.heap.size ≤ w.heap.size + 2; omega) (.int .i64 a3)) (by show w.heap.size ≤ w.heap.size + 2; omega) (.int .i64 a4)) (by show w.heap.size ≤ w.heap.size + 2; omega) (.slice PA pn pc)) (by show w.heap.size ≤ w.heap.size + 2; omega) (.slice (some ⟨g8, 0, none⟩) n c8)) (by show w.heap.size ≤ w.heap.size + 2; omega) (.slice B bn bc))⟩
              have h := own_base (own_setY (j := i * 4 + 2) (u := .int .i64 (wrap64 (xf + 1))) (own_setY (j := i * 4 + 3) (u := .slice Q qn qc) HO8.out (by omega)) (by omega)) (show w.heap.size + 3 ≤ v2.heap.size by omega)
              rw [tmC_set (y := replM ⟨⟨xi, xo, xf, xs⟩, xA, xc⟩ qs Q qc) HX.out (by rw [← HQN.out]; rfl)] at h
              have fq : ∀ q, (Value.slice (some ⟨g8, 0, none⟩) n c8).ownBlock = some q → ¬ (q = w.heap.size ∨ q = w.heap.size + 2) := fun q hq => by have := (h.lt q hq).1; omega
              exact own_farX (own_farX (own_farX (own_farX (own_farX (own_farX (own_farX (own_farX h (fun q hq e => fq q hq (.inl e.symm))) (fun q hq e => fq q hq (.inr e.symm))) (fun q hq e => fq q hq (.inr e.symm))) (fun q hq e => fq q hq (.inr e.symm))) (fun q hq e => fq q hq (.inr e.symm))) (fun q hq e => fq q hq (.inr e.symm))) (fun q hq e => fq q hq (.inr e.symm))) (fun q hq e => fq q hq (.inr e.symm)))
            clear HB HO8 HR9 hown8 ha3
            go_wp2_with fail
            exact bodyPost_ret (v := .tuple #[.agg #[.int .i64 a1, .int .i64 a2, .int .i64 a3, .int .i64 a4, .slice PA pn pc, .slice (some ⟨g8, 0, none⟩) n c8, .slice B bn bc], .int .i64 0]) (by simp [results, Try.results27, go_sem, q0, q1, q2, q3, q4, q5, q6, lv]) rfl ⟨HF.out.2, .inr ⟨HE.out, i, ⟨⟨xi, xo, xf, xs⟩, xA, xc⟩, HX.out, HFX.out, some ⟨g8, 0, none⟩, c8, rfl, HF.out.1⟩⟩
    · have b1 : (xo != qw) = true := by simp [ho]
      go_region
      obtain ⟨w4, hw4⟩ : ∃ z, z = v1.drew := ⟨_, rfl⟩
      rw [← hw4] at bd ⊢
      clear hw4 hk
      have HSn := Lib.hid (Whole.below HS.out bd ls)
      have HQn := Lib.hid (Whole.below HQ.out bd lq)
      have HVn := Lib.hid (Whole.below HV.out bd lv)
      have HBn := Lib.hid (HB.out.trans ((bd).mono (by omega)))
      have lsn : w.heap.size < w4.heap.size := by have := (bd).size; omega
      have lqn : w.heap.size + 1 < w4.heap.size := by have := (bd).size; omega
      have lvn : w.heap.size + 2 < w4.heap.size := by have := (bd).size; omega
      clear r0 r1 r2 r3 r4 r5 r6 p0 p1 p2 p3 p4 p5 p6 p7 HS HQ HV HB ls lq lv
      have HS := Lib.hid HSn.out
      have HQ := Lib.hid HQn.out
      have HV := Lib.hid HVn.out
      have HB := Lib.hid HBn.out
      have ls := lsn
      have lq := lqn
      have lv := lvn
      clear HSn HQn HVn HBn lsn lqn lvn
      have r0 := HS.out.cell 0
      have r1 := HS.out.cell 1
      have r2 := HS.out.cell 2
      have r3 := HS.out.cell 3
      have r4 := HS.out.cell 4
      have r5 := HS.out.cell 5
      have r6 := HS.out.cell 6
      have p0 := HQ.out.cell 0
      have p1 := HQ.out.cell 1
      have p2 := HQ.out.cell 2
      have p3 := HQ.out.cell 3
      have p4 := HQ.out.cell 4
      have p5 := HQ.out.cell 5
      have p6 := HQ.out.cell 6
      have p7 := HQ.out.cell 7
      clear bd c1 lg b1
      have q0 := HV.out.cell 0; have g0 := HV.out.free 0; have q1 := HV.out.cell 1; have g1 := HV.out.free 1; have q2 := HV.out.cell 2; have g2 := HV.out.free 2; have q3 := HV.out.cell 3; have g3 := HV.out.free 3; have q4 := HV.out.cell 4; have g4 := HV.out.free 4; have q5 := HV.out.cell 5; have g5 := HV.out.free 5; have q6 := HV.out.cell 6; have g6 := HV.out.free 6
      have HE := Lib.hid (show ownE l ⟨qk, qw, qr, qg, qt, qs, ql, qd⟩ = 24 from by unfold ownE; dsimp only; rw [HFX.out]; dsimp only; rw [if_pos ho])
      have HF := Lib.hid (show Below w.heap.size w (((((((w4.setCell ⟨w.heap.size + 2, 0, none⟩ (.int .i64 a1)).setCell ⟨w.heap.size + 2, 1, none⟩ (.int .i64 a2)).setCell ⟨w.heap.size + 2, 2, none⟩ (.int .i64 a3)).setCell ⟨w.heap.size + 2, 3, none⟩ (.int .i64 a4)).setCell ⟨w.heap.size + 2, 4, none⟩ (.slice PA pn pc)).setCell ⟨w.heap.size + 2, 5, none⟩ (.slice (some ⟨g, o, none⟩) n c)).setCell ⟨w.heap.size + 2, 6, none⟩ (.slice B bn bc)) from (Below.setCell (p := ⟨w.heap.size + 2, 6, none⟩) (Below.setCell (p := ⟨w.heap.size + 2, 5, none⟩) (Below.setCell (p := ⟨w.heap.size + 2, 4, none⟩) (Below.setCell (p := ⟨w.heap.size + 2, 3, none⟩) (Below.setCell (p := ⟨w.heap.size + 2, 2, none⟩) (Below.setCell (p := ⟨w.heap.size + 2, 1, none⟩) (Below.setCell (p := ⟨w.heap.size + 2, 0, none⟩) (HB.out) (by show w.heap.size ≤ w.heap.size + 2; omega) (.int .i64 a1)) (by show w.heap.size ≤ w.heap.size + 2; omega) (.int .i64 a2)) (by show w.heap.size ≤ w.heap.size + 2; omega) (.int .i64 a3)) (by show w.heap.size ≤ w.heap.size + 2; omega) (.int .i64 a4)) (by show w.heap.size ≤ w.heap.size + 2; omega) (.slice PA pn pc)) (by show w.heap.size ≤ w.heap.size + 2; omega) (.slice (some ⟨g, o, none⟩) n c)) (by show w.heap.size ≤ w.heap.size + 2; omega) (.slice B bn bc)))
      clear HB
      go_wp2_with fail
      exact bodyPost_ret (v := .tuple #[.agg #[.int .i64 a1, .int .i64 a2, .int .i64 a3, .int .i64 a4, .slice PA pn pc, .slice (some ⟨g, o, none⟩) n c, .slice B bn bc], .int .i64 24]) (by simp [results, Try.results27, go_sem, q0, q1, q2, q3, q4, q5, q6, lv]) rfl ⟨HF.out, .inl ⟨by rw [HE.out]; decide, by rw [HE.out]⟩⟩
end Go.Proofs.Ytmmeceehfdbdoaa
