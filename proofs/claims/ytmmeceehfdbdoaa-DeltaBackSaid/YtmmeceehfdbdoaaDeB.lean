/-
 Contract of the document's subscribe (layer 18).
-/
import Derived.Conc.WalkWords
import Derived.Test.YtmmeceehfdbdoaaDeO
import Derived.Test.YtmmeceehfdbdoaaHang
namespace Go.Proofs.Ytmmeceehfdbdoaa
open Go.RowKit
open Dl
set_option linter.unusedSimpArgs false
set_option linter.unusedVariables false
set_option maxRecDepth 1000000

namespace Dl
def roomP (pl : List Pn) (k : Int) : Option Int := (pl.find? (isP k)).map (·.room)
def subE (a3 a4 : Int) (pl : List Pn) (p : Pn) (l : List Tm) (m : List Sb) (q : Rq) : Int :=
 if p.rights / 2 = 0 then 24
 else match l.find? (fun x => isT q.track x.t) with
 | none => 21
 | some x =>
  if roomP pl x.t.owner ≠ some p.room then 24
  else if (m.find? (isB q.who q.track)).isSome = true then 22
  else if badL q = true then 1
  else if a3 ≤ (m.filter (ofB q.who)).length then 25
  else if a4 ≤ m.length then 20 else 0
/-- Put in behind as many as are lower. -/
def insN {α : Type} (lt : α → α → Bool) (l : List α) (x : α) : List α := l.take (l.filter fun z => lt z x).length ++ x :: l.drop (l.filter fun z => lt z x).length
theorem filter_tw {α : Type} {lt : α → α → Bool} {x : α} (tr : ∀ a b c, lt a b = true → lt b c = true → lt a c = true) : ∀ {l : List α}, (l.Pairwise fun a b => lt a b = true) → (l.filter fun z => lt z x) = l.takeWhile fun z => lt z x
 | [], _ => rfl
 | a :: l, h => by
  have h' := List.pairwise_cons.1 h
  rw [List.filter_cons, List.takeWhile_cons]
  by_cases e : lt a x = true
  · rw [if_pos e, if_pos e, filter_tw tr h'.2]
  · rw [if_neg e, if_neg e, List.filter_eq_nil_iff]
    intro z hz hz2
    exact e (tr _ _ _ (h'.1 z hz) hz2)
theorem insN_eq {α : Type} {lt : α → α → Bool} (tr : ∀ a b c, lt a b = true → lt b c = true → lt a c = true) {l : List α} (h : l.Pairwise fun a b => lt a b = true) (x : α) : insN lt l x = insK lt l x := by
 unfold insN
 rw [filter_tw tr h, insK_at]
/-- How many of the first k are such. -/
def cnt {α : Type} (f : α → Bool) (l : List α) (k : Nat) : Nat := ((l.take k).filter f).length
theorem cnt_next {α : Type} {f : α → Bool} {l : List α} {k : Nat} {x : α} (h : l[k]? = some x) : cnt f l (k + 1) = if f x = true then cnt f l k + 1 else cnt f l k := by
 unfold cnt
 rw [filter_add f h]
 split <;> simp
theorem cnt_le {α : Type} (f : α → Bool) (l : List α) (k : Nat) : cnt f l k ≤ k := len_take_filter f l k
theorem cnt_all {α : Type} {f : α → Bool} {l : List α} {k : Nat} (h : l.length ≤ k) : cnt f l k = (l.filter f).length := by
 unfold cnt; rw [List.take_of_length_le h]
theorem sb_one (x : Sb) : ∀ u ∈ sbV x, u.oneCell' = true := by intro u hu; simp [sbV] at hu; rcases hu with rfl | rfl | rfl | rfl | rfl <;> rfl
end Dl
set_option maxHeartbeats 25600000 in
theorem rsubscribe18 (a1 a2 a3 a4 : Int) (PA : Option Addr) (pc : Nat) (pl : List Pn) (A : Option Addr) (c : Nat) (l : List Tm) (B : Option Addr) (bc : Nat) (m : List Sb) (q : Rq) (Q : Option Addr) (qn qc : Nat) (p : Pn) (ip : Nat) (w : World)
 (hp : Row w w.heap.size 3 PA pl.length (pnC pl)) (hpl : pl.length ≤ 4096) (hix : ixS (isP q.who) pl = (ip : Int)) (hip : pl[ip]? = some p) (hpr : 0 ≤ p.rights ∧ p.rights ≤ 3)
 (hr : Row w w.heap.size 4 A l.length (tmC l)) (hl : l.length ≤ 4096) (how : ∀ x ∈ l, 0 ≤ ixS (isP x.t.owner) pl)
 (hb : Row w w.heap.size 5 B m.length (sbC m)) (hm : m.length ≤ 4096) (hA : (B = none ∧ bc = 0) ∨ ∃ g o, B = some ⟨g, o, none⟩) (hlc : m.length ≤ bc) (hcm : bc ≤ maxLen) :
 Calls Try.prog 28 #[.agg #[.int .i64 a1, .int .i64 a2, .int .i64 a3, .int .i64 a4, .slice PA pl.length pc, .slice A l.length c, .slice B m.length bc], .agg #[.int .i64 q.kind, .int .i64 q.who, .int .i64 q.room, .int .i64 q.rights, .int .i64 q.track, .slice Q qn qc, .int .i64 q.layer, .int .i64 q.tid]] w fun e w' => Below w.heap.size w w' ∧
  ((subE a3 a4 pl p l m q ≠ 0 ∧ e = .returned (.tuple #[.agg #[.int .i64 a1, .int .i64 a2, .int .i64 a3, .int .i64 a4, .slice PA pl.length pc, .slice A l.length c, .slice B m.length bc], .int .i64 (subE a3 a4 pl p l m q)])) ∨
   (subE a3 a4 pl p l m q = 0 ∧ ∃ A' c', e = .returned (.tuple #[.agg #[.int .i64 a1, .int .i64 a2, .int .i64 a3, .int .i64 a4, .slice PA pl.length pc, .slice A l.length c, .slice A' (m.length + 1) c'], .int .i64 0]) ∧ w'.ownsRow (w.heap.size + 3) 56 5 (.slice A' (m.length + 1) c') (m.length + 1) (sbC (insN ltB m ⟨q.who, q.track, q.layer, q.tid, false⟩)))) := by
 obtain ⟨n, hn⟩ : ∃ n, l.length = n := ⟨_, rfl⟩
 obtain ⟨bn, hbn⟩ : ∃ n, m.length = n := ⟨_, rfl⟩
 obtain ⟨pn, hpn⟩ : ∃ n, pl.length = n := ⟨_, rfl⟩
 obtain ⟨qk, qw, qr, qg, qt, qs, ql, qd⟩ := q
 dsimp only at hix ⊢
 have HN := Lib.hid hn
 have HBN := Lib.hid hbn
 have HPN := Lib.hid hpn
 have HR := Lib.hid hr
 have HRB := Lib.hid hb
 have HP := Lib.hid hp
 have HOW := Lib.hid how
 rw [hn] at hl ⊢
 rw [hbn] at hm hlc ⊢
 rw [hpn] at hpl ⊢
 have HA := Lib.hid hA
 have HCM := Lib.hid hcm
 have HIX := Lib.hid hix
 have HIP := Lib.hid hip
 obtain ⟨w1, hw1⟩ : ∃ z, z = w.alloc (.cells #[.int .i64 a1, .int .i64 a2, .int .i64 a3, .int .i64 a4, .slice PA pn pc, .slice A n c, .slice B bn bc] 37) := ⟨_, rfl⟩
 have HB1 := Lib.hid (show Below w.heap.size w w1 by rw [hw1]; exact (Below.refl _ _).alloc (Nat.le_refl _) _)
 have HS1 := Lib.hid (show Whole w1 w.heap.size 37 #[.int .i64 a1, .int .i64 a2, .int .i64 a3, .int .i64 a4, .slice PA pn pc, .slice A n c, .slice B bn bc] by rw [hw1]; exact Whole.new w _ _)
 have hz1 : w1.heap.size = w.heap.size + 1 := by rw [hw1]; simp
 obtain ⟨w2, hw2⟩ : ∃ z, z = w1.alloc (.cells #[.int .i64 qk, .int .i64 qw, .int .i64 qr, .int .i64 qg, .int .i64 qt, .slice Q qn qc, .int .i64 ql, .int .i64 qd] 48) := ⟨_, rfl⟩
 have HB2 := Lib.hid (show Below w1.heap.size w1 w2 by rw [hw2]; exact (Below.refl _ _).alloc (Nat.le_refl _) _)
 have HQ2 := Lib.hid (show Whole w2 (w.heap.size + 1) 48 #[.int .i64 qk, .int .i64 qw, .int .i64 qr, .int .i64 qg, .int .i64 qt, .slice Q qn qc, .int .i64 ql, .int .i64 qd] by rw [hw2, ← hz1]; exact Whole.new w1 _ _)
 have hz2 : w2.heap.size = w.heap.size + 2 := by rw [hw2]; simp; omega
 obtain ⟨w3, hw3⟩ : ∃ z, z = w2.alloc (.cells #[.int .i64 0, .int .i64 0, .int .i64 0, .int .i64 0, .slice none 0 0, .slice none 0 0, .slice none 0 0] 37) := ⟨_, rfl⟩
 have HB3 := Lib.hid (show Below w2.heap.size w2 w3 by rw [hw3]; exact (Below.refl _ _).alloc (Nat.le_refl _) _)
 have HV := Lib.hid (show Whole w3 (w.heap.size + 2) 37 #[.int .i64 0, .int .i64 0, .int .i64 0, .int .i64 0, .slice none 0 0, .slice none 0 0, .slice none 0 0] by rw [hw3, ← hz2]; exact Whole.new w2 _ _)
 have hz3 : w3.heap.size = w.heap.size + 3 := by rw [hw3]; simp; omega
 have HS := Lib.hid (Whole.below (Whole.below HS1.out HB2.out (by omega)) HB3.out (by omega))
 have HQ := Lib.hid (Whole.below HQ2.out HB3.out (by omega))
 have HB := Lib.hid ((HB1.out.trans (HB2.out.mono (by omega))).trans (HB3.out.mono (by omega)))
 have lv : w.heap.size + 2 < w3.heap.size := by omega
 have ls : w.heap.size < w3.heap.size := by omega
 have lq : w.heap.size + 1 < w3.heap.size := by omega
 have HZ3 := Lib.hid (show w.heap.size + 3 ≤ w3.heap.size by omega)
 go_enter Try.func28, Try.ntmps28
 go_upto_region 1 with fail
 rw [← hw1, show w.heap.size + 1 + 1 = w.heap.size + 2 from rfl]
 rw [← hw2, ← hw3]
 clear hA hcm hr hn hw1 hw2 hw3 HS1 HB1 HB2 HB3 HQ2 hz1 hz2 hz3 hp hix hb hbn hpn how
 have r0 := HS.out.cell 0
 have r1 := HS.out.cell 1
 have r2 := HS.out.cell 2
 have r3 := HS.out.cell 3
 have r4 := HS.out.cell 4
 have r5 := HS.out.cell 5
 have r6 := HS.out.cell 6
 have p0 := HQ.out.cell 0
 have p1 := HQ.out.cell 1
 have p2 := HQ.out.cell 2
 have p3 := HQ.out.cell 3
 have p4 := HQ.out.cell 4
 have p5 := HQ.out.cell 5
 have p6 := HQ.out.cell 6
 have p7 := HQ.out.cell 7
 have hpn : ip < pn := by have := (List.getElem?_eq_some_iff.1 hip).1; rw [HPN.out] at this; exact this
 obtain ⟨g, o, rfl, hg, hc⟩ := HP.out.2 (by rw [HPN.out]; omega)
 have CE := Lib.hid hc
 have i0 : (0 : Int) ≤ (ip : Int) := by omega
 have i1 : (ip : Int) < (pn : Int) := by omega
 obtain ⟨pw, pr, pg⟩ := p
 dsimp only at hpr
 have e0 := (HB.out.cell (p := ⟨g, o + (ip * 3 + 0), none⟩) hg).trans (CE.out _ _ ((pnC_get hip 0 (by decide)).trans rfl))
 have e1 := (HB.out.cell (p := ⟨g, o + (ip * 3 + 1), none⟩) hg).trans (CE.out _ _ ((pnC_get hip 1 (by decide)).trans rfl))
 have e2 := (HB.out.cell (p := ⟨g, o + (ip * 3 + 2), none⟩) hg).trans (CE.out _ _ ((pnC_get hip 2 (by decide)).trans rfl))
 rw [← Nat.add_assoc] at e0 e1 e2
 rw [Nat.add_zero] at e0
 have lg : g < w3.heap.size := by omega
 dsimp only at e0 e1 e2
 clear hc hip
 have CP := Lib.hid (fun (k : Int) w' (b : Below w.heap.size w w') => (show Calls Try.prog 24 #[.agg #[.int .i64 a1, .int .i64 a2, .int .i64 a3, .int .i64 a4, .slice (some ⟨g, o, none⟩) pn pc, .slice A n c, .slice B bn bc], .int .i64 k] w' (fun e w'' => e = .returned (.int .i64 (ixS (isP k) pl)) ∧ Below w'.heap.size w' w'') by
  have h := rperson18 a1 a2 a3 a4 (.slice A n c) (.slice B bn bc) (some ⟨g, o, none⟩) pc pl k w' ((HP.out.below b (Nat.le_refl _)).more b.size) (by rw [HPN.out]; exact hpl)
  rw [HPN.out] at h; exact h))
 have CQ := Lib.hid (fun w' (b : Below w3.heap.size w3 w') => (show Calls Try.prog 24 #[.agg #[.int .i64 a1, .int .i64 a2, .int .i64 a3, .int .i64 a4, .slice (some ⟨g, o, none⟩) pn pc, .slice A n c, .slice B bn bc], .int .i64 qw] w' (fun e w'' => e = .returned (.int .i64 (ip : Int)) ∧ Below w'.heap.size w' w'') by
  have h := CP.out qw w' (HB.out.trans (b.mono (by omega)))
  rw [HIX.out] at h; exact h))
 have K6 := Lib.hid (fun w' (b' : Below w3.heap.size w3 w') => show (fun w' => w'.cell? ⟨w.heap.size, 0, none⟩ = some (.int .i64 a1) ∧ w'.cell? ⟨w.heap.size, 1, none⟩ = some (.int .i64 a2) ∧ w'.cell? ⟨w.heap.size, 2, none⟩ = some (.int .i64 a3) ∧ w'.cell? ⟨w.heap.size, 3, none⟩ = some (.int .i64 a4) ∧ w'.cell? ⟨w.heap.size, 4, none⟩ = some (.slice (some ⟨g, o, none⟩) pn pc) ∧ w'.cell? ⟨w.heap.size, 5, none⟩ = some (.slice A n c) ∧ w'.cell? ⟨w.heap.size, 6, none⟩ = some (.slice B bn bc) ∧ w'.cell? ⟨w.heap.size + 1, 1, none⟩ = some (.int .i64 qw) ∧ w'.cell? ⟨g, o + ip * 3, none⟩ = some (.int .i64 pw) ∧ w'.cell? ⟨g, o + ip * 3 + 1, none⟩ = some (.int .i64 pr) ∧ w'.cell? ⟨g, o + ip * 3 + 2, none⟩ = some (.int .i64 pg)) w' from ⟨(b'.cell (p := ⟨w.heap.size, 0, none⟩) ls).trans r0, (b'.cell (p := ⟨w.heap.size, 1, none⟩) ls).trans r1, (b'.cell (p := ⟨w.heap.size, 2, none⟩) ls).trans r2, (b'.cell (p := ⟨w.heap.size, 3, none⟩) ls).trans r3, (b'.cell (p := ⟨w.heap.size, 4, none⟩) ls).trans r4, (b'.cell (p := ⟨w.heap.size, 5, none⟩) ls).trans r5, (b'.cell (p := ⟨w.heap.size, 6, none⟩) ls).trans r6, (b'.cell (p := ⟨w.heap.size + 1, 1, none⟩) lq).trans p1, (b'.cell (p := ⟨g, o + ip * 3, none⟩) lg).trans e0, (b'.cell (p := ⟨g, o + ip * 3 + 1, none⟩) lg).trans e1, (b'.cell (p := ⟨g, o + ip * 3 + 2, none⟩) lg).trans e2⟩)
 go_upto_region 1 with fail
 go_cut [6] (fun s6 wx => ∃ gp : Nat, s6 = .pointer (some ⟨gp, 0, none⟩) ∧ w3.heap.size ≤ gp ∧ Whole wx gp 70 #[.int .i64 pw, .int .i64 pr, .int .i64 pg] ∧ Below w3.heap.size w3 wx)
 case first =>
  refine wp_region_X (S := fun w' => w'.cell? ⟨w.heap.size, 0, none⟩ = some (.int .i64 a1) ∧ w'.cell? ⟨w.heap.size, 1, none⟩ = some (.int .i64 a2) ∧ w'.cell? ⟨w.heap.size, 2, none⟩ = some (.int .i64 a3) ∧ w'.cell? ⟨w.heap.size, 3, none⟩ = some (.int .i64 a4) ∧ w'.cell? ⟨w.heap.size, 4, none⟩ = some (.slice (some ⟨g, o, none⟩) pn pc) ∧ w'.cell? ⟨w.heap.size, 5, none⟩ = some (.slice A n c) ∧ w'.cell? ⟨w.heap.size, 6, none⟩ = some (.slice B bn bc) ∧ w'.cell? ⟨w.heap.size + 1, 1, none⟩ = some (.int .i64 qw) ∧ w'.cell? ⟨g, o + ip * 3, none⟩ = some (.int .i64 pw) ∧ w'.cell? ⟨g, o + ip * 3 + 1, none⟩ = some (.int .i64 pr) ∧ w'.cell? ⟨g, o + ip * 3 + 2, none⟩ = some (.int .i64 pg)) [] (by kernel_rfl) (K6.out _ (Below.refl _ _).drew) (fun hHeld0 => ?_)
  refine tk (i := 0) [] (v := ?_) ?_ ?_
  rotate_left 1
  · (intro w hSw; obtain ⟨h0, h1, h2, h3, h4, h5, h6, h7, h8, h9, h10⟩ := hSw; go_simp; try (with_reducible rfl))
  (try walk_nrm)
  refine tk (i := 1) [] (v := ?_) ?_ ?_
  rotate_left 1
  · (intro w hSw; obtain ⟨h0, h1, h2, h3, h4, h5, h6, h7, h8, h9, h10⟩ := hSw; go_simp; try (with_reducible rfl))
  (try walk_nrm)
  refine tk (i := 2) [] (v := ?_) ?_ ?_
  rotate_left 1
  · (intro w hSw; obtain ⟨h0, h1, h2, h3, h4, h5, h6, h7, h8, h9, h10⟩ := hSw; go_simp; try (with_reducible rfl))
  (try walk_nrm)
  refine tk (i := 3) [] (v := ?_) ?_ ?_
  rotate_left 1
  · (intro w hSw; obtain ⟨h0, h1, h2, h3, h4, h5, h6, h7, h8, h9, h10⟩ := hSw; go_simp; try (with_reducible rfl))
  (try walk_nrm)
  refine tk (i := 4) [] (v := ?_) ?_ ?_
  rotate_left 1
  · (intro w hSw; obtain ⟨h0, h1, h2, h3, h4, h5, h6, h7, h8, h9, h10⟩ := hSw; go_simp; try (with_reducible rfl))
  (try walk_nrm)
  refine wpAnyX_two 5 8 (by kernel_rfl) rfl rfl (fun K hK => ?_) (fun K hK => ?_)
  · go_simp
    go_wp2_with (refine (CQ.out w3.drew (Below.refl _ _).drew).mono ?_; rintro e w8 ⟨rfl, b8⟩)
    have B3 := (Below.refl w3.heap.size w3).drew.trans b8
    refine hK.out _ _ (.inr (K6.out _ B3)) ?_
    have hHeld1 := K6.out _ B3
    clear hK K
    (try walk_nrm)
    refine tk (i := 6) [] (v := ?_) ?_ ?_
    rotate_left 1
    · (intro w hSw; obtain ⟨h0, h1, h2, h3, h4, h5, h6, h7, h8, h9, h10⟩ := hSw; go_simp; try (with_reducible rfl))
    (try walk_nrm)
    refine tk (i := 7) [] (v := ?_) ?_ ?_
    rotate_left 1
    · (intro w hSw; obtain ⟨h0, h1, h2, h3, h4, h5, h6, h7, h8, h9, h10⟩ := hSw; go_simp; try (with_reducible rfl))
    (try walk_nrm)
    refine wpAnyX_one 8 (by kernel_rfl) rfl (fun K hK => ?_)
    go_simp
    have B4 := B3.alloc B3.size (.cells #[.int .i64 0, .int .i64 0, .int .i64 0] 70)
    refine hK.out _ _ (.inr (K6.out _ B4)) ?_
    have hHeld2 := K6.out _ B4
    clear hK K
    (try walk_nrm)
    refine wpAnyX_one 9 (by kernel_rfl) rfl (fun K hK => ?_)
    have hq := Whole.new w8 70 #[.int .i64 0, .int .i64 0, .int .i64 0]
    have hq0 := hq.cell 0
    have hq1 := hq.cell 1
    have hq2 := hq.cell 2
    have hf0 := hq.free 0
    have hf1 := hq.free 1
    have hf2 := hq.free 2
    go_simp
    have B5 := B3.alloc B3.size (.cells #[.int .i64 pw, .int .i64 pr, .int .i64 pg] 70)
    refine hK.out _ _ (.inr (K6.out _ B5)) ?_
    have hHeld3 := K6.out _ B5
    clear hK K
    (try walk_nrm)
    refine wpAnyX_done (by kernel_rfl) ?_ _
    go_wp2_with fail
    go_meet
    exact ⟨_, rfl, by have := B3.size; simpa using this, Whole.new _ _ _, B5⟩
  · go_simp
    have B3 := (Below.refl w3.heap.size w3).drew.alloc (Nat.le_refl _) (.cells #[.int .i64 0, .int .i64 0, .int .i64 0] 70)
    refine hK.out _ _ (.inr (K6.out _ B3)) ?_
    have hHeld1 := K6.out _ B3
    clear hK K
    (try walk_nrm)
    refine wpAnyX_one 5 (by kernel_rfl) rfl (fun K hK => ?_)
    go_simp
    go_wp2_with (refine (CQ.out _ B3).mono ?_; rintro e w8 ⟨rfl, b8⟩)
    have B4 := B3.trans (b8.mono (by simp))
    have hq : Whole w8 w3.heap.size 70 #[.int .i64 0, .int .i64 0, .int .i64 0] := (Whole.new w3.drew 70 #[.int .i64 0, .int .i64 0, .int .i64 0]).below b8 (by simp)
    have hq0 := hq.cell 0
    have hq1 := hq.cell 1
    have hq2 := hq.cell 2
    have hf0 := hq.free 0
    have hf1 := hq.free 1
    have hf2 := hq.free 2
    refine hK.out _ _ (.inr (K6.out _ B4)) ?_
    have hHeld2 := K6.out _ B4
    clear hK K
    (try walk_nrm)
    refine tk (i := 6) [] (v := ?_) ?_ ?_
    rotate_left 1
    · (intro w hSw; obtain ⟨h0, h1, h2, h3, h4, h5, h6, h7, h8, h9, h10⟩ := hSw; go_simp; try (with_reducible rfl))
    (try walk_nrm)
    refine tk (i := 7) [] (v := ?_) ?_ ?_
    rotate_left 1
    · (intro w hSw; obtain ⟨h0, h1, h2, h3, h4, h5, h6, h7, h8, h9, h10⟩ := hSw; go_simp; try (with_reducible rfl))
    (try walk_nrm)
    refine wpAnyX_one 9 (by kernel_rfl) rfl (fun K hK => ?_)
    go_simp
    have B5 := ((B4.setCell (p := ⟨w3.heap.size, 0, none⟩) (Nat.le_refl _) (.int .i64 pw)).setCell (p := ⟨w3.heap.size, 1, none⟩) (Nat.le_refl _) (.int .i64 pr)).setCell (p := ⟨w3.heap.size, 2, none⟩) (Nat.le_refl _) (.int .i64 pg)
    refine hK.out _ _ (.inr (K6.out _ B5)) ?_
    have hHeld3 := K6.out _ B5
    clear hK K
    (try walk_nrm)
    refine wpAnyX_done (by kernel_rfl) ?_ _
    go_wp2_with fail
    go_meet
    exact ⟨_, rfl, Nat.le_refl _, ((hq.set 0 (.int .i64 pw)).set 1 (.int .i64 pr)).set 2 (.int .i64 pg), B5⟩
 case rest =>
  clear K6 CQ e0 e1 e2
  obtain ⟨gp, rfl, lgp, hWP, b9⟩ := hcut
  obtain ⟨w9, hw9⟩ : ∃ z, z = wc := ⟨_, rfl⟩
  rw [← hw9] at hWP b9 ⊢
  clear hw9
  have HSn := Lib.hid (Whole.below HS.out b9 ls)
  have HQn := Lib.hid (Whole.below HQ.out b9 lq)
  have HVn := Lib.hid (Whole.below HV.out b9 lv)
  have HBn := Lib.hid (HB.out.trans ((b9).mono (by omega)))
  have lsn : w.heap.size < w9.heap.size := by have := (b9).size; omega
  have lqn : w.heap.size + 1 < w9.heap.size := by have := (b9).size; omega
  have lvn : w.heap.size + 2 < w9.heap.size := by have := (b9).size; omega
  clear r0 r1 r2 r3 r4 r5 r6 p0 p1 p2 p3 p4 p5 p6 p7 HS HQ HV HB ls lq lv
  have HS := Lib.hid HSn.out
  have HQ := Lib.hid HQn.out
  have HV := Lib.hid HVn.out
  have HB := Lib.hid HBn.out
  have ls := lsn
  have lq := lqn
  have lv := lvn
  clear HSn HQn HVn HBn lsn lqn lvn
  have r0 := HS.out.cell 0
  have r1 := HS.out.cell 1
  have r2 := HS.out.cell 2
  have r3 := HS.out.cell 3
  have r4 := HS.out.cell 4
  have r5 := HS.out.cell 5
  have r6 := HS.out.cell 6
  have p0 := HQ.out.cell 0
  have p1 := HQ.out.cell 1
  have p2 := HQ.out.cell 2
  have p3 := HQ.out.cell 3
  have p4 := HQ.out.cell 4
  have p5 := HQ.out.cell 5
  have p6 := HQ.out.cell 6
  have p7 := HQ.out.cell 7
  have HWP := Lib.hid hWP
  have lp := hWP.lt
  have d0 := HWP.out.cell 0
  have d1 := HWP.out.cell 1
  have d2 := HWP.out.cell 2
  clear hWP b9
  have HLG := Lib.hid (show w.heap.size + 3 ≤ gp by have := HZ3.out; omega)
  have td : pg.tdiv 2 = pg / 2 := Int.tdiv_eq_ediv_of_nonneg hpr.1
  by_cases h24 : pg / 2 = 0
  · have tm : (pg.tdiv 2 == 0) = true := by rw [td, h24]; rfl
    clear td
    have q0 := HV.out.cell 0; have g0 := HV.out.free 0; have q1 := HV.out.cell 1; have g1 := HV.out.free 1; have q2 := HV.out.cell 2; have g2 := HV.out.free 2; have q3 := HV.out.cell 3; have g3 := HV.out.free 3; have q4 := HV.out.cell 4; have g4 := HV.out.free 4; have q5 := HV.out.cell 5; have g5 := HV.out.free 5; have q6 := HV.out.cell 6; have g6 := HV.out.free 6
    have HE := Lib.hid (show subE a3 a4 pl ⟨pw, pr, pg⟩ l m ⟨qk, qw, qr, qg, qt, qs, ql, qd⟩ = 24 from by unfold subE; rw [if_pos h24])
    have HF := Lib.hid (show Below w.heap.size w (((((((w9.setCell ⟨w.heap.size + 2, 0, none⟩ (.int .i64 a1)).setCell ⟨w.heap.size + 2, 1, none⟩ (.int .i64 a2)).setCell ⟨w.heap.size + 2, 2, none⟩ (.int .i64 a3)).setCell ⟨w.heap.size + 2, 3, none⟩ (.int .i64 a4)).setCell ⟨w.heap.size + 2, 4, none⟩ (.slice (some ⟨g, o, none⟩) pn pc)).setCell ⟨w.heap.size + 2, 5, none⟩ (.slice A n c)).setCell ⟨w.heap.size + 2, 6, none⟩ (.slice B bn bc)) from (Below.setCell (p := ⟨w.heap.size + 2, 6, none⟩) (Below.setCell (p := ⟨w.heap.size + 2, 5, none⟩) (Below.setCell (p := ⟨w.heap.size + 2, 4, none⟩) (Below.setCell (p := ⟨w.heap.size + 2, 3, none⟩) (Below.setCell (p := ⟨w.heap.size + 2, 2, none⟩) (Below.setCell (p := ⟨w.heap.size + 2, 1, none⟩) (Below.setCell (p := ⟨w.heap.size + 2, 0, none⟩) (HB.out) (by show w.heap.size ≤ w.heap.size + 2; omega) (.int .i64 a1)) (by show w.heap.size ≤ w.heap.size + 2; omega) (.int .i64 a2)) (by show w.heap.size ≤ w.heap.size + 2; omega) (.int .i64 a3)) (by show w.heap.size ≤ w.heap.size + 2; omega) (.int .i64 a4)) (by show w.heap.size ≤ w.heap.size + 2; omega) (.slice (some ⟨g, o, none⟩) pn pc)) (by show w.heap.size ≤ w.heap.size + 2; omega) (.slice A n c)) (by show w.heap.size ≤ w.heap.size + 2; omega) (.slice B bn bc)))
    clear HB
    go_wp2_with fail
    exact bodyPost_ret (v := .tuple #[.agg #[.int .i64 a1, .int .i64 a2, .int .i64 a3, .int .i64 a4, .slice (some ⟨g, o, none⟩) pn pc, .slice A n c, .slice B bn bc], .int .i64 24]) (by simp [results, Try.results28, go_sem, q0, q1, q2, q3, q4, q5, q6, lv]) rfl ⟨HF.out, .inl ⟨by rw [HE.out]; decide, by rw [HE.out]⟩⟩
  · have tm : (pg.tdiv 2 == 0) = false := by rw [td]; simp [h24]
    clear td
    have CT := Lib.hid (show Calls Try.prog 50 #[.agg #[.int .i64 a1, .int .i64 a2, .int .i64 a3, .int .i64 a4, .slice (some ⟨g, o, none⟩) pn pc, .slice A n c, .slice B bn bc], .int .i64 qt] w9 (fun e w' => e = .returned (.int .i64 (ixS (fun x : Tm => isT qt x.t) l)) ∧ Below w9.heap.size w9 w') by
     have h := rtrack18 a1 a2 a3 a4 (.slice (some ⟨g, o, none⟩) pn pc) (.slice B bn bc) A c l qt w9 ((HR.out.below HB.out (Nat.le_refl _)).more (by omega)) (by rw [HN.out]; exact hl)
     rw [HN.out] at h; exact h)
    go_wp2_with fail
    refine CT.out.mono ?_
    rintro e v1 ⟨rfl, b1⟩
    clear CT tm
    have HWPn := Lib.hid (Whole.below HWP.out b1 lp)
    have lpn : gp < v1.heap.size := by have := (b1).size; omega
    clear d0 d1 d2 HWP lp
    have HWP := Lib.hid HWPn.out
    have lp := lpn
    clear HWPn lpn
    have d0 := HWP.out.cell 0
    have d1 := HWP.out.cell 1
    have d2 := HWP.out.cell 2

    have HSn := Lib.hid (Whole.below HS.out b1 ls)
    have HQn := Lib.hid (Whole.below HQ.out b1 lq)
    have HVn := Lib.hid (Whole.below HV.out b1 lv)
    have HBn := Lib.hid (HB.out.trans ((b1).mono (by omega)))
    have lsn : w.heap.size < v1.heap.size := by have := (b1).size; omega
    have lqn : w.heap.size + 1 < v1.heap.size := by have := (b1).size; omega
    have lvn : w.heap.size + 2 < v1.heap.size := by have := (b1).size; omega
    clear r0 r1 r2 r3 r4 r5 r6 p0 p1 p2 p3 p4 p5 p6 p7 HS HQ HV HB ls lq lv
    have HS := Lib.hid HSn.out
    have HQ := Lib.hid HQn.out
    have HV := Lib.hid HVn.out
    have HB := Lib.hid HBn.out
    have ls := lsn
    have lq := lqn
    have lv := lvn
    clear HSn HQn HVn HBn lsn lqn lvn
    have r0 := HS.out.cell 0
    have r1 := HS.out.cell 1
    have r2 := HS.out.cell 2
    have r3 := HS.out.cell 3
    have r4 := HS.out.cell 4
    have r5 := HS.out.cell 5
    have r6 := HS.out.cell 6
    have p0 := HQ.out.cell 0
    have p1 := HQ.out.cell 1
    have p2 := HQ.out.cell 2
    have p3 := HQ.out.cell 3
    have p4 := HQ.out.cell 4
    have p5 := HQ.out.cell 5
    have p6 := HQ.out.cell 6
    have p7 := HQ.out.cell 7
    clear b1
    by_cases hi : ixS (fun x : Tm => isT qt x.t) l < 0
    · obtain ⟨ix, hix⟩ : ∃ z, ixS (fun x : Tm => isT qt x.t) l = z := ⟨_, rfl⟩
      have HX := Lib.hid (ix_none hi)
      rw [hix] at hi ⊢
      clear hix
      have q0 := HV.out.cell 0; have g0 := HV.out.free 0; have q1 := HV.out.cell 1; have g1 := HV.out.free 1; have q2 := HV.out.cell 2; have g2 := HV.out.free 2; have q3 := HV.out.cell 3; have g3 := HV.out.free 3; have q4 := HV.out.cell 4; have g4 := HV.out.free 4; have q5 := HV.out.cell 5; have g5 := HV.out.free 5; have q6 := HV.out.cell 6; have g6 := HV.out.free 6
      have HE := Lib.hid (show subE a3 a4 pl ⟨pw, pr, pg⟩ l m ⟨qk, qw, qr, qg, qt, qs, ql, qd⟩ = 21 from by unfold subE; rw [if_neg h24]; dsimp only; rw [HX.out])
      have HF := Lib.hid (show Below w.heap.size w (((((((v1.setCell ⟨w.heap.size + 2, 0, none⟩ (.int .i64 a1)).setCell ⟨w.heap.size + 2, 1, none⟩ (.int .i64 a2)).setCell ⟨w.heap.size + 2, 2, none⟩ (.int .i64 a3)).setCell ⟨w.heap.size + 2, 3, none⟩ (.int .i64 a4)).setCell ⟨w.heap.size + 2, 4, none⟩ (.slice (some ⟨g, o, none⟩) pn pc)).setCell ⟨w.heap.size + 2, 5, none⟩ (.slice A n c)).setCell ⟨w.heap.size + 2, 6, none⟩ (.slice B bn bc)) from (Below.setCell (p := ⟨w.heap.size + 2, 6, none⟩) (Below.setCell (p := ⟨w.heap.size + 2, 5, none⟩) (Below.setCell (p := ⟨w.heap.size + 2, 4, none⟩) (Below.setCell (p := ⟨w.heap.size + 2, 3, none⟩) (Below.setCell (p := ⟨w.heap.size + 2, 2, none⟩) (Below.setCell (p := ⟨w.heap.size + 2, 1, none⟩) (Below.setCell (p := ⟨w.heap.size + 2, 0, none⟩) (HB.out) (by show w.heap.size ≤ w.heap.size + 2; omega) (.int .i64 a1)) (by show w.heap.size ≤ w.heap.size + 2; omega) (.int .i64 a2)) (by show w.heap.size ≤ w.heap.size + 2; omega) (.int .i64 a3)) (by show w.heap.size ≤ w.heap.size + 2; omega) (.int .i64 a4)) (by show w.heap.size ≤ w.heap.size + 2; omega) (.slice (some ⟨g, o, none⟩) pn pc)) (by show w.heap.size ≤ w.heap.size + 2; omega) (.slice A n c)) (by show w.heap.size ≤ w.heap.size + 2; omega) (.slice B bn bc)))
      clear HB
      go_wp2_with fail
      exact bodyPost_ret (v := .tuple #[.agg #[.int .i64 a1, .int .i64 a2, .int .i64 a3, .int .i64 a4, .slice (some ⟨g, o, none⟩) pn pc, .slice A n c, .slice B bn bc], .int .i64 21]) (by simp [results, Try.results28, go_sem, q0, q1, q2, q3, q4, q5, q6, lv]) rfl ⟨HF.out, .inl ⟨by rw [HE.out]; decide, by rw [HE.out]⟩⟩
    · obtain ⟨i, x, hix, hx, hfx⟩ := ix_get (f := fun x : Tm => isT qt x.t) (l := l) (by omega)
      rw [hix]
      have HX := Lib.hid hx
      have HFX := Lib.hid hfx
      have hin : i < n := by have := (List.getElem?_eq_some_iff.1 hx).1; rw [HN.out] at this; exact this
      obtain ⟨gt, ot, rfl, hg2, hc2⟩ := HR.out.2 (by rw [HN.out]; omega)
      obtain ⟨io, po, hio, hpo, hfo⟩ := ix_get (f := isP x.t.owner) (l := pl) (HOW.out x (List.mem_of_getElem? hx))
      have hin2 : io < pn := by have := (List.getElem?_eq_some_iff.1 hpo).1; rw [HPN.out] at this; exact this
      have HFO := Lib.hid hfo
      have C1 := (HB.out.cell (p := ⟨gt, ot + (i * 4 + 1), none⟩) hg2).trans (hc2 _ _ ((tmC_get hx 1 (by decide)).trans rfl))
      rw [← Nat.add_assoc] at C1
      have C2 := (HB.out.cell (p := ⟨g, o + (io * 3 + 1), none⟩) hg).trans (CE.out _ _ ((pnC_get hpo 1 (by decide)).trans rfl))
      rw [← Nat.add_assoc] at C2
      obtain ⟨⟨xi, xo, xf, xs⟩, xA, xc⟩ := x
      obtain ⟨ow, orm, org⟩ := po
      dsimp only at C1 C2 hio HFO
      have CO := Lib.hid (fun w' (b : Below w.heap.size w w') => (show Calls Try.prog 24 #[.agg #[.int .i64 a1, .int .i64 a2, .int .i64 a3, .int .i64 a4, .slice (some ⟨g, o, none⟩) pn pc, .slice (some ⟨gt, ot, none⟩) n c, .slice B bn bc], .int .i64 xo] w' (fun e w'' => e = .returned (.int .i64 (io : Int)) ∧ Below w'.heap.size w' w'') by
       have h := CP.out xo w' b
       rw [hio] at h; exact h))
      have j0 : (0 : Int) ≤ (i : Int) := by omega
      have j1 : (i : Int) < (n : Int) := by omega
      have k0 : (0 : Int) ≤ (io : Int) := by omega
      have k1 : (io : Int) < (pn : Int) := by omega
      have lg2 : gt < v1.heap.size := by omega
      have lg1 : g < v1.heap.size := by omega
      have HRM := Lib.hid (show roomP pl xo = some orm from by unfold roomP; rw [HFO.out]; rfl)
      clear hix hx hfx hc2 hi hio hpo hfo CP CE
      have KS := Lib.hid (fun w' (b' : Below v1.heap.size v1 w') => show (fun w' => w'.cell? ⟨w.heap.size, 0, none⟩ = some (.int .i64 a1) ∧ w'.cell? ⟨w.heap.size, 1, none⟩ = some (.int .i64 a2) ∧ w'.cell? ⟨w.heap.size, 2, none⟩ = some (.int .i64 a3) ∧ w'.cell? ⟨w.heap.size, 3, none⟩ = some (.int .i64 a4) ∧ w'.cell? ⟨w.heap.size, 4, none⟩ = some (.slice (some ⟨g, o, none⟩) pn pc) ∧ w'.cell? ⟨w.heap.size, 5, none⟩ = some (.slice (some ⟨gt, ot, none⟩) n c) ∧ w'.cell? ⟨w.heap.size, 6, none⟩ = some (.slice B bn bc) ∧ w'.cell? ⟨gp, 1, none⟩ = some (.int .i64 pr) ∧ w'.cell? ⟨gt, ot + i * 4 + 1, none⟩ = some (.int .i64 xo) ∧ w'.cell? ⟨g, o + io * 3 + 1, none⟩ = some (.int .i64 orm) ∧ Below v1.heap.size v1 w') w' from ⟨(b'.cell (p := ⟨w.heap.size, 0, none⟩) ls).trans r0, (b'.cell (p := ⟨w.heap.size, 1, none⟩) ls).trans r1, (b'.cell (p := ⟨w.heap.size, 2, none⟩) ls).trans r2, (b'.cell (p := ⟨w.heap.size, 3, none⟩) ls).trans r3, (b'.cell (p := ⟨w.heap.size, 4, none⟩) ls).trans r4, (b'.cell (p := ⟨w.heap.size, 5, none⟩) ls).trans r5, (b'.cell (p := ⟨w.heap.size, 6, none⟩) ls).trans r6, (b'.cell (p := ⟨gp, 1, none⟩) lp).trans d1, (b'.cell (p := ⟨gt, ot + i * 4 + 1, none⟩) lg2).trans C1, (b'.cell (p := ⟨g, o + io * 3 + 1, none⟩) lg1).trans C2, b'⟩)
      go_wp2_with fail
      by_cases hroom : orm = pr
      · have t1 : (orm != pr) = false := by simp [hroom]
        go_region_held3 (fun w' => w'.cell? ⟨w.heap.size, 0, none⟩ = some (.int .i64 a1) ∧ w'.cell? ⟨w.heap.size, 1, none⟩ = some (.int .i64 a2) ∧ w'.cell? ⟨w.heap.size, 2, none⟩ = some (.int .i64 a3) ∧ w'.cell? ⟨w.heap.size, 3, none⟩ = some (.int .i64 a4) ∧ w'.cell? ⟨w.heap.size, 4, none⟩ = some (.slice (some ⟨g, o, none⟩) pn pc) ∧ w'.cell? ⟨w.heap.size, 5, none⟩ = some (.slice (some ⟨gt, ot, none⟩) n c) ∧ w'.cell? ⟨w.heap.size, 6, none⟩ = some (.slice B bn bc) ∧ w'.cell? ⟨gp, 1, none⟩ = some (.int .i64 pr) ∧ w'.cell? ⟨gt, ot + i * 4 + 1, none⟩ = some (.int .i64 xo) ∧ w'.cell? ⟨g, o + io * 3 + 1, none⟩ = some (.int .i64 orm) ∧ Below v1.heap.size v1 w')
         (first | exact KS.out _ (Below.refl _ _).drew | exact KS.out _ B8 | exact ‹_ ∧ _ ∧ _ ∧ _ ∧ _ ∧ _ ∧ _ ∧ _ ∧ _ ∧ _ ∧ Below _ _ _› | go_keep)
         (first | (go_at_call 24; with_reducible refine (CO.out _ ?_).mono ?_; (exact HB.out.trans (((‹_ ∧ _ ∧ _ ∧ _ ∧ _ ∧ _ ∧ _ ∧ _ ∧ _ ∧ _ ∧ Below _ _ _›).2.2.2.2.2.2.2.2.2.2).mono (by omega))); rintro e w8 ⟨rfl, b8⟩; have B8 := ((‹_ ∧ _ ∧ _ ∧ _ ∧ _ ∧ _ ∧ _ ∧ _ ∧ _ ∧ _ ∧ Below _ _ _›).2.2.2.2.2.2.2.2.2.2).trans (b8.mono ((‹_ ∧ _ ∧ _ ∧ _ ∧ _ ∧ _ ∧ _ ∧ _ ∧ _ ∧ _ ∧ Below _ _ _›).2.2.2.2.2.2.2.2.2.2).size)))
        clear KS CO b8 C1 C2 lg2 lg1 t1
        have HWPn := Lib.hid (Whole.below HWP.out B8 lp)
        have lpn : gp < w8.heap.size := by have := (B8).size; omega
        clear d0 d1 d2 HWP lp
        have HWP := Lib.hid HWPn.out
        have lp := lpn
        clear HWPn lpn
        have d0 := HWP.out.cell 0
        have d1 := HWP.out.cell 1
        have d2 := HWP.out.cell 2

        have HSn := Lib.hid (Whole.below HS.out B8 ls)
        have HQn := Lib.hid (Whole.below HQ.out B8 lq)
        have HVn := Lib.hid (Whole.below HV.out B8 lv)
        have HBn := Lib.hid (HB.out.trans ((B8).mono (by omega)))
        have lsn : w.heap.size < w8.heap.size := by have := (B8).size; omega
        have lqn : w.heap.size + 1 < w8.heap.size := by have := (B8).size; omega
        have lvn : w.heap.size + 2 < w8.heap.size := by have := (B8).size; omega
        clear r0 r1 r2 r3 r4 r5 r6 p0 p1 p2 p3 p4 p5 p6 p7 HS HQ HV HB ls lq lv
        have HS := Lib.hid HSn.out
        have HQ := Lib.hid HQn.out
        have HV := Lib.hid HVn.out
        have HB := Lib.hid HBn.out
        have ls := lsn
        have lq := lqn
        have lv := lvn
        clear HSn HQn HVn HBn lsn lqn lvn
        have r0 := HS.out.cell 0
        have r1 := HS.out.cell 1
        have r2 := HS.out.cell 2
        have r3 := HS.out.cell 3
        have r4 := HS.out.cell 4
        have r5 := HS.out.cell 5
        have r6 := HS.out.cell 6
        have p0 := HQ.out.cell 0
        have p1 := HQ.out.cell 1
        have p2 := HQ.out.cell 2
        have p3 := HQ.out.cell 3
        have p4 := HQ.out.cell 4
        have p5 := HQ.out.cell 5
        have p6 := HQ.out.cell 6
        have p7 := HQ.out.cell 7
        clear B8
        have HROOM := Lib.hid hroom
        clear hroom
        have CS := Lib.hid (show Calls Try.prog 34 #[.agg #[.int .i64 a1, .int .i64 a2, .int .i64 a3, .int .i64 a4, .slice (some ⟨g, o, none⟩) pn pc, .slice (some ⟨gt, ot, none⟩) n c, .slice B bn bc], .int .i64 qw, .int .i64 qt] w8 (fun e w' => e = .returned (.int .i64 (ixS (isB qw qt) m)) ∧ Below w8.heap.size w8 w') by
         have h := rsub18 a1 a2 a3 a4 (.slice (some ⟨g, o, none⟩) pn pc) (.slice (some ⟨gt, ot, none⟩) n c) B bc m qw qt w8 ((HRB.out.below HB.out (Nat.le_refl _)).more (by omega)) (by rw [HBN.out]; exact hm)
         rw [HBN.out] at h; exact h)
        go_wp2_with fail
        refine CS.out.mono ?_
        rintro e v2 ⟨rfl, b2⟩
        obtain ⟨ix, hix⟩ : ∃ z, ixS (isB qw qt) m = z := ⟨_, rfl⟩
        have HIS := Lib.hid hix
        rw [hix]
        clear CS hix
        have HWPn := Lib.hid (Whole.below HWP.out b2 lp)
        have lpn : gp < v2.heap.size := by have := (b2).size; omega
        clear d0 d1 d2 HWP lp
        have HWP := Lib.hid HWPn.out
        have lp := lpn
        clear HWPn lpn
        have d0 := HWP.out.cell 0
        have d1 := HWP.out.cell 1
        have d2 := HWP.out.cell 2

        have HSn := Lib.hid (Whole.below HS.out b2 ls)
        have HQn := Lib.hid (Whole.below HQ.out b2 lq)
        have HVn := Lib.hid (Whole.below HV.out b2 lv)
        have HBn := Lib.hid (HB.out.trans ((b2).mono (by omega)))
        have lsn : w.heap.size < v2.heap.size := by have := (b2).size; omega
        have lqn : w.heap.size + 1 < v2.heap.size := by have := (b2).size; omega
        have lvn : w.heap.size + 2 < v2.heap.size := by have := (b2).size; omega
        clear r0 r1 r2 r3 r4 r5 r6 p0 p1 p2 p3 p4 p5 p6 p7 HS HQ HV HB ls lq lv
        have HS := Lib.hid HSn.out
        have HQ := Lib.hid HQn.out
        have HV := Lib.hid HVn.out
        have HB := Lib.hid HBn.out
        have ls := lsn
        have lq := lqn
        have lv := lvn
        clear HSn HQn HVn HBn lsn lqn lvn
        have r0 := HS.out.cell 0
        have r1 := HS.out.cell 1
        have r2 := HS.out.cell 2
        have r3 := HS.out.cell 3
        have r4 := HS.out.cell 4
        have r5 := HS.out.cell 5
        have r6 := HS.out.cell 6
        have p0 := HQ.out.cell 0
        have p1 := HQ.out.cell 1
        have p2 := HQ.out.cell 2
        have p3 := HQ.out.cell 3
        have p4 := HQ.out.cell 4
        have p5 := HQ.out.cell 5
        have p6 := HQ.out.cell 6
        have p7 := HQ.out.cell 7
        clear b2
        by_cases hs : 0 ≤ ix
        · have hs' : ix ≥ 0 := hs
          have q0 := HV.out.cell 0; have g0 := HV.out.free 0; have q1 := HV.out.cell 1; have g1 := HV.out.free 1; have q2 := HV.out.cell 2; have g2 := HV.out.free 2; have q3 := HV.out.cell 3; have g3 := HV.out.free 3; have q4 := HV.out.cell 4; have g4 := HV.out.free 4; have q5 := HV.out.cell 5; have g5 := HV.out.free 5; have q6 := HV.out.cell 6; have g6 := HV.out.free 6
          have HE := Lib.hid (show subE a3 a4 pl ⟨pw, pr, pg⟩ l m ⟨qk, qw, qr, qg, qt, qs, ql, qd⟩ = 22 from by unfold subE; rw [if_neg h24]; dsimp only; rw [HFX.out]; dsimp only; rw [HRM.out, if_neg (by simp [HROOM.out]), if_pos (find_ix.mpr (by rw [HIS.out]; exact hs))])
          have HF := Lib.hid (show Below w.heap.size w (((((((v2.setCell ⟨w.heap.size + 2, 0, none⟩ (.int .i64 a1)).setCell ⟨w.heap.size + 2, 1, none⟩ (.int .i64 a2)).setCell ⟨w.heap.size + 2, 2, none⟩ (.int .i64 a3)).setCell ⟨w.heap.size + 2, 3, none⟩ (.int .i64 a4)).setCell ⟨w.heap.size + 2, 4, none⟩ (.slice (some ⟨g, o, none⟩) pn pc)).setCell ⟨w.heap.size + 2, 5, none⟩ (.slice (some ⟨gt, ot, none⟩) n c)).setCell ⟨w.heap.size + 2, 6, none⟩ (.slice B bn bc)) from (Below.setCell (p := ⟨w.heap.size + 2, 6, none⟩) (Below.setCell (p := ⟨w.heap.size + 2, 5, none⟩) (Below.setCell (p := ⟨w.heap.size + 2, 4, none⟩) (Below.setCell (p := ⟨w.heap.size + 2, 3, none⟩) (Below.setCell (p := ⟨w.heap.size + 2, 2, none⟩) (Below.setCell (p := ⟨w.heap.size + 2, 1, none⟩) (Below.setCell (p := ⟨w.heap.size + 2, 0, none⟩) (HB.out) (by show w.heap.size ≤ w.heap.size + 2; omega) (.int .i64 a1)) (by show w.heap.size ≤ w.heap.size + 2; omega) (.int .i64 a2)) (by show w.heap.size ≤ w.heap.size + 2; omega) (.int .i64 a3)) (by show w.heap.size ≤ w.heap.size + 2; omega) (.int .i64 a4)) (by show w.heap.size ≤ w.heap.size + 2; omega) (.slice (some ⟨g, o, none⟩) pn pc)) (by show w.heap.size ≤ w.heap.size + 2; omega) (.slice (some ⟨gt, ot, none⟩) n c)) (by show w.heap.size ≤ w.heap.size + 2; omega) (.slice B bn bc)))
          clear HB
          go_wp2_with fail
          exact bodyPost_ret (v := .tuple #[.agg #[.int .i64 a1, .int .i64 a2, .int .i64 a3, .int .i64 a4, .slice (some ⟨g, o, none⟩) pn pc, .slice (some ⟨gt, ot, none⟩) n c, .slice B bn bc], .int .i64 22]) (by simp [results, Try.results28, go_sem, q0, q1, q2, q3, q4, q5, q6, lv]) rfl ⟨HF.out, .inl ⟨by rw [HE.out]; decide, by rw [HE.out]⟩⟩
        · have hs' : ¬ ix ≥ 0 := hs
          by_cases b12 : ql < 0
          · skip
            have q0 := HV.out.cell 0; have g0 := HV.out.free 0; have q1 := HV.out.cell 1; have g1 := HV.out.free 1; have q2 := HV.out.cell 2; have g2 := HV.out.free 2; have q3 := HV.out.cell 3; have g3 := HV.out.free 3; have q4 := HV.out.cell 4; have g4 := HV.out.free 4; have q5 := HV.out.cell 5; have g5 := HV.out.free 5; have q6 := HV.out.cell 6; have g6 := HV.out.free 6
            have HE := Lib.hid (show subE a3 a4 pl ⟨pw, pr, pg⟩ l m ⟨qk, qw, qr, qg, qt, qs, ql, qd⟩ = 1 from by unfold subE; rw [if_neg h24]; dsimp only; rw [HFX.out]; dsimp only; rw [HRM.out, if_neg (by simp [HROOM.out]), if_neg (fun e => by have := find_ix.mp e; rw [HIS.out] at this; omega), if_pos (by unfold badL; exact decide_eq_true (by dsimp only; omega))])
            have HF := Lib.hid (show Below w.heap.size w (((((((v2.setCell ⟨w.heap.size + 2, 0, none⟩ (.int .i64 a1)).setCell ⟨w.heap.size + 2, 1, none⟩ (.int .i64 a2)).setCell ⟨w.heap.size + 2, 2, none⟩ (.int .i64 a3)).setCell ⟨w.heap.size + 2, 3, none⟩ (.int .i64 a4)).setCell ⟨w.heap.size + 2, 4, none⟩ (.slice (some ⟨g, o, none⟩) pn pc)).setCell ⟨w.heap.size + 2, 5, none⟩ (.slice (some ⟨gt, ot, none⟩) n c)).setCell ⟨w.heap.size + 2, 6, none⟩ (.slice B bn bc)) from (Below.setCell (p := ⟨w.heap.size + 2, 6, none⟩) (Below.setCell (p := ⟨w.heap.size + 2, 5, none⟩) (Below.setCell (p := ⟨w.heap.size + 2, 4, none⟩) (Below.setCell (p := ⟨w.heap.size + 2, 3, none⟩) (Below.setCell (p := ⟨w.heap.size + 2, 2, none⟩) (Below.setCell (p := ⟨w.heap.size + 2, 1, none⟩) (Below.setCell (p := ⟨w.heap.size + 2, 0, none⟩) (HB.out) (by show w.heap.size ≤ w.heap.size + 2; omega) (.int .i64 a1)) (by show w.heap.size ≤ w.heap.size + 2; omega) (.int .i64 a2)) (by show w.heap.size ≤ w.heap.size + 2; omega) (.int .i64 a3)) (by show w.heap.size ≤ w.heap.size + 2; omega) (.int .i64 a4)) (by show w.heap.size ≤ w.heap.size + 2; omega) (.slice (some ⟨g, o, none⟩) pn pc)) (by show w.heap.size ≤ w.heap.size + 2; omega) (.slice (some ⟨gt, ot, none⟩) n c)) (by show w.heap.size ≤ w.heap.size + 2; omega) (.slice B bn bc)))
            clear HB
            go_wp2_with fail
            exact bodyPost_ret (v := .tuple #[.agg #[.int .i64 a1, .int .i64 a2, .int .i64 a3, .int .i64 a4, .slice (some ⟨g, o, none⟩) pn pc, .slice (some ⟨gt, ot, none⟩) n c, .slice B bn bc], .int .i64 1]) (by simp [results, Try.results28, go_sem, q0, q1, q2, q3, q4, q5, q6, lv]) rfl ⟨HF.out, .inl ⟨by rw [HE.out]; decide, by rw [HE.out]⟩⟩
          · skip
            by_cases b14 : 2 < ql
            · skip
              have q0 := HV.out.cell 0; have g0 := HV.out.free 0; have q1 := HV.out.cell 1; have g1 := HV.out.free 1; have q2 := HV.out.cell 2; have g2 := HV.out.free 2; have q3 := HV.out.cell 3; have g3 := HV.out.free 3; have q4 := HV.out.cell 4; have g4 := HV.out.free 4; have q5 := HV.out.cell 5; have g5 := HV.out.free 5; have q6 := HV.out.cell 6; have g6 := HV.out.free 6
              have HE := Lib.hid (show subE a3 a4 pl ⟨pw, pr, pg⟩ l m ⟨qk, qw, qr, qg, qt, qs, ql, qd⟩ = 1 from by unfold subE; rw [if_neg h24]; dsimp only; rw [HFX.out]; dsimp only; rw [HRM.out, if_neg (by simp [HROOM.out]), if_neg (fun e => by have := find_ix.mp e; rw [HIS.out] at this; omega), if_pos (by unfold badL; exact decide_eq_true (by dsimp only; omega))])
              have HF := Lib.hid (show Below w.heap.size w (((((((v2.setCell ⟨w.heap.size + 2, 0, none⟩ (.int .i64 a1)).setCell ⟨w.heap.size + 2, 1, none⟩ (.int .i64 a2)).setCell ⟨w.heap.size + 2, 2, none⟩ (.int .i64 a3)).setCell ⟨w.heap.size + 2, 3, none⟩ (.int .i64 a4)).setCell ⟨w.heap.size + 2, 4, none⟩ (.slice (some ⟨g, o, none⟩) pn pc)).setCell ⟨w.heap.size + 2, 5, none⟩ (.slice (some ⟨gt, ot, none⟩) n c)).setCell ⟨w.heap.size + 2, 6, none⟩ (.slice B bn bc)) from (Below.setCell (p := ⟨w.heap.size + 2, 6, none⟩) (Below.setCell (p := ⟨w.heap.size + 2, 5, none⟩) (Below.setCell (p := ⟨w.heap.size + 2, 4, none⟩) (Below.setCell (p := ⟨w.heap.size + 2, 3, none⟩) (Below.setCell (p := ⟨w.heap.size + 2, 2, none⟩) (Below.setCell (p := ⟨w.heap.size + 2, 1, none⟩) (Below.setCell (p := ⟨w.heap.size + 2, 0, none⟩) (HB.out) (by show w.heap.size ≤ w.heap.size + 2; omega) (.int .i64 a1)) (by show w.heap.size ≤ w.heap.size + 2; omega) (.int .i64 a2)) (by show w.heap.size ≤ w.heap.size + 2; omega) (.int .i64 a3)) (by show w.heap.size ≤ w.heap.size + 2; omega) (.int .i64 a4)) (by show w.heap.size ≤ w.heap.size + 2; omega) (.slice (some ⟨g, o, none⟩) pn pc)) (by show w.heap.size ≤ w.heap.size + 2; omega) (.slice (some ⟨gt, ot, none⟩) n c)) (by show w.heap.size ≤ w.heap.size + 2; omega) (.slice B bn bc)))
              clear HB
              go_wp2_with fail
              exact bodyPost_ret (v := .tuple #[.agg #[.int .i64 a1, .int .i64 a2, .int .i64 a3, .int .i64 a4, .slice (some ⟨g, o, none⟩) pn pc, .slice (some ⟨gt, ot, none⟩) n c, .slice B bn bc], .int .i64 1]) (by simp [results, Try.results28, go_sem, q0, q1, q2, q3, q4, q5, q6, lv]) rfl ⟨HF.out, .inl ⟨by rw [HE.out]; decide, by rw [HE.out]⟩⟩
            · skip
              by_cases b16 : qd < 0
              · skip
                have q0 := HV.out.cell 0; have g0 := HV.out.free 0; have q1 := HV.out.cell 1; have g1 := HV.out.free 1; have q2 := HV.out.cell 2; have g2 := HV.out.free 2; have q3 := HV.out.cell 3; have g3 := HV.out.free 3; have q4 := HV.out.cell 4; have g4 := HV.out.free 4; have q5 := HV.out.cell 5; have g5 := HV.out.free 5; have q6 := HV.out.cell 6; have g6 := HV.out.free 6
                have HE := Lib.hid (show subE a3 a4 pl ⟨pw, pr, pg⟩ l m ⟨qk, qw, qr, qg, qt, qs, ql, qd⟩ = 1 from by unfold subE; rw [if_neg h24]; dsimp only; rw [HFX.out]; dsimp only; rw [HRM.out, if_neg (by simp [HROOM.out]), if_neg (fun e => by have := find_ix.mp e; rw [HIS.out] at this; omega), if_pos (by unfold badL; exact decide_eq_true (by dsimp only; omega))])
                have HF := Lib.hid (show Below w.heap.size w (((((((v2.setCell ⟨w.heap.size + 2, 0, none⟩ (.int .i64 a1)).setCell ⟨w.heap.size + 2, 1, none⟩ (.int .i64 a2)).setCell ⟨w.heap.size + 2, 2, none⟩ (.int .i64 a3)).setCell ⟨w.heap.size + 2, 3, none⟩ (.int .i64 a4)).setCell ⟨w.heap.size + 2, 4, none⟩ (.slice (some ⟨g, o, none⟩) pn pc)).setCell ⟨w.heap.size + 2, 5, none⟩ (.slice (some ⟨gt, ot, none⟩) n c)).setCell ⟨w.heap.size + 2, 6, none⟩ (.slice B bn bc)) from (Below.setCell (p := ⟨w.heap.size + 2, 6, none⟩) (Below.setCell (p := ⟨w.heap.size + 2, 5, none⟩) (Below.setCell (p := ⟨w.heap.size + 2, 4, none⟩) (Below.setCell (p := ⟨w.heap.size + 2, 3, none⟩) (Below.setCell (p := ⟨w.heap.size + 2, 2, none⟩) (Below.setCell (p := ⟨w.heap.size + 2, 1, none⟩) (Below.setCell (p := ⟨w.heap.size + 2, 0, none⟩) (HB.out) (by show w.heap.size ≤ w.heap.size + 2; omega) (.int .i64 a1)) (by show w.heap.size ≤ w.heap.size + 2; omega) (.int .i64 a2)) (by show w.heap.size ≤ w.heap.size + 2; omega) (.int .i64 a3)) (by show w.heap.size ≤ w.heap.size + 2; omega) (.int .i64 a4)) (by show w.heap.size ≤ w.heap.size + 2; omega) (.slice (some ⟨g, o, none⟩) pn pc)) (by show w.heap.size ≤ w.heap.size + 2; omega) (.slice (some ⟨gt, ot, none⟩) n c)) (by show w.heap.size ≤ w.heap.size + 2; omega) (.slice B bn bc)))
                clear HB
                go_wp2_with fail
                exact bodyPost_ret (v := .tuple #[.agg #[.int .i64 a1, .int .i64 a2, .int .i64 a3, .int .i64 a4, .slice (some ⟨g, o, none⟩) pn pc, .slice (some ⟨gt, ot, none⟩) n c, .slice B bn bc], .int .i64 1]) (by simp [results, Try.results28, go_sem, q0, q1, q2, q3, q4, q5, q6, lv]) rfl ⟨HF.out, .inl ⟨by rw [HE.out]; decide, by rw [HE.out]⟩⟩
              · skip
                by_cases b18 : 3 < qd
                · skip
                  have q0 := HV.out.cell 0; have g0 := HV.out.free 0; have q1 := HV.out.cell 1; have g1 := HV.out.free 1; have q2 := HV.out.cell 2; have g2 := HV.out.free 2; have q3 := HV.out.cell 3; have g3 := HV.out.free 3; have q4 := HV.out.cell 4; have g4 := HV.out.free 4; have q5 := HV.out.cell 5; have g5 := HV.out.free 5; have q6 := HV.out.cell 6; have g6 := HV.out.free 6
                  have HE := Lib.hid (show subE a3 a4 pl ⟨pw, pr, pg⟩ l m ⟨qk, qw, qr, qg, qt, qs, ql, qd⟩ = 1 from by unfold subE; rw [if_neg h24]; dsimp only; rw [HFX.out]; dsimp only; rw [HRM.out, if_neg (by simp [HROOM.out]), if_neg (fun e => by have := find_ix.mp e; rw [HIS.out] at this; omega), if_pos (by unfold badL; exact decide_eq_true (by dsimp only; omega))])
                  have HF := Lib.hid (show Below w.heap.size w (((((((v2.setCell ⟨w.heap.size + 2, 0, none⟩ (.int .i64 a1)).setCell ⟨w.heap.size + 2, 1, none⟩ (.int .i64 a2)).setCell ⟨w.heap.size + 2, 2, none⟩ (.int .i64 a3)).setCell ⟨w.heap.size + 2, 3, none⟩ (.int .i64 a4)).setCell ⟨w.heap.size + 2, 4, none⟩ (.slice (some ⟨g, o, none⟩) pn pc)).setCell ⟨w.heap.size + 2, 5, none⟩ (.slice (some ⟨gt, ot, none⟩) n c)).setCell ⟨w.heap.size + 2, 6, none⟩ (.slice B bn bc)) from (Below.setCell (p := ⟨w.heap.size + 2, 6, none⟩) (Below.setCell (p := ⟨w.heap.size + 2, 5, none⟩) (Below.setCell (p := ⟨w.heap.size + 2, 4, none⟩) (Below.setCell (p := ⟨w.heap.size + 2, 3, none⟩) (Below.setCell (p := ⟨w.heap.size + 2, 2, none⟩) (Below.setCell (p := ⟨w.heap.size + 2, 1, none⟩) (Below.setCell (p := ⟨w.heap.size + 2, 0, none⟩) (HB.out) (by show w.heap.size ≤ w.heap.size + 2; omega) (.int .i64 a1)) (by show w.heap.size ≤ w.heap.size + 2; omega) (.int .i64 a2)) (by show w.heap.size ≤ w.heap.size + 2; omega) (.int .i64 a3)) (by show w.heap.size ≤ w.heap.size + 2; omega) (.int .i64 a4)) (by show w.heap.size ≤ w.heap.size + 2; omega) (.slice (some ⟨g, o, none⟩) pn pc)) (by show w.heap.size ≤ w.heap.size + 2; omega) (.slice (some ⟨gt, ot, none⟩) n c)) (by show w.heap.size ≤ w.heap.size + 2; omega) (.slice B bn bc)))
                  clear HB
                  go_wp2_with fail
                  exact bodyPost_ret (v := .tuple #[.agg #[.int .i64 a1, .int .i64 a2, .int .i64 a3, .int .i64 a4, .slice (some ⟨g, o, none⟩) pn pc, .slice (some ⟨gt, ot, none⟩) n c, .slice B bn bc], .int .i64 1]) (by simp [results, Try.results28, go_sem, q0, q1, q2, q3, q4, q5, q6, lv]) rfl ⟨HF.out, .inl ⟨by rw [HE.out]; decide, by rw [HE.out]⟩⟩
                · skip
                  obtain ⟨NN, hNN⟩ : ∃ z, (m.filter (ofB qw)).length = z := ⟨_, rfl⟩
                  obtain ⟨PP, hPP⟩ : ∃ z, (m.filter fun z => ltB z ⟨qw, qt, ql, qd, false⟩).length = z := ⟨_, rfl⟩
                  have hPL : PP ≤ bn := by rw [← hPP, ← HBN.out]; exact List.length_filter_le _ _
                  have hNL : NN ≤ bn := by rw [← hNN, ← HBN.out]; exact List.length_filter_le _ _
                  have HNN := Lib.hid hNN
                  have HPP := Lib.hid hPP
                  clear hNN hPP
                  go_wp2_with fail
                  have HSv := Lib.hid HS.out
                  have HQv := Lib.hid HQ.out
                  have HRv := Lib.hid (HRB.out.below HB.out (Nat.le_refl _))
                  have ls4 := ls
                  have lq4 := lq
                  have lv4 := lv
                  have hz4 : w.heap.size + 3 ≤ v2.heap.size := by omega
                  clear r0 r1 r2 r3 r4 r5 r6 p0 p1 p2 p3 p4 p5 p6 p7 HS HQ d0 d1 d2
                  go_loopw [8, 9, 10] (fun v8 v9 v10 wr => ∃ k : Nat, k ≤ bn ∧ v8 = .int .i64 (cnt (ofB qw) m k : Int) ∧ v9 = .int .i64 (cnt (fun z => ltB z ⟨qw, qt, ql, qd, false⟩) m k : Int) ∧ v10 = .int .i64 (k : Int) ∧ Below v2.heap.size v2 wr) (fun _ _ v _ => bn - (intOf v).toNat)
                  case atStart => exact ⟨0, Nat.zero_le _, rfl, rfl, rfl, Below.refl _ _⟩
                  case round =>
                   obtain ⟨k, hk, rfl, rfl, rfl, hb⟩ := hrel
                   have HBq := Lib.hid hb
                   have hzq := hb.size
                   have r6 := (Whole.below HSv.out hb ls4).cell 6
                   have k0 : (0 : Int) ≤ (k : Int) := by omega
                   have lsr : w.heap.size < wr.heap.size := by omega
                   have lqr : w.heap.size + 1 < wr.heap.size := by omega
                   clear hb
                   by_cases hkn : k < bn
                   · obtain ⟨z, hz⟩ : ∃ z, m[k]? = some z := ⟨_, List.getElem?_eq_getElem (by rw [HBN.out]; exact hkn)⟩
                     have p1 := (Whole.below HQv.out HBq.out lq4).cell 1
                     have p4 := (Whole.below HQv.out HBq.out lq4).cell 4
                     obtain ⟨gb, ob, rfl, hgb, hcb⟩ := HRv.out.2 (by rw [HBN.out]; omega)
                     have c0 := (HBq.out.cell (p := ⟨gb, ob + (k * 5 + 0), none⟩) (by show gb < _; omega)).trans (hcb _ _ ((sbC_get hz 0 (by decide)).trans rfl))
                     have c1 := (HBq.out.cell (p := ⟨gb, ob + (k * 5 + 1), none⟩) (by show gb < _; omega)).trans (hcb _ _ ((sbC_get hz 1 (by decide)).trans rfl))
                     rw [← Nat.add_assoc] at c0 c1
                     rw [Nat.add_zero] at c0
                     have HC1 := Lib.hid (cnt_next (f := ofB qw) hz)
                     have HC2 := Lib.hid (cnt_next (f := fun z => ltB z ⟨qw, qt, ql, qd, false⟩) hz)
                     have b1 := cnt_le (ofB qw) m k
                     have b2 := cnt_le (fun z => ltB z ⟨qw, qt, ql, qd, false⟩) m k
                     obtain ⟨N1, hN1⟩ : ∃ z, cnt (ofB qw) m k = z := ⟨_, rfl⟩
                     obtain ⟨N2, hN2⟩ : ∃ z, cnt (fun z => ltB z ⟨qw, qt, ql, qd, false⟩) m k = z := ⟨_, rfl⟩
                     rw [hN1] at HC1 b1 ⊢
                     rw [hN2] at HC2 b2 ⊢
                     obtain ⟨N3, hN3⟩ : ∃ z, cnt (ofB qw) m (k + 1) = z := ⟨_, rfl⟩
                     obtain ⟨N4, hN4⟩ : ∃ z, cnt (fun z => ltB z ⟨qw, qt, ql, qd, false⟩) m (k + 1) = z := ⟨_, rfl⟩
                     have HN3 := Lib.hid hN3
                     have HN4 := Lib.hid hN4
                     rw [hN3] at HC1
                     rw [hN4] at HC2
                     clear hN1 hN2 hN3 hN4
                     have k1 : (k : Int) < (bn : Int) := by omega
                     have t1 : decide ((k : Int) < (bn : Int)) = true := decide_eq_true k1
                     have t1' : decide (k < bn) = true := decide_eq_true hkn
                     have lg : gb < wr.heap.size := by omega
                     obtain ⟨zw, zt, zl, zd, zm⟩ := z
                     dsimp only at c0 c1
                     unfold ofB at HC1
                     unfold ltB at HC2
                     dsimp only at HC1 HC2
                     clear hz hcb
                     by_cases q1 : zw = qw
                     · by_cases q2 : zt < qt
                       · have s1 : (zw == qw) = true := by simp [q1]
                         have s2 : decide (zw < qw) = false := decide_eq_false (by omega)
                         have s3 : decide (zt < qt) = true := decide_eq_true q2
                         have X1 := Lib.hid (HC1.out.trans (if_pos (decide_eq_true q1)))
                         have X2 := Lib.hid (HC2.out.trans (if_pos (decide_eq_true (.inr ⟨q1, q2⟩))))
                         clear HC1 HC2 q1 q2
                         go_wp2_with fail
                         go_quiet (fail)
                         obtain ⟨wq, hwq⟩ : ∃ z, z = wr.drewN nq := ⟨_, rfl⟩
                         have BQ := Lib.hid (show Below v2.heap.size v2 wq from by rw [hwq]; exact bdrewN HBq.out _)
                         have r6q := (Whole.below HSv.out BQ.out ls4).cell 6
                         have p1q := (Whole.below HQv.out BQ.out lq4).cell 1
                         have p4q := (Whole.below HQv.out BQ.out lq4).cell 4
                         have c0q := (show wq.cell? ⟨gb, ob + k * 5, none⟩ = some (.int .i64 zw) from by rw [hwq]; exact c0)
                         have c1q := (show wq.cell? ⟨gb, ob + k * 5 + 1, none⟩ = some (.int .i64 zt) from by rw [hwq]; exact c1)
                         have lgq : gb < wq.heap.size := by rw [hwq]; exact lg
                         have lsq : w.heap.size < wq.heap.size := by rw [hwq]; exact lsr
                         have lqq : w.heap.size + 1 < wq.heap.size := by rw [hwq]; exact lqr
                         rw [← hwq]
                         clear hwq r6 p1 p4 c0 c1 lg lsr lqr HBq
                         go_wp2_with fail
                         go_quiet (fail)
                         go_wp2_with fail
                         go_roundw
                         case rel => exact ⟨k + 1, by omega, by rw [HN3.out, X1.out]; try go_num, by rw [HN4.out, X2.out]; try go_num, by go_num, bdrewN BQ.out _⟩
                         case measure => simp [intOf]; omega
                       · have s1 : (zw == qw) = true := by simp [q1]
                         have s2 : decide (zw < qw) = false := decide_eq_false (by omega)
                         have s3 : decide (zt < qt) = false := decide_eq_false q2
                         have X1 := Lib.hid (HC1.out.trans (if_pos (decide_eq_true q1)))
                         have X2 := Lib.hid (HC2.out.trans (if_neg (by simp only [decide_eq_true_eq]; omega)))
                         clear HC1 HC2 q1 q2
                         go_wp2_with fail
                         go_quiet (fail)
                         obtain ⟨wq, hwq⟩ : ∃ z, z = wr.drewN nq := ⟨_, rfl⟩
                         have BQ := Lib.hid (show Below v2.heap.size v2 wq from by rw [hwq]; exact bdrewN HBq.out _)
                         have r6q := (Whole.below HSv.out BQ.out ls4).cell 6
                         have p1q := (Whole.below HQv.out BQ.out lq4).cell 1
                         have p4q := (Whole.below HQv.out BQ.out lq4).cell 4
                         have c0q := (show wq.cell? ⟨gb, ob + k * 5, none⟩ = some (.int .i64 zw) from by rw [hwq]; exact c0)
                         have c1q := (show wq.cell? ⟨gb, ob + k * 5 + 1, none⟩ = some (.int .i64 zt) from by rw [hwq]; exact c1)
                         have lgq : gb < wq.heap.size := by rw [hwq]; exact lg
                         have lsq : w.heap.size < wq.heap.size := by rw [hwq]; exact lsr
                         have lqq : w.heap.size + 1 < wq.heap.size := by rw [hwq]; exact lqr
                         rw [← hwq]
                         clear hwq r6 p1 p4 c0 c1 lg lsr lqr HBq
                         go_wp2_with fail
                         go_quiet (fail)
                         go_wp2_with fail
                         go_roundw
                         case rel => exact ⟨k + 1, by omega, by rw [HN3.out, X1.out]; try go_num, by rw [HN4.out, X2.out]; try go_num, by go_num, bdrewN BQ.out _⟩
                         case measure => simp [intOf]; omega
                     · by_cases q2 : zw < qw
                       · have s1 : (zw == qw) = false := by simp [q1]
                         have s2 : decide (zw < qw) = true := decide_eq_true q2
                         have X1 := Lib.hid (HC1.out.trans (if_neg (by simp only [decide_eq_true_eq]; exact q1)))
                         have X2 := Lib.hid (HC2.out.trans (if_pos (decide_eq_true (.inl q2))))
                         clear HC1 HC2 q1 q2
                         go_wp2_with fail
                         go_quiet (fail)
                         obtain ⟨wq, hwq⟩ : ∃ z, z = wr.drewN nq := ⟨_, rfl⟩
                         have BQ := Lib.hid (show Below v2.heap.size v2 wq from by rw [hwq]; exact bdrewN HBq.out _)
                         have r6q := (Whole.below HSv.out BQ.out ls4).cell 6
                         have p1q := (Whole.below HQv.out BQ.out lq4).cell 1
                         have p4q := (Whole.below HQv.out BQ.out lq4).cell 4
                         have c0q := (show wq.cell? ⟨gb, ob + k * 5, none⟩ = some (.int .i64 zw) from by rw [hwq]; exact c0)
                         have c1q := (show wq.cell? ⟨gb, ob + k * 5 + 1, none⟩ = some (.int .i64 zt) from by rw [hwq]; exact c1)
                         have lgq : gb < wq.heap.size := by rw [hwq]; exact lg
                         have lsq : w.heap.size < wq.heap.size := by rw [hwq]; exact lsr
                         have lqq : w.heap.size + 1 < wq.heap.size := by rw [hwq]; exact lqr
                         rw [← hwq]
                         clear hwq r6 p1 p4 c0 c1 lg lsr lqr HBq
                         go_wp2_with fail
                         go_quiet (fail)
                         go_wp2_with fail
                         go_roundw
                         case rel => exact ⟨k + 1, by omega, by rw [HN3.out, X1.out]; try go_num, by rw [HN4.out, X2.out]; try go_num, by go_num, bdrewN BQ.out _⟩
                         case measure => simp [intOf]; omega
                       · have s1 : (zw == qw) = false := by simp [q1]
                         have s2 : decide (zw < qw) = false := decide_eq_false q2
                         have X1 := Lib.hid (HC1.out.trans (if_neg (by simp only [decide_eq_true_eq]; exact q1)))
                         have X2 := Lib.hid (HC2.out.trans (if_neg (by simp only [decide_eq_true_eq]; omega)))
                         clear HC1 HC2 q1 q2
                         go_wp2_with fail
                         go_quiet (fail)
                         obtain ⟨wq, hwq⟩ : ∃ z, z = wr.drewN nq := ⟨_, rfl⟩
                         have BQ := Lib.hid (show Below v2.heap.size v2 wq from by rw [hwq]; exact bdrewN HBq.out _)
                         have r6q := (Whole.below HSv.out BQ.out ls4).cell 6
                         have p1q := (Whole.below HQv.out BQ.out lq4).cell 1
                         have p4q := (Whole.below HQv.out BQ.out lq4).cell 4
                         have c0q := (show wq.cell? ⟨gb, ob + k * 5, none⟩ = some (.int .i64 zw) from by rw [hwq]; exact c0)
                         have c1q := (show wq.cell? ⟨gb, ob + k * 5 + 1, none⟩ = some (.int .i64 zt) from by rw [hwq]; exact c1)
                         have lgq : gb < wq.heap.size := by rw [hwq]; exact lg
                         have lsq : w.heap.size < wq.heap.size := by rw [hwq]; exact lsr
                         have lqq : w.heap.size + 1 < wq.heap.size := by rw [hwq]; exact lqr
                         rw [← hwq]
                         clear hwq r6 p1 p4 c0 c1 lg lsr lqr HBq
                         go_wp2_with fail
                         go_quiet (fail)
                         go_wp2_with fail
                         go_roundw
                         case rel => exact ⟨k + 1, by omega, by rw [HN3.out, X1.out]; try go_num, by rw [HN4.out, X2.out]; try go_num, by go_num, bdrewN BQ.out _⟩
                         case measure => simp [intOf]; omega
                   · skip
                     obtain rfl : bn = k := by omega
                     rw [cnt_all (by rw [HBN.out]; exact Nat.le_refl _), HNN.out, cnt_all (by rw [HBN.out]; exact Nat.le_refl _), HPP.out]
                     have HBr := Lib.hid (HB.out.trans (HBq.out.mono (by omega)))
                     have HVr := Lib.hid (Whole.below HV.out HBq.out lv4)
                     have HS := Lib.hid (Whole.below HSv.out HBq.out ls4)
                     have HQ := Lib.hid (Whole.below HQv.out HBq.out lq4)
                     have HRr := Lib.hid (HRB.out.below HBr.out (Nat.le_refl _))
                     clear HB HV r6
                     have HB := Lib.hid HBr.out
                     have HV := Lib.hid HVr.out
                     have ls := lsr
                     have lv : w.heap.size + 2 < wr.heap.size := by omega
                     have lq := lqr
                     have hzr : w.heap.size + 3 ≤ wr.heap.size := by omega
                     clear HBr HVr HSv HQv HRv HBq ls4 lq4 lv4 hz4 hzq lsr lqr
                     have t1 : decide ((bn : Int) < (bn : Int)) = false := decide_eq_false (by omega)
                     have t1' : decide (bn < bn) = false := decide_eq_false (by omega)
                     have r0 := HS.out.cell 0
                     have r1 := HS.out.cell 1
                     have r2 := HS.out.cell 2
                     have r3 := HS.out.cell 3
                     have r4 := HS.out.cell 4
                     have r5 := HS.out.cell 5
                     have r6 := HS.out.cell 6
                     by_cases u1 : a3 ≤ (NN : Int)
                     · skip
                       have q0 := HV.out.cell 0; have g0 := HV.out.free 0; have q1 := HV.out.cell 1; have g1 := HV.out.free 1; have q2 := HV.out.cell 2; have g2 := HV.out.free 2; have q3 := HV.out.cell 3; have g3 := HV.out.free 3; have q4 := HV.out.cell 4; have g4 := HV.out.free 4; have q5 := HV.out.cell 5; have g5 := HV.out.free 5; have q6 := HV.out.cell 6; have g6 := HV.out.free 6
                       have HE := Lib.hid (show subE a3 a4 pl ⟨pw, pr, pg⟩ l m ⟨qk, qw, qr, qg, qt, qs, ql, qd⟩ = 25 from by unfold subE; rw [if_neg h24]; dsimp only; rw [HFX.out]; dsimp only; rw [HRM.out, if_neg (by simp [HROOM.out]), if_neg (fun e => by have := find_ix.mp e; rw [HIS.out] at this; omega), if_neg (by unfold badL; rw [decide_eq_false (by dsimp only; omega)]; decide), if_pos (by rw [HNN.out]; exact u1)])
                       have HF := Lib.hid (show Below w.heap.size w (((((((wr.setCell ⟨w.heap.size + 2, 0, none⟩ (.int .i64 a1)).setCell ⟨w.heap.size + 2, 1, none⟩ (.int .i64 a2)).setCell ⟨w.heap.size + 2, 2, none⟩ (.int .i64 a3)).setCell ⟨w.heap.size + 2, 3, none⟩ (.int .i64 a4)).setCell ⟨w.heap.size + 2, 4, none⟩ (.slice (some ⟨g, o, none⟩) pn pc)).setCell ⟨w.heap.size + 2, 5, none⟩ (.slice (some ⟨gt, ot, none⟩) n c)).setCell ⟨w.heap.size + 2, 6, none⟩ (.slice B bn bc)) from (Below.setCell (p := ⟨w.heap.size + 2, 6, none⟩) (Below.setCell (p := ⟨w.heap.size + 2, 5, none⟩) (Below.setCell (p := ⟨w.heap.size + 2, 4, none⟩) (Below.setCell (p := ⟨w.heap.size + 2, 3, none⟩) (Below.setCell (p := ⟨w.heap.size + 2, 2, none⟩) (Below.setCell (p := ⟨w.heap.size + 2, 1, none⟩) (Below.setCell (p := ⟨w.heap.size + 2, 0, none⟩) (HB.out) (by show w.heap.size ≤ w.heap.size + 2; omega) (.int .i64 a1)) (by show w.heap.size ≤ w.heap.size + 2; omega) (.int .i64 a2)) (by show w.heap.size ≤ w.heap.size + 2; omega) (.int .i64 a3)) (by show w.heap.size ≤ w.heap.size + 2; omega) (.int .i64 a4)) (by show w.heap.size ≤ w.heap.size + 2; omega) (.slice (some ⟨g, o, none⟩) pn pc)) (by show w.heap.size ≤ w.heap.size + 2; omega) (.slice (some ⟨gt, ot, none⟩) n c)) (by show w.heap.size ≤ w.heap.size + 2; omega) (.slice B bn bc)))
                       clear HB
                       go_wp2_with fail
                       exact bodyPost_ret (v := .tuple #[.agg #[.int .i64 a1, .int .i64 a2, .int .i64 a3, .int .i64 a4, .slice (some ⟨g, o, none⟩) pn pc, .slice (some ⟨gt, ot, none⟩) n c, .slice B bn bc], .int .i64 25]) (by simp [results, Try.results28, go_sem, q0, q1, q2, q3, q4, q5, q6, lv]) rfl ⟨HF.out, .inl ⟨by rw [HE.out]; decide, by rw [HE.out]⟩⟩
                     · by_cases u2 : a4 ≤ (bn : Int)
                       · skip
                         have q0 := HV.out.cell 0; have g0 := HV.out.free 0; have q1 := HV.out.cell 1; have g1 := HV.out.free 1; have q2 := HV.out.cell 2; have g2 := HV.out.free 2; have q3 := HV.out.cell 3; have g3 := HV.out.free 3; have q4 := HV.out.cell 4; have g4 := HV.out.free 4; have q5 := HV.out.cell 5; have g5 := HV.out.free 5; have q6 := HV.out.cell 6; have g6 := HV.out.free 6
                         have HE := Lib.hid (show subE a3 a4 pl ⟨pw, pr, pg⟩ l m ⟨qk, qw, qr, qg, qt, qs, ql, qd⟩ = 20 from by unfold subE; rw [if_neg h24]; dsimp only; rw [HFX.out]; dsimp only; rw [HRM.out, if_neg (by simp [HROOM.out]), if_neg (fun e => by have := find_ix.mp e; rw [HIS.out] at this; omega), if_neg (by unfold badL; rw [decide_eq_false (by dsimp only; omega)]; decide), if_neg (by rw [HNN.out]; exact u1), if_pos (by rw [HBN.out]; exact u2)])
                         have HF := Lib.hid (show Below w.heap.size w (((((((wr.setCell ⟨w.heap.size + 2, 0, none⟩ (.int .i64 a1)).setCell ⟨w.heap.size + 2, 1, none⟩ (.int .i64 a2)).setCell ⟨w.heap.size + 2, 2, none⟩ (.int .i64 a3)).setCell ⟨w.heap.size + 2, 3, none⟩ (.int .i64 a4)).setCell ⟨w.heap.size + 2, 4, none⟩ (.slice (some ⟨g, o, none⟩) pn pc)).setCell ⟨w.heap.size + 2, 5, none⟩ (.slice (some ⟨gt, ot, none⟩) n c)).setCell ⟨w.heap.size + 2, 6, none⟩ (.slice B bn bc)) from (Below.setCell (p := ⟨w.heap.size + 2, 6, none⟩) (Below.setCell (p := ⟨w.heap.size + 2, 5, none⟩) (Below.setCell (p := ⟨w.heap.size + 2, 4, none⟩) (Below.setCell (p := ⟨w.heap.size + 2, 3, none⟩) (Below.setCell (p := ⟨w.heap.size + 2, 2, none⟩) (Below.setCell (p := ⟨w.heap.size + 2, 1, none⟩) (Below.setCell (p := ⟨w.heap.size + 2, 0, none⟩) (HB.out) (by show w.heap.size ≤ w.heap.size + 2; omega) (.int .i64 a1)) (by show w.heap.size ≤ w.heap.size + 2; omega) (.int .i64 a2)) (by show w.heap.size ≤ w.heap.size + 2; omega) (.int .i64 a3)) (by show w.heap.size ≤ w.heap.size + 2; omega) (.int .i64 a4)) (by show w.heap.size ≤ w.heap.size + 2; omega) (.slice (some ⟨g, o, none⟩) pn pc)) (by show w.heap.size ≤ w.heap.size + 2; omega) (.slice (some ⟨gt, ot, none⟩) n c)) (by show w.heap.size ≤ w.heap.size + 2; omega) (.slice B bn bc)))
                         clear HB
                         go_wp2_with fail
                         exact bodyPost_ret (v := .tuple #[.agg #[.int .i64 a1, .int .i64 a2, .int .i64 a3, .int .i64 a4, .slice (some ⟨g, o, none⟩) pn pc, .slice (some ⟨gt, ot, none⟩) n c, .slice B bn bc], .int .i64 20]) (by simp [results, Try.results28, go_sem, q0, q1, q2, q3, q4, q5, q6, lv]) rfl ⟨HF.out, .inl ⟨by rw [HE.out]; decide, by rw [HE.out]⟩⟩
                       · have HE := Lib.hid (show subE a3 a4 pl ⟨pw, pr, pg⟩ l m ⟨qk, qw, qr, qg, qt, qs, ql, qd⟩ = 0 from by unfold subE; rw [if_neg h24]; dsimp only; rw [HFX.out]; dsimp only; rw [HRM.out, if_neg (by simp [HROOM.out]), if_neg (fun e => by have := find_ix.mp e; rw [HIS.out] at this; omega), if_neg (by unfold badL; rw [decide_eq_false (by dsimp only; omega)]; decide), if_neg (by rw [HNN.out]; exact u1), if_neg (by rw [HBN.out]; exact u2)])
                         have hcm := HCM.out
                         unfold maxLen at hcm
                         rcases HA.out with ⟨hA1, hA2⟩ | ⟨gb, ob, hA1⟩
                         · subst hA1 hA2
                           obtain rfl : bn = 0 := by omega
                           obtain rfl : PP = 0 := by omega
                           go_upto_region 27 with fail
                           go_wp2_with (at_builtin; refine wpl_append _ rfl (.tmp 141) (.tmp 145) 35 rfl wr.heap.size 56 (.agg #[.int .i64 0, .int .i64 0, .int .i64 0, .int .i64 0, .bool false]) 5 40 Try.underlying35 info_B18 rfl (by decide) (.slice none 0 0) 0 [] rfl (World.ownsRow_nil _ _ _ _) 0 none 0 0 [] rfl Row.nil (by simp) ?za21 ?za22 ?za23 ?_)
                           try (case za21 => unfold maxLen; omega)
                           try (case za22 => omega)
                           try (case za23 => exact Nat.le_refl _)
                           intro v8 w8 hown8 hg8 hv8
                           have HB8 := Lib.hid (show Below wr.heap.size wr w8 from ⟨hg8.os, hg8.tape, hg8.output, hg8.size, fun k hk => hg8.block k hk (by simp [Value.ownBlock])⟩)
                           have HV8 := Lib.hid hown8
                           have hz8 := hg8.size
                           have HQ8 := Lib.hid (Whole.below HQ.out HB8.out lq)
                           have p1 := HQ8.out.cell 1
                           have p4 := HQ8.out.cell 4
                           have p6 := HQ8.out.cell 6
                           have p7 := HQ8.out.cell 7
                           have lq8 : w.heap.size + 1 < w8.heap.size := by omega
                           have HW8 := Lib.hid (Row.fresh w8 56 #[.int .i64 qw, .int .i64 qt, .int .i64 ql, .int .i64 qd, .bool false] 5 1 [.int .i64 qw, .int .i64 qt, .int .i64 ql, .int .i64 qd, .bool false] rfl rfl)
                           have hL8 := Lib.hid (fun q hq => (HV8.out.lt q hq).1)
                           clear hown8 hg8 hv8 r0 r1 r2 r3 r4 r5 r6 
                           go_wp2_with (at_builtin; refine wpl_append _ rfl (.tmp 147) (.tmp 157) 35 rfl wr.heap.size 56 (.agg #[.int .i64 0, .int .i64 0, .int .i64 0, .int .i64 0, .bool false]) 5 40 Try.underlying35 info_B18 rfl (by decide) v8 0 [] rfl (HV8.out.alloc _) _ (some ⟨w8.heap.size, 0, none⟩) 1 1 [.int .i64 qw, .int .i64 qt, .int .i64 ql, .int .i64 qd, .bool false] rfl HW8.out (by simp [Value.oneCell']) ?zb21 ?zb22 ?zb23 ?_)
                           try (case zb21 => unfold maxLen; omega)
                           try (case zb22 => omega)
                           try (case zb23 => first | omega | (simp; omega))
                           intro v9 w9 hown9 hg9 hv9
                           have HB9 := Lib.hid (show Below wr.heap.size wr w9 from (HB8.out.alloc HB8.out.size _).grown hg9 (by simp; omega) (fun q hq => hL8.out q hq))
                           have HV9 := Lib.hid hown9
                           have hL9 := Lib.hid (fun q hq => (HV9.out.lt q hq).1)
                           have hz9 := HB9.out.size
                           have HS9 := Lib.hid (Whole.below HS.out HB9.out ls)
                           have r6 := HS9.out.cell 6
                           have ls9 : w.heap.size < w9.heap.size := by omega
                           clear hown9 hg9 hv9 HV8 HW8 hL8 HB8 HQ8 p1 p4 p6 p7
                           have HINS := Lib.hid (show sbC (insN ltB m ⟨qw, qt, ql, qd, false⟩) = [.int .i64 qw, .int .i64 qt, .int .i64 ql, .int .i64 qd, .bool false] by
                            unfold insN; rw [HPP.out, List.drop_of_length_le (show m.length ≤ 0 by rw [HBN.out]; exact Nat.le_refl _)]; simp [sbC, sbV])
                           go_wp2_with (at_builtin; refine wpl_append _ rfl (.tmp 159) (.tmp 163) 35 rfl wr.heap.size 56 (.agg #[.int .i64 0, .int .i64 0, .int .i64 0, .int .i64 0, .bool false]) 5 40 Try.underlying35 info_B18 rfl (by decide) v9 1 _ rfl HV9.out 0 _ 0 _ [] rfl Row.nil (by simp) ?zc21 ?zc22 ?zc23 ?_)
                           try (case zc21 => unfold maxLen; omega)
                           try (case zc22 => omega)
                           try (case zc23 => exact hz9)
                           intro v10 w10 hown10 hg10 _
                           have HO10 := Lib.hid (show w10.ownsRow wr.heap.size 56 5 v10 (0 + 1) (sbC (insN ltB m ⟨qw, qt, ql, qd, false⟩)) by
                            rw [HINS.out]
                            first | (simpa using hown10; done) | (simpa [sbC] using hown10))
                           have HB10 := Lib.hid (show Below wr.heap.size wr w10 from HB9.out.grown hg10 (by omega) (fun q hq => hL9.out q hq))
                           obtain ⟨A10, c10, rfl⟩ := own_form HO10.out
                           have hz10 := HB10.out.size
                           have HS10 := Lib.hid (Whole.below HS.out HB10.out ls)
                           have HV10 := Lib.hid (Whole.below HV.out HB10.out lv)
                           have r0 := HS10.out.cell 0
                           have q0 := HV10.out.cell 0
                           have s0 := HV10.out.free 0
                           have r1 := HS10.out.cell 1
                           have q1 := HV10.out.cell 1
                           have s1 := HV10.out.free 1
                           have r2 := HS10.out.cell 2
                           have q2 := HV10.out.cell 2
                           have s2 := HV10.out.free 2
                           have r3 := HS10.out.cell 3
                           have q3 := HV10.out.cell 3
                           have s3 := HV10.out.free 3
                           have r4 := HS10.out.cell 4
                           have q4 := HV10.out.cell 4
                           have s4 := HV10.out.free 4
                           have r5 := HS10.out.cell 5
                           have q5 := HV10.out.cell 5
                           have s5 := HV10.out.free 5
                           have r6 := HS10.out.cell 6
                           have q6 := HV10.out.cell 6
                           have s6 := HV10.out.free 6
                           have f6 := HS10.out.free 6
                           have ls10 : w.heap.size < w10.heap.size := by omega
                           have lv10 : w.heap.size + 2 < w10.heap.size := by omega
                           have hne : ¬ w.heap.size = w.heap.size + 2 := by omega
                           have HF := Lib.hid (show (((((((((w10.setCell ⟨w.heap.size, 6, none⟩ (.slice A10 (0 + 1) c10)).setCell ⟨w.heap.size + 2, 0, none⟩ (.int .i64 a1)).setCell ⟨w.heap.size + 2, 1, none⟩ (.int .i64 a2)).setCell ⟨w.heap.size + 2, 2, none⟩ (.int .i64 a3)).setCell ⟨w.heap.size + 2, 3, none⟩ (.int .i64 a4)).setCell ⟨w.heap.size + 2, 4, none⟩ (.slice (some ⟨g, o, none⟩) pn pc)).setCell ⟨w.heap.size + 2, 5, none⟩ (.slice (some ⟨gt, ot, none⟩) n c)).setCell ⟨w.heap.size + 2, 6, none⟩ (.slice A10 (0 + 1) c10))).ownsRow (w.heap.size + 3) 56 5 (.slice A10 (0 + 1) c10) (0 + 1) (sbC (insN ltB m ⟨qw, qt, ql, qd, false⟩)) ∧ Below w.heap.size w ((((((((w10.setCell ⟨w.heap.size, 6, none⟩ (.slice A10 (0 + 1) c10)).setCell ⟨w.heap.size + 2, 0, none⟩ (.int .i64 a1)).setCell ⟨w.heap.size + 2, 1, none⟩ (.int .i64 a2)).setCell ⟨w.heap.size + 2, 2, none⟩ (.int .i64 a3)).setCell ⟨w.heap.size + 2, 3, none⟩ (.int .i64 a4)).setCell ⟨w.heap.size + 2, 4, none⟩ (.slice (some ⟨g, o, none⟩) pn pc)).setCell ⟨w.heap.size + 2, 5, none⟩ (.slice (some ⟨gt, ot, none⟩) n c)).setCell ⟨w.heap.size + 2, 6, none⟩ (.slice A10 (0 + 1) c10)) from by
                            have HB10 : Below w.heap.size w w10 := HB.out.trans (HB10.out.mono (by omega))
                            refine ⟨?_, (Below.setCell (p := ⟨w.heap.size + 2, 6, none⟩) (Below.setCell (p := ⟨w.heap.size + 2, 5, none⟩) (Below.setCell (p := ⟨w.heap.size + 2, 4, none⟩) (Below.setCell (p := ⟨w.heap.size + 2, 3, none⟩) (Below.setCell (p := ⟨w.heap.size + 2, 2, none⟩) (Below.setCell (p := ⟨w.heap.size + 2, 1, none⟩) (Below.setCell (p := ⟨w.heap.size + 2, 0, none⟩) (Below.setCell (p := ⟨w.heap.size, 6, none⟩) HB10 (Nat.le_refl _) (.slice A10 (0 + 1) c10)) (by show w.heap.size ≤ w.heap.size + 2; omega) (.int .i64 a1)) (by show w.heap.size ≤ w.heap.size + 2; omega) (.int .i64 a2)) (by show w.heap.size ≤ w.heap.size + 2; omega) (.int .i64 a3)) (by show w.heap.size ≤ w.heap.size + 2; omega) (.int .i64 a4)) (by show w.heap.size ≤ w.heap.size + 2; omega) (.slice (some ⟨g, o, none⟩) pn pc)) (by show w.heap.size ≤ w.heap.size + 2; omega) (.slice (some ⟨gt, ot, none⟩) n c)) (by show w.heap.size ≤ w.heap.size + 2; omega) (.slice A10 (0 + 1) c10))⟩
                            have h := own_base HO10.out (show w.heap.size + 3 ≤ wr.heap.size by omega)
                            have fq : ∀ q, (Value.slice A10 (0 + 1) c10).ownBlock = some q → ¬ (q = w.heap.size ∨ q = w.heap.size + 2) := fun q hq => by have := (h.lt q hq).1; omega
                            exact own_farX (own_farX (own_farX (own_farX (own_farX (own_farX (own_farX (own_farX h (fun q hq e => fq q hq (.inl e.symm))) (fun q hq e => fq q hq (.inr e.symm))) (fun q hq e => fq q hq (.inr e.symm))) (fun q hq e => fq q hq (.inr e.symm))) (fun q hq e => fq q hq (.inr e.symm))) (fun q hq e => fq q hq (.inr e.symm))) (fun q hq e => fq q hq (.inr e.symm))) (fun q hq e => fq q hq (.inr e.symm)))
                           clear hown10 hg10 HO10 HB10 HV9 HB9 hL9 HINS HS9 HS10 HV10 HB HS HQ HV HRr
                           go_wp2_with fail
                           exact bodyPost_ret (v := .tuple #[.agg #[.int .i64 a1, .int .i64 a2, .int .i64 a3, .int .i64 a4, .slice (some ⟨g, o, none⟩) pn pc, .slice (some ⟨gt, ot, none⟩) n c, .slice A10 (0 + 1) c10], .int .i64 0]) (by simp [results, Try.results28, go_sem, q0, q1, q2, q3, q4, q5, q6, lv10]) rfl ⟨HF.out.2, .inr ⟨HE.out, A10, c10, rfl, HF.out.1⟩⟩
                         · subst hA1
                           by_cases hPn : PP = bn
                           · obtain rfl : bn = PP := hPn.symm
                             go_upto_region 27 with fail
                             have HSRC := Lib.hid (show Row wr w.heap.size 5 (some ⟨gb, ob, none⟩) bn (sbC (m.take bn)) by unfold sbC; rw [flat_take (z := 5) (fun _ => rfl)]; have h := HRr.out; rw [HBN.out] at h; exact row_take h (by omega))
                             go_wp2_with (at_builtin; refine wpl_append _ rfl (.tmp 141) (.tmp 145) 35 rfl wr.heap.size 56 (.agg #[.int .i64 0, .int .i64 0, .int .i64 0, .int .i64 0, .bool false]) 5 40 Try.underlying35 info_B18 rfl (by decide) (.slice none 0 0) 0 [] rfl (World.ownsRow_nil _ _ _ _) w.heap.size (some ⟨gb, ob, none⟩) bn bc (sbC (m.take bn)) rfl HSRC.out (flat_one sb_one _) ?za31 ?za32 ?za33 ?_)
                             try (case za31 => unfold maxLen; omega)
                             try (case za32 => omega)
                             try (case za33 => exact Nat.le_refl _)
                             intro v8 w8 hown8 hg8 hv8
                             have HB8 := Lib.hid (show Below wr.heap.size wr w8 from ⟨hg8.os, hg8.tape, hg8.output, hg8.size, fun k hk => hg8.block k hk (by simp [Value.ownBlock])⟩)
                             have HV8 := Lib.hid hown8
                             have hz8 := hg8.size
                             have HQ8 := Lib.hid (Whole.below HQ.out HB8.out lq)
                             have p1 := HQ8.out.cell 1
                             have p4 := HQ8.out.cell 4
                             have p6 := HQ8.out.cell 6
                             have p7 := HQ8.out.cell 7
                             have lq8 : w.heap.size + 1 < w8.heap.size := by omega
                             have HW8 := Lib.hid (Row.fresh w8 56 #[.int .i64 qw, .int .i64 qt, .int .i64 ql, .int .i64 qd, .bool false] 5 1 [.int .i64 qw, .int .i64 qt, .int .i64 ql, .int .i64 qd, .bool false] rfl rfl)
                             have hL8 := Lib.hid (fun q hq => (HV8.out.lt q hq).1)
                             clear hown8 hg8 hv8 r0 r1 r2 r3 r4 r5 r6 HSRC
                             go_wp2_with (at_builtin; refine wpl_append _ rfl (.tmp 147) (.tmp 157) 35 rfl wr.heap.size 56 (.agg #[.int .i64 0, .int .i64 0, .int .i64 0, .int .i64 0, .bool false]) 5 40 Try.underlying35 info_B18 rfl (by decide) v8 bn (sbC (m.take bn)) rfl (HV8.out.alloc _) _ (some ⟨w8.heap.size, 0, none⟩) 1 1 [.int .i64 qw, .int .i64 qt, .int .i64 ql, .int .i64 qd, .bool false] rfl HW8.out (by simp [Value.oneCell']) ?zb31 ?zb32 ?zb33 ?_)
                             try (case zb31 => unfold maxLen; omega)
                             try (case zb32 => omega)
                             try (case zb33 => first | omega | (simp; omega))
                             intro v9 w9 hown9 hg9 hv9
                             have HB9 := Lib.hid (show Below wr.heap.size wr w9 from (HB8.out.alloc HB8.out.size _).grown hg9 (by simp; omega) (fun q hq => hL8.out q hq))
                             have HV9 := Lib.hid hown9
                             have hL9 := Lib.hid (fun q hq => (HV9.out.lt q hq).1)
                             have hz9 := HB9.out.size
                             have HS9 := Lib.hid (Whole.below HS.out HB9.out ls)
                             have r6 := HS9.out.cell 6
                             have ls9 : w.heap.size < w9.heap.size := by omega
                             clear hown9 hg9 hv9 HV8 HW8 hL8 HB8 HQ8 p1 p4 p6 p7
                             have HINS := Lib.hid (show sbC (insN ltB m ⟨qw, qt, ql, qd, false⟩) = sbC (m.take bn) ++ [.int .i64 qw, .int .i64 qt, .int .i64 ql, .int .i64 qd, .bool false] by
                              unfold insN; rw [HPP.out, List.drop_of_length_le (show m.length ≤ bn by rw [HBN.out]; exact Nat.le_refl _)]; unfold sbC; rw [flat_append]; rfl)
                             by_cases hcj : bc = bn
                             · subst hcj
                               go_wp2_with (at_builtin; refine wpl_append _ rfl (.tmp 159) (.tmp 163) 35 rfl wr.heap.size 56 (.agg #[.int .i64 0, .int .i64 0, .int .i64 0, .int .i64 0, .bool false]) 5 40 Try.underlying35 info_B18 rfl (by decide) v9 (bc + 1) _ rfl HV9.out 0 _ 0 _ [] rfl Row.nil (by simp) ?zd31 ?zd32 ?zd33 ?_)
                               try (case zd31 => unfold maxLen; omega)
                               try (case zd32 => omega)
                               try (case zd33 => exact hz9)
                               intro v10 w10 hown10 hg10 _
                               have HO10 := Lib.hid (show w10.ownsRow wr.heap.size 56 5 v10 (bc + 1) (sbC (insN ltB m ⟨qw, qt, ql, qd, false⟩)) by
                                rw [HINS.out]
                                first | (simpa using hown10; done) | (simpa [sbC] using hown10))
                               have HB10 := Lib.hid (show Below wr.heap.size wr w10 from HB9.out.grown hg10 (by omega) (fun q hq => hL9.out q hq))
                               obtain ⟨A10, c10, rfl⟩ := own_form HO10.out
                               have hz10 := HB10.out.size
                               have HS10 := Lib.hid (Whole.below HS.out HB10.out ls)
                               have HV10 := Lib.hid (Whole.below HV.out HB10.out lv)
                               have r0 := HS10.out.cell 0
                               have q0 := HV10.out.cell 0
                               have s0 := HV10.out.free 0
                               have r1 := HS10.out.cell 1
                               have q1 := HV10.out.cell 1
                               have s1 := HV10.out.free 1
                               have r2 := HS10.out.cell 2
                               have q2 := HV10.out.cell 2
                               have s2 := HV10.out.free 2
                               have r3 := HS10.out.cell 3
                               have q3 := HV10.out.cell 3
                               have s3 := HV10.out.free 3
                               have r4 := HS10.out.cell 4
                               have q4 := HV10.out.cell 4
                               have s4 := HV10.out.free 4
                               have r5 := HS10.out.cell 5
                               have q5 := HV10.out.cell 5
                               have s5 := HV10.out.free 5
                               have r6 := HS10.out.cell 6
                               have q6 := HV10.out.cell 6
                               have s6 := HV10.out.free 6
                               have f6 := HS10.out.free 6
                               have ls10 : w.heap.size < w10.heap.size := by omega
                               have lv10 : w.heap.size + 2 < w10.heap.size := by omega
                               have hne : ¬ w.heap.size = w.heap.size + 2 := by omega
                               have HF := Lib.hid (show (((((((((w10.setCell ⟨w.heap.size, 6, none⟩ (.slice A10 (bc + 1) c10)).setCell ⟨w.heap.size + 2, 0, none⟩ (.int .i64 a1)).setCell ⟨w.heap.size + 2, 1, none⟩ (.int .i64 a2)).setCell ⟨w.heap.size + 2, 2, none⟩ (.int .i64 a3)).setCell ⟨w.heap.size + 2, 3, none⟩ (.int .i64 a4)).setCell ⟨w.heap.size + 2, 4, none⟩ (.slice (some ⟨g, o, none⟩) pn pc)).setCell ⟨w.heap.size + 2, 5, none⟩ (.slice (some ⟨gt, ot, none⟩) n c)).setCell ⟨w.heap.size + 2, 6, none⟩ (.slice A10 (bc + 1) c10))).ownsRow (w.heap.size + 3) 56 5 (.slice A10 (bc + 1) c10) (bc + 1) (sbC (insN ltB m ⟨qw, qt, ql, qd, false⟩)) ∧ Below w.heap.size w ((((((((w10.setCell ⟨w.heap.size, 6, none⟩ (.slice A10 (bc + 1) c10)).setCell ⟨w.heap.size + 2, 0, none⟩ (.int .i64 a1)).setCell ⟨w.heap.size + 2, 1, none⟩ (.int .i64 a2)).setCell ⟨w.heap.size + 2, 2, none⟩ (.int .i64 a3)).setCell ⟨w.heap.size + 2, 3, none⟩ (.int .i64 a4)).setCell ⟨w.heap.size + 2, 4, none⟩ (.slice (some ⟨g, o, none⟩) pn pc)).setCell ⟨w.heap.size + 2, 5, none⟩ (.slice (some ⟨gt, ot, none⟩) n c)).setCell ⟨w.heap.size + 2, 6, none⟩ (.slice A10 (bc + 1) c10)) from by
                                have HB10 : Below w.heap.size w w10 := HB.out.trans (HB10.out.mono (by omega))
                                refine ⟨?_, (Below.setCell (p := ⟨w.heap.size + 2, 6, none⟩) (Below.setCell (p := ⟨w.heap.size + 2, 5, none⟩) (Below.setCell (p := ⟨w.heap.size + 2, 4, none⟩) (Below.setCell (p := ⟨w.heap.size + 2, 3, none⟩) (Below.setCell (p := ⟨w.heap.size + 2, 2, none⟩) (Below.setCell (p := ⟨w.heap.size + 2, 1, none⟩) (Below.setCell (p := ⟨w.heap.size + 2, 0, none⟩) (Below.setCell (p := ⟨w.heap.size, 6, none⟩) HB10 (Nat.le_refl _) (.slice A10 (bc + 1) c10)) (by show w.heap.size ≤ w.heap.size + 2; omega) (.int .i64 a1)) (by show w.heap.size ≤ w.heap.size + 2; omega) (.int .i64 a2)) (by show w.heap.size ≤ w.heap.size + 2; omega) (.int .i64 a3)) (by show w.heap.size ≤ w.heap.size + 2; omega) (.int .i64 a4)) (by show w.heap.size ≤ w.heap.size + 2; omega) (.slice (some ⟨g, o, none⟩) pn pc)) (by show w.heap.size ≤ w.heap.size + 2; omega) (.slice (some ⟨gt, ot, none⟩) n c)) (by show w.heap.size ≤ w.heap.size + 2; omega) (.slice A10 (bc + 1) c10))⟩
                                have h := own_base HO10.out (show w.heap.size + 3 ≤ wr.heap.size by omega)
                                have fq : ∀ q, (Value.slice A10 (bc + 1) c10).ownBlock = some q → ¬ (q = w.heap.size ∨ q = w.heap.size + 2) := fun q hq => by have := (h.lt q hq).1; omega
                                exact own_farX (own_farX (own_farX (own_farX (own_farX (own_farX (own_farX (own_farX h (fun q hq e => fq q hq (.inl e.symm))) (fun q hq e => fq q hq (.inr e.symm))) (fun q hq e => fq q hq (.inr e.symm))) (fun q hq e => fq q hq (.inr e.symm))) (fun q hq e => fq q hq (.inr e.symm))) (fun q hq e => fq q hq (.inr e.symm))) (fun q hq e => fq q hq (.inr e.symm))) (fun q hq e => fq q hq (.inr e.symm)))
                               clear hown10 hg10 HO10 HB10 HV9 HB9 hL9 HINS HS9 HS10 HV10 HB HS HQ HV HRr
                               go_wp2_with fail
                               exact bodyPost_ret (v := .tuple #[.agg #[.int .i64 a1, .int .i64 a2, .int .i64 a3, .int .i64 a4, .slice (some ⟨g, o, none⟩) pn pc, .slice (some ⟨gt, ot, none⟩) n c, .slice A10 (bc + 1) c10], .int .i64 0]) (by simp [results, Try.results28, go_sem, q0, q1, q2, q3, q4, q5, q6, lv10]) rfl ⟨HF.out.2, .inr ⟨HE.out, A10, c10, rfl, HF.out.1⟩⟩
                             · have hcj' : ¬ bn = bc := fun h => hcj h.symm
                               go_wp2_with (at_builtin; refine wpl_append _ rfl (.tmp 159) (.tmp 163) 35 rfl wr.heap.size 56 (.agg #[.int .i64 0, .int .i64 0, .int .i64 0, .int .i64 0, .bool false]) 5 40 Try.underlying35 info_B18 rfl (by decide) v9 (bn + 1) _ rfl HV9.out 0 _ 0 _ [] rfl Row.nil (by simp) ?zc31 ?zc32 ?zc33 ?_)
                               try (case zc31 => unfold maxLen; omega)
                               try (case zc32 => omega)
                               try (case zc33 => exact hz9)
                               intro v10 w10 hown10 hg10 _
                               have HO10 := Lib.hid (show w10.ownsRow wr.heap.size 56 5 v10 (bn + 1) (sbC (insN ltB m ⟨qw, qt, ql, qd, false⟩)) by
                                rw [HINS.out]
                                first | (simpa using hown10; done) | (simpa [sbC] using hown10))
                               have HB10 := Lib.hid (show Below wr.heap.size wr w10 from HB9.out.grown hg10 (by omega) (fun q hq => hL9.out q hq))
                               obtain ⟨A10, c10, rfl⟩ := own_form HO10.out
                               have hz10 := HB10.out.size
                               have HS10 := Lib.hid (Whole.below HS.out HB10.out ls)
                               have HV10 := Lib.hid (Whole.below HV.out HB10.out lv)
                               have r0 := HS10.out.cell 0
                               have q0 := HV10.out.cell 0
                               have s0 := HV10.out.free 0
                               have r1 := HS10.out.cell 1
                               have q1 := HV10.out.cell 1
                               have s1 := HV10.out.free 1
                               have r2 := HS10.out.cell 2
                               have q2 := HV10.out.cell 2
                               have s2 := HV10.out.free 2
                               have r3 := HS10.out.cell 3
                               have q3 := HV10.out.cell 3
                               have s3 := HV10.out.free 3
                               have r4 := HS10.out.cell 4
                               have q4 := HV10.out.cell 4
                               have s4 := HV10.out.free 4
                               have r5 := HS10.out.cell 5
                               have q5 := HV10.out.cell 5
                               have s5 := HV10.out.free 5
                               have r6 := HS10.out.cell 6
                               have q6 := HV10.out.cell 6
                               have s6 := HV10.out.free 6
                               have f6 := HS10.out.free 6
                               have ls10 : w.heap.size < w10.heap.size := by omega
                               have lv10 : w.heap.size + 2 < w10.heap.size := by omega
                               have hne : ¬ w.heap.size = w.heap.size + 2 := by omega
                               have HF := Lib.hid (show (((((((((w10.setCell ⟨w.heap.size, 6, none⟩ (.slice A10 (bn + 1) c10)).setCell ⟨w.heap.size + 2, 0, none⟩ (.int .i64 a1)).setCell ⟨w.heap.size + 2, 1, none⟩ (.int .i64 a2)).setCell ⟨w.heap.size + 2, 2, none⟩ (.int .i64 a3)).setCell ⟨w.heap.size + 2, 3, none⟩ (.int .i64 a4)).setCell ⟨w.heap.size + 2, 4, none⟩ (.slice (some ⟨g, o, none⟩) pn pc)).setCell ⟨w.heap.size + 2, 5, none⟩ (.slice (some ⟨gt, ot, none⟩) n c)).setCell ⟨w.heap.size + 2, 6, none⟩ (.slice A10 (bn + 1) c10))).ownsRow (w.heap.size + 3) 56 5 (.slice A10 (bn + 1) c10) (bn + 1) (sbC (insN ltB m ⟨qw, qt, ql, qd, false⟩)) ∧ Below w.heap.size w ((((((((w10.setCell ⟨w.heap.size, 6, none⟩ (.slice A10 (bn + 1) c10)).setCell ⟨w.heap.size + 2, 0, none⟩ (.int .i64 a1)).setCell ⟨w.heap.size + 2, 1, none⟩ (.int .i64 a2)).setCell ⟨w.heap.size + 2, 2, none⟩ (.int .i64 a3)).setCell ⟨w.heap.size + 2, 3, none⟩ (.int .i64 a4)).setCell ⟨w.heap.size + 2, 4, none⟩ (.slice (some ⟨g, o, none⟩) pn pc)).setCell ⟨w.heap.size + 2, 5, none⟩ (.slice (some ⟨gt, ot, none⟩) n c)).setCell ⟨w.heap.size + 2, 6, none⟩ (.slice A10 (bn + 1) c10)) from by
                                have HB10 : Below w.heap.size w w10 := HB.out.trans (HB10.out.mono (by omega))
                                refine ⟨?_, (Below.setCell (p := ⟨w.heap.size + 2, 6, none⟩) (Below.setCell (p := ⟨w.heap.size + 2, 5, none⟩) (Below.setCell (p := ⟨w.heap.size + 2, 4, none⟩) (Below.setCell (p := ⟨w.heap.size + 2, 3, none⟩) (Below.setCell (p := ⟨w.heap.size + 2, 2, none⟩) (Below.setCell (p := ⟨w.heap.size + 2, 1, none⟩) (Below.setCell (p := ⟨w.heap.size + 2, 0, none⟩) (Below.setCell (p := ⟨w.heap.size, 6, none⟩) HB10 (Nat.le_refl _) (.slice A10 (bn + 1) c10)) (by show w.heap.size ≤ w.heap.size + 2; omega) (.int .i64 a1)) (by show w.heap.size ≤ w.heap.size + 2; omega) (.int .i64 a2)) (by show w.heap.size ≤ w.heap.size + 2; omega) (.int .i64 a3)) (by show w.heap.size ≤ w.heap.size + 2; omega) (.int .i64 a4)) (by show w.heap.size ≤ w.heap.size + 2; omega) (.slice (some ⟨g, o, none⟩) pn pc)) (by show w.heap.size ≤ w.heap.size + 2; omega) (.slice (some ⟨gt, ot, none⟩) n c)) (by show w.heap.size ≤ w.heap.size + 2; omega) (.slice A10 (bn + 1) c10))⟩
                                have h := own_base HO10.out (show w.heap.size + 3 ≤ wr.heap.size by omega)
                                have fq : ∀ q, (Value.slice A10 (bn + 1) c10).ownBlock = some q → ¬ (q = w.heap.size ∨ q = w.heap.size + 2) := fun q hq => by have := (h.lt q hq).1; omega
                                exact own_farX (own_farX (own_farX (own_farX (own_farX (own_farX (own_farX (own_farX h (fun q hq e => fq q hq (.inl e.symm))) (fun q hq e => fq q hq (.inr e.symm))) (fun q hq e => fq q hq (.inr e.symm))) (fun q hq e => fq q hq (.inr e.symm))) (fun q hq e => fq q hq (.inr e.symm))) (fun q hq e => fq q hq (.inr e.symm))) (fun q hq e => fq q hq (.inr e.symm))) (fun q hq e => fq q hq (.inr e.symm)))
                               clear hown10 hg10 HO10 HB10 HV9 HB9 hL9 HINS HS9 HS10 HV10 HB HS HQ HV HRr
                               go_wp2_with fail
                               exact bodyPost_ret (v := .tuple #[.agg #[.int .i64 a1, .int .i64 a2, .int .i64 a3, .int .i64 a4, .slice (some ⟨g, o, none⟩) pn pc, .slice (some ⟨gt, ot, none⟩) n c, .slice A10 (bn + 1) c10], .int .i64 0]) (by simp [results, Try.results28, go_sem, q0, q1, q2, q3, q4, q5, q6, lv10]) rfl ⟨HF.out.2, .inr ⟨HE.out, A10, c10, rfl, HF.out.1⟩⟩
                           · have hPl : PP < bn := by omega
                             go_upto_region 27 with fail
                             have HSRC := Lib.hid (show Row wr w.heap.size 5 (some ⟨gb, ob, none⟩) PP (sbC (m.take PP)) by unfold sbC; rw [flat_take (z := 5) (fun _ => rfl)]; have h := HRr.out; rw [HBN.out] at h; exact row_take h (by omega))
                             go_wp2_with (at_builtin; refine wpl_append _ rfl (.tmp 141) (.tmp 145) 35 rfl wr.heap.size 56 (.agg #[.int .i64 0, .int .i64 0, .int .i64 0, .int .i64 0, .bool false]) 5 40 Try.underlying35 info_B18 rfl (by decide) (.slice none 0 0) 0 [] rfl (World.ownsRow_nil _ _ _ _) w.heap.size (some ⟨gb, ob, none⟩) PP bc (sbC (m.take PP)) rfl HSRC.out (flat_one sb_one _) ?za11 ?za12 ?za13 ?_)
                             try (case za11 => unfold maxLen; omega)
                             try (case za12 => omega)
                             try (case za13 => exact Nat.le_refl _)
                             intro v8 w8 hown8 hg8 hv8
                             have HB8 := Lib.hid (show Below wr.heap.size wr w8 from ⟨hg8.os, hg8.tape, hg8.output, hg8.size, fun k hk => hg8.block k hk (by simp [Value.ownBlock])⟩)
                             have HV8 := Lib.hid hown8
                             have hz8 := hg8.size
                             have HQ8 := Lib.hid (Whole.below HQ.out HB8.out lq)
                             have p1 := HQ8.out.cell 1
                             have p4 := HQ8.out.cell 4
                             have p6 := HQ8.out.cell 6
                             have p7 := HQ8.out.cell 7
                             have lq8 : w.heap.size + 1 < w8.heap.size := by omega
                             have HW8 := Lib.hid (Row.fresh w8 56 #[.int .i64 qw, .int .i64 qt, .int .i64 ql, .int .i64 qd, .bool false] 5 1 [.int .i64 qw, .int .i64 qt, .int .i64 ql, .int .i64 qd, .bool false] rfl rfl)
                             have hL8 := Lib.hid (fun q hq => (HV8.out.lt q hq).1)
                             clear hown8 hg8 hv8 r0 r1 r2 r3 r4 r5 r6 HSRC
                             go_wp2_with (at_builtin; refine wpl_append _ rfl (.tmp 147) (.tmp 157) 35 rfl wr.heap.size 56 (.agg #[.int .i64 0, .int .i64 0, .int .i64 0, .int .i64 0, .bool false]) 5 40 Try.underlying35 info_B18 rfl (by decide) v8 PP (sbC (m.take PP)) rfl (HV8.out.alloc _) _ (some ⟨w8.heap.size, 0, none⟩) 1 1 [.int .i64 qw, .int .i64 qt, .int .i64 ql, .int .i64 qd, .bool false] rfl HW8.out (by simp [Value.oneCell']) ?zb11 ?zb12 ?zb13 ?_)
                             try (case zb11 => unfold maxLen; omega)
                             try (case zb12 => omega)
                             try (case zb13 => first | omega | (simp; omega))
                             intro v9 w9 hown9 hg9 hv9
                             have HB9 := Lib.hid (show Below wr.heap.size wr w9 from (HB8.out.alloc HB8.out.size _).grown hg9 (by simp; omega) (fun q hq => hL8.out q hq))
                             have HV9 := Lib.hid hown9
                             have hL9 := Lib.hid (fun q hq => (HV9.out.lt q hq).1)
                             have hz9 := HB9.out.size
                             have HS9 := Lib.hid (Whole.below HS.out HB9.out ls)
                             have r6 := HS9.out.cell 6
                             have ls9 : w.heap.size < w9.heap.size := by omega
                             clear hown9 hg9 hv9 HV8 HW8 hL8 HB8 HQ8 p1 p4 p6 p7
                             have HD9 := Lib.hid (show Row w9 w.heap.size 5 (some ⟨gb, ob + PP * 5, none⟩) (bn - PP) (sbC (m.drop PP)) by unfold sbC; rw [flat_drop (z := 5) (fun _ => rfl)]; have h := HRr.out.below (HB9.out.mono (by omega) : Below w.heap.size wr w9) (Nat.le_refl _); rw [HBN.out] at h; exact row_drop h (by omega))
                             have HINS := Lib.hid (show sbC (insN ltB m ⟨qw, qt, ql, qd, false⟩) = (sbC (m.take PP) ++ [.int .i64 qw, .int .i64 qt, .int .i64 ql, .int .i64 qd, .bool false]) ++ sbC (m.drop PP) by
                              unfold insN; rw [HPP.out]; unfold sbC; rw [flat_append, List.append_assoc]; rfl)
                             have hcj : ¬ bc = PP := by omega
                             have hcj' : ¬ PP = bc := by omega
                             go_wp2_with (at_builtin; refine wpl_append _ rfl (.tmp 159) (.tmp 163) 35 rfl wr.heap.size 56 (.agg #[.int .i64 0, .int .i64 0, .int .i64 0, .int .i64 0, .bool false]) 5 40 Try.underlying35 info_B18 rfl (by decide) v9 (PP + 1) ((sbC (m.take PP)) ++ [.int .i64 qw, .int .i64 qt, .int .i64 ql, .int .i64 qd, .bool false]) rfl HV9.out w.heap.size (some ⟨gb, ob + PP * 5, none⟩) (bn - PP) (bc - PP) (sbC (m.drop PP)) rfl HD9.out (flat_one sb_one _) ?zc11 ?zc12 ?zc13 ?_)
                             try (case zc11 => unfold maxLen; omega)
                             try (case zc12 => omega)
                             try (case zc13 => exact hz9)
                             intro v10 w10 hown10 hg10 _
                             have HO10 := Lib.hid (show w10.ownsRow wr.heap.size 56 5 v10 (bn + 1) (sbC (insN ltB m ⟨qw, qt, ql, qd, false⟩)) by
                              rw [HINS.out, ← (show PP + 1 + (bn - PP) = bn + 1 by omega)]
                              simpa only [List.append_assoc, List.cons_append, List.nil_append] using hown10)
                             have HB10 := Lib.hid (show Below wr.heap.size wr w10 from HB9.out.grown hg10 (by omega) (fun q hq => hL9.out q hq))
                             obtain ⟨A10, c10, rfl⟩ := own_form HO10.out
                             have hz10 := HB10.out.size
                             have HS10 := Lib.hid (Whole.below HS.out HB10.out ls)
                             have HV10 := Lib.hid (Whole.below HV.out HB10.out lv)
                             have r0 := HS10.out.cell 0
                             have q0 := HV10.out.cell 0
                             have s0 := HV10.out.free 0
                             have r1 := HS10.out.cell 1
                             have q1 := HV10.out.cell 1
                             have s1 := HV10.out.free 1
                             have r2 := HS10.out.cell 2
                             have q2 := HV10.out.cell 2
                             have s2 := HV10.out.free 2
                             have r3 := HS10.out.cell 3
                             have q3 := HV10.out.cell 3
                             have s3 := HV10.out.free 3
                             have r4 := HS10.out.cell 4
                             have q4 := HV10.out.cell 4
                             have s4 := HV10.out.free 4
                             have r5 := HS10.out.cell 5
                             have q5 := HV10.out.cell 5
                             have s5 := HV10.out.free 5
                             have r6 := HS10.out.cell 6
                             have q6 := HV10.out.cell 6
                             have s6 := HV10.out.free 6
                             have f6 := HS10.out.free 6
                             have ls10 : w.heap.size < w10.heap.size := by omega
                             have lv10 : w.heap.size + 2 < w10.heap.size := by omega
                             have hne : ¬ w.heap.size = w.heap.size + 2 := by omega
                             have HF := Lib.hid (show (((((((((w10.setCell ⟨w.heap.size, 6, none⟩ (.slice A10 (bn + 1) c10)).setCell ⟨w.heap.size + 2, 0, none⟩ (.int .i64 a1)).setCell ⟨w.heap.size + 2, 1, none⟩ (.int .i64 a2)).setCell ⟨w.heap.size + 2, 2, none⟩ (.int .i64 a3)).setCell ⟨w.heap.size + 2, 3, none⟩ (.int .i64 a4)).setCell ⟨w.heap.size + 2, 4, none⟩ (.slice (some ⟨g, o, none⟩) pn pc)).setCell ⟨w.heap.size + 2, 5, none⟩ (.slice (some ⟨gt, ot, none⟩) n c)).setCell ⟨w.heap.size + 2, 6, none⟩ (.slice A10 (bn + 1) c10))).ownsRow (w.heap.size + 3) 56 5 (.slice A10 (bn + 1) c10) (bn + 1) (sbC (insN ltB m ⟨qw, qt, ql, qd, false⟩)) ∧ Below w.heap.size w ((((((((w10.setCell ⟨w.heap.size, 6, none⟩ (.slice A10 (bn + 1) c10)).setCell ⟨w.heap.size + 2, 0, none⟩ (.int .i64 a1)).setCell ⟨w.heap.size + 2, 1, none⟩ (.int .i64 a2)).setCell ⟨w.heap.size + 2, 2, none⟩ (.int .i64 a3)).setCell ⟨w.heap.size + 2, 3, none⟩ (.int .i64 a4)).setCell ⟨w.heap.size + 2, 4, none⟩ (.slice (some ⟨g, o, none⟩) pn pc)).setCell ⟨w.heap.size + 2, 5, none⟩ (.slice (some ⟨gt, ot, none⟩) n c)).setCell ⟨w.heap.size + 2, 6, none⟩ (.slice A10 (bn + 1) c10)) from by
                              have HB10 : Below w.heap.size w w10 := HB.out.trans (HB10.out.mono (by omega))
                              refine ⟨?_, (Below.setCell (p := ⟨w.heap.size + 2, 6, none⟩) (Below.setCell (p := ⟨w.heap.size + 2, 5, none⟩) (Below.setCell (p := ⟨w.heap.size + 2, 4, none⟩) (Below.setCell (p := ⟨w.heap.size + 2, 3, none⟩) (Below.setCell (p := ⟨w.heap.size + 2, 2, none⟩) (Below.setCell (p := ⟨w.heap.size + 2, 1, none⟩) (Below.setCell (p := ⟨w.heap.size + 2, 0, none⟩) (Below.setCell (p := ⟨w.heap.size, 6, none⟩) HB10 (Nat.le_refl _) (.slice A10 (bn + 1) c10)) (by show w.heap.size ≤ w.heap.size + 2; omega) (.int .i64 a1)) (by show w.heap.size ≤ w.heap.size + 2; omega) (.int .i64 a2)) (by show w.heap.size ≤ w.heap.size + 2; omega) (.int .i64 a3)) (by show w.heap.size ≤ w.heap.size + 2; omega) (.int .i64 a4)) (by show w.heap.size ≤ w.heap.size + 2; omega) (.slice (some ⟨g, o, none⟩) pn pc)) (by show w.heap.size ≤ w.heap.size + 2; omega) (.slice (some ⟨gt, ot, none⟩) n c)) (by show w.heap.size ≤ w.heap.size + 2; omega) (.slice A10 (bn + 1) c10))⟩
                              have h := own_base HO10.out (show w.heap.size + 3 ≤ wr.heap.size by omega)
                              have fq : ∀ q, (Value.slice A10 (bn + 1) c10).ownBlock = some q → ¬ (q = w.heap.size ∨ q = w.heap.size + 2) := fun q hq => by have := (h.lt q hq).1; omega
                              exact own_farX (own_farX (own_farX (own_farX (own_farX (own_farX (own_farX (own_farX h (fun q hq e => fq q hq (.inl e.symm))) (fun q hq e => fq q hq (.inr e.symm))) (fun q hq e => fq q hq (.inr e.symm))) (fun q hq e => fq q hq (.inr e.symm))) (fun q hq e => fq q hq (.inr e.symm))) (fun q hq e => fq q hq (.inr e.symm))) (fun q hq e => fq q hq (.inr e.symm))) (fun q hq e => fq q hq (.inr e.symm)))
                             clear hown10 hg10 HO10 HB10 HV9 HB9 hL9 HINS HS9 HS10 HV10 HB HS HQ HV HRr
                             go_wp2_with fail
                             exact bodyPost_ret (v := .tuple #[.agg #[.int .i64 a1, .int .i64 a2, .int .i64 a3, .int .i64 a4, .slice (some ⟨g, o, none⟩) pn pc, .slice (some ⟨gt, ot, none⟩) n c, .slice A10 (bn + 1) c10], .int .i64 0]) (by simp [results, Try.results28, go_sem, q0, q1, q2, q3, q4, q5, q6, lv10]) rfl ⟨HF.out.2, .inr ⟨HE.out, A10, c10, rfl, HF.out.1⟩⟩
      · have t1 : (orm != pr) = true := by simp [hroom]
        go_region_held3 (fun w' => w'.cell? ⟨w.heap.size, 0, none⟩ = some (.int .i64 a1) ∧ w'.cell? ⟨w.heap.size, 1, none⟩ = some (.int .i64 a2) ∧ w'.cell? ⟨w.heap.size, 2, none⟩ = some (.int .i64 a3) ∧ w'.cell? ⟨w.heap.size, 3, none⟩ = some (.int .i64 a4) ∧ w'.cell? ⟨w.heap.size, 4, none⟩ = some (.slice (some ⟨g, o, none⟩) pn pc) ∧ w'.cell? ⟨w.heap.size, 5, none⟩ = some (.slice (some ⟨gt, ot, none⟩) n c) ∧ w'.cell? ⟨w.heap.size, 6, none⟩ = some (.slice B bn bc) ∧ w'.cell? ⟨gp, 1, none⟩ = some (.int .i64 pr) ∧ w'.cell? ⟨gt, ot + i * 4 + 1, none⟩ = some (.int .i64 xo) ∧ w'.cell? ⟨g, o + io * 3 + 1, none⟩ = some (.int .i64 orm) ∧ Below v1.heap.size v1 w')
         (first | exact KS.out _ (Below.refl _ _).drew | exact KS.out _ B8 | exact ‹_ ∧ _ ∧ _ ∧ _ ∧ _ ∧ _ ∧ _ ∧ _ ∧ _ ∧ _ ∧ Below _ _ _› | go_keep)
         (first | (go_at_call 24; with_reducible refine (CO.out _ ?_).mono ?_; (exact HB.out.trans (((‹_ ∧ _ ∧ _ ∧ _ ∧ _ ∧ _ ∧ _ ∧ _ ∧ _ ∧ _ ∧ Below _ _ _›).2.2.2.2.2.2.2.2.2.2).mono (by omega))); rintro e w8 ⟨rfl, b8⟩; have B8 := ((‹_ ∧ _ ∧ _ ∧ _ ∧ _ ∧ _ ∧ _ ∧ _ ∧ _ ∧ _ ∧ Below _ _ _›).2.2.2.2.2.2.2.2.2.2).trans (b8.mono ((‹_ ∧ _ ∧ _ ∧ _ ∧ _ ∧ _ ∧ _ ∧ _ ∧ _ ∧ _ ∧ Below _ _ _›).2.2.2.2.2.2.2.2.2.2).size)))
        clear KS CO b8 C1 C2 lg2 lg1 t1
        have HWPn := Lib.hid (Whole.below HWP.out B8 lp)
        have lpn : gp < w8.heap.size := by have := (B8).size; omega
        clear d0 d1 d2 HWP lp
        have HWP := Lib.hid HWPn.out
        have lp := lpn
        clear HWPn lpn
        have d0 := HWP.out.cell 0
        have d1 := HWP.out.cell 1
        have d2 := HWP.out.cell 2

        have HSn := Lib.hid (Whole.below HS.out B8 ls)
        have HQn := Lib.hid (Whole.below HQ.out B8 lq)
        have HVn := Lib.hid (Whole.below HV.out B8 lv)
        have HBn := Lib.hid (HB.out.trans ((B8).mono (by omega)))
        have lsn : w.heap.size < w8.heap.size := by have := (B8).size; omega
        have lqn : w.heap.size + 1 < w8.heap.size := by have := (B8).size; omega
        have lvn : w.heap.size + 2 < w8.heap.size := by have := (B8).size; omega
        clear r0 r1 r2 r3 r4 r5 r6 p0 p1 p2 p3 p4 p5 p6 p7 HS HQ HV HB ls lq lv
        have HS := Lib.hid HSn.out
        have HQ := Lib.hid HQn.out
        have HV := Lib.hid HVn.out
        have HB := Lib.hid HBn.out
        have ls := lsn
        have lq := lqn
        have lv := lvn
        clear HSn HQn HVn HBn lsn lqn lvn
        have r0 := HS.out.cell 0
        have r1 := HS.out.cell 1
        have r2 := HS.out.cell 2
        have r3 := HS.out.cell 3
        have r4 := HS.out.cell 4
        have r5 := HS.out.cell 5
        have r6 := HS.out.cell 6
        have p0 := HQ.out.cell 0
        have p1 := HQ.out.cell 1
        have p2 := HQ.out.cell 2
        have p3 := HQ.out.cell 3
        have p4 := HQ.out.cell 4
        have p5 := HQ.out.cell 5
        have p6 := HQ.out.cell 6
        have p7 := HQ.out.cell 7
        clear B8
        have q0 := HV.out.cell 0; have g0 := HV.out.free 0; have q1 := HV.out.cell 1; have g1 := HV.out.free 1; have q2 := HV.out.cell 2; have g2 := HV.out.free 2; have q3 := HV.out.cell 3; have g3 := HV.out.free 3; have q4 := HV.out.cell 4; have g4 := HV.out.free 4; have q5 := HV.out.cell 5; have g5 := HV.out.free 5; have q6 := HV.out.cell 6; have g6 := HV.out.free 6
        have HE := Lib.hid (show subE a3 a4 pl ⟨pw, pr, pg⟩ l m ⟨qk, qw, qr, qg, qt, qs, ql, qd⟩ = 24 from by unfold subE; rw [if_neg h24]; dsimp only; rw [HFX.out]; dsimp only; rw [HRM.out, if_pos (fun e => hroom (by injection e))])
        have HF := Lib.hid (show Below w.heap.size w (((((((w8.setCell ⟨w.heap.size + 2, 0, none⟩ (.int .i64 a1)).setCell ⟨w.heap.size + 2, 1, none⟩ (.int .i64 a2)).setCell ⟨w.heap.size + 2, 2, none⟩ (.int .i64 a3)).setCell ⟨w.heap.size + 2, 3, none⟩ (.int .i64 a4)).setCell ⟨w.heap.size + 2, 4, none⟩ (.slice (some ⟨g, o, none⟩) pn pc)).setCell ⟨w.heap.size + 2, 5, none⟩ (.slice (some ⟨gt, ot, none⟩) n c)).setCell ⟨w.heap.size + 2, 6, none⟩ (.slice B bn bc)) from (Below.setCell (p := ⟨w.heap.size + 2, 6, none⟩) (Below.setCell (p := ⟨w.heap.size + 2, 5, none⟩) (Below.setCell (p := ⟨w.heap.size + 2, 4, none⟩) (Below.setCell (p := ⟨w.heap.size + 2, 3, none⟩) (Below.setCell (p := ⟨w.heap.size + 2, 2, none⟩) (Below.setCell (p := ⟨w.heap.size + 2, 1, none⟩) (Below.setCell (p := ⟨w.heap.size + 2, 0, none⟩) (HB.out) (by show w.heap.size ≤ w.heap.size + 2; omega) (.int .i64 a1)) (by show w.heap.size ≤ w.heap.size + 2; omega) (.int .i64 a2)) (by show w.heap.size ≤ w.heap.size + 2; omega) (.int .i64 a3)) (by show w.heap.size ≤ w.heap.size + 2; omega) (.int .i64 a4)) (by show w.heap.size ≤ w.heap.size + 2; omega) (.slice (some ⟨g, o, none⟩) pn pc)) (by show w.heap.size ≤ w.heap.size + 2; omega) (.slice (some ⟨gt, ot, none⟩) n c)) (by show w.heap.size ≤ w.heap.size + 2; omega) (.slice B bn bc)))
        clear HB
        go_wp2_with fail
        exact bodyPost_ret (v := .tuple #[.agg #[.int .i64 a1, .int .i64 a2, .int .i64 a3, .int .i64 a4, .slice (some ⟨g, o, none⟩) pn pc, .slice (some ⟨gt, ot, none⟩) n c, .slice B bn bc], .int .i64 24]) (by simp [results, Try.results28, go_sem, q0, q1, q2, q3, q4, q5, q6, lv]) rfl ⟨HF.out, .inl ⟨by rw [HE.out]; decide, by rw [HE.out]⟩⟩
end Go.Proofs.Ytmmeceehfdbdoaa
