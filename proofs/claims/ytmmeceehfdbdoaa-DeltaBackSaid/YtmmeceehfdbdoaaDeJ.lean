/-
 Contract of the document's join (layer 18).
-/
import Derived.Test.YtmmeceehfdbdoaaDeW
namespace Go.Proofs.Ytmmeceehfdbdoaa
open Go.RowKit
open Dl
set_option linter.unusedSimpArgs false
set_option linter.unusedVariables false
set_option maxRecDepth 100000

namespace Dl
def joinE (a : Int) (l : List Pn) (q : Rq) : Int :=
 if q.who < 1 ∨ 999 < q.who ∨ q.room < 1 ∨ 9 < q.room ∨ q.rights < 0 ∨ 3 < q.rights then 1
 else if (l.find? (isP q.who)).isSome = true then 22
 else if a ≤ l.length then 20 else 0
theorem find_ix {α : Type} {f : α → Bool} {l : List α} : (l.find? f).isSome = true ↔ 0 ≤ ixS f l := by
 rw [← ixS_low, List.find?_isSome, List.any_eq_true]
theorem tw_lt {α : Type} {f : α → Bool} : ∀ {l : List α} {j : Nat} {z : α}, j < (l.takeWhile f).length → l[j]? = some z → f z = true
 | [], j, z, h, hz => by simp at hz
 | a :: l, j, z, h, hz => by
  rw [List.takeWhile_cons] at h
  cases e : f a with
  | true =>
   rw [e, if_pos rfl, List.length_cons] at h
   cases j with
   | zero => simp at hz; subst hz; exact e
   | succ j => exact tw_lt (l := l) (j := j) (by omega) (by simpa using hz)
  | false => rw [e] at h; simp at h
theorem tw_at {α : Type} {f : α → Bool} : ∀ {l : List α} {z : α}, l[(l.takeWhile f).length]? = some z → f z = false
 | [], z, hz => by simp at hz
 | a :: l, z, hz => by
  rw [List.takeWhile_cons] at hz
  cases e : f a with
  | true =>
   rw [e, if_pos rfl, List.length_cons, List.getElem?_cons_succ] at hz
   exact tw_at (l := l) hz
  | false =>
   rw [e] at hz
   simp at hz
   subst hz
   exact e
theorem tw_le {α : Type} (f : α → Bool) (l : List α) : (l.takeWhile f).length ≤ l.length := (List.takeWhile_sublist f).length_le
theorem insK_at {α : Type} {lt : α → α → Bool} (l : List α) (x : α) : insK lt l x = l.take (l.takeWhile fun z => lt z x).length ++ x :: l.drop (l.takeWhile fun z => lt z x).length := by
 have e := List.takeWhile_append_dropWhile (p := fun z => lt z x) (l := l)
 have h1 : l.take (l.takeWhile fun z => lt z x).length = l.takeWhile fun z => lt z x := by
  have := List.take_left' (l₁ := l.takeWhile fun z => lt z x) (l₂ := l.dropWhile fun z => lt z x) rfl
  rwa [e] at this
 have h2 : l.drop (l.takeWhile fun z => lt z x).length = l.dropWhile fun z => lt z x := by
  have := List.drop_left' (l₁ := l.takeWhile fun z => lt z x) (l₂ := l.dropWhile fun z => lt z x) rfl
  rwa [e] at this
 rw [h1, h2]; rfl
theorem flat_take {α : Type} {f : α → List Value} {z : Nat} (hf : ∀ x, (f x).length = z) : ∀ (l : List α) (k : Nat), ((l.take k).map f).flatten = ((l.map f).flatten).take (k * z)
 | [], k => by simp
 | a :: l, 0 => by simp
 | a :: l, k + 1 => by
  rw [List.take_succ_cons, List.map_cons, List.flatten_cons, List.map_cons, List.flatten_cons, flat_take hf l k, List.take_append, hf, Nat.succ_mul, Nat.add_sub_cancel]
  rw [List.take_of_length_le (show (f a).length ≤ k * z + z by rw [hf]; omega)]
theorem flat_drop {α : Type} {f : α → List Value} {z : Nat} (hf : ∀ x, (f x).length = z) : ∀ (l : List α) (k : Nat), ((l.drop k).map f).flatten = ((l.map f).flatten).drop (k * z)
 | [], k => by simp
 | a :: l, 0 => by simp
 | a :: l, k + 1 => by
  rw [List.drop_succ_cons, List.map_cons, List.flatten_cons, flat_drop hf l k, List.drop_append, hf, Nat.succ_mul, Nat.add_sub_cancel]
  rw [List.drop_of_length_le (show (f a).length ≤ k * z + z by rw [hf]; omega), List.nil_append]
theorem flat_one {α : Type} {f : α → List Value} (h : ∀ x, ∀ u ∈ f x, u.oneCell' = true) (l : List α) : ∀ u ∈ (l.map f).flatten, u.oneCell' = true := by
 intro u hu
 obtain ⟨y, hy, hu⟩ := List.mem_flatten.mp hu
 obtain ⟨x, _, rfl⟩ := List.mem_map.mp hy
 exact h x u hu
theorem row_take {w : World} {B z n k : Nat} {A : Option Addr} {xs : List Value} (h : Row w B z A n xs) (hk : k ≤ n) : Row w B z A k (xs.take (k * z)) := by
 have hl := h.1
 have hkz : k * z ≤ n * z := Nat.mul_le_mul_right z hk
 refine ⟨by rw [List.length_take]; omega, fun h0 => ?_⟩
 obtain ⟨g, o, e, hb, hc⟩ := h.2 (by omega)
 exact ⟨g, o, e, hb, fun j u hu => hc j u (by rw [List.getElem?_take] at hu; split at hu <;> simp_all)⟩
theorem row_drop {w : World} {B z n k : Nat} {g o : Nat} {xs : List Value} (h : Row w B z (some ⟨g, o, none⟩) n xs) (hk : k ≤ n) : Row w B z (some ⟨g, o + k * z, none⟩) (n - k) (xs.drop (k * z)) := by
 have hl := h.1
 refine ⟨by rw [List.length_drop, hl, Nat.sub_mul], fun h0 => ?_⟩
 obtain ⟨g', o', e, hb, hc⟩ := h.2 (by omega)
 injection e with e
 injection e with e1 e2
 subst e1
 subst e2
 refine ⟨g, o + k * z, rfl, hb, fun j u hu => ?_⟩
 rw [List.getElem?_drop] at hu
 rw [Nat.add_assoc]
 exact hc _ u hu
theorem pn_one (x : Pn) : ∀ u ∈ pnV x, u.oneCell' = true := by intro u hu; simp [pnV] at hu; rcases hu with rfl | rfl | rfl <;> rfl
end Dl
theorem info_P18 : (Try.prog.info? 70).map (fun i => (i.zero, i.size, i.bytes)) = some (some (.agg #[.int .i64 0, .int .i64 0, .int .i64 0]), 3, 24) := by kernel_rfl

set_option maxHeartbeats 6400000 in
theorem rjoin18 (a1 a2 a3 a4 : Int) (A : Option Addr) (c : Nat) (l : List Pn) (T : Option Addr) (tn tc : Nat) (B : Option Addr) (bn bc : Nat) (q : Rq) (Q : Option Addr) (qn qc : Nat) (w : World)
 (hr : Row w w.heap.size 3 A l.length (pnC l)) (hl : l.length ≤ 4096) (hA : (A = none ∧ c = 0) ∨ ∃ g o, A = some ⟨g, o, none⟩) (hlc : l.length ≤ c) (hcm : c ≤ maxLen) :
 Calls Try.prog 23 #[.agg #[.int .i64 a1, .int .i64 a2, .int .i64 a3, .int .i64 a4, .slice A l.length c, .slice T tn tc, .slice B bn bc], .agg #[.int .i64 q.kind, .int .i64 q.who, .int .i64 q.room, .int .i64 q.rights, .int .i64 q.track, .slice Q qn qc, .int .i64 q.layer, .int .i64 q.tid]] w fun e w' => Below w.heap.size w w' ∧
  ((joinE a1 l q ≠ 0 ∧ e = .returned (.tuple #[.agg #[.int .i64 a1, .int .i64 a2, .int .i64 a3, .int .i64 a4, .slice A l.length c, .slice T tn tc, .slice B bn bc], .int .i64 (joinE a1 l q)])) ∨
   (joinE a1 l q = 0 ∧ ∃ A' c', e = .returned (.tuple #[.agg #[.int .i64 a1, .int .i64 a2, .int .i64 a3, .int .i64 a4, .slice A' (l.length + 1) c', .slice T tn tc, .slice B bn bc], .int .i64 0]) ∧ w'.ownsRow (w.heap.size + 3) 70 3 (.slice A' (l.length + 1) c') (l.length + 1) (pnC (insK ltP l ⟨q.who, q.room, q.rights⟩)))) := by
 obtain ⟨n, hn⟩ : ∃ n, l.length = n := ⟨_, rfl⟩
 have HN := Lib.hid hn
 rw [hn] at hl hlc ⊢
 have HA := Lib.hid hA
 have HCM := Lib.hid hcm
 obtain ⟨qk, qw, qr, qg, qt, qs, ql, qd⟩ := q
 dsimp only
 obtain ⟨w1, hw1⟩ : ∃ z, z = w.alloc (.cells #[.int .i64 a1, .int .i64 a2, .int .i64 a3, .int .i64 a4, .slice A n c, .slice T tn tc, .slice B bn bc] 37) := ⟨_, rfl⟩
 have HB1 := Lib.hid (show Below w.heap.size w w1 by rw [hw1]; exact (Below.refl _ _).alloc (Nat.le_refl _) _)
 have HS1 := Lib.hid (show Whole w1 w.heap.size 37 #[.int .i64 a1, .int .i64 a2, .int .i64 a3, .int .i64 a4, .slice A n c, .slice T tn tc, .slice B bn bc] by rw [hw1]; exact Whole.new w _ _)
 have hz1 : w1.heap.size = w.heap.size + 1 := by rw [hw1]; simp
 obtain ⟨w2, hw2⟩ : ∃ z, z = w1.alloc (.cells #[.int .i64 qk, .int .i64 qw, .int .i64 qr, .int .i64 qg, .int .i64 qt, .slice Q qn qc, .int .i64 ql, .int .i64 qd] 48) := ⟨_, rfl⟩
 have HB2 := Lib.hid (show Below w1.heap.size w1 w2 by rw [hw2]; exact (Below.refl _ _).alloc (Nat.le_refl _) _)
 have HQ2 := Lib.hid (show Whole w2 (w.heap.size + 1) 48 #[.int .i64 qk, .int .i64 qw, .int .i64 qr, .int .i64 qg, .int .i64 qt, .slice Q qn qc, .int .i64 ql, .int .i64 qd] by rw [hw2, ← hz1]; exact Whole.new w1 _ _)
 have hz2 : w2.heap.size = w.heap.size + 2 := by rw [hw2]; simp; omega
 obtain ⟨w3, hw3⟩ : ∃ z, z = w2.alloc (.cells #[.int .i64 0, .int .i64 0, .int .i64 0, .int .i64 0, .slice none 0 0, .slice none 0 0, .slice none 0 0] 37) := ⟨_, rfl⟩
 have HB3 := Lib.hid (show Below w2.heap.size w2 w3 by rw [hw3]; exact (Below.refl _ _).alloc (Nat.le_refl _) _)
 have HV := Lib.hid (show Whole w3 (w.heap.size + 2) 37 #[.int .i64 0, .int .i64 0, .int .i64 0, .int .i64 0, .slice none 0 0, .slice none 0 0, .slice none 0 0] by rw [hw3, ← hz2]; exact Whole.new w2 _ _)
 have hz3 : w3.heap.size = w.heap.size + 3 := by rw [hw3]; simp; omega
 have HS := Lib.hid (Whole.below (Whole.below HS1.out HB2.out (by omega)) HB3.out (by omega))
 have HQ := Lib.hid (Whole.below HQ2.out HB3.out (by omega))
 have HB := Lib.hid ((HB1.out.trans (HB2.out.mono (by omega))).trans (HB3.out.mono (by omega)))
 have HR := Lib.hid (hr.below HB.out (Nat.le_refl _))
 have r0 := HS.out.cell 0
 have r1 := HS.out.cell 1
 have r2 := HS.out.cell 2
 have r3 := HS.out.cell 3
 have r4 := HS.out.cell 4
 have r5 := HS.out.cell 5
 have r6 := HS.out.cell 6
 have p1 := HQ.out.cell 1
 have p2 := HQ.out.cell 2
 have p3 := HQ.out.cell 3
 have lv : w.heap.size + 2 < w3.heap.size := by omega
 have ls : w.heap.size < w3.heap.size := by omega
 have lq : w.heap.size + 1 < w3.heap.size := by omega
 have HZ3 := Lib.hid hz3
 go_enter Try.func23, Try.ntmps23
 go_upto_region 1 with fail
 rw [← hw1, show w.heap.size + 1 + 1 = w.heap.size + 2 from rfl]
 rw [← hw2, ← hw3]
 clear hA hcm hr hn hw1 hw2 hw3 HS1 HB1 HB2 HB3 HQ2 hz1 hz2 hz3
 by_cases t0 : qw < 1
 · have q0 := HV.out.cell 0; have g0 := HV.out.free 0; have q1 := HV.out.cell 1; have g1 := HV.out.free 1; have q2 := HV.out.cell 2; have g2 := HV.out.free 2; have q3 := HV.out.cell 3; have g3 := HV.out.free 3; have q4 := HV.out.cell 4; have g4 := HV.out.free 4; have q5 := HV.out.cell 5; have g5 := HV.out.free 5; have q6 := HV.out.cell 6; have g6 := HV.out.free 6
   have HE := Lib.hid (show joinE a1 l ⟨qk, qw, qr, qg, qt, qs, ql, qd⟩ = 1 from by unfold joinE; rw [if_pos (by dsimp only; omega)])
   have HF := Lib.hid (show Below w.heap.size w (((((((w3.setCell ⟨w.heap.size + 2, 0, none⟩ (.int .i64 a1)).setCell ⟨w.heap.size + 2, 1, none⟩ (.int .i64 a2)).setCell ⟨w.heap.size + 2, 2, none⟩ (.int .i64 a3)).setCell ⟨w.heap.size + 2, 3, none⟩ (.int .i64 a4)).setCell ⟨w.heap.size + 2, 4, none⟩ (.slice A n c)).setCell ⟨w.heap.size + 2, 5, none⟩ (.slice T tn tc)).setCell ⟨w.heap.size + 2, 6, none⟩ (.slice B bn bc)) from (Below.setCell (p := ⟨w.heap.size + 2, 6, none⟩) (Below.setCell (p := ⟨w.heap.size + 2, 5, none⟩) (Below.setCell (p := ⟨w.heap.size + 2, 4, none⟩) (Below.setCell (p := ⟨w.heap.size + 2, 3, none⟩) (Below.setCell (p := ⟨w.heap.size + 2, 2, none⟩) (Below.setCell (p := ⟨w.heap.size + 2, 1, none⟩) (Below.setCell (p := ⟨w.heap.size + 2, 0, none⟩) (HB.out) (by show w.heap.size ≤ w.heap.size + 2; omega) (.int .i64 a1)) (by show w.heap.size ≤ w.heap.size + 2; omega) (.int .i64 a2)) (by show w.heap.size ≤ w.heap.size + 2; omega) (.int .i64 a3)) (by show w.heap.size ≤ w.heap.size + 2; omega) (.int .i64 a4)) (by show w.heap.size ≤ w.heap.size + 2; omega) (.slice A n c)) (by show w.heap.size ≤ w.heap.size + 2; omega) (.slice T tn tc)) (by show w.heap.size ≤ w.heap.size + 2; omega) (.slice B bn bc)))
   clear HB
   go_wp2_with fail
   exact bodyPost_ret (v := .tuple #[.agg #[.int .i64 a1, .int .i64 a2, .int .i64 a3, .int .i64 a4, .slice A n c, .slice T tn tc, .slice B bn bc], .int .i64 1]) (by simp [results, Try.results23, go_sem, q0, q1, q2, q3, q4, q5, q6, lv]) rfl ⟨HF.out, .inl ⟨by rw [HE.out]; decide, by rw [HE.out]⟩⟩
 · skip
   by_cases t1 : 999 < qw
   · have q0 := HV.out.cell 0; have g0 := HV.out.free 0; have q1 := HV.out.cell 1; have g1 := HV.out.free 1; have q2 := HV.out.cell 2; have g2 := HV.out.free 2; have q3 := HV.out.cell 3; have g3 := HV.out.free 3; have q4 := HV.out.cell 4; have g4 := HV.out.free 4; have q5 := HV.out.cell 5; have g5 := HV.out.free 5; have q6 := HV.out.cell 6; have g6 := HV.out.free 6
     have HE := Lib.hid (show joinE a1 l ⟨qk, qw, qr, qg, qt, qs, ql, qd⟩ = 1 from by unfold joinE; rw [if_pos (by dsimp only; omega)])
     have HF := Lib.hid (show Below w.heap.size w (((((((w3.setCell ⟨w.heap.size + 2, 0, none⟩ (.int .i64 a1)).setCell ⟨w.heap.size + 2, 1, none⟩ (.int .i64 a2)).setCell ⟨w.heap.size + 2, 2, none⟩ (.int .i64 a3)).setCell ⟨w.heap.size + 2, 3, none⟩ (.int .i64 a4)).setCell ⟨w.heap.size + 2, 4, none⟩ (.slice A n c)).setCell ⟨w.heap.size + 2, 5, none⟩ (.slice T tn tc)).setCell ⟨w.heap.size + 2, 6, none⟩ (.slice B bn bc)) from (Below.setCell (p := ⟨w.heap.size + 2, 6, none⟩) (Below.setCell (p := ⟨w.heap.size + 2, 5, none⟩) (Below.setCell (p := ⟨w.heap.size + 2, 4, none⟩) (Below.setCell (p := ⟨w.heap.size + 2, 3, none⟩) (Below.setCell (p := ⟨w.heap.size + 2, 2, none⟩) (Below.setCell (p := ⟨w.heap.size + 2, 1, none⟩) (Below.setCell (p := ⟨w.heap.size + 2, 0, none⟩) (HB.out) (by show w.heap.size ≤ w.heap.size + 2; omega) (.int .i64 a1)) (by show w.heap.size ≤ w.heap.size + 2; omega) (.int .i64 a2)) (by show w.heap.size ≤ w.heap.size + 2; omega) (.int .i64 a3)) (by show w.heap.size ≤ w.heap.size + 2; omega) (.int .i64 a4)) (by show w.heap.size ≤ w.heap.size + 2; omega) (.slice A n c)) (by show w.heap.size ≤ w.heap.size + 2; omega) (.slice T tn tc)) (by show w.heap.size ≤ w.heap.size + 2; omega) (.slice B bn bc)))
     clear HB
     go_wp2_with fail
     exact bodyPost_ret (v := .tuple #[.agg #[.int .i64 a1, .int .i64 a2, .int .i64 a3, .int .i64 a4, .slice A n c, .slice T tn tc, .slice B bn bc], .int .i64 1]) (by simp [results, Try.results23, go_sem, q0, q1, q2, q3, q4, q5, q6, lv]) rfl ⟨HF.out, .inl ⟨by rw [HE.out]; decide, by rw [HE.out]⟩⟩
   · skip
     by_cases t2 : qr < 1
     · have q0 := HV.out.cell 0; have g0 := HV.out.free 0; have q1 := HV.out.cell 1; have g1 := HV.out.free 1; have q2 := HV.out.cell 2; have g2 := HV.out.free 2; have q3 := HV.out.cell 3; have g3 := HV.out.free 3; have q4 := HV.out.cell 4; have g4 := HV.out.free 4; have q5 := HV.out.cell 5; have g5 := HV.out.free 5; have q6 := HV.out.cell 6; have g6 := HV.out.free 6
       have HE := Lib.hid (show joinE a1 l ⟨qk, qw, qr, qg, qt, qs, ql, qd⟩ = 1 from by unfold joinE; rw [if_pos (by dsimp only; omega)])
       have HF := Lib.hid (show Below w.heap.size w (((((((w3.setCell ⟨w.heap.size + 2, 0, none⟩ (.int .i64 a1)).setCell ⟨w.heap.size + 2, 1, none⟩ (.int .i64 a2)).setCell ⟨w.heap.size + 2, 2, none⟩ (.int .i64 a3)).setCell ⟨w.heap.size + 2, 3, none⟩ (.int .i64 a4)).setCell ⟨w.heap.size + 2, 4, none⟩ (.slice A n c)).setCell ⟨w.heap.size + 2, 5, none⟩ (.slice T tn tc)).setCell ⟨w.heap.size + 2, 6, none⟩ (.slice B bn bc)) from (Below.setCell (p := ⟨w.heap.size + 2, 6, none⟩) (Below.setCell (p := ⟨w.heap.size + 2, 5, none⟩) (Below.setCell (p := ⟨w.heap.size + 2, 4, none⟩) (Below.setCell (p := ⟨w.heap.size + 2, 3, none⟩) (Below.setCell (p := ⟨w.heap.size + 2, 2, none⟩) (Below.setCell (p := ⟨w.heap.size + 2, 1, none⟩) (Below.setCell (p := ⟨w.heap.size + 2, 0, none⟩) (HB.out) (by show w.heap.size ≤ w.heap.size + 2; omega) (.int .i64 a1)) (by show w.heap.size ≤ w.heap.size + 2; omega) (.int .i64 a2)) (by show w.heap.size ≤ w.heap.size + 2; omega) (.int .i64 a3)) (by show w.heap.size ≤ w.heap.size + 2; omega) (.int .i64 a4)) (by show w.heap.size ≤ w.heap.size + 2; omega) (.slice A n c)) (by show w.heap.size ≤ w.heap.size + 2; omega) (.slice T tn tc)) (by show w.heap.size ≤ w.heap.size + 2; omega) (.slice B bn bc)))
       clear HB
       go_wp2_with fail
       exact bodyPost_ret (v := .tuple #[.agg #[.int .i64 a1, .int .i64 a2, .int .i64 a3, .int .i64 a4, .slice A n c, .slice T tn tc, .slice B bn bc], .int .i64 1]) (by simp [results, Try.results23, go_sem, q0, q1, q2, q3, q4, q5, q6, lv]) rfl ⟨HF.out, .inl ⟨by rw [HE.out]; decide, by rw [HE.out]⟩⟩
     · skip
       by_cases t3 : 9 < qr
       · have q0 := HV.out.cell 0; have g0 := HV.out.free 0; have q1 := HV.out.cell 1; have g1 := HV.out.free 1; have q2 := HV.out.cell 2; have g2 := HV.out.free 2; have q3 := HV.out.cell 3; have g3 := HV.out.free 3; have q4 := HV.out.cell 4; have g4 := HV.out.free 4; have q5 := HV.out.cell 5; have g5 := HV.out.free 5; have q6 := HV.out.cell 6; have g6 := HV.out.free 6
         have HE := Lib.hid (show joinE a1 l ⟨qk, qw, qr, qg, qt, qs, ql, qd⟩ = 1 from by unfold joinE; rw [if_pos (by dsimp only; omega)])
         have HF := Lib.hid (show Below w.heap.size w (((((((w3.setCell ⟨w.heap.size + 2, 0, none⟩ (.int .i64 a1)).setCell ⟨w.heap.size + 2, 1, none⟩ (.int .i64 a2)).setCell ⟨w.heap.size + 2, 2, none⟩ (.int .i64 a3)).setCell ⟨w.heap.size + 2, 3, none⟩ (.int .i64 a4)).setCell ⟨w.heap.size + 2, 4, none⟩ (.slice A n c)).setCell ⟨w.heap.size + 2, 5, none⟩ (.slice T tn tc)).setCell ⟨w.heap.size + 2, 6, none⟩ (.slice B bn bc)) from (Below.setCell (p := ⟨w.heap.size + 2, 6, none⟩) (Below.setCell (p := ⟨w.heap.size + 2, 5, none⟩) (Below.setCell (p := ⟨w.heap.size + 2, 4, none⟩) (Below.setCell (p := ⟨w.heap.size + 2, 3, none⟩) (Below.setCell (p := ⟨w.heap.size + 2, 2, none⟩) (Below.setCell (p := ⟨w.heap.size + 2, 1, none⟩) (Below.setCell (p := ⟨w.heap.size + 2, 0, none⟩) (HB.out) (by show w.heap.size ≤ w.heap.size + 2; omega) (.int .i64 a1)) (by show w.heap.size ≤ w.heap.size + 2; omega) (.int .i64 a2)) (by show w.heap.size ≤ w.heap.size + 2; omega) (.int .i64 a3)) (by show w.heap.size ≤ w.heap.size + 2; omega) (.int .i64 a4)) (by show w.heap.size ≤ w.heap.size + 2; omega) (.slice A n c)) (by show w.heap.size ≤ w.heap.size + 2; omega) (.slice T tn tc)) (by show w.heap.size ≤ w.heap.size + 2; omega) (.slice B bn bc)))
         clear HB
         go_wp2_with fail
         exact bodyPost_ret (v := .tuple #[.agg #[.int .i64 a1, .int .i64 a2, .int .i64 a3, .int .i64 a4, .slice A n c, .slice T tn tc, .slice B bn bc], .int .i64 1]) (by simp [results, Try.results23, go_sem, q0, q1, q2, q3, q4, q5, q6, lv]) rfl ⟨HF.out, .inl ⟨by rw [HE.out]; decide, by rw [HE.out]⟩⟩
       · skip
         by_cases t4 : qg < 0
         · have q0 := HV.out.cell 0; have g0 := HV.out.free 0; have q1 := HV.out.cell 1; have g1 := HV.out.free 1; have q2 := HV.out.cell 2; have g2 := HV.out.free 2; have q3 := HV.out.cell 3; have g3 := HV.out.free 3; have q4 := HV.out.cell 4; have g4 := HV.out.free 4; have q5 := HV.out.cell 5; have g5 := HV.out.free 5; have q6 := HV.out.cell 6; have g6 := HV.out.free 6
           have HE := Lib.hid (show joinE a1 l ⟨qk, qw, qr, qg, qt, qs, ql, qd⟩ = 1 from by unfold joinE; rw [if_pos (by dsimp only; omega)])
           have HF := Lib.hid (show Below w.heap.size w (((((((w3.setCell ⟨w.heap.size + 2, 0, none⟩ (.int .i64 a1)).setCell ⟨w.heap.size + 2, 1, none⟩ (.int .i64 a2)).setCell ⟨w.heap.size + 2, 2, none⟩ (.int .i64 a3)).setCell ⟨w.heap.size + 2, 3, none⟩ (.int .i64 a4)).setCell ⟨w.heap.size + 2, 4, none⟩ (.slice A n c)).setCell ⟨w.heap.size + 2, 5, none⟩ (.slice T tn tc)).setCell ⟨w.heap.size + 2, 6, none⟩ (.slice B bn bc)) from (Below.setCell (p := ⟨w.heap.size + 2, 6, none⟩) (Below.setCell (p := ⟨w.heap.size + 2, 5, none⟩) (Below.setCell (p := ⟨w.heap.size + 2, 4, none⟩) (Below.setCell (p := ⟨w.heap.size + 2, 3, none⟩) (Below.setCell (p := ⟨w.heap.size + 2, 2, none⟩) (Below.setCell (p := ⟨w.heap.size + 2, 1, none⟩) (Below.setCell (p := ⟨w.heap.size + 2, 0, none⟩) (HB.out) (by show w.heap.size ≤ w.heap.size + 2; omega) (.int .i64 a1)) (by show w.heap.size ≤ w.heap.size + 2; omega) (.int .i64 a2)) (by show w.heap.size ≤ w.heap.size + 2; omega) (.int .i64 a3)) (by show w.heap.size ≤ w.heap.size + 2; omega) (.int .i64 a4)) (by show w.heap.size ≤ w.heap.size + 2; omega) (.slice A n c)) (by show w.heap.size ≤ w.heap.size + 2; omega) (.slice T tn tc)) (by show w.heap.size ≤ w.heap.size + 2; omega) (.slice B bn bc)))
           clear HB
           go_wp2_with fail
           exact bodyPost_ret (v := .tuple #[.agg #[.int .i64 a1, .int .i64 a2, .int .i64 a3, .int .i64 a4, .slice A n c, .slice T tn tc, .slice B bn bc], .int .i64 1]) (by simp [results, Try.results23, go_sem, q0, q1, q2, q3, q4, q5, q6, lv]) rfl ⟨HF.out, .inl ⟨by rw [HE.out]; decide, by rw [HE.out]⟩⟩
         · skip
           by_cases t5 : 3 < qg
           · have q0 := HV.out.cell 0; have g0 := HV.out.free 0; have q1 := HV.out.cell 1; have g1 := HV.out.free 1; have q2 := HV.out.cell 2; have g2 := HV.out.free 2; have q3 := HV.out.cell 3; have g3 := HV.out.free 3; have q4 := HV.out.cell 4; have g4 := HV.out.free 4; have q5 := HV.out.cell 5; have g5 := HV.out.free 5; have q6 := HV.out.cell 6; have g6 := HV.out.free 6
             have HE := Lib.hid (show joinE a1 l ⟨qk, qw, qr, qg, qt, qs, ql, qd⟩ = 1 from by unfold joinE; rw [if_pos (by dsimp only; omega)])
             have HF := Lib.hid (show Below w.heap.size w (((((((w3.setCell ⟨w.heap.size + 2, 0, none⟩ (.int .i64 a1)).setCell ⟨w.heap.size + 2, 1, none⟩ (.int .i64 a2)).setCell ⟨w.heap.size + 2, 2, none⟩ (.int .i64 a3)).setCell ⟨w.heap.size + 2, 3, none⟩ (.int .i64 a4)).setCell ⟨w.heap.size + 2, 4, none⟩ (.slice A n c)).setCell ⟨w.heap.size + 2, 5, none⟩ (.slice T tn tc)).setCell ⟨w.heap.size + 2, 6, none⟩ (.slice B bn bc)) from (Below.setCell (p := ⟨w.heap.size + 2, 6, none⟩) (Below.setCell (p := ⟨w.heap.size + 2, 5, none⟩) (Below.setCell (p := ⟨w.heap.size + 2, 4, none⟩) (Below.setCell (p := ⟨w.heap.size + 2, 3, none⟩) (Below.setCell (p := ⟨w.heap.size + 2, 2, none⟩) (Below.setCell (p := ⟨w.heap.size + 2, 1, none⟩) (Below.setCell (p := ⟨w.heap.size + 2, 0, none⟩) (HB.out) (by show w.heap.size ≤ w.heap.size + 2; omega) (.int .i64 a1)) (by show w.heap.size ≤ w.heap.size + 2; omega) (.int .i64 a2)) (by show w.heap.size ≤ w.heap.size + 2; omega) (.int .i64 a3)) (by show w.heap.size ≤ w.heap.size + 2; omega) (.int .i64 a4)) (by show w.heap.size ≤ w.heap.size + 2; omega) (.slice A n c)) (by show w.heap.size ≤ w.heap.size + 2; omega) (.slice T tn tc)) (by show w.heap.size ≤ w.heap.size + 2; omega) (.slice B bn bc)))
             clear HB
             go_wp2_with fail
             exact bodyPost_ret (v := .tuple #[.agg #[.int .i64 a1, .int .i64 a2, .int .i64 a3, .int .i64 a4, .slice A n c, .slice T tn tc, .slice B bn bc], .int .i64 1]) (by simp [results, Try.results23, go_sem, q0, q1, q2, q3, q4, q5, q6, lv]) rfl ⟨HF.out, .inl ⟨by rw [HE.out]; decide, by rw [HE.out]⟩⟩
           · skip
             have CP := Lib.hid (show Calls Try.prog 24 #[.agg #[.int .i64 a1, .int .i64 a2, .int .i64 a3, .int .i64 a4, .slice A n c, .slice T tn tc, .slice B bn bc], .int .i64 qw] w3 (fun e w' => e = .returned (.int .i64 (ixS (isP qw) l)) ∧ Below w3.heap.size w3 w') by
              have h := rperson18 a1 a2 a3 a4 (.slice T tn tc) (.slice B bn bc) A c l qw w3 (HR.out.more (by omega)) (by rw [HN.out]; exact hl)
              rw [HN.out] at h; exact h)
             go_wp2_with fail
             refine CP.out.mono ?_
             rintro e v4 ⟨rfl, b4⟩
             obtain ⟨ix, hix⟩ : ∃ z, ixS (isP qw) l = z := ⟨_, rfl⟩
             have HIX := Lib.hid hix
             rw [hix]
             have HSv := Lib.hid (Whole.below HS.out b4 ls)
             have HQv := Lib.hid (Whole.below HQ.out b4 lq)
             have HVv := Lib.hid (Whole.below HV.out b4 lv)
             have HBv := Lib.hid (HB.out.trans (b4.mono (by have := HZ3.out; omega)))
             have hz4 := b4.size
             have HRv := Lib.hid (HR.out.below (b4.mono (by omega) : Below w.heap.size w3 v4) (Nat.le_refl _))
             clear HS HQ HV HB HR r0 r1 r2 r3 r4 r5 r6 p1 p2 p3 CP hix b4
             have r0 := HSv.out.cell 0
             have r1 := HSv.out.cell 1
             have r2 := HSv.out.cell 2
             have r3 := HSv.out.cell 3
             have r4 := HSv.out.cell 4
             have r5 := HSv.out.cell 5
             have r6 := HSv.out.cell 6
             have p1 := HQv.out.cell 1
             have p2 := HQv.out.cell 2
             have p3 := HQv.out.cell 3
             have HV := Lib.hid HVv.out
             have HB := Lib.hid HBv.out
             have lv4 : w.heap.size + 2 < v4.heap.size := by omega
             have ls4 : w.heap.size < v4.heap.size := by omega
             have lq4 : w.heap.size + 1 < v4.heap.size := by omega
             clear lv ls lq HVv HBv
             have lv := lv4
             by_cases hi : 0 ≤ ix
             · have hi' : ix ≥ 0 := hi
               have q0 := HV.out.cell 0; have g0 := HV.out.free 0; have q1 := HV.out.cell 1; have g1 := HV.out.free 1; have q2 := HV.out.cell 2; have g2 := HV.out.free 2; have q3 := HV.out.cell 3; have g3 := HV.out.free 3; have q4 := HV.out.cell 4; have g4 := HV.out.free 4; have q5 := HV.out.cell 5; have g5 := HV.out.free 5; have q6 := HV.out.cell 6; have g6 := HV.out.free 6
               have HE := Lib.hid (show joinE a1 l ⟨qk, qw, qr, qg, qt, qs, ql, qd⟩ = 22 from by unfold joinE; rw [if_neg (by dsimp only; omega), if_pos (find_ix.mpr (by dsimp only; rw [HIX.out]; exact hi))])
               have HF := Lib.hid (show Below w.heap.size w (((((((v4.setCell ⟨w.heap.size + 2, 0, none⟩ (.int .i64 a1)).setCell ⟨w.heap.size + 2, 1, none⟩ (.int .i64 a2)).setCell ⟨w.heap.size + 2, 2, none⟩ (.int .i64 a3)).setCell ⟨w.heap.size + 2, 3, none⟩ (.int .i64 a4)).setCell ⟨w.heap.size + 2, 4, none⟩ (.slice A n c)).setCell ⟨w.heap.size + 2, 5, none⟩ (.slice T tn tc)).setCell ⟨w.heap.size + 2, 6, none⟩ (.slice B bn bc)) from (Below.setCell (p := ⟨w.heap.size + 2, 6, none⟩) (Below.setCell (p := ⟨w.heap.size + 2, 5, none⟩) (Below.setCell (p := ⟨w.heap.size + 2, 4, none⟩) (Below.setCell (p := ⟨w.heap.size + 2, 3, none⟩) (Below.setCell (p := ⟨w.heap.size + 2, 2, none⟩) (Below.setCell (p := ⟨w.heap.size + 2, 1, none⟩) (Below.setCell (p := ⟨w.heap.size + 2, 0, none⟩) (HB.out) (by show w.heap.size ≤ w.heap.size + 2; omega) (.int .i64 a1)) (by show w.heap.size ≤ w.heap.size + 2; omega) (.int .i64 a2)) (by show w.heap.size ≤ w.heap.size + 2; omega) (.int .i64 a3)) (by show w.heap.size ≤ w.heap.size + 2; omega) (.int .i64 a4)) (by show w.heap.size ≤ w.heap.size + 2; omega) (.slice A n c)) (by show w.heap.size ≤ w.heap.size + 2; omega) (.slice T tn tc)) (by show w.heap.size ≤ w.heap.size + 2; omega) (.slice B bn bc)))
               clear HB
               go_wp2_with fail
               exact bodyPost_ret (v := .tuple #[.agg #[.int .i64 a1, .int .i64 a2, .int .i64 a3, .int .i64 a4, .slice A n c, .slice T tn tc, .slice B bn bc], .int .i64 22]) (by simp [results, Try.results23, go_sem, q0, q1, q2, q3, q4, q5, q6, lv]) rfl ⟨HF.out, .inl ⟨by rw [HE.out]; decide, by rw [HE.out]⟩⟩
             · by_cases hf : a1 ≤ (n : Int)
               · skip
                 have q0 := HV.out.cell 0; have g0 := HV.out.free 0; have q1 := HV.out.cell 1; have g1 := HV.out.free 1; have q2 := HV.out.cell 2; have g2 := HV.out.free 2; have q3 := HV.out.cell 3; have g3 := HV.out.free 3; have q4 := HV.out.cell 4; have g4 := HV.out.free 4; have q5 := HV.out.cell 5; have g5 := HV.out.free 5; have q6 := HV.out.cell 6; have g6 := HV.out.free 6
                 have HE := Lib.hid (show joinE a1 l ⟨qk, qw, qr, qg, qt, qs, ql, qd⟩ = 20 from by unfold joinE; rw [if_neg (by dsimp only; omega), if_neg (fun e => hi (by have := find_ix.mp e; dsimp only at this; rw [HIX.out] at this; exact this)), if_pos (by rw [HN.out]; exact hf)])
                 have HF := Lib.hid (show Below w.heap.size w (((((((v4.setCell ⟨w.heap.size + 2, 0, none⟩ (.int .i64 a1)).setCell ⟨w.heap.size + 2, 1, none⟩ (.int .i64 a2)).setCell ⟨w.heap.size + 2, 2, none⟩ (.int .i64 a3)).setCell ⟨w.heap.size + 2, 3, none⟩ (.int .i64 a4)).setCell ⟨w.heap.size + 2, 4, none⟩ (.slice A n c)).setCell ⟨w.heap.size + 2, 5, none⟩ (.slice T tn tc)).setCell ⟨w.heap.size + 2, 6, none⟩ (.slice B bn bc)) from (Below.setCell (p := ⟨w.heap.size + 2, 6, none⟩) (Below.setCell (p := ⟨w.heap.size + 2, 5, none⟩) (Below.setCell (p := ⟨w.heap.size + 2, 4, none⟩) (Below.setCell (p := ⟨w.heap.size + 2, 3, none⟩) (Below.setCell (p := ⟨w.heap.size + 2, 2, none⟩) (Below.setCell (p := ⟨w.heap.size + 2, 1, none⟩) (Below.setCell (p := ⟨w.heap.size + 2, 0, none⟩) (HB.out) (by show w.heap.size ≤ w.heap.size + 2; omega) (.int .i64 a1)) (by show w.heap.size ≤ w.heap.size + 2; omega) (.int .i64 a2)) (by show w.heap.size ≤ w.heap.size + 2; omega) (.int .i64 a3)) (by show w.heap.size ≤ w.heap.size + 2; omega) (.int .i64 a4)) (by show w.heap.size ≤ w.heap.size + 2; omega) (.slice A n c)) (by show w.heap.size ≤ w.heap.size + 2; omega) (.slice T tn tc)) (by show w.heap.size ≤ w.heap.size + 2; omega) (.slice B bn bc)))
                 clear HB
                 go_wp2_with fail
                 exact bodyPost_ret (v := .tuple #[.agg #[.int .i64 a1, .int .i64 a2, .int .i64 a3, .int .i64 a4, .slice A n c, .slice T tn tc, .slice B bn bc], .int .i64 20]) (by simp [results, Try.results23, go_sem, q0, q1, q2, q3, q4, q5, q6, lv]) rfl ⟨HF.out, .inl ⟨by rw [HE.out]; decide, by rw [HE.out]⟩⟩
               · have HE := Lib.hid (show joinE a1 l ⟨qk, qw, qr, qg, qt, qs, ql, qd⟩ = 0 from by unfold joinE; rw [if_neg (by dsimp only; omega), if_neg (fun e => hi (by have := find_ix.mp e; dsimp only at this; rw [HIX.out] at this; exact this)), if_neg (by rw [HN.out]; exact hf)])
                 have lt' : (n : Int) < a1 := by omega
                 obtain ⟨P, hP⟩ : ∃ z, (l.takeWhile fun z => ltP z ⟨qw, qr, qg⟩).length = z := ⟨_, rfl⟩
                 have hPL : P ≤ n := by rw [← hP, ← HN.out]; exact tw_le _ _
                 have HP := Lib.hid hP
                 clear hP
                 go_wp2_with fail
                 clear r0 r1 r2 r3 r4 r5 r6 p1 p2 p3
                 go_loopw [6] (fun v wr => ∃ j : Nat, j ≤ P ∧ v = .int .i64 (j : Int) ∧ Below v4.heap.size v4 wr) (fun v _ => P - (intOf v).toNat)
                 case atStart => exact ⟨0, Nat.zero_le _, rfl, Below.refl _ _⟩
                 case round =>
                  obtain ⟨j, hj, rfl, hb⟩ := hrel
                  have HBq := Lib.hid hb
                  have hzq := hb.size
                  have r4 := (Whole.below HSv.out hb ls4).cell 4
                  have p1 := (Whole.below HQv.out hb lq4).cell 1
                  have j0 : (0 : Int) ≤ (j : Int) := by omega
                  have lsr : w.heap.size < wr.heap.size := by omega
                  have lqr : w.heap.size + 1 < wr.heap.size := by omega
                  clear hb
                  by_cases hjn : j < n
                  · obtain ⟨z, hz⟩ : ∃ z, l[j]? = some z := ⟨_, List.getElem?_eq_getElem (by rw [HN.out]; exact hjn)⟩
                    obtain ⟨g, o, rfl, hg, hc⟩ := HRv.out.2 (by rw [HN.out]; omega)
                    have d0 := (HBq.out.cell (p := ⟨g, o + (j * 3 + 0), none⟩) (by show g < _; omega)).trans (hc _ _ ((pnC_get hz 0 (by decide)).trans rfl))
                    rw [← Nat.add_assoc, Nat.add_zero] at d0
                    have HZ := Lib.hid hz
                    have j1 : (j : Int) < (n : Int) := by omega
                    have t1 : decide ((j : Int) < (n : Int)) = true := decide_eq_true j1
                    have t1' : decide (j < n) = true := decide_eq_true hjn
                    have lg : g < wr.heap.size := by omega
                    obtain ⟨zw, zr, zg⟩ := z
                    dsimp only at d0
                    clear hz hc
                    by_cases hjP : j < P
                    · have hw := tw_lt (by rw [HP.out]; exact hjP) HZ.out
                      have t2 : decide (zw < qw) = true := hw
                      clear hw
                      go_wp2_with fail
                      go_region
                      go_wp2_with fail
                      go_roundw
                      case rel => exact ⟨j + 1, by omega, by go_num, HBq.out.drew⟩
                      case measure => simp [intOf]; omega
                    · obtain rfl : j = P := by omega
                      have hw := tw_at (f := fun z => ltP z ⟨qw, qr, qg⟩) (l := l) (z := ⟨zw, zr, zg⟩) (by rw [HP.out]; exact HZ.out)
                      have t2 : decide (zw < qw) = false := hw
                      clear hw
                      go_wp2_with fail
                      go_region
                      have HBa := Lib.hid HBq.out.drew
                      obtain ⟨wa, hwa⟩ : ∃ z, z = wr.drew := ⟨_, rfl⟩
                      rw [← hwa] at HBa ⊢
                      have hsza : v4.heap.size ≤ wa.heap.size := HBa.out.size
                      clear hwa HBq r4 p1 d0 lsr lqr lg hzq
                      have HSa := Lib.hid (Whole.below HSv.out HBa.out ls4)
                      have r4 := HSa.out.cell 4
                      have HRa := Lib.hid (HRv.out.below (HBa.out.mono (by omega) : Below w.heap.size v4 wa) (Nat.le_refl _))
                      have HSRC := Lib.hid (show Row wa w.heap.size 3 (some ⟨g, o, none⟩) j (pnC (l.take j)) by unfold pnC; rw [flat_take (z := 3) (fun _ => rfl)]; have h := HRa.out; rw [HN.out] at h; exact row_take h (by omega))
                      go_wp2_with (at_builtin; refine wpl_append _ rfl (.tmp 69) (.tmp 73) 33 rfl v4.heap.size 70 (.agg #[.int .i64 0, .int .i64 0, .int .i64 0]) 3 24 Try.underlying33 info_P18 rfl (by decide) _ 0 [] rfl (World.ownsRow_nil _ _ _ _) _ (some ⟨g, o, none⟩) j c _ rfl HSRC.out (flat_one pn_one _) ?c1 ?c2 ?c3 ?_)
                      case c1 => unfold maxLen; omega
                      case c2 => omega
                      case c3 => exact hsza
                      intro v8 w8 hown8 hg8 hv8
                      have HB8 := Lib.hid (HBa.out.trans ((show Below wa.heap.size wa w8 from ⟨hg8.os, hg8.tape, hg8.output, hg8.size, fun k hk => hg8.block k hk (by simp [Value.ownBlock])⟩).mono hsza))
                      have HV8 := Lib.hid hown8
                      have hz8 := hg8.size
                      have HQ8 := Lib.hid (Whole.below HQv.out HB8.out lq4)
                      have p1 := HQ8.out.cell 1
                      have p2 := HQ8.out.cell 2
                      have p3 := HQ8.out.cell 3
                      have lq8 : w.heap.size + 1 < w8.heap.size := by omega
                      have HW8 := Lib.hid (Row.fresh w8 70 #[.int .i64 qw, .int .i64 qr, .int .i64 qg] 3 1 [.int .i64 qw, .int .i64 qr, .int .i64 qg] rfl rfl)
                      have hL8 := Lib.hid (fun q hq => (HV8.out.lt q hq).1)
                      clear hown8 hg8 hv8 HBa HSa r4 HSRC HRa
                      go_wp2_with (at_builtin; refine wpl_append _ rfl (.tmp 75) (.tmp 83) 33 rfl v4.heap.size 70 (.agg #[.int .i64 0, .int .i64 0, .int .i64 0]) 3 24 Try.underlying33 info_P18 rfl (by decide) _ j (pnC (l.take j)) rfl (HV8.out.alloc _) _ _ 1 1 [.int .i64 qw, .int .i64 qr, .int .i64 qg] rfl HW8.out (by simp [Value.oneCell']) ?d1 ?d2 ?d3 ?_)
                      case d1 => unfold maxLen; omega
                      case d2 => omega
                      case d3 => first | omega | (simp; omega)
                      intro v9 w9 hown9 hg9 hv9
                      have HB9 := Lib.hid (show Below v4.heap.size v4 w9 from (HB8.out.alloc HB8.out.size _).grown hg9 (by simp; omega) (fun q hq => hL8.out q hq))
                      have HV9 := Lib.hid hown9
                      have hL9 := Lib.hid (fun q hq => (HV9.out.lt q hq).1)
                      have hz9 := HB9.out.size
                      have HS9 := Lib.hid (Whole.below HSv.out HB9.out ls4)
                      have r4 := HS9.out.cell 4
                      have ls9 : w.heap.size < w9.heap.size := by omega
                      clear hown9 hg9 hv9 HV8 HW8 hL8 HB8 HQ8 p1 p2 p3
                      have HD9 := Lib.hid (show Row w9 w.heap.size 3 (some ⟨g, o + j * 3, none⟩) (n - j) (pnC (l.drop j)) by unfold pnC; rw [flat_drop (z := 3) (fun _ => rfl)]; have h := HRv.out.below (HB9.out.mono (by omega) : Below w.heap.size v4 w9) (Nat.le_refl _); rw [HN.out] at h; exact row_drop h (by omega))
                      have HINS := Lib.hid (show pnC (insK ltP l ⟨qw, qr, qg⟩) = (pnC (l.take j) ++ [.int .i64 qw, .int .i64 qr, .int .i64 qg]) ++ pnC (l.drop j) by
                       rw [insK_at, HP.out]; unfold pnC; rw [flat_append, List.append_assoc]; rfl)
                      have hcj : ¬ c = j := by omega
                      have hcj' : ¬ j = c := by omega
                      go_wp2_with (at_builtin; refine wpl_append _ rfl (.tmp 85) (.tmp 89) 33 rfl v4.heap.size 70 (.agg #[.int .i64 0, .int .i64 0, .int .i64 0]) 3 24 Try.underlying33 info_P18 rfl (by decide) v9 (j + 1) _ rfl HV9.out _ (some ⟨g, o + j * 3, none⟩) (n - j) (c - j) _ rfl HD9.out (flat_one pn_one _) ?f1 ?f2 ?f3 ?_)
                      case f1 => unfold maxLen; omega
                      case f2 => omega
                      case f3 => first | omega | exact hz9
                      intro v10 w10 hown10 hg10 _
                      have HO10 := Lib.hid (show w10.ownsRow v4.heap.size 70 3 v10 (n + 1) (pnC (insK ltP l ⟨qw, qr, qg⟩)) by
                       rw [HINS.out, ← (show j + 1 + (n - j) = n + 1 by omega)]
                       simpa only [List.append_assoc, List.cons_append, List.nil_append] using hown10)
                      have HB10 := Lib.hid (show Below v4.heap.size v4 w10 from HB9.out.grown hg10 (by omega) (fun q hq => hL9.out q hq))
                      obtain ⟨A10, c10, rfl⟩ := own_form HO10.out
                      have hz10 := HB10.out.size
                      have HS10 := Lib.hid (Whole.below HSv.out HB10.out ls4)
                      have HV10 := Lib.hid (Whole.below HV.out HB10.out lv4)
                      have r0 := HS10.out.cell 0
                      have r1 := HS10.out.cell 1
                      have r2 := HS10.out.cell 2
                      have r3 := HS10.out.cell 3
                      have r4 := HS10.out.cell 4
                      have r5 := HS10.out.cell 5
                      have r6 := HS10.out.cell 6
                      have f4 := HS10.out.free 4
                      have q0 := HV10.out.cell 0
                      have q1 := HV10.out.cell 1
                      have q2 := HV10.out.cell 2
                      have q3 := HV10.out.cell 3
                      have q4 := HV10.out.cell 4
                      have q5 := HV10.out.cell 5
                      have q6 := HV10.out.cell 6
                      have g0 := HV10.out.free 0
                      have g1 := HV10.out.free 1
                      have g2 := HV10.out.free 2
                      have g3 := HV10.out.free 3
                      have g4 := HV10.out.free 4
                      have g5 := HV10.out.free 5
                      have g6 := HV10.out.free 6
                      have ls10 : w.heap.size < w10.heap.size := by omega
                      have lv10 : w.heap.size + 2 < w10.heap.size := by omega
                      have hne : ¬ w.heap.size = w.heap.size + 2 := by omega
                      have HF := Lib.hid (show (((((((((w10.setCell ⟨w.heap.size, 4, none⟩ (.slice A10 (n + 1) c10)).setCell ⟨w.heap.size + 2, 0, none⟩ (.int .i64 a1)).setCell ⟨w.heap.size + 2, 1, none⟩ (.int .i64 a2)).setCell ⟨w.heap.size + 2, 2, none⟩ (.int .i64 a3)).setCell ⟨w.heap.size + 2, 3, none⟩ (.int .i64 a4)).setCell ⟨w.heap.size + 2, 4, none⟩ (.slice A10 (n + 1) c10)).setCell ⟨w.heap.size + 2, 5, none⟩ (.slice T tn tc)).setCell ⟨w.heap.size + 2, 6, none⟩ (.slice B bn bc))).ownsRow (w.heap.size + 3) 70 3 (.slice A10 (n + 1) c10) (n + 1) (pnC (insK ltP l ⟨qw, qr, qg⟩)) ∧ Below w.heap.size w ((((((((w10.setCell ⟨w.heap.size, 4, none⟩ (.slice A10 (n + 1) c10)).setCell ⟨w.heap.size + 2, 0, none⟩ (.int .i64 a1)).setCell ⟨w.heap.size + 2, 1, none⟩ (.int .i64 a2)).setCell ⟨w.heap.size + 2, 2, none⟩ (.int .i64 a3)).setCell ⟨w.heap.size + 2, 3, none⟩ (.int .i64 a4)).setCell ⟨w.heap.size + 2, 4, none⟩ (.slice A10 (n + 1) c10)).setCell ⟨w.heap.size + 2, 5, none⟩ (.slice T tn tc)).setCell ⟨w.heap.size + 2, 6, none⟩ (.slice B bn bc)) from by
                       have HB10 : Below w.heap.size w w10 := HB.out.trans (HB10.out.mono (by omega))
                       refine ⟨?_, (Below.setCell (p := ⟨w.heap.size + 2, 6, none⟩) (Below.setCell (p := ⟨w.heap.size + 2, 5, none⟩) (Below.setCell (p := ⟨w.heap.size + 2, 4, none⟩) (Below.setCell (p := ⟨w.heap.size + 2, 3, none⟩) (Below.setCell (p := ⟨w.heap.size + 2, 2, none⟩) (Below.setCell (p := ⟨w.heap.size + 2, 1, none⟩) (Below.setCell (p := ⟨w.heap.size + 2, 0, none⟩) (Below.setCell (p := ⟨w.heap.size, 4, none⟩) HB10 (Nat.le_refl _) (.slice A10 (n + 1) c10)) (by show w.heap.size ≤ w.heap.size + 2; omega) (.int .i64 a1)) (by show w.heap.size ≤ w.heap.size + 2; omega) (.int .i64 a2)) (by show w.heap.size ≤ w.heap.size + 2; omega) (.int .i64 a3)) (by show w.heap.size ≤ w.heap.size + 2; omega) (.int .i64 a4)) (by show w.heap.size ≤ w.heap.size + 2; omega) (.slice A10 (n + 1) c10)) (by show w.heap.size ≤ w.heap.size + 2; omega) (.slice T tn tc)) (by show w.heap.size ≤ w.heap.size + 2; omega) (.slice B bn bc))⟩
                       have h := own_base HO10.out (show w.heap.size + 3 ≤ v4.heap.size by have := HZ3.out; omega)
                       have fq : ∀ q, (Value.slice A10 (n + 1) c10).ownBlock = some q → ¬ (q = w.heap.size ∨ q = w.heap.size + 2) := fun q hq => by have := (h.lt q hq).1; omega
                       exact own_farX (own_farX (own_farX (own_farX (own_farX (own_farX (own_farX (own_farX h (fun q hq e => fq q hq (.inl e.symm))) (fun q hq e => fq q hq (.inr e.symm))) (fun q hq e => fq q hq (.inr e.symm))) (fun q hq e => fq q hq (.inr e.symm))) (fun q hq e => fq q hq (.inr e.symm))) (fun q hq e => fq q hq (.inr e.symm))) (fun q hq e => fq q hq (.inr e.symm))) (fun q hq e => fq q hq (.inr e.symm)))
                      clear hown10 hg10 HO10 HB10 HV9 HB9 hL9 HINS HS9 HS10 HV10 HB HSv HQv HV HRv
                      go_wp2_with fail
                      exact bodyPost_ret (v := .tuple #[.agg #[.int .i64 a1, .int .i64 a2, .int .i64 a3, .int .i64 a4, .slice A10 (n + 1) c10, .slice T tn tc, .slice B bn bc], .int .i64 0]) (by simp [results, Try.results23, go_sem, q0, q1, q2, q3, q4, q5, q6, lv10]) rfl ⟨HF.out.2, .inr ⟨HE.out, A10, c10, rfl, HF.out.1⟩⟩
                  · obtain rfl : j = P := by omega
                    obtain rfl : j = n := by omega
                    have t1 : decide ((j : Int) < (j : Int)) = false := decide_eq_false (by omega)
                    have t1' : decide (j < j) = false := decide_eq_false (by omega)
                    rcases HA.out with ⟨hA1, hA2⟩ | ⟨g, o, hA1⟩
                    · subst hA1 hA2
                      obtain rfl : j = 0 := by omega
                      go_wp2_with fail
                      go_region
                      have HBa := Lib.hid HBq.out.drew
                      obtain ⟨wa, hwa⟩ : ∃ z, z = wr.drew := ⟨_, rfl⟩
                      rw [← hwa] at HBa ⊢
                      have hsza : v4.heap.size ≤ wa.heap.size := HBa.out.size
                      clear hwa HBq r4 p1  lsr lqr  hzq
                      have HSa := Lib.hid (Whole.below HSv.out HBa.out ls4)
                      have r4 := HSa.out.cell 4
                      go_wp2_with (at_builtin; refine wpl_append _ rfl (.tmp 69) (.tmp 73) 33 rfl v4.heap.size 70 (.agg #[.int .i64 0, .int .i64 0, .int .i64 0]) 3 24 Try.underlying33 info_P18 rfl (by decide) _ 0 [] rfl (World.ownsRow_nil _ _ _ _) 0 _ 0 _ [] rfl Row.nil (by simp) ?c1 ?c2 ?c3 ?_)
                      case c1 => unfold maxLen; omega
                      case c2 => omega
                      case c3 => exact hsza
                      intro v8 w8 hown8 hg8 hv8
                      have HB8 := Lib.hid (HBa.out.trans ((show Below wa.heap.size wa w8 from ⟨hg8.os, hg8.tape, hg8.output, hg8.size, fun k hk => hg8.block k hk (by simp [Value.ownBlock])⟩).mono hsza))
                      have HV8 := Lib.hid hown8
                      have hz8 := hg8.size
                      have HQ8 := Lib.hid (Whole.below HQv.out HB8.out lq4)
                      have p1 := HQ8.out.cell 1
                      have p2 := HQ8.out.cell 2
                      have p3 := HQ8.out.cell 3
                      have lq8 : w.heap.size + 1 < w8.heap.size := by omega
                      have HW8 := Lib.hid (Row.fresh w8 70 #[.int .i64 qw, .int .i64 qr, .int .i64 qg] 3 1 [.int .i64 qw, .int .i64 qr, .int .i64 qg] rfl rfl)
                      have hL8 := Lib.hid (fun q hq => (HV8.out.lt q hq).1)
                      clear hown8 hg8 hv8 HBa HSa r4 
                      go_wp2_with (at_builtin; refine wpl_append _ rfl (.tmp 75) (.tmp 83) 33 rfl v4.heap.size 70 (.agg #[.int .i64 0, .int .i64 0, .int .i64 0]) 3 24 Try.underlying33 info_P18 rfl (by decide) _ 0 [] rfl (HV8.out.alloc _) _ _ 1 1 [.int .i64 qw, .int .i64 qr, .int .i64 qg] rfl HW8.out (by simp [Value.oneCell']) ?d1 ?d2 ?d3 ?_)
                      case d1 => unfold maxLen; omega
                      case d2 => omega
                      case d3 => first | omega | (simp; omega)
                      intro v9 w9 hown9 hg9 hv9
                      have HB9 := Lib.hid (show Below v4.heap.size v4 w9 from (HB8.out.alloc HB8.out.size _).grown hg9 (by simp; omega) (fun q hq => hL8.out q hq))
                      have HV9 := Lib.hid hown9
                      have hL9 := Lib.hid (fun q hq => (HV9.out.lt q hq).1)
                      have hz9 := HB9.out.size
                      have HS9 := Lib.hid (Whole.below HSv.out HB9.out ls4)
                      have r4 := HS9.out.cell 4
                      have ls9 : w.heap.size < w9.heap.size := by omega
                      clear hown9 hg9 hv9 HV8 HW8 hL8 HB8 HQ8 p1 p2 p3
                      have HINS := Lib.hid (show pnC (insK ltP l ⟨qw, qr, qg⟩) = [.int .i64 qw, .int .i64 qr, .int .i64 qg] by
                       rw [insK_at, HP.out, List.drop_of_length_le (show l.length ≤ 0 by rw [HN.out]; exact Nat.le_refl _)]; simp [pnC, pnV])
                      go_wp2_with (at_builtin; refine wpl_append _ rfl (.tmp 85) (.tmp 89) 33 rfl v4.heap.size 70 (.agg #[.int .i64 0, .int .i64 0, .int .i64 0]) 3 24 Try.underlying33 info_P18 rfl (by decide) v9 1 _ rfl HV9.out 0 _ 0 _ [] rfl Row.nil (by simp) ?f1 ?f2 ?f3 ?_)
                      case f1 => unfold maxLen; omega
                      case f2 => omega
                      case f3 => first | omega | exact hz9
                      intro v10 w10 hown10 hg10 _
                      have HO10 := Lib.hid (show w10.ownsRow v4.heap.size 70 3 v10 (0 + 1) (pnC (insK ltP l ⟨qw, qr, qg⟩)) by
                       rw [HINS.out]
                       first | (simpa using hown10; done) | (simpa [pnC] using hown10))
                      have HB10 := Lib.hid (show Below v4.heap.size v4 w10 from HB9.out.grown hg10 (by omega) (fun q hq => hL9.out q hq))
                      obtain ⟨A10, c10, rfl⟩ := own_form HO10.out
                      have hz10 := HB10.out.size
                      have HS10 := Lib.hid (Whole.below HSv.out HB10.out ls4)
                      have HV10 := Lib.hid (Whole.below HV.out HB10.out lv4)
                      have r0 := HS10.out.cell 0
                      have r1 := HS10.out.cell 1
                      have r2 := HS10.out.cell 2
                      have r3 := HS10.out.cell 3
                      have r4 := HS10.out.cell 4
                      have r5 := HS10.out.cell 5
                      have r6 := HS10.out.cell 6
                      have f4 := HS10.out.free 4
                      have q0 := HV10.out.cell 0
                      have q1 := HV10.out.cell 1
                      have q2 := HV10.out.cell 2
                      have q3 := HV10.out.cell 3
                      have q4 := HV10.out.cell 4
                      have q5 := HV10.out.cell 5
                      have q6 := HV10.out.cell 6
                      have g0 := HV10.out.free 0
                      have g1 := HV10.out.free 1
                      have g2 := HV10.out.free 2
                      have g3 := HV10.out.free 3
                      have g4 := HV10.out.free 4
                      have g5 := HV10.out.free 5
                      have g6 := HV10.out.free 6
                      have ls10 : w.heap.size < w10.heap.size := by omega
                      have lv10 : w.heap.size + 2 < w10.heap.size := by omega
                      have hne : ¬ w.heap.size = w.heap.size + 2 := by omega
                      have HF := Lib.hid (show (((((((((w10.setCell ⟨w.heap.size, 4, none⟩ (.slice A10 (0 + 1) c10)).setCell ⟨w.heap.size + 2, 0, none⟩ (.int .i64 a1)).setCell ⟨w.heap.size + 2, 1, none⟩ (.int .i64 a2)).setCell ⟨w.heap.size + 2, 2, none⟩ (.int .i64 a3)).setCell ⟨w.heap.size + 2, 3, none⟩ (.int .i64 a4)).setCell ⟨w.heap.size + 2, 4, none⟩ (.slice A10 (0 + 1) c10)).setCell ⟨w.heap.size + 2, 5, none⟩ (.slice T tn tc)).setCell ⟨w.heap.size + 2, 6, none⟩ (.slice B bn bc))).ownsRow (w.heap.size + 3) 70 3 (.slice A10 (0 + 1) c10) (0 + 1) (pnC (insK ltP l ⟨qw, qr, qg⟩)) ∧ Below w.heap.size w ((((((((w10.setCell ⟨w.heap.size, 4, none⟩ (.slice A10 (0 + 1) c10)).setCell ⟨w.heap.size + 2, 0, none⟩ (.int .i64 a1)).setCell ⟨w.heap.size + 2, 1, none⟩ (.int .i64 a2)).setCell ⟨w.heap.size + 2, 2, none⟩ (.int .i64 a3)).setCell ⟨w.heap.size + 2, 3, none⟩ (.int .i64 a4)).setCell ⟨w.heap.size + 2, 4, none⟩ (.slice A10 (0 + 1) c10)).setCell ⟨w.heap.size + 2, 5, none⟩ (.slice T tn tc)).setCell ⟨w.heap.size + 2, 6, none⟩ (.slice B bn bc)) from by
                       have HB10 : Below w.heap.size w w10 := HB.out.trans (HB10.out.mono (by omega))
                       refine ⟨?_, (Below.setCell (p := ⟨w.heap.size + 2, 6, none⟩) (Below.setCell (p := ⟨w.heap.size + 2, 5, none⟩) (Below.setCell (p := ⟨w.heap.size + 2, 4, none⟩) (Below.setCell (p := ⟨w.heap.size + 2, 3, none⟩) (Below.setCell (p := ⟨w.heap.size + 2, 2, none⟩) (Below.setCell (p := ⟨w.heap.size + 2, 1, none⟩) (Below.setCell (p := ⟨w.heap.size + 2, 0, none⟩) (Below.setCell (p := ⟨w.heap.size, 4, none⟩) HB10 (Nat.le_refl _) (.slice A10 (0 + 1) c10)) (by show w.heap.size ≤ w.heap.size + 2; omega) (.int .i64 a1)) (by show w.heap.size ≤ w.heap.size + 2; omega) (.int .i64 a2)) (by show w.heap.size ≤ w.heap.size + 2; omega) (.int .i64 a3)) (by show w.heap.size ≤ w.heap.size + 2; omega) (.int .i64 a4)) (by show w.heap.size ≤ w.heap.size + 2; omega) (.slice A10 (0 + 1) c10)) (by show w.heap.size ≤ w.heap.size + 2; omega) (.slice T tn tc)) (by show w.heap.size ≤ w.heap.size + 2; omega) (.slice B bn bc))⟩
                       have h := own_base HO10.out (show w.heap.size + 3 ≤ v4.heap.size by have := HZ3.out; omega)
                       have fq : ∀ q, (Value.slice A10 (0 + 1) c10).ownBlock = some q → ¬ (q = w.heap.size ∨ q = w.heap.size + 2) := fun q hq => by have := (h.lt q hq).1; omega
                       exact own_farX (own_farX (own_farX (own_farX (own_farX (own_farX (own_farX (own_farX h (fun q hq e => fq q hq (.inl e.symm))) (fun q hq e => fq q hq (.inr e.symm))) (fun q hq e => fq q hq (.inr e.symm))) (fun q hq e => fq q hq (.inr e.symm))) (fun q hq e => fq q hq (.inr e.symm))) (fun q hq e => fq q hq (.inr e.symm))) (fun q hq e => fq q hq (.inr e.symm))) (fun q hq e => fq q hq (.inr e.symm)))
                      clear hown10 hg10 HO10 HB10 HV9 HB9 hL9 HINS HS9 HS10 HV10 HB HSv HQv HV HRv
                      go_wp2_with fail
                      exact bodyPost_ret (v := .tuple #[.agg #[.int .i64 a1, .int .i64 a2, .int .i64 a3, .int .i64 a4, .slice A10 (0 + 1) c10, .slice T tn tc, .slice B bn bc], .int .i64 0]) (by simp [results, Try.results23, go_sem, q0, q1, q2, q3, q4, q5, q6, lv10]) rfl ⟨HF.out.2, .inr ⟨HE.out, A10, c10, rfl, HF.out.1⟩⟩
                    · subst hA1
                      go_wp2_with fail
                      go_region
                      have HBa := Lib.hid HBq.out.drew
                      obtain ⟨wa, hwa⟩ : ∃ z, z = wr.drew := ⟨_, rfl⟩
                      rw [← hwa] at HBa ⊢
                      have hsza : v4.heap.size ≤ wa.heap.size := HBa.out.size
                      clear hwa HBq r4 p1  lsr lqr  hzq
                      have HSa := Lib.hid (Whole.below HSv.out HBa.out ls4)
                      have r4 := HSa.out.cell 4
                      have HRa := Lib.hid (HRv.out.below (HBa.out.mono (by omega) : Below w.heap.size v4 wa) (Nat.le_refl _))
                      have HSRC := Lib.hid (show Row wa w.heap.size 3 (some ⟨g, o, none⟩) j (pnC (l.take j)) by unfold pnC; rw [flat_take (z := 3) (fun _ => rfl)]; have h := HRa.out; rw [HN.out] at h; exact row_take h (by omega))
                      go_wp2_with (at_builtin; refine wpl_append _ rfl (.tmp 69) (.tmp 73) 33 rfl v4.heap.size 70 (.agg #[.int .i64 0, .int .i64 0, .int .i64 0]) 3 24 Try.underlying33 info_P18 rfl (by decide) _ 0 [] rfl (World.ownsRow_nil _ _ _ _) _ (some ⟨g, o, none⟩) j c _ rfl HSRC.out (flat_one pn_one _) ?c1 ?c2 ?c3 ?_)
                      case c1 => unfold maxLen; omega
                      case c2 => omega
                      case c3 => exact hsza
                      intro v8 w8 hown8 hg8 hv8
                      have HB8 := Lib.hid (HBa.out.trans ((show Below wa.heap.size wa w8 from ⟨hg8.os, hg8.tape, hg8.output, hg8.size, fun k hk => hg8.block k hk (by simp [Value.ownBlock])⟩).mono hsza))
                      have HV8 := Lib.hid hown8
                      have hz8 := hg8.size
                      have HQ8 := Lib.hid (Whole.below HQv.out HB8.out lq4)
                      have p1 := HQ8.out.cell 1
                      have p2 := HQ8.out.cell 2
                      have p3 := HQ8.out.cell 3
                      have lq8 : w.heap.size + 1 < w8.heap.size := by omega
                      have HW8 := Lib.hid (Row.fresh w8 70 #[.int .i64 qw, .int .i64 qr, .int .i64 qg] 3 1 [.int .i64 qw, .int .i64 qr, .int .i64 qg] rfl rfl)
                      have hL8 := Lib.hid (fun q hq => (HV8.out.lt q hq).1)
                      clear hown8 hg8 hv8 HBa HSa r4 HSRC HRa
                      go_wp2_with (at_builtin; refine wpl_append _ rfl (.tmp 75) (.tmp 83) 33 rfl v4.heap.size 70 (.agg #[.int .i64 0, .int .i64 0, .int .i64 0]) 3 24 Try.underlying33 info_P18 rfl (by decide) _ j (pnC (l.take j)) rfl (HV8.out.alloc _) _ _ 1 1 [.int .i64 qw, .int .i64 qr, .int .i64 qg] rfl HW8.out (by simp [Value.oneCell']) ?d1 ?d2 ?d3 ?_)
                      case d1 => unfold maxLen; omega
                      case d2 => omega
                      case d3 => first | omega | (simp; omega)
                      intro v9 w9 hown9 hg9 hv9
                      have HB9 := Lib.hid (show Below v4.heap.size v4 w9 from (HB8.out.alloc HB8.out.size _).grown hg9 (by simp; omega) (fun q hq => hL8.out q hq))
                      have HV9 := Lib.hid hown9
                      have hL9 := Lib.hid (fun q hq => (HV9.out.lt q hq).1)
                      have hz9 := HB9.out.size
                      have HS9 := Lib.hid (Whole.below HSv.out HB9.out ls4)
                      have r4 := HS9.out.cell 4
                      have ls9 : w.heap.size < w9.heap.size := by omega
                      clear hown9 hg9 hv9 HV8 HW8 hL8 HB8 HQ8 p1 p2 p3
                      have HINS := Lib.hid (show pnC (insK ltP l ⟨qw, qr, qg⟩) = pnC (l.take j) ++ [.int .i64 qw, .int .i64 qr, .int .i64 qg] by
                       rw [insK_at, HP.out, List.drop_of_length_le (show l.length ≤ j by rw [HN.out]; exact Nat.le_refl _)]; unfold pnC; rw [flat_append]; rfl)
                      by_cases hcj : c = j
                      · subst hcj
                        go_wp2_with (at_builtin; refine wpl_append _ rfl (.tmp 85) (.tmp 89) 33 rfl v4.heap.size 70 (.agg #[.int .i64 0, .int .i64 0, .int .i64 0]) 3 24 Try.underlying33 info_P18 rfl (by decide) v9 (c + 1) _ rfl HV9.out 0 _ 0 _ [] rfl Row.nil (by simp) ?f1 ?f2 ?f3 ?_)
                        case f1 => unfold maxLen; omega
                        case f2 => omega
                        case f3 => first | omega | exact hz9
                        intro v10 w10 hown10 hg10 _
                        have HO10 := Lib.hid (show w10.ownsRow v4.heap.size 70 3 v10 (c + 1) (pnC (insK ltP l ⟨qw, qr, qg⟩)) by
                         rw [HINS.out]
                         first | (simpa using hown10; done) | (simpa [pnC] using hown10))
                        have HB10 := Lib.hid (show Below v4.heap.size v4 w10 from HB9.out.grown hg10 (by omega) (fun q hq => hL9.out q hq))
                        obtain ⟨A10, c10, rfl⟩ := own_form HO10.out
                        have hz10 := HB10.out.size
                        have HS10 := Lib.hid (Whole.below HSv.out HB10.out ls4)
                        have HV10 := Lib.hid (Whole.below HV.out HB10.out lv4)
                        have r0 := HS10.out.cell 0
                        have r1 := HS10.out.cell 1
                        have r2 := HS10.out.cell 2
                        have r3 := HS10.out.cell 3
                        have r4 := HS10.out.cell 4
                        have r5 := HS10.out.cell 5
                        have r6 := HS10.out.cell 6
                        have f4 := HS10.out.free 4
                        have q0 := HV10.out.cell 0
                        have q1 := HV10.out.cell 1
                        have q2 := HV10.out.cell 2
                        have q3 := HV10.out.cell 3
                        have q4 := HV10.out.cell 4
                        have q5 := HV10.out.cell 5
                        have q6 := HV10.out.cell 6
                        have g0 := HV10.out.free 0
                        have g1 := HV10.out.free 1
                        have g2 := HV10.out.free 2
                        have g3 := HV10.out.free 3
                        have g4 := HV10.out.free 4
                        have g5 := HV10.out.free 5
                        have g6 := HV10.out.free 6
                        have ls10 : w.heap.size < w10.heap.size := by omega
                        have lv10 : w.heap.size + 2 < w10.heap.size := by omega
                        have hne : ¬ w.heap.size = w.heap.size + 2 := by omega
                        have HF := Lib.hid (show (((((((((w10.setCell ⟨w.heap.size, 4, none⟩ (.slice A10 (c + 1) c10)).setCell ⟨w.heap.size + 2, 0, none⟩ (.int .i64 a1)).setCell ⟨w.heap.size + 2, 1, none⟩ (.int .i64 a2)).setCell ⟨w.heap.size + 2, 2, none⟩ (.int .i64 a3)).setCell ⟨w.heap.size + 2, 3, none⟩ (.int .i64 a4)).setCell ⟨w.heap.size + 2, 4, none⟩ (.slice A10 (c + 1) c10)).setCell ⟨w.heap.size + 2, 5, none⟩ (.slice T tn tc)).setCell ⟨w.heap.size + 2, 6, none⟩ (.slice B bn bc))).ownsRow (w.heap.size + 3) 70 3 (.slice A10 (c + 1) c10) (c + 1) (pnC (insK ltP l ⟨qw, qr, qg⟩)) ∧ Below w.heap.size w ((((((((w10.setCell ⟨w.heap.size, 4, none⟩ (.slice A10 (c + 1) c10)).setCell ⟨w.heap.size + 2, 0, none⟩ (.int .i64 a1)).setCell ⟨w.heap.size + 2, 1, none⟩ (.int .i64 a2)).setCell ⟨w.heap.size + 2, 2, none⟩ (.int .i64 a3)).setCell ⟨w.heap.size + 2, 3, none⟩ (.int .i64 a4)).setCell ⟨w.heap.size + 2, 4, none⟩ (.slice A10 (c + 1) c10)).setCell ⟨w.heap.size + 2, 5, none⟩ (.slice T tn tc)).setCell ⟨w.heap.size + 2, 6, none⟩ (.slice B bn bc)) from by
                         have HB10 : Below w.heap.size w w10 := HB.out.trans (HB10.out.mono (by omega))
                         refine ⟨?_, (Below.setCell (p := ⟨w.heap.size + 2, 6, none⟩) (Below.setCell (p := ⟨w.heap.size + 2, 5, none⟩) (Below.setCell (p := ⟨w.heap.size + 2, 4, none⟩) (Below.setCell (p := ⟨w.heap.size + 2, 3, none⟩) (Below.setCell (p := ⟨w.heap.size + 2, 2, none⟩) (Below.setCell (p := ⟨w.heap.size + 2, 1, none⟩) (Below.setCell (p := ⟨w.heap.size + 2, 0, none⟩) (Below.setCell (p := ⟨w.heap.size, 4, none⟩) HB10 (Nat.le_refl _) (.slice A10 (c + 1) c10)) (by show w.heap.size ≤ w.heap.size + 2; omega) (.int .i64 a1)) (by show w.heap.size ≤ w.heap.size + 2; omega) (.int .i64 a2)) (by show w.heap.size ≤ w.heap.size + 2; omega) (.int .i64 a3)) (by show w.heap.size ≤ w.heap.size + 2; omega) (.int .i64 a4)) (by show w.heap.size ≤ w.heap.size + 2; omega) (.slice A10 (c + 1) c10)) (by show w.heap.size ≤ w.heap.size + 2; omega) (.slice T tn tc)) (by show w.heap.size ≤ w.heap.size + 2; omega) (.slice B bn bc))⟩
                         have h := own_base HO10.out (show w.heap.size + 3 ≤ v4.heap.size by have := HZ3.out; omega)
                         have fq : ∀ q, (Value.slice A10 (c + 1) c10).ownBlock = some q → ¬ (q = w.heap.size ∨ q = w.heap.size + 2) := fun q hq => by have := (h.lt q hq).1; omega
                         exact own_farX (own_farX (own_farX (own_farX (own_farX (own_farX (own_farX (own_farX h (fun q hq e => fq q hq (.inl e.symm))) (fun q hq e => fq q hq (.inr e.symm))) (fun q hq e => fq q hq (.inr e.symm))) (fun q hq e => fq q hq (.inr e.symm))) (fun q hq e => fq q hq (.inr e.symm))) (fun q hq e => fq q hq (.inr e.symm))) (fun q hq e => fq q hq (.inr e.symm))) (fun q hq e => fq q hq (.inr e.symm)))
                        clear hown10 hg10 HO10 HB10 HV9 HB9 hL9 HINS HS9 HS10 HV10 HB HSv HQv HV HRv
                        go_wp2_with fail
                        exact bodyPost_ret (v := .tuple #[.agg #[.int .i64 a1, .int .i64 a2, .int .i64 a3, .int .i64 a4, .slice A10 (c + 1) c10, .slice T tn tc, .slice B bn bc], .int .i64 0]) (by simp [results, Try.results23, go_sem, q0, q1, q2, q3, q4, q5, q6, lv10]) rfl ⟨HF.out.2, .inr ⟨HE.out, A10, c10, rfl, HF.out.1⟩⟩
                      · have hcj' : ¬ j = c := fun h => hcj h.symm
                        go_wp2_with (at_builtin; refine wpl_append _ rfl (.tmp 85) (.tmp 89) 33 rfl v4.heap.size 70 (.agg #[.int .i64 0, .int .i64 0, .int .i64 0]) 3 24 Try.underlying33 info_P18 rfl (by decide) v9 (j + 1) _ rfl HV9.out 0 _ 0 _ [] rfl Row.nil (by simp) ?f1 ?f2 ?f3 ?_)
                        case f1 => unfold maxLen; omega
                        case f2 => omega
                        case f3 => first | omega | exact hz9
                        intro v10 w10 hown10 hg10 _
                        have HO10 := Lib.hid (show w10.ownsRow v4.heap.size 70 3 v10 (j + 1) (pnC (insK ltP l ⟨qw, qr, qg⟩)) by
                         rw [HINS.out]
                         first | (simpa using hown10; done) | (simpa [pnC] using hown10))
                        have HB10 := Lib.hid (show Below v4.heap.size v4 w10 from HB9.out.grown hg10 (by omega) (fun q hq => hL9.out q hq))
                        obtain ⟨A10, c10, rfl⟩ := own_form HO10.out
                        have hz10 := HB10.out.size
                        have HS10 := Lib.hid (Whole.below HSv.out HB10.out ls4)
                        have HV10 := Lib.hid (Whole.below HV.out HB10.out lv4)
                        have r0 := HS10.out.cell 0
                        have r1 := HS10.out.cell 1
                        have r2 := HS10.out.cell 2
                        have r3 := HS10.out.cell 3
                        have r4 := HS10.out.cell 4
                        have r5 := HS10.out.cell 5
                        have r6 := HS10.out.cell 6
                        have f4 := HS10.out.free 4
                        have q0 := HV10.out.cell 0
                        have q1 := HV10.out.cell 1
                        have q2 := HV10.out.cell 2
                        have q3 := HV10.out.cell 3
                        have q4 := HV10.out.cell 4
                        have q5 := HV10.out.cell 5
                        have q6 := HV10.out.cell 6
                        have g0 := HV10.out.free 0
                        have g1 := HV10.out.free 1
                        have g2 := HV10.out.free 2
                        have g3 := HV10.out.free 3
                        have g4 := HV10.out.free 4
                        have g5 := HV10.out.free 5
                        have g6 := HV10.out.free 6
                        have ls10 : w.heap.size < w10.heap.size := by omega
                        have lv10 : w.heap.size + 2 < w10.heap.size := by omega
                        have hne : ¬ w.heap.size = w.heap.size + 2 := by omega
                        have HF := Lib.hid (show (((((((((w10.setCell ⟨w.heap.size, 4, none⟩ (.slice A10 (j + 1) c10)).setCell ⟨w.heap.size + 2, 0, none⟩ (.int .i64 a1)).setCell ⟨w.heap.size + 2, 1, none⟩ (.int .i64 a2)).setCell ⟨w.heap.size + 2, 2, none⟩ (.int .i64 a3)).setCell ⟨w.heap.size + 2, 3, none⟩ (.int .i64 a4)).setCell ⟨w.heap.size + 2, 4, none⟩ (.slice A10 (j + 1) c10)).setCell ⟨w.heap.size + 2, 5, none⟩ (.slice T tn tc)).setCell ⟨w.heap.size + 2, 6, none⟩ (.slice B bn bc))).ownsRow (w.heap.size + 3) 70 3 (.slice A10 (j + 1) c10) (j + 1) (pnC (insK ltP l ⟨qw, qr, qg⟩)) ∧ Below w.heap.size w ((((((((w10.setCell ⟨w.heap.size, 4, none⟩ (.slice A10 (j + 1) c10)).setCell ⟨w.heap.size + 2, 0, none⟩ (.int .i64 a1)).setCell ⟨w.heap.size + 2, 1, none⟩ (.int .i64 a2)).setCell ⟨w.heap.size + 2, 2, none⟩ (.int .i64 a3)).setCell ⟨w.heap.size + 2, 3, none⟩ (.int .i64 a4)).setCell ⟨w.heap.size + 2, 4, none⟩ (.slice A10 (j + 1) c10)).setCell ⟨w.heap.size + 2, 5, none⟩ (.slice T tn tc)).setCell ⟨w.heap.size + 2, 6, none⟩ (.slice B bn bc)) from by
                         have HB10 : Below w.heap.size w w10 := HB.out.trans (HB10.out.mono (by omega))
                         refine ⟨?_, (Below.setCell (p := ⟨w.heap.size + 2, 6, none⟩) (Below.setCell (p := ⟨w.heap.size + 2, 5, none⟩) (Below.setCell (p := ⟨w.heap.size + 2, 4, none⟩) (Below.setCell (p := ⟨w.heap.size + 2, 3, none⟩) (Below.setCell (p := ⟨w.heap.size + 2, 2, none⟩) (Below.setCell (p := ⟨w.heap.size + 2, 1, none⟩) (Below.setCell (p := ⟨w.heap.size + 2, 0, none⟩) (Below.setCell (p := ⟨w.heap.size, 4, none⟩) HB10 (Nat.le_refl _) (.slice A10 (j + 1) c10)) (by show w.heap.size ≤ w.heap.size + 2; omega) (.int .i64 a1)) (by show w.heap.size ≤ w.heap.size + 2; omega) (.int .i64 a2)) (by show w.heap.size ≤ w.heap.size + 2; omega) (.int .i64 a3)) (by show w.heap.size ≤ w.heap.size + 2; omega) (.int .i64 a4)) (by show w.heap.size ≤ w.heap.size + 2; omega) (.slice A10 (j + 1) c10)) (by show w.heap.size ≤ w.heap.size + 2; omega) (.slice T tn tc)) (by show w.heap.size ≤ w.heap.size + 2; omega) (.slice B bn bc))⟩
                         have h := own_base HO10.out (show w.heap.size + 3 ≤ v4.heap.size by have := HZ3.out; omega)
                         have fq : ∀ q, (Value.slice A10 (j + 1) c10).ownBlock = some q → ¬ (q = w.heap.size ∨ q = w.heap.size + 2) := fun q hq => by have := (h.lt q hq).1; omega
                         exact own_farX (own_farX (own_farX (own_farX (own_farX (own_farX (own_farX (own_farX h (fun q hq e => fq q hq (.inl e.symm))) (fun q hq e => fq q hq (.inr e.symm))) (fun q hq e => fq q hq (.inr e.symm))) (fun q hq e => fq q hq (.inr e.symm))) (fun q hq e => fq q hq (.inr e.symm))) (fun q hq e => fq q hq (.inr e.symm))) (fun q hq e => fq q hq (.inr e.symm))) (fun q hq e => fq q hq (.inr e.symm)))
                        clear hown10 hg10 HO10 HB10 HV9 HB9 hL9 HINS HS9 HS10 HV10 HB HSv HQv HV HRv
                        go_wp2_with fail
                        exact bodyPost_ret (v := .tuple #[.agg #[.int .i64 a1, .int .i64 a2, .int .i64 a3, .int .i64 a4, .slice A10 (j + 1) c10, .slice T tn tc, .slice B bn bc], .int .i64 0]) (by simp [results, Try.results23, go_sem, q0, q1, q2, q3, q4, q5, q6, lv10]) rfl ⟨HF.out.2, .inr ⟨HE.out, A10, c10, rfl, HF.out.1⟩⟩
end Go.Proofs.Ytmmeceehfdbdoaa
