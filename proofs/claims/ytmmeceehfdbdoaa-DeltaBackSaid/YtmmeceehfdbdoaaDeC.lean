/-
 Contract of the document's change (layer 18): Unsubscribe, Mute, Unmute, Select.
-/
import Derived.Conc.WalkWords
import Derived.Test.YtmmeceehfdbdoaaDeO
import Derived.Test.YtmmeceehfdbdoaaHang
namespace Go.Proofs.Ytmmeceehfdbdoaa
open Go.RowKit
open Dl
set_option linter.unusedSimpArgs false
set_option linter.unusedVariables false
set_option maxRecDepth 100000

namespace Dl
def chgE (m : List Sb) (q : Rq) : Int :=
 match m.find? (isB q.who q.track) with
 | none => 21
 | some b =>
  if q.kind = 6 then 0
  else if q.kind = 7 ∨ q.kind = 8 then (if b.muted = decide (q.kind = 7) then 23 else 0)
  else if badL q = true then 1 else 0
def chgB (b : Sb) (q : Rq) : Sb := if q.kind = 7 ∨ q.kind = 8 then ⟨b.who, b.track, b.layer, b.tid, decide (q.kind = 7)⟩ else ⟨b.who, b.track, q.layer, q.tid, b.muted⟩
def chgR (m : List Sb) (i : Nat) (b : Sb) (q : Rq) : List Sb := if q.kind = 6 then m.take i ++ m.drop (i + 1) else m.set i (chgB b q)
theorem sb1_one (x : Sb) : ∀ u ∈ sbV x, u.oneCell' = true := by intro u hu; simp [sbV] at hu; rcases hu with rfl | rfl | rfl | rfl | rfl <;> rfl
/-- A row, but for its end. -/
theorem own_takeY {w : World} {base : Nat} {e : TypeId} {z n c i : Nat} {A : Option Addr} {xs : List Value} (h : w.ownsRow base e z (.slice A n c) n xs) (hn : 0 < n) (hi : i ≤ n) : w.ownsRow base e z (.slice A i c) i (xs.take (i * z)) := by
 have hl := h.1
 have hz : i * z ≤ n * z := Nat.mul_le_mul_right z hi
 refine ⟨by rw [List.length_take]; omega, ?_⟩
 rcases h.2 with ⟨hv, h0⟩ | ⟨g', cap, cur, hv, hb, hh, h1, h2, h3, h4⟩
 · omega
 · injection hv with hv _ hc
   subst hv
   subst hc
   exact .inr ⟨g', c, cur, rfl, hb, hh, by omega, h2, h3, by rw [← h4, List.take_take, Nat.min_eq_left hz]⟩
theorem sbC_set4 {a : Value} {y : Sb} : ∀ {l : List Sb} {i : Nat} {x : Sb}, l[i]? = some x → sbV y = [.int .i64 x.who, .int .i64 x.track, .int .i64 x.layer, .int .i64 x.tid, a] → (sbC l).set (i * 5 + 4) a = sbC (l.set i y)
 | [], i, x, h, _ => by simp at h
 | z :: l, 0, x, h, e => by
  simp at h
  subst h
  have e1 : sbC (z :: l) = sbV z ++ sbC l := rfl
  have e2 : sbC (y :: l) = sbV y ++ sbC l := rfl
  rw [List.set_cons_zero, e1, e2, e]
  rfl
 | z :: l, i + 1, x, h, e => by
  have ih := sbC_set4 (l := l) (i := i) (x := x) (by simpa using h) e
  have e1 : sbC (z :: l) = .int .i64 z.who :: .int .i64 z.track :: .int .i64 z.layer :: .int .i64 z.tid :: .bool z.muted :: sbC l := rfl
  have e2 : sbC (z :: l.set i y) = .int .i64 z.who :: .int .i64 z.track :: .int .i64 z.layer :: .int .i64 z.tid :: .bool z.muted :: sbC (l.set i y) := rfl
  rw [List.set_cons_succ, e1, e2, ← ih, show (i + 1) * 5 + 4 = i * 5 + 4 + 1 + 1 + 1 + 1 + 1 by omega]
  simp only [List.set_cons_succ]
theorem sbC_set23 {a b : Value} {y : Sb} : ∀ {l : List Sb} {i : Nat} {x : Sb}, l[i]? = some x → sbV y = [.int .i64 x.who, .int .i64 x.track, a, b, .bool x.muted] → ((sbC l).set (i * 5 + 2) a).set (i * 5 + 3) b = sbC (l.set i y)
 | [], i, x, h, _ => by simp at h
 | z :: l, 0, x, h, e => by
  simp at h
  subst h
  have e1 : sbC (z :: l) = sbV z ++ sbC l := rfl
  have e2 : sbC (y :: l) = sbV y ++ sbC l := rfl
  rw [List.set_cons_zero, e1, e2, e]
  rfl
 | z :: l, i + 1, x, h, e => by
  have ih := sbC_set23 (l := l) (i := i) (x := x) (by simpa using h) e
  have e1 : sbC (z :: l) = .int .i64 z.who :: .int .i64 z.track :: .int .i64 z.layer :: .int .i64 z.tid :: .bool z.muted :: sbC l := rfl
  have e2 : sbC (z :: l.set i y) = .int .i64 z.who :: .int .i64 z.track :: .int .i64 z.layer :: .int .i64 z.tid :: .bool z.muted :: sbC (l.set i y) := rfl
  rw [List.set_cons_succ, e1, e2, ← ih, show (i + 1) * 5 + 2 = i * 5 + 2 + 1 + 1 + 1 + 1 + 1 by omega, show (i + 1) * 5 + 3 = i * 5 + 3 + 1 + 1 + 1 + 1 + 1 by omega]
  simp only [List.set_cons_succ]
end Dl
set_option maxHeartbeats 12800000 in
theorem rchange18 (a1 a2 a3 a4 : Int) (PA : Option Addr) (pn pc : Nat) (A : Option Addr) (n c : Nat) (B : Option Addr) (bc : Nat) (m : List Sb) (q : Rq) (Q : Option Addr) (qn qc : Nat) (w : World)
 (hk : q.kind = 6 ∨ q.kind = 7 ∨ q.kind = 8 ∨ q.kind = 9) (hb : Row w w.heap.size 5 B m.length (sbC m)) (hm : m.length ≤ 4096) (hlc : m.length ≤ bc) (hcm : bc ≤ maxLen) :
 Calls Try.prog 29 #[.agg #[.int .i64 a1, .int .i64 a2, .int .i64 a3, .int .i64 a4, .slice PA pn pc, .slice A n c, .slice B m.length bc], .agg #[.int .i64 q.kind, .int .i64 q.who, .int .i64 q.room, .int .i64 q.rights, .int .i64 q.track, .slice Q qn qc, .int .i64 q.layer, .int .i64 q.tid]] w fun e w' => Below w.heap.size w w' ∧
  ((chgE m q ≠ 0 ∧ e = .returned (.tuple #[.agg #[.int .i64 a1, .int .i64 a2, .int .i64 a3, .int .i64 a4, .slice PA pn pc, .slice A n c, .slice B m.length bc], .int .i64 (chgE m q)])) ∨
   (chgE m q = 0 ∧ ∃ (i : Nat) (b : Sb) (A' : Option Addr) (c' : Nat), m[i]? = some b ∧ m.find? (isB q.who q.track) = some b ∧ e = .returned (.tuple #[.agg #[.int .i64 a1, .int .i64 a2, .int .i64 a3, .int .i64 a4, .slice PA pn pc, .slice A n c, .slice A' (chgR m i b q).length c'], .int .i64 0]) ∧ w'.ownsRow (w.heap.size + 3) 56 5 (.slice A' (chgR m i b q).length c') (chgR m i b q).length (sbC (chgR m i b q)))) := by
 obtain ⟨bn, hbn⟩ : ∃ n, m.length = n := ⟨_, rfl⟩
 obtain ⟨qk, qw, qr, qg, qt, qs, ql, qd⟩ := q
 dsimp only at hk ⊢
 have HBN := Lib.hid hbn
 have HRB := Lib.hid hb
 rw [hbn] at hm hlc ⊢
 have HCM := Lib.hid hcm
 obtain ⟨w1, hw1⟩ : ∃ z, z = w.alloc (.cells #[.int .i64 a1, .int .i64 a2, .int .i64 a3, .int .i64 a4, .slice PA pn pc, .slice A n c, .slice B bn bc] 37) := ⟨_, rfl⟩
 have HB1 := Lib.hid (show Below w.heap.size w w1 by rw [hw1]; exact (Below.refl _ _).alloc (Nat.le_refl _) _)
 have HS1 := Lib.hid (show Whole w1 w.heap.size 37 #[.int .i64 a1, .int .i64 a2, .int .i64 a3, .int .i64 a4, .slice PA pn pc, .slice A n c, .slice B bn bc] by rw [hw1]; exact Whole.new w _ _)
 have hz1 : w1.heap.size = w.heap.size + 1 := by rw [hw1]; simp
 obtain ⟨w2, hw2⟩ : ∃ z, z = w1.alloc (.cells #[.int .i64 qk, .int .i64 qw, .int .i64 qr, .int .i64 qg, .int .i64 qt, .slice Q qn qc, .int .i64 ql, .int .i64 qd] 48) := ⟨_, rfl⟩
 have HB2 := Lib.hid (show Below w1.heap.size w1 w2 by rw [hw2]; exact (Below.refl _ _).alloc (Nat.le_refl _) _)
 have HQ2 := Lib.hid (show Whole w2 (w.heap.size + 1) 48 #[.int .i64 qk, .int .i64 qw, .int .i64 qr, .int .i64 qg, .int .i64 qt, .slice Q qn qc, .int .i64 ql, .int .i64 qd] by rw [hw2, ← hz1]; exact Whole.new w1 _ _)
 have hz2 : w2.heap.size = w.heap.size + 2 := by rw [hw2]; simp; omega
 obtain ⟨w3, hw3⟩ : ∃ z, z = w2.alloc (.cells #[.int .i64 0, .int .i64 0, .int .i64 0, .int .i64 0, .slice none 0 0, .slice none 0 0, .slice none 0 0] 37) := ⟨_, rfl⟩
 have HB3 := Lib.hid (show Below w2.heap.size w2 w3 by rw [hw3]; exact (Below.refl _ _).alloc (Nat.le_refl _) _)
 have HV := Lib.hid (show Whole w3 (w.heap.size + 2) 37 #[.int .i64 0, .int .i64 0, .int .i64 0, .int .i64 0, .slice none 0 0, .slice none 0 0, .slice none 0 0] by rw [hw3, ← hz2]; exact Whole.new w2 _ _)
 have hz3 : w3.heap.size = w.heap.size + 3 := by rw [hw3]; simp; omega
 have HS := Lib.hid (Whole.below (Whole.below HS1.out HB2.out (by omega)) HB3.out (by omega))
 have HQ := Lib.hid (Whole.below HQ2.out HB3.out (by omega))
 have HB := Lib.hid ((HB1.out.trans (HB2.out.mono (by omega))).trans (HB3.out.mono (by omega)))
 have lv : w.heap.size + 2 < w3.heap.size := by omega
 have ls : w.heap.size < w3.heap.size := by omega
 have lq : w.heap.size + 1 < w3.heap.size := by omega
 have HZ3 := Lib.hid (show w.heap.size + 3 ≤ w3.heap.size by omega)
 go_enter Try.func29, Try.ntmps29
 go_upto_region 1 with fail
 rw [← hw1, show w.heap.size + 1 + 1 = w.heap.size + 2 from rfl]
 rw [← hw2, ← hw3]
 clear hcm hw1 hw2 hw3 HS1 HB1 HB2 HB3 HQ2 hz1 hz2 hz3 hb hbn
 have r0 := HS.out.cell 0
 have r1 := HS.out.cell 1
 have r2 := HS.out.cell 2
 have r3 := HS.out.cell 3
 have r4 := HS.out.cell 4
 have r5 := HS.out.cell 5
 have r6 := HS.out.cell 6
 have p0 := HQ.out.cell 0
 have p1 := HQ.out.cell 1
 have p2 := HQ.out.cell 2
 have p3 := HQ.out.cell 3
 have p4 := HQ.out.cell 4
 have p5 := HQ.out.cell 5
 have p6 := HQ.out.cell 6
 have p7 := HQ.out.cell 7
 have CS := Lib.hid (show Calls Try.prog 34 #[.agg #[.int .i64 a1, .int .i64 a2, .int .i64 a3, .int .i64 a4, .slice PA pn pc, .slice A n c, .slice B bn bc], .int .i64 qw, .int .i64 qt] w3 (fun e w' => e = .returned (.int .i64 (ixS (isB qw qt) m)) ∧ Below w3.heap.size w3 w') by
  have h := rsub18 a1 a2 a3 a4 (.slice PA pn pc) (.slice A n c) B bc m qw qt w3 ((HRB.out.below HB.out (Nat.le_refl _)).more (by omega)) (by rw [HBN.out]; exact hm)
  rw [HBN.out] at h; exact h)
 go_wp2_with fail
 refine CS.out.mono ?_
 rintro e v1 ⟨rfl, b1⟩
 clear CS
 have HSn := Lib.hid (Whole.below HS.out b1 ls)
 have HQn := Lib.hid (Whole.below HQ.out b1 lq)
 have HVn := Lib.hid (Whole.below HV.out b1 lv)
 have HBn := Lib.hid (HB.out.trans ((b1).mono (by omega)))
 have lsn : w.heap.size < v1.heap.size := by have := (b1).size; omega
 have lqn : w.heap.size + 1 < v1.heap.size := by have := (b1).size; omega
 have lvn : w.heap.size + 2 < v1.heap.size := by have := (b1).size; omega
 clear r0 r1 r2 r3 r4 r5 r6 p0 p1 p2 p3 p4 p5 p6 p7 HS HQ HV HB ls lq lv
 have HS := Lib.hid HSn.out
 have HQ := Lib.hid HQn.out
 have HV := Lib.hid HVn.out
 have HB := Lib.hid HBn.out
 have ls := lsn
 have lq := lqn
 have lv := lvn
 clear HSn HQn HVn HBn lsn lqn lvn
 have r0 := HS.out.cell 0
 have r1 := HS.out.cell 1
 have r2 := HS.out.cell 2
 have r3 := HS.out.cell 3
 have r4 := HS.out.cell 4
 have r5 := HS.out.cell 5
 have r6 := HS.out.cell 6
 have p0 := HQ.out.cell 0
 have p1 := HQ.out.cell 1
 have p2 := HQ.out.cell 2
 have p3 := HQ.out.cell 3
 have p4 := HQ.out.cell 4
 have p5 := HQ.out.cell 5
 have p6 := HQ.out.cell 6
 have p7 := HQ.out.cell 7
 clear b1
 by_cases hi : ixS (isB qw qt) m < 0
 · obtain ⟨ix, hix⟩ : ∃ z, ixS (isB qw qt) m = z := ⟨_, rfl⟩
   have HX := Lib.hid (ix_none hi)
   rw [hix] at hi ⊢
   clear hix
   have q0 := HV.out.cell 0; have s0 := HV.out.free 0; have q1 := HV.out.cell 1; have s1 := HV.out.free 1; have q2 := HV.out.cell 2; have s2 := HV.out.free 2; have q3 := HV.out.cell 3; have s3 := HV.out.free 3; have q4 := HV.out.cell 4; have s4 := HV.out.free 4; have q5 := HV.out.cell 5; have s5 := HV.out.free 5; have q6 := HV.out.cell 6; have s6 := HV.out.free 6
   have HE := Lib.hid (show chgE m ⟨qk, qw, qr, qg, qt, qs, ql, qd⟩ = 21 from by unfold chgE; dsimp only; rw [HX.out])
   have HF := Lib.hid (show Below w.heap.size w (((((((v1.setCell ⟨w.heap.size + 2, 0, none⟩ (.int .i64 a1)).setCell ⟨w.heap.size + 2, 1, none⟩ (.int .i64 a2)).setCell ⟨w.heap.size + 2, 2, none⟩ (.int .i64 a3)).setCell ⟨w.heap.size + 2, 3, none⟩ (.int .i64 a4)).setCell ⟨w.heap.size + 2, 4, none⟩ (.slice PA pn pc)).setCell ⟨w.heap.size + 2, 5, none⟩ (.slice A n c)).setCell ⟨w.heap.size + 2, 6, none⟩ (.slice B bn bc)) from (Below.setCell (p := ⟨w.heap.size + 2, 6, none⟩) (Below.setCell (p := ⟨w.heap.size + 2, 5, none⟩) (Below.setCell (p := ⟨w.heap.size + 2, 4, none⟩) (Below.setCell (p := ⟨w.heap.size + 2, 3, none⟩) (Below.setCell (p := ⟨w.heap.size + 2, 2, none⟩) (Below.setCell (p := ⟨w.heap.size + 2, 1, none⟩) (Below.setCell (p := ⟨w.heap.size + 2, 0, none⟩) (HB.out) (by show w.heap.size ≤ w.heap.size + 2; omega) (.int .i64 a1)) (by show w.heap.size ≤ w.heap.size + 2; omega) (.int .i64 a2)) (by show w.heap.size ≤ w.heap.size + 2; omega) (.int .i64 a3)) (by show w.heap.size ≤ w.heap.size + 2; omega) (.int .i64 a4)) (by show w.heap.size ≤ w.heap.size + 2; omega) (.slice PA pn pc)) (by show w.heap.size ≤ w.heap.size + 2; omega) (.slice A n c)) (by show w.heap.size ≤ w.heap.size + 2; omega) (.slice B bn bc)))
   clear HB
   go_wp2_with fail
   exact bodyPost_ret (v := .tuple #[.agg #[.int .i64 a1, .int .i64 a2, .int .i64 a3, .int .i64 a4, .slice PA pn pc, .slice A n c, .slice B bn bc], .int .i64 21]) (by simp [results, Try.results29, go_sem, q0, q1, q2, q3, q4, q5, q6, lv]) rfl ⟨HF.out, .inl ⟨by rw [HE.out]; decide, by rw [HE.out]⟩⟩
 · obtain ⟨i, x, hix, hx, hfx⟩ := ix_get (f := isB qw qt) (l := m) (by omega)
   rw [hix]
   have HX := Lib.hid hx
   have HFX := Lib.hid hfx
   have hin : i < bn := by have := (List.getElem?_eq_some_iff.1 hx).1; rw [HBN.out] at this; exact this
   obtain ⟨g, o, rfl, hg, hc⟩ := HRB.out.2 (by rw [HBN.out]; omega)
   have i0 : (0 : Int) ≤ (i : Int) := by omega
   have i1 : (i : Int) < (bn : Int) := by omega
   clear hix hx hfx hc hi
   have HR9 := Lib.hid (show Row v1 w.heap.size 5 (some ⟨g, o, none⟩) bn (sbC m) by have h := HRB.out.below HB.out (Nat.le_refl _); rw [HBN.out] at h; exact h)
   have hz9 : w.heap.size + 3 ≤ v1.heap.size := by have := lv; omega
   go_upto_region 5 with fail
   go_wp2_with (at_builtin; refine wpl_append _ rfl (.tmp 17) (.tmp 19) 35 rfl v1.heap.size 56 (.agg #[.int .i64 0, .int .i64 0, .int .i64 0, .int .i64 0, .bool false]) 5 40 Try.underlying35 info_B18 rfl (by decide) (.slice none 0 0) 0 [] rfl (World.ownsRow_nil _ _ _ _) w.heap.size (some ⟨g, o, none⟩) bn bc (sbC m) rfl HR9.out (flat_one sb1_one _) ?za1 ?za2 ?za3 ?_)
   try (case za1 => unfold maxLen; omega)
   try (case za2 => omega)
   try (case za3 => exact Nat.le_refl _)
   intro v8 w8 hown8 hg8 hv8
   have b8 : Below v1.heap.size v1 w8 := ⟨hg8.os, hg8.tape, hg8.output, hg8.size, fun k hk => hg8.block k hk (by simp [Value.ownBlock])⟩
   have hown8 : w8.ownsRow v1.heap.size 56 5 v8 bn (sbC m) := by simpa using hown8
   obtain ⟨g8, c8, cur, rfl, hg8b, HW8, hc8, hm8⟩ : ∃ g8 c8 cur, v8 = .slice (some ⟨g8, 0, none⟩) bn c8 ∧ v1.heap.size ≤ g8 ∧ Whole w8 g8 56 cur ∧ bn ≤ c8 ∧ c8 ≤ maxLen := by
    rcases hown8.2 with ⟨hv, h0⟩ | ⟨g', cap, cur, hv, hb, hh, h1, h2, _⟩
    · omega
    · exact ⟨g', cap, cur, hv, hb, hh, h1, h2⟩
   obtain ⟨g0, o0, e0, hl0, hc0⟩ := (Row.of_own hown8).2 (by omega)
   cases e0
   have m2 := hc0 _ _ ((sbC_get HX.out 2 (by decide)).trans rfl)
   have m3 := hc0 _ _ ((sbC_get HX.out 3 (by decide)).trans rfl)
   have m4 := hc0 _ _ ((sbC_get HX.out 4 (by decide)).trans rfl)
   rw [Nat.zero_add] at m2 m3 m4
   have n2 := HW8.free (i * 5 + 2)
   have n3 := HW8.free (i * 5 + 3)
   have n4 := HW8.free (i * 5 + 4)
   obtain ⟨xw, xt, xl, xd, xm⟩ := x
   dsimp only at m2 m3 m4
   have HO8 := Lib.hid hown8
   have HC8 := Lib.hid (And.intro hc8 hm8)
   have lg8 := HW8.lt
   clear hc0 hv8 HW8 hg8 hown8 HR9 hc8 hm8 hl0
   have HSn := Lib.hid (Whole.below HS.out b8 ls)
   have HQn := Lib.hid (Whole.below HQ.out b8 lq)
   have HVn := Lib.hid (Whole.below HV.out b8 lv)
   have HBn := Lib.hid (HB.out.trans ((b8).mono (by omega)))
   have lsn : w.heap.size < w8.heap.size := by have := (b8).size; omega
   have lqn : w.heap.size + 1 < w8.heap.size := by have := (b8).size; omega
   have lvn : w.heap.size + 2 < w8.heap.size := by have := (b8).size; omega
   clear r0 r1 r2 r3 r4 r5 r6 p0 p1 p2 p3 p4 p5 p6 p7 HS HQ HV HB ls lq lv
   have HS := Lib.hid HSn.out
   have HQ := Lib.hid HQn.out
   have HV := Lib.hid HVn.out
   have HB := Lib.hid HBn.out
   have ls := lsn
   have lq := lqn
   have lv := lvn
   clear HSn HQn HVn HBn lsn lqn lvn
   have r0 := HS.out.cell 0
   have r1 := HS.out.cell 1
   have r2 := HS.out.cell 2
   have r3 := HS.out.cell 3
   have r4 := HS.out.cell 4
   have r5 := HS.out.cell 5
   have r6 := HS.out.cell 6
   have p0 := HQ.out.cell 0
   have p1 := HQ.out.cell 1
   have p2 := HQ.out.cell 2
   have p3 := HQ.out.cell 3
   have p4 := HQ.out.cell 4
   have p5 := HQ.out.cell 5
   have p6 := HQ.out.cell 6
   have p7 := HQ.out.cell 7
   clear b8
   rcases hk with hk | hk | hk | hk
   · subst hk
     obtain ⟨j, hj⟩ : ∃ j : Nat, i + 1 = j := ⟨_, rfl⟩
     have HJ := Lib.hid hj
     have hsum : IntKind.i64.wrap ((i : Int) + 1) = (j : Int) := by rw [IntWalk.i64_in _ (by omega)]; omega
     have hc8 := HC8.out.1
     have k1 : (i : Int) ≤ (c8 : Int) := by omega
     have k2 : (j : Int) ≤ (bn : Int) := by omega
     have k3 : (0 : Int) ≤ (j : Int) := by omega
     have k4 : (bn : Int) ≤ (bc : Int) := by omega
     have HIJ := Lib.hid hj
     have hjb : j ≤ bn := by omega
     have hij : i < j := by omega
     clear hj
     by_cases hl1 : j < bn
     · skip
       go_upto_region 12 with fail
       obtain ⟨i9, hi9, hz0, hz1, hz2⟩ := info_parts info_B18
       have HI0 := Lib.hid hi9
       have HZ0 := Lib.hid hz0
       have HZ1 := Lib.hid hz1
       have HZ2 := Lib.hid hz2
       have HOI := Lib.hid (own_takeY HO8.out (by omega) (show i ≤ bn by omega))
       have HRW := Lib.hid (show Row w8 w.heap.size 5 (some ⟨g, o + j * 5, none⟩) (bn - j) ((sbC m).drop (j * 5)) from row_drop (by have h := HRB.out.below HB.out (Nat.le_refl _); rw [HBN.out] at h; exact h) (by omega))
       have hgb : g < w8.heap.size := by have := lv; omega
       have HE := Lib.hid (show chgE m ⟨6, qw, qr, qg, qt, qs, ql, qd⟩ = 0 from by unfold chgE; dsimp only; rw [HFX.out]; rfl)
       have HNW := Lib.hid (show ∀ k u, ((sbC m).drop (j * 5))[k]? = some u → w8.cell? ((⟨g, o + j * 5, none⟩ : Addr).add k) = some u from fun k u hu => by
        obtain ⟨g', o', e', _, hc'⟩ := HRW.out.2 (by omega)
        cases e'
        have := hc' k u hu
        unfold Addr.add
        split <;> simp_all)
       have hcj : ¬ bc = j := by omega
       have hcj' : ¬ j = bc := by omega
       clear hi9 hz0 hz1 hz2 m2 m3 m4 n2 n3 n4
       refine wp_region_X (S := fun w' => w'.cell? ⟨w.heap.size, 6, none⟩ = some (.slice (some ⟨g, o, none⟩) bn bc)) [] (by kernel_rfl) r6 (fun hHeld0 => ?_)
       refine tk (i := 0) [] (v := ?_) ?_ ?_
       rotate_left 1
       · (intro w hSw; have q0 := hSw; go_simp; try (with_reducible rfl))
       (try walk_nrm)
       refine tk (i := 1) [] (v := ?_) ?_ ?_
       rotate_left 1
       · (intro w hSw; have q0 := hSw; go_simp; try (with_reducible rfl))
       (try walk_nrm)
       refine tk (i := 2) [] (v := ?_) ?_ ?_
       rotate_left 1
       · (intro w hSw; have q0 := hSw; go_simp; try (with_reducible rfl))
       (try walk_nrm)
       refine tk (i := 3) [] (v := ?_) ?_ ?_
       rotate_left 1
       · (intro w hSw; have q0 := hSw; go_simp; try (with_reducible rfl))
       (try walk_nrm)
       refine tk (i := 4) [] (v := ?_) ?_ ?_
       rotate_left 1
       · (intro w hSw; have q0 := hSw; go_simp; try (with_reducible rfl))
       (try walk_nrm)
       refine tk (i := 5) [] (v := ?_) ?_ ?_
       rotate_left 1
       · (intro w hSw; have q0 := hSw; go_simp; try (with_reducible rfl))
       (try walk_nrm)
       refine tk (i := 6) [] (v := ?_) ?_ ?_
       rotate_left 1
       · (intro w hSw; have q0 := hSw; go_simp; try (with_reducible rfl))
       (try walk_nrm)
       refine tk (i := 7) [] (v := ?_) ?_ ?_
       rotate_left 1
       · (intro w hSw; have q0 := hSw; go_simp; try (with_reducible rfl))
       (try walk_nrm)
       refine wpAnyX_one 8 (by kernel_rfl) rfl (fun K hK => ?_)
       refine step_append_lies _ (by rfl) (.tmp 58) (.tmp 63) 35 (by rfl) v1.heap.size 56 i9 _ 5 40 Try.underlying35 HI0.out HZ0.out HZ1.out HZ2.out rfl (by omega) (.slice (some ⟨g8, 0, none⟩) i c8) i ((sbC m).take (i * 5)) (by rfl) HOI.out ⟨g, o + j * 5, none⟩ (bn - j) (bc - j) ((sbC m).drop (j * 5)) (by rfl) HRW.out.1 HNW.out (fun u hu => flat_one sb1_one m u (List.mem_of_mem_drop hu)) (by omega) (by unfold maxLen; omega) (by omega) (by have := hz9; show v1.heap.size ≤ w8.heap.size; omega) w8.heap.size rfl ?_
       intro gg cap w9 hown9 hg9 _ lgg
       have hnb : ∀ b, b < v1.heap.size → some b ≠ (Value.slice (some ⟨g8, 0, none⟩) i c8).ownBlock := fun b hb h => by
        have h : some b = some g8 := h
        injection h with h
        omega
       have HS9 := Lib.hid (Whole.grown (w := w8.drew) HS.out hg9 (hnb _ (by omega)))
       have HV9 := Lib.hid (Whole.grown (w := w8.drew) HV.out hg9 (hnb _ (by omega)))
       have HB9 := Lib.hid (show Below w.heap.size w w9 from HB.out.drew.grown hg9 HB.out.size (fun q hq => by
        have h : some g8 = some q := hq
        injection h with h
        omega))
       have HO9 := Lib.hid (show w9.ownsRow v1.heap.size 56 5 (.slice (some ⟨gg, 0, none⟩) (i + (bn - j)) cap) (i + (bn - j)) (sbC (m.take i ++ m.drop j)) from by
        unfold sbC
        rw [flat_append, flat_take (z := 5) (fun _ => rfl), flat_drop (z := 5) (fun _ => rfl)]
        exact hown9)
       have r6' := HS9.out.cell 6
       refine hK.out _ _ (.inr r6') ?_
       have hHeld9 : (fun w' => w'.cell? ⟨w.heap.size, 6, none⟩ = some (.slice (some ⟨g, o, none⟩) bn bc)) w9 := r6'
       clear hK K hHeld0
       (try walk_nrm)
       refine tk (i := 9) [] (v := ?_) ?_ ?_
       rotate_left 1
       · (intro w hSw; have q0 := hSw; go_simp; try (with_reducible rfl))
       (try walk_nrm)
       refine wpAnyX_done (by kernel_rfl) ?_ _
       have f6 := HS9.out.free 6
       have z0 := HS9.out.cell 0; have q0 := HV9.out.cell 0; have s0 := HV9.out.free 0; have z1 := HS9.out.cell 1; have q1 := HV9.out.cell 1; have s1 := HV9.out.free 1; have z2 := HS9.out.cell 2; have q2 := HV9.out.cell 2; have s2 := HV9.out.free 2; have z3 := HS9.out.cell 3; have q3 := HV9.out.cell 3; have s3 := HV9.out.free 3; have z4 := HS9.out.cell 4; have q4 := HV9.out.cell 4; have s4 := HV9.out.free 4; have z5 := HS9.out.cell 5; have q5 := HV9.out.cell 5; have s5 := HV9.out.free 5; have z6 := HS9.out.cell 6; have q6 := HV9.out.cell 6; have s6 := HV9.out.free 6
       have lv9 : w.heap.size + 2 < w9.heap.size := HV9.out.lt
       have ls9 : w.heap.size < w9.heap.size := by omega
       have hne : ¬ w.heap.size = w.heap.size + 2 := by omega
       have HRR := Lib.hid (show chgR m i ⟨xw, xt, xl, xd, xm⟩ ⟨6, qw, qr, qg, qt, qs, ql, qd⟩ = m.take i ++ m.drop j from by unfold chgR; rw [if_pos rfl, HJ.out])
       have HLL := Lib.hid (show (m.take i ++ m.drop j).length = i + (bn - j) from by rw [List.length_append, List.length_take, List.length_drop, HBN.out, Nat.min_eq_left (by omega)])
       have HF := Lib.hid (show (((((((((w9.setCell ⟨w.heap.size, 6, none⟩ (.slice (some ⟨gg, 0, none⟩) (i + (bn - j)) cap)).setCell ⟨w.heap.size + 2, 0, none⟩ (.int .i64 a1)).setCell ⟨w.heap.size + 2, 1, none⟩ (.int .i64 a2)).setCell ⟨w.heap.size + 2, 2, none⟩ (.int .i64 a3)).setCell ⟨w.heap.size + 2, 3, none⟩ (.int .i64 a4)).setCell ⟨w.heap.size + 2, 4, none⟩ (.slice PA pn pc)).setCell ⟨w.heap.size + 2, 5, none⟩ (.slice A n c)).setCell ⟨w.heap.size + 2, 6, none⟩ (.slice (some ⟨gg, 0, none⟩) (i + (bn - j)) cap))).ownsRow (w.heap.size + 3) 56 5 (.slice (some ⟨gg, 0, none⟩) (i + (bn - j)) cap) (i + (bn - j)) (sbC (m.take i ++ m.drop j)) ∧ Below w.heap.size w ((((((((w9.setCell ⟨w.heap.size, 6, none⟩ (.slice (some ⟨gg, 0, none⟩) (i + (bn - j)) cap)).setCell ⟨w.heap.size + 2, 0, none⟩ (.int .i64 a1)).setCell ⟨w.heap.size + 2, 1, none⟩ (.int .i64 a2)).setCell ⟨w.heap.size + 2, 2, none⟩ (.int .i64 a3)).setCell ⟨w.heap.size + 2, 3, none⟩ (.int .i64 a4)).setCell ⟨w.heap.size + 2, 4, none⟩ (.slice PA pn pc)).setCell ⟨w.heap.size + 2, 5, none⟩ (.slice A n c)).setCell ⟨w.heap.size + 2, 6, none⟩ (.slice (some ⟨gg, 0, none⟩) (i + (bn - j)) cap)) from by
        refine ⟨?_, (Below.setCell (p := ⟨w.heap.size + 2, 6, none⟩) (Below.setCell (p := ⟨w.heap.size + 2, 5, none⟩) (Below.setCell (p := ⟨w.heap.size + 2, 4, none⟩) (Below.setCell (p := ⟨w.heap.size + 2, 3, none⟩) (Below.setCell (p := ⟨w.heap.size + 2, 2, none⟩) (Below.setCell (p := ⟨w.heap.size + 2, 1, none⟩) (Below.setCell (p := ⟨w.heap.size + 2, 0, none⟩) (Below.setCell (p := ⟨w.heap.size, 6, none⟩) (HB9.out) (Nat.le_refl _) (.slice (some ⟨gg, 0, none⟩) (i + (bn - j)) cap)) (by show w.heap.size ≤ w.heap.size + 2; omega) (.int .i64 a1)) (by show w.heap.size ≤ w.heap.size + 2; omega) (.int .i64 a2)) (by show w.heap.size ≤ w.heap.size + 2; omega) (.int .i64 a3)) (by show w.heap.size ≤ w.heap.size + 2; omega) (.int .i64 a4)) (by show w.heap.size ≤ w.heap.size + 2; omega) (.slice PA pn pc)) (by show w.heap.size ≤ w.heap.size + 2; omega) (.slice A n c)) (by show w.heap.size ≤ w.heap.size + 2; omega) (.slice (some ⟨gg, 0, none⟩) (i + (bn - j)) cap))⟩
        have h := own_base HO9.out (show w.heap.size + 3 ≤ v1.heap.size by omega)
        have fq : ∀ q, (Value.slice (some ⟨gg, 0, none⟩) (i + (bn - j)) cap).ownBlock = some q → ¬ (q = w.heap.size ∨ q = w.heap.size + 2) := fun q hq => by have := (h.lt q hq).1; omega
        exact own_farX (own_farX (own_farX (own_farX (own_farX (own_farX (own_farX (own_farX h (fun q hq e => fq q hq (.inl e.symm))) (fun q hq e => fq q hq (.inr e.symm))) (fun q hq e => fq q hq (.inr e.symm))) (fun q hq e => fq q hq (.inr e.symm))) (fun q hq e => fq q hq (.inr e.symm))) (fun q hq e => fq q hq (.inr e.symm))) (fun q hq e => fq q hq (.inr e.symm))) (fun q hq e => fq q hq (.inr e.symm)))
       clear HO9 HB9
       go_wp2_with fail
       first
        | exact bodyPost_ret (v := .tuple #[.agg #[.int .i64 a1, .int .i64 a2, .int .i64 a3, .int .i64 a4, .slice PA pn pc, .slice A n c, .slice (some ⟨gg, 0, none⟩) (i + (bn - j)) cap], .int .i64 0]) (by simp [results, Try.results29, go_sem, q0, q1, q2, q3, q4, q5, q6, lv9]) rfl ⟨HF.out.2, .inr ⟨HE.out, i, ⟨xw, xt, xl, xd, xm⟩, HX.out, HFX.out, some ⟨gg, 0, none⟩, cap, by rw [HRR.out, HLL.out], by rw [HRR.out, HLL.out]; exact HF.out.1⟩⟩
        | exact bodyPost_ret (v := .tuple #[.agg #[.int .i64 a1, .int .i64 a2, .int .i64 a3, .int .i64 a4, .slice PA pn pc, .slice A n c, .slice (some ⟨gg, 0, none⟩) (i + (bn - j)) cap], .int .i64 0]) (by simp [results, Try.results29, go_sem, q0, q1, q2, q3, q4, q5, q6, lv9]) rfl ⟨HF.out.2, .inr ⟨HE.out, i, ⟨xw, xt, xl, xd, xm⟩, some ⟨gg, 0, none⟩, cap, HX.out, HFX.out, by rw [HRR.out, HLL.out], by rw [HRR.out, HLL.out]; exact HF.out.1⟩⟩
     · obtain rfl : bn = j := by omega
       go_upto_region 12 with fail
       have HOI := Lib.hid (own_takeY HO8.out (by omega) (show i ≤ bn by omega))
       have HE := Lib.hid (show chgE m ⟨6, qw, qr, qg, qt, qs, ql, qd⟩ = 0 from by unfold chgE; dsimp only; rw [HFX.out]; rfl)
       have hic : i ≤ c8 := by omega
       clear m2 m3 m4 n2 n3 n4
       rcases (show bc = bn ∨ ¬ bc = bn by omega) with hbc | hbc
       all_goals
        refine wp_region_X (S := fun w' => w'.cell? ⟨w.heap.size, 6, none⟩ = some (.slice (some ⟨g, o, none⟩) bn bc)) [] (by kernel_rfl) r6 (fun hHeld0 => ?_)
        refine tk (i := 0) [] (v := ?_) ?_ ?_
        rotate_left 1
        · (intro w hSw; have q0 := hSw; go_simp; try (with_reducible rfl))
        (try walk_nrm)
        refine tk (i := 1) [] (v := ?_) ?_ ?_
        rotate_left 1
        · (intro w hSw; have q0 := hSw; go_simp; try (with_reducible rfl))
        (try walk_nrm)
        refine tk (i := 2) [] (v := ?_) ?_ ?_
        rotate_left 1
        · (intro w hSw; have q0 := hSw; go_simp; try (with_reducible rfl))
        (try walk_nrm)
        refine tk (i := 3) [] (v := ?_) ?_ ?_
        rotate_left 1
        · (intro w hSw; have q0 := hSw; go_simp; try (with_reducible rfl))
        (try walk_nrm)
        refine tk (i := 4) [] (v := ?_) ?_ ?_
        rotate_left 1
        · (intro w hSw; have q0 := hSw; go_simp; try (with_reducible rfl))
        (try walk_nrm)
        refine tk (i := 5) [] (v := ?_) ?_ ?_
        rotate_left 1
        · (intro w hSw; have q0 := hSw; go_simp; try (with_reducible rfl))
        (try walk_nrm)
        refine tk (i := 6) [] (v := ?_) ?_ ?_
        rotate_left 1
        · (intro w hSw; have q0 := hSw; go_simp; try (with_reducible rfl))
        (try walk_nrm)
        refine tk (i := 7) [] (v := ?_) ?_ ?_
        rotate_left 1
        · (intro w hSw; have q0 := hSw; go_simp; try (with_reducible rfl))
        (try walk_nrm)
        refine wpAnyX_one 8 (by kernel_rfl) rfl (fun K hK => ?_)
        go_simp
        refine hK.out _ _ (.inr r6) ?_
        have hHeld9 : (fun w' => w'.cell? ⟨w.heap.size, 6, none⟩ = some (.slice (some ⟨g, o, none⟩) bn bc)) w8.drew := r6
        clear hK K hHeld0
        (try walk_nrm)
        refine tk (i := 9) [] (v := ?_) ?_ ?_
        rotate_left 1
        · (intro w hSw; have q0 := hSw; go_simp; try (with_reducible rfl))
        (try walk_nrm)
        refine wpAnyX_done (by kernel_rfl) ?_ _
        obtain ⟨wq, hwq⟩ : ∃ z, z = w8.drew := ⟨_, rfl⟩
        have HSq := Lib.hid (show Whole wq _ _ _ from by rw [hwq]; exact HS.out)
        have HVq := Lib.hid (show Whole wq _ _ _ from by rw [hwq]; exact HV.out)
        have HBq := Lib.hid (show Below w.heap.size w wq from by rw [hwq]; exact HB.out.drew)
        have HOq := Lib.hid (show wq.ownsRow v1.heap.size 56 5 (.slice (some ⟨g8, 0, none⟩) i c8) i (sbC (m.take i ++ m.drop bn)) from by
         rw [hwq, List.drop_of_length_le (by rw [HBN.out]; exact Nat.le_refl _), List.append_nil]
         unfold sbC
         rw [flat_take (z := 5) (fun _ => rfl)]
         exact HOI.out)
        rw [← hwq]
        clear hwq HOI HO8 HB r0 r1 r2 r3 r4 r5 r6 p0 p1 p2 p3 p4 p5 p6 p7 hHeld9
        have f6 := HSq.out.free 6
        have z0 := HSq.out.cell 0; have q0 := HVq.out.cell 0; have s0 := HVq.out.free 0; have z1 := HSq.out.cell 1; have q1 := HVq.out.cell 1; have s1 := HVq.out.free 1; have z2 := HSq.out.cell 2; have q2 := HVq.out.cell 2; have s2 := HVq.out.free 2; have z3 := HSq.out.cell 3; have q3 := HVq.out.cell 3; have s3 := HVq.out.free 3; have z4 := HSq.out.cell 4; have q4 := HVq.out.cell 4; have s4 := HVq.out.free 4; have z5 := HSq.out.cell 5; have q5 := HVq.out.cell 5; have s5 := HVq.out.free 5; have z6 := HSq.out.cell 6; have q6 := HVq.out.cell 6; have s6 := HVq.out.free 6
        have lv9 : w.heap.size + 2 < wq.heap.size := HVq.out.lt
        have ls9 : w.heap.size < wq.heap.size := by omega
        have hne : ¬ w.heap.size = w.heap.size + 2 := by omega
        have HRR := Lib.hid (show chgR m i ⟨xw, xt, xl, xd, xm⟩ ⟨6, qw, qr, qg, qt, qs, ql, qd⟩ = m.take i ++ m.drop bn from by unfold chgR; rw [if_pos rfl, HJ.out])
        have HLL := Lib.hid (show (m.take i ++ m.drop bn).length = i from by rw [List.length_append, List.length_take, List.length_drop, HBN.out, Nat.min_eq_left (by omega)]; omega)
        have HF := Lib.hid (show (((((((((wq.setCell ⟨w.heap.size, 6, none⟩ (.slice (some ⟨g8, 0, none⟩) i c8)).setCell ⟨w.heap.size + 2, 0, none⟩ (.int .i64 a1)).setCell ⟨w.heap.size + 2, 1, none⟩ (.int .i64 a2)).setCell ⟨w.heap.size + 2, 2, none⟩ (.int .i64 a3)).setCell ⟨w.heap.size + 2, 3, none⟩ (.int .i64 a4)).setCell ⟨w.heap.size + 2, 4, none⟩ (.slice PA pn pc)).setCell ⟨w.heap.size + 2, 5, none⟩ (.slice A n c)).setCell ⟨w.heap.size + 2, 6, none⟩ (.slice (some ⟨g8, 0, none⟩) i c8))).ownsRow (w.heap.size + 3) 56 5 (.slice (some ⟨g8, 0, none⟩) i c8) (i) (sbC (m.take i ++ m.drop bn)) ∧ Below w.heap.size w ((((((((wq.setCell ⟨w.heap.size, 6, none⟩ (.slice (some ⟨g8, 0, none⟩) i c8)).setCell ⟨w.heap.size + 2, 0, none⟩ (.int .i64 a1)).setCell ⟨w.heap.size + 2, 1, none⟩ (.int .i64 a2)).setCell ⟨w.heap.size + 2, 2, none⟩ (.int .i64 a3)).setCell ⟨w.heap.size + 2, 3, none⟩ (.int .i64 a4)).setCell ⟨w.heap.size + 2, 4, none⟩ (.slice PA pn pc)).setCell ⟨w.heap.size + 2, 5, none⟩ (.slice A n c)).setCell ⟨w.heap.size + 2, 6, none⟩ (.slice (some ⟨g8, 0, none⟩) i c8)) from by
         refine ⟨?_, (Below.setCell (p := ⟨w.heap.size + 2, 6, none⟩) (Below.setCell (p := ⟨w.heap.size + 2, 5, none⟩) (Below.setCell (p := ⟨w.heap.size + 2, 4, none⟩) (Below.setCell (p := ⟨w.heap.size + 2, 3, none⟩) (Below.setCell (p := ⟨w.heap.size + 2, 2, none⟩) (Below.setCell (p := ⟨w.heap.size + 2, 1, none⟩) (Below.setCell (p := ⟨w.heap.size + 2, 0, none⟩) (Below.setCell (p := ⟨w.heap.size, 6, none⟩) (HBq.out) (Nat.le_refl _) (.slice (some ⟨g8, 0, none⟩) i c8)) (by show w.heap.size ≤ w.heap.size + 2; omega) (.int .i64 a1)) (by show w.heap.size ≤ w.heap.size + 2; omega) (.int .i64 a2)) (by show w.heap.size ≤ w.heap.size + 2; omega) (.int .i64 a3)) (by show w.heap.size ≤ w.heap.size + 2; omega) (.int .i64 a4)) (by show w.heap.size ≤ w.heap.size + 2; omega) (.slice PA pn pc)) (by show w.heap.size ≤ w.heap.size + 2; omega) (.slice A n c)) (by show w.heap.size ≤ w.heap.size + 2; omega) (.slice (some ⟨g8, 0, none⟩) i c8))⟩
         have h := own_base HOq.out (show w.heap.size + 3 ≤ v1.heap.size by omega)
         have fq : ∀ q, (Value.slice (some ⟨g8, 0, none⟩) i c8).ownBlock = some q → ¬ (q = w.heap.size ∨ q = w.heap.size + 2) := fun q hq => by have := (h.lt q hq).1; omega
         exact own_farX (own_farX (own_farX (own_farX (own_farX (own_farX (own_farX (own_farX h (fun q hq e => fq q hq (.inl e.symm))) (fun q hq e => fq q hq (.inr e.symm))) (fun q hq e => fq q hq (.inr e.symm))) (fun q hq e => fq q hq (.inr e.symm))) (fun q hq e => fq q hq (.inr e.symm))) (fun q hq e => fq q hq (.inr e.symm))) (fun q hq e => fq q hq (.inr e.symm))) (fun q hq e => fq q hq (.inr e.symm)))
        clear HOq HBq
        go_wp2_with fail
        first
         | exact bodyPost_ret (v := .tuple #[.agg #[.int .i64 a1, .int .i64 a2, .int .i64 a3, .int .i64 a4, .slice PA pn pc, .slice A n c, .slice (some ⟨g8, 0, none⟩) i c8], .int .i64 0]) (by simp [results, Try.results29, go_sem, q0, q1, q2, q3, q4, q5, q6, lv9]) rfl ⟨HF.out.2, .inr ⟨HE.out, i, ⟨xw, xt, xl, xd, xm⟩, HX.out, HFX.out, some ⟨g8, 0, none⟩, c8, by rw [HRR.out, HLL.out], by rw [HRR.out, HLL.out]; exact HF.out.1⟩⟩
         | exact bodyPost_ret (v := .tuple #[.agg #[.int .i64 a1, .int .i64 a2, .int .i64 a3, .int .i64 a4, .slice PA pn pc, .slice A n c, .slice (some ⟨g8, 0, none⟩) i c8], .int .i64 0]) (by simp [results, Try.results29, go_sem, q0, q1, q2, q3, q4, q5, q6, lv9]) rfl ⟨HF.out.2, .inr ⟨HE.out, i, ⟨xw, xt, xl, xd, xm⟩, some ⟨g8, 0, none⟩, c8, HX.out, HFX.out, by rw [HRR.out, HLL.out], by rw [HRR.out, HLL.out]; exact HF.out.1⟩⟩
   · subst hk
     cases xm with
     | true =>
      go_wp2_with fail
      go_region
      obtain ⟨wq, hwq⟩ : ∃ z, z = w8.drew := ⟨_, rfl⟩
      have bd : Below w8.heap.size w8 wq := by rw [hwq]; exact (Below.refl _ _).drew
      rw [← hwq]
      clear hwq
      have HSn := Lib.hid (Whole.below HS.out bd ls)
      have HQn := Lib.hid (Whole.below HQ.out bd lq)
      have HVn := Lib.hid (Whole.below HV.out bd lv)
      have HBn := Lib.hid (HB.out.trans ((bd).mono (by omega)))
      have lsn : w.heap.size < wq.heap.size := by have := (bd).size; omega
      have lqn : w.heap.size + 1 < wq.heap.size := by have := (bd).size; omega
      have lvn : w.heap.size + 2 < wq.heap.size := by have := (bd).size; omega
      clear r0 r1 r2 r3 r4 r5 r6 p0 p1 p2 p3 p4 p5 p6 p7 HS HQ HV HB ls lq lv
      have HS := Lib.hid HSn.out
      have HQ := Lib.hid HQn.out
      have HV := Lib.hid HVn.out
      have HB := Lib.hid HBn.out
      have ls := lsn
      have lq := lqn
      have lv := lvn
      clear HSn HQn HVn HBn lsn lqn lvn
      have r0 := HS.out.cell 0
      have r1 := HS.out.cell 1
      have r2 := HS.out.cell 2
      have r3 := HS.out.cell 3
      have r4 := HS.out.cell 4
      have r5 := HS.out.cell 5
      have r6 := HS.out.cell 6
      have p0 := HQ.out.cell 0
      have p1 := HQ.out.cell 1
      have p2 := HQ.out.cell 2
      have p3 := HQ.out.cell 3
      have p4 := HQ.out.cell 4
      have p5 := HQ.out.cell 5
      have p6 := HQ.out.cell 6
      have p7 := HQ.out.cell 7
      clear bd
      have q0 := HV.out.cell 0; have s0 := HV.out.free 0; have q1 := HV.out.cell 1; have s1 := HV.out.free 1; have q2 := HV.out.cell 2; have s2 := HV.out.free 2; have q3 := HV.out.cell 3; have s3 := HV.out.free 3; have q4 := HV.out.cell 4; have s4 := HV.out.free 4; have q5 := HV.out.cell 5; have s5 := HV.out.free 5; have q6 := HV.out.cell 6; have s6 := HV.out.free 6
      have HE := Lib.hid (show chgE m ⟨7, qw, qr, qg, qt, qs, ql, qd⟩ = 23 from by unfold chgE; dsimp only; rw [HFX.out]; rfl)
      have HF := Lib.hid (show Below w.heap.size w (((((((wq.setCell ⟨w.heap.size + 2, 0, none⟩ (.int .i64 a1)).setCell ⟨w.heap.size + 2, 1, none⟩ (.int .i64 a2)).setCell ⟨w.heap.size + 2, 2, none⟩ (.int .i64 a3)).setCell ⟨w.heap.size + 2, 3, none⟩ (.int .i64 a4)).setCell ⟨w.heap.size + 2, 4, none⟩ (.slice PA pn pc)).setCell ⟨w.heap.size + 2, 5, none⟩ (.slice A n c)).setCell ⟨w.heap.size + 2, 6, none⟩ (.slice (some ⟨g, o, none⟩) bn bc)) from (Below.setCell (p := ⟨w.heap.size + 2, 6, none⟩) (Below.setCell (p := ⟨w.heap.size + 2, 5, none⟩) (Below.setCell (p := ⟨w.heap.size + 2, 4, none⟩) (Below.setCell (p := ⟨w.heap.size + 2, 3, none⟩) (Below.setCell (p := ⟨w.heap.size + 2, 2, none⟩) (Below.setCell (p := ⟨w.heap.size + 2, 1, none⟩) (Below.setCell (p := ⟨w.heap.size + 2, 0, none⟩) (HB.out) (by show w.heap.size ≤ w.heap.size + 2; omega) (.int .i64 a1)) (by show w.heap.size ≤ w.heap.size + 2; omega) (.int .i64 a2)) (by show w.heap.size ≤ w.heap.size + 2; omega) (.int .i64 a3)) (by show w.heap.size ≤ w.heap.size + 2; omega) (.int .i64 a4)) (by show w.heap.size ≤ w.heap.size + 2; omega) (.slice PA pn pc)) (by show w.heap.size ≤ w.heap.size + 2; omega) (.slice A n c)) (by show w.heap.size ≤ w.heap.size + 2; omega) (.slice (some ⟨g, o, none⟩) bn bc)))
      clear HB
      go_wp2_with fail
      exact bodyPost_ret (v := .tuple #[.agg #[.int .i64 a1, .int .i64 a2, .int .i64 a3, .int .i64 a4, .slice PA pn pc, .slice A n c, .slice (some ⟨g, o, none⟩) bn bc], .int .i64 23]) (by simp [results, Try.results29, go_sem, q0, q1, q2, q3, q4, q5, q6, lv]) rfl ⟨HF.out, .inl ⟨by rw [HE.out]; decide, by rw [HE.out]⟩⟩
     | false =>
      skip
      go_wp2_with fail
      go_region
      obtain ⟨wq, hwq⟩ : ∃ z, z = w8.drew := ⟨_, rfl⟩
      have bd : Below w8.heap.size w8 wq := by rw [hwq]; exact (Below.refl _ _).drew
      have HOq := Lib.hid (show wq.ownsRow v1.heap.size 56 5 (.slice (some ⟨g8, 0, none⟩) bn c8) bn (sbC m) by rw [hwq]; exact HO8.out)
      have m4q : wq.cell? ⟨g8, i * 5 + 4, none⟩ = some (.bool false) := by rw [hwq]; exact m4
      have n4q : wq.frozen? ⟨g8, i * 5 + 4, none⟩ = false := by rw [hwq]; exact n4
      have lgq : g8 < wq.heap.size := by rw [hwq]; exact lg8
      rw [← hwq]
      clear hwq HO8 m2 m3 m4 n2 n3 n4 lg8
      have HO8 := Lib.hid HOq.out
      clear HOq
      have HSn := Lib.hid (Whole.below HS.out bd ls)
      have HQn := Lib.hid (Whole.below HQ.out bd lq)
      have HVn := Lib.hid (Whole.below HV.out bd lv)
      have HBn := Lib.hid (HB.out.trans ((bd).mono (by omega)))
      have lsn : w.heap.size < wq.heap.size := by have := (bd).size; omega
      have lqn : w.heap.size + 1 < wq.heap.size := by have := (bd).size; omega
      have lvn : w.heap.size + 2 < wq.heap.size := by have := (bd).size; omega
      clear r0 r1 r2 r3 r4 r5 r6 p0 p1 p2 p3 p4 p5 p6 p7 HS HQ HV HB ls lq lv
      have HS := Lib.hid HSn.out
      have HQ := Lib.hid HQn.out
      have HV := Lib.hid HVn.out
      have HB := Lib.hid HBn.out
      have ls := lsn
      have lq := lqn
      have lv := lvn
      clear HSn HQn HVn HBn lsn lqn lvn
      have r0 := HS.out.cell 0
      have r1 := HS.out.cell 1
      have r2 := HS.out.cell 2
      have r3 := HS.out.cell 3
      have r4 := HS.out.cell 4
      have r5 := HS.out.cell 5
      have r6 := HS.out.cell 6
      have p0 := HQ.out.cell 0
      have p1 := HQ.out.cell 1
      have p2 := HQ.out.cell 2
      have p3 := HQ.out.cell 3
      have p4 := HQ.out.cell 4
      have p5 := HQ.out.cell 5
      have p6 := HQ.out.cell 6
      have p7 := HQ.out.cell 7
      clear bd
      have f6 := HS.out.free 6
      have q0 := HV.out.cell 0; have s0 := HV.out.free 0; have q1 := HV.out.cell 1; have s1 := HV.out.free 1; have q2 := HV.out.cell 2; have s2 := HV.out.free 2; have q3 := HV.out.cell 3; have s3 := HV.out.free 3; have q4 := HV.out.cell 4; have s4 := HV.out.free 4; have q5 := HV.out.cell 5; have s5 := HV.out.free 5; have q6 := HV.out.cell 6; have s6 := HV.out.free 6
      have HE := Lib.hid (show chgE m ⟨7, qw, qr, qg, qt, qs, ql, qd⟩ = 0 from by unfold chgE; dsimp only; rw [HFX.out]; rfl)
      have hne : ¬ w.heap.size = w.heap.size + 2 := by omega
      have hn1 : ¬ g8 = w.heap.size := by omega
      have hn2 : ¬ g8 = w.heap.size + 2 := by omega
      have hn3 : ¬ g8 = w.heap.size + 1 := by omega
      have hn4 : ¬ w.heap.size = g8 := by omega
      have hn5 : ¬ w.heap.size + 2 = g8 := by omega
      have hn6 : ¬ w.heap.size + 1 = g8 := by omega
      have HRR := Lib.hid (show chgR m i ⟨xw, xt, xl, xd, false⟩ ⟨7, qw, qr, qg, qt, qs, ql, qd⟩ = m.set i ⟨xw, xt, xl, xd, true⟩ from by unfold chgR chgB; simp)
      have HLL := Lib.hid (show (m.set i ⟨xw, xt, xl, xd, true⟩).length = bn from by rw [List.length_set, HBN.out])
      have HF := Lib.hid (show ((((((((((wq.setCell ⟨g8, i * 5 + 4, none⟩ (.bool true)).setCell ⟨w.heap.size, 6, none⟩ (.slice (some ⟨g8, 0, none⟩) bn c8)).setCell ⟨w.heap.size + 2, 0, none⟩ (.int .i64 a1)).setCell ⟨w.heap.size + 2, 1, none⟩ (.int .i64 a2)).setCell ⟨w.heap.size + 2, 2, none⟩ (.int .i64 a3)).setCell ⟨w.heap.size + 2, 3, none⟩ (.int .i64 a4)).setCell ⟨w.heap.size + 2, 4, none⟩ (.slice PA pn pc)).setCell ⟨w.heap.size + 2, 5, none⟩ (.slice A n c)).setCell ⟨w.heap.size + 2, 6, none⟩ (.slice (some ⟨g8, 0, none⟩) bn c8))).ownsRow (w.heap.size + 3) 56 5 (.slice (some ⟨g8, 0, none⟩) bn c8) bn (sbC (m.set i ⟨xw, xt, xl, xd, true⟩)) ∧ Below w.heap.size w (((((((((wq.setCell ⟨g8, i * 5 + 4, none⟩ (.bool true)).setCell ⟨w.heap.size, 6, none⟩ (.slice (some ⟨g8, 0, none⟩) bn c8)).setCell ⟨w.heap.size + 2, 0, none⟩ (.int .i64 a1)).setCell ⟨w.heap.size + 2, 1, none⟩ (.int .i64 a2)).setCell ⟨w.heap.size + 2, 2, none⟩ (.int .i64 a3)).setCell ⟨w.heap.size + 2, 3, none⟩ (.int .i64 a4)).setCell ⟨w.heap.size + 2, 4, none⟩ (.slice PA pn pc)).setCell ⟨w.heap.size + 2, 5, none⟩ (.slice A n c)).setCell ⟨w.heap.size + 2, 6, none⟩ (.slice (some ⟨g8, 0, none⟩) bn c8)) from by
       refine ⟨?_, (Below.setCell (p := ⟨w.heap.size + 2, 6, none⟩) (Below.setCell (p := ⟨w.heap.size + 2, 5, none⟩) (Below.setCell (p := ⟨w.heap.size + 2, 4, none⟩) (Below.setCell (p := ⟨w.heap.size + 2, 3, none⟩) (Below.setCell (p := ⟨w.heap.size + 2, 2, none⟩) (Below.setCell (p := ⟨w.heap.size + 2, 1, none⟩) (Below.setCell (p := ⟨w.heap.size + 2, 0, none⟩) (Below.setCell (p := ⟨w.heap.size, 6, none⟩) (Below.setCell (p := ⟨g8, i * 5 + 4, none⟩) (HB.out) (by show w.heap.size ≤ g8; omega) (.bool true)) (Nat.le_refl _) (.slice (some ⟨g8, 0, none⟩) bn c8)) (by show w.heap.size ≤ w.heap.size + 2; omega) (.int .i64 a1)) (by show w.heap.size ≤ w.heap.size + 2; omega) (.int .i64 a2)) (by show w.heap.size ≤ w.heap.size + 2; omega) (.int .i64 a3)) (by show w.heap.size ≤ w.heap.size + 2; omega) (.int .i64 a4)) (by show w.heap.size ≤ w.heap.size + 2; omega) (.slice PA pn pc)) (by show w.heap.size ≤ w.heap.size + 2; omega) (.slice A n c)) (by show w.heap.size ≤ w.heap.size + 2; omega) (.slice (some ⟨g8, 0, none⟩) bn c8))⟩
       have h := own_base (own_setY (j := i * 5 + 4) (u := .bool true) HO8.out (by omega)) (show w.heap.size + 3 ≤ v1.heap.size by omega)
       rw [sbC_set4 (y := ⟨xw, xt, xl, xd, true⟩) HX.out (by rfl)] at h
       have fq : ∀ q, (Value.slice (some ⟨g8, 0, none⟩) bn c8).ownBlock = some q → ¬ (q = w.heap.size ∨ q = w.heap.size + 2) := fun q hq => by have := (h.lt q hq).1; omega
       exact own_farX (own_farX (own_farX (own_farX (own_farX (own_farX (own_farX (own_farX h (fun q hq e => fq q hq (.inl e.symm))) (fun q hq e => fq q hq (.inr e.symm))) (fun q hq e => fq q hq (.inr e.symm))) (fun q hq e => fq q hq (.inr e.symm))) (fun q hq e => fq q hq (.inr e.symm))) (fun q hq e => fq q hq (.inr e.symm))) (fun q hq e => fq q hq (.inr e.symm))) (fun q hq e => fq q hq (.inr e.symm)))
      clear HB HO8
      go_wp2_with fail
      exact bodyPost_ret (v := .tuple #[.agg #[.int .i64 a1, .int .i64 a2, .int .i64 a3, .int .i64 a4, .slice PA pn pc, .slice A n c, .slice (some ⟨g8, 0, none⟩) bn c8], .int .i64 0]) (by simp [results, Try.results29, go_sem, q0, q1, q2, q3, q4, q5, q6, lv]) rfl ⟨HF.out.2, .inr ⟨HE.out, i, ⟨xw, xt, xl, xd, false⟩, some ⟨g8, 0, none⟩, c8, HX.out, HFX.out, by rw [HRR.out, HLL.out], by rw [HRR.out, HLL.out]; exact HF.out.1⟩⟩
   · subst hk
     cases xm with
     | false =>
      go_wp2_with fail
      go_region
      obtain ⟨wq, hwq⟩ : ∃ z, z = w8.drew := ⟨_, rfl⟩
      have bd : Below w8.heap.size w8 wq := by rw [hwq]; exact (Below.refl _ _).drew
      rw [← hwq]
      clear hwq
      have HSn := Lib.hid (Whole.below HS.out bd ls)
      have HQn := Lib.hid (Whole.below HQ.out bd lq)
      have HVn := Lib.hid (Whole.below HV.out bd lv)
      have HBn := Lib.hid (HB.out.trans ((bd).mono (by omega)))
      have lsn : w.heap.size < wq.heap.size := by have := (bd).size; omega
      have lqn : w.heap.size + 1 < wq.heap.size := by have := (bd).size; omega
      have lvn : w.heap.size + 2 < wq.heap.size := by have := (bd).size; omega
      clear r0 r1 r2 r3 r4 r5 r6 p0 p1 p2 p3 p4 p5 p6 p7 HS HQ HV HB ls lq lv
      have HS := Lib.hid HSn.out
      have HQ := Lib.hid HQn.out
      have HV := Lib.hid HVn.out
      have HB := Lib.hid HBn.out
      have ls := lsn
      have lq := lqn
      have lv := lvn
      clear HSn HQn HVn HBn lsn lqn lvn
      have r0 := HS.out.cell 0
      have r1 := HS.out.cell 1
      have r2 := HS.out.cell 2
      have r3 := HS.out.cell 3
      have r4 := HS.out.cell 4
      have r5 := HS.out.cell 5
      have r6 := HS.out.cell 6
      have p0 := HQ.out.cell 0
      have p1 := HQ.out.cell 1
      have p2 := HQ.out.cell 2
      have p3 := HQ.out.cell 3
      have p4 := HQ.out.cell 4
      have p5 := HQ.out.cell 5
      have p6 := HQ.out.cell 6
      have p7 := HQ.out.cell 7
      clear bd
      have q0 := HV.out.cell 0; have s0 := HV.out.free 0; have q1 := HV.out.cell 1; have s1 := HV.out.free 1; have q2 := HV.out.cell 2; have s2 := HV.out.free 2; have q3 := HV.out.cell 3; have s3 := HV.out.free 3; have q4 := HV.out.cell 4; have s4 := HV.out.free 4; have q5 := HV.out.cell 5; have s5 := HV.out.free 5; have q6 := HV.out.cell 6; have s6 := HV.out.free 6
      have HE := Lib.hid (show chgE m ⟨8, qw, qr, qg, qt, qs, ql, qd⟩ = 23 from by unfold chgE; dsimp only; rw [HFX.out]; rfl)
      have HF := Lib.hid (show Below w.heap.size w (((((((wq.setCell ⟨w.heap.size + 2, 0, none⟩ (.int .i64 a1)).setCell ⟨w.heap.size + 2, 1, none⟩ (.int .i64 a2)).setCell ⟨w.heap.size + 2, 2, none⟩ (.int .i64 a3)).setCell ⟨w.heap.size + 2, 3, none⟩ (.int .i64 a4)).setCell ⟨w.heap.size + 2, 4, none⟩ (.slice PA pn pc)).setCell ⟨w.heap.size + 2, 5, none⟩ (.slice A n c)).setCell ⟨w.heap.size + 2, 6, none⟩ (.slice (some ⟨g, o, none⟩) bn bc)) from (Below.setCell (p := ⟨w.heap.size + 2, 6, none⟩) (Below.setCell (p := ⟨w.heap.size + 2, 5, none⟩) (Below.setCell (p := ⟨w.heap.size + 2, 4, none⟩) (Below.setCell (p := ⟨w.heap.size + 2, 3, none⟩) (Below.setCell (p := ⟨w.heap.size + 2, 2, none⟩) (Below.setCell (p := ⟨w.heap.size + 2, 1, none⟩) (Below.setCell (p := ⟨w.heap.size + 2, 0, none⟩) (HB.out) (by show w.heap.size ≤ w.heap.size + 2; omega) (.int .i64 a1)) (by show w.heap.size ≤ w.heap.size + 2; omega) (.int .i64 a2)) (by show w.heap.size ≤ w.heap.size + 2; omega) (.int .i64 a3)) (by show w.heap.size ≤ w.heap.size + 2; omega) (.int .i64 a4)) (by show w.heap.size ≤ w.heap.size + 2; omega) (.slice PA pn pc)) (by show w.heap.size ≤ w.heap.size + 2; omega) (.slice A n c)) (by show w.heap.size ≤ w.heap.size + 2; omega) (.slice (some ⟨g, o, none⟩) bn bc)))
      clear HB
      go_wp2_with fail
      exact bodyPost_ret (v := .tuple #[.agg #[.int .i64 a1, .int .i64 a2, .int .i64 a3, .int .i64 a4, .slice PA pn pc, .slice A n c, .slice (some ⟨g, o, none⟩) bn bc], .int .i64 23]) (by simp [results, Try.results29, go_sem, q0, q1, q2, q3, q4, q5, q6, lv]) rfl ⟨HF.out, .inl ⟨by rw [HE.out]; decide, by rw [HE.out]⟩⟩
     | true =>
      skip
      go_wp2_with fail
      go_region
      obtain ⟨wq, hwq⟩ : ∃ z, z = w8.drew := ⟨_, rfl⟩
      have bd : Below w8.heap.size w8 wq := by rw [hwq]; exact (Below.refl _ _).drew
      have HOq := Lib.hid (show wq.ownsRow v1.heap.size 56 5 (.slice (some ⟨g8, 0, none⟩) bn c8) bn (sbC m) by rw [hwq]; exact HO8.out)
      have m4q : wq.cell? ⟨g8, i * 5 + 4, none⟩ = some (.bool true) := by rw [hwq]; exact m4
      have n4q : wq.frozen? ⟨g8, i * 5 + 4, none⟩ = false := by rw [hwq]; exact n4
      have lgq : g8 < wq.heap.size := by rw [hwq]; exact lg8
      rw [← hwq]
      clear hwq HO8 m2 m3 m4 n2 n3 n4 lg8
      have HO8 := Lib.hid HOq.out
      clear HOq
      have HSn := Lib.hid (Whole.below HS.out bd ls)
      have HQn := Lib.hid (Whole.below HQ.out bd lq)
      have HVn := Lib.hid (Whole.below HV.out bd lv)
      have HBn := Lib.hid (HB.out.trans ((bd).mono (by omega)))
      have lsn : w.heap.size < wq.heap.size := by have := (bd).size; omega
      have lqn : w.heap.size + 1 < wq.heap.size := by have := (bd).size; omega
      have lvn : w.heap.size + 2 < wq.heap.size := by have := (bd).size; omega
      clear r0 r1 r2 r3 r4 r5 r6 p0 p1 p2 p3 p4 p5 p6 p7 HS HQ HV HB ls lq lv
      have HS := Lib.hid HSn.out
      have HQ := Lib.hid HQn.out
      have HV := Lib.hid HVn.out
      have HB := Lib.hid HBn.out
      have ls := lsn
      have lq := lqn
      have lv := lvn
      clear HSn HQn HVn HBn lsn lqn lvn
      have r0 := HS.out.cell 0
      have r1 := HS.out.cell 1
      have r2 := HS.out.cell 2
      have r3 := HS.out.cell 3
      have r4 := HS.out.cell 4
      have r5 := HS.out.cell 5
      have r6 := HS.out.cell 6
      have p0 := HQ.out.cell 0
      have p1 := HQ.out.cell 1
      have p2 := HQ.out.cell 2
      have p3 := HQ.out.cell 3
      have p4 := HQ.out.cell 4
      have p5 := HQ.out.cell 5
      have p6 := HQ.out.cell 6
      have p7 := HQ.out.cell 7
      clear bd
      have f6 := HS.out.free 6
      have q0 := HV.out.cell 0; have s0 := HV.out.free 0; have q1 := HV.out.cell 1; have s1 := HV.out.free 1; have q2 := HV.out.cell 2; have s2 := HV.out.free 2; have q3 := HV.out.cell 3; have s3 := HV.out.free 3; have q4 := HV.out.cell 4; have s4 := HV.out.free 4; have q5 := HV.out.cell 5; have s5 := HV.out.free 5; have q6 := HV.out.cell 6; have s6 := HV.out.free 6
      have HE := Lib.hid (show chgE m ⟨8, qw, qr, qg, qt, qs, ql, qd⟩ = 0 from by unfold chgE; dsimp only; rw [HFX.out]; rfl)
      have hne : ¬ w.heap.size = w.heap.size + 2 := by omega
      have hn1 : ¬ g8 = w.heap.size := by omega
      have hn2 : ¬ g8 = w.heap.size + 2 := by omega
      have hn3 : ¬ g8 = w.heap.size + 1 := by omega
      have hn4 : ¬ w.heap.size = g8 := by omega
      have hn5 : ¬ w.heap.size + 2 = g8 := by omega
      have hn6 : ¬ w.heap.size + 1 = g8 := by omega
      have HRR := Lib.hid (show chgR m i ⟨xw, xt, xl, xd, true⟩ ⟨8, qw, qr, qg, qt, qs, ql, qd⟩ = m.set i ⟨xw, xt, xl, xd, false⟩ from by unfold chgR chgB; simp)
      have HLL := Lib.hid (show (m.set i ⟨xw, xt, xl, xd, false⟩).length = bn from by rw [List.length_set, HBN.out])
      have HF := Lib.hid (show ((((((((((wq.setCell ⟨g8, i * 5 + 4, none⟩ (.bool false)).setCell ⟨w.heap.size, 6, none⟩ (.slice (some ⟨g8, 0, none⟩) bn c8)).setCell ⟨w.heap.size + 2, 0, none⟩ (.int .i64 a1)).setCell ⟨w.heap.size + 2, 1, none⟩ (.int .i64 a2)).setCell ⟨w.heap.size + 2, 2, none⟩ (.int .i64 a3)).setCell ⟨w.heap.size + 2, 3, none⟩ (.int .i64 a4)).setCell ⟨w.heap.size + 2, 4, none⟩ (.slice PA pn pc)).setCell ⟨w.heap.size + 2, 5, none⟩ (.slice A n c)).setCell ⟨w.heap.size + 2, 6, none⟩ (.slice (some ⟨g8, 0, none⟩) bn c8))).ownsRow (w.heap.size + 3) 56 5 (.slice (some ⟨g8, 0, none⟩) bn c8) bn (sbC (m.set i ⟨xw, xt, xl, xd, false⟩)) ∧ Below w.heap.size w (((((((((wq.setCell ⟨g8, i * 5 + 4, none⟩ (.bool false)).setCell ⟨w.heap.size, 6, none⟩ (.slice (some ⟨g8, 0, none⟩) bn c8)).setCell ⟨w.heap.size + 2, 0, none⟩ (.int .i64 a1)).setCell ⟨w.heap.size + 2, 1, none⟩ (.int .i64 a2)).setCell ⟨w.heap.size + 2, 2, none⟩ (.int .i64 a3)).setCell ⟨w.heap.size + 2, 3, none⟩ (.int .i64 a4)).setCell ⟨w.heap.size + 2, 4, none⟩ (.slice PA pn pc)).setCell ⟨w.heap.size + 2, 5, none⟩ (.slice A n c)).setCell ⟨w.heap.size + 2, 6, none⟩ (.slice (some ⟨g8, 0, none⟩) bn c8)) from by
       refine ⟨?_, (Below.setCell (p := ⟨w.heap.size + 2, 6, none⟩) (Below.setCell (p := ⟨w.heap.size + 2, 5, none⟩) (Below.setCell (p := ⟨w.heap.size + 2, 4, none⟩) (Below.setCell (p := ⟨w.heap.size + 2, 3, none⟩) (Below.setCell (p := ⟨w.heap.size + 2, 2, none⟩) (Below.setCell (p := ⟨w.heap.size + 2, 1, none⟩) (Below.setCell (p := ⟨w.heap.size + 2, 0, none⟩) (Below.setCell (p := ⟨w.heap.size, 6, none⟩) (Below.setCell (p := ⟨g8, i * 5 + 4, none⟩) (HB.out) (by show w.heap.size ≤ g8; omega) (.bool false)) (Nat.le_refl _) (.slice (some ⟨g8, 0, none⟩) bn c8)) (by show w.heap.size ≤ w.heap.size + 2; omega) (.int .i64 a1)) (by show w.heap.size ≤ w.heap.size + 2; omega) (.int .i64 a2)) (by show w.heap.size ≤ w.heap.size + 2; omega) (.int .i64 a3)) (by show w.heap.size ≤ w.heap.size + 2; omega) (.int .i64 a4)) (by show w.heap.size ≤ w.heap.size + 2; omega) (.slice PA pn pc)) (by show w.heap.size ≤ w.heap.size + 2; omega) (.slice A n c)) (by show w.heap.size ≤ w.heap.size + 2; omega) (.slice (some ⟨g8, 0, none⟩) bn c8))⟩
       have h := own_base (own_setY (j := i * 5 + 4) (u := .bool false) HO8.out (by omega)) (show w.heap.size + 3 ≤ v1.heap.size by omega)
       rw [sbC_set4 (y := ⟨xw, xt, xl, xd, false⟩) HX.out (by rfl)] at h
       have fq : ∀ q, (Value.slice (some ⟨g8, 0, none⟩) bn c8).ownBlock = some q → ¬ (q = w.heap.size ∨ q = w.heap.size + 2) := fun q hq => by have := (h.lt q hq).1; omega
       exact own_farX (own_farX (own_farX (own_farX (own_farX (own_farX (own_farX (own_farX h (fun q hq e => fq q hq (.inl e.symm))) (fun q hq e => fq q hq (.inr e.symm))) (fun q hq e => fq q hq (.inr e.symm))) (fun q hq e => fq q hq (.inr e.symm))) (fun q hq e => fq q hq (.inr e.symm))) (fun q hq e => fq q hq (.inr e.symm))) (fun q hq e => fq q hq (.inr e.symm))) (fun q hq e => fq q hq (.inr e.symm)))
      clear HB HO8
      go_wp2_with fail
      exact bodyPost_ret (v := .tuple #[.agg #[.int .i64 a1, .int .i64 a2, .int .i64 a3, .int .i64 a4, .slice PA pn pc, .slice A n c, .slice (some ⟨g8, 0, none⟩) bn c8], .int .i64 0]) (by simp [results, Try.results29, go_sem, q0, q1, q2, q3, q4, q5, q6, lv]) rfl ⟨HF.out.2, .inr ⟨HE.out, i, ⟨xw, xt, xl, xd, true⟩, some ⟨g8, 0, none⟩, c8, HX.out, HFX.out, by rw [HRR.out, HLL.out], by rw [HRR.out, HLL.out]; exact HF.out.1⟩⟩
   · subst hk
     by_cases b6 : ql < 0
     · skip
       have q0 := HV.out.cell 0; have s0 := HV.out.free 0; have q1 := HV.out.cell 1; have s1 := HV.out.free 1; have q2 := HV.out.cell 2; have s2 := HV.out.free 2; have q3 := HV.out.cell 3; have s3 := HV.out.free 3; have q4 := HV.out.cell 4; have s4 := HV.out.free 4; have q5 := HV.out.cell 5; have s5 := HV.out.free 5; have q6 := HV.out.cell 6; have s6 := HV.out.free 6
       have HE := Lib.hid (show chgE m ⟨9, qw, qr, qg, qt, qs, ql, qd⟩ = 1 from by unfold chgE; dsimp only; rw [HFX.out]; dsimp only; rw [if_neg (by decide), if_neg (by decide), if_pos (by unfold badL; exact decide_eq_true (by dsimp only; omega))])
       have HF := Lib.hid (show Below w.heap.size w (((((((w8.setCell ⟨w.heap.size + 2, 0, none⟩ (.int .i64 a1)).setCell ⟨w.heap.size + 2, 1, none⟩ (.int .i64 a2)).setCell ⟨w.heap.size + 2, 2, none⟩ (.int .i64 a3)).setCell ⟨w.heap.size + 2, 3, none⟩ (.int .i64 a4)).setCell ⟨w.heap.size + 2, 4, none⟩ (.slice PA pn pc)).setCell ⟨w.heap.size + 2, 5, none⟩ (.slice A n c)).setCell ⟨w.heap.size + 2, 6, none⟩ (.slice (some ⟨g, o, none⟩) bn bc)) from (Below.setCell (p := ⟨w.heap.size + 2, 6, none⟩) (Below.setCell (p := ⟨w.heap.size + 2, 5, none⟩) (Below.setCell (p := ⟨w.heap.size + 2, 4, none⟩) (Below.setCell (p := ⟨w.heap.size + 2, 3, none⟩) (Below.setCell (p := ⟨w.heap.size + 2, 2, none⟩) (Below.setCell (p := ⟨w.heap.size + 2, 1, none⟩) (Below.setCell (p := ⟨w.heap.size + 2, 0, none⟩) (HB.out) (by show w.heap.size ≤ w.heap.size + 2; omega) (.int .i64 a1)) (by show w.heap.size ≤ w.heap.size + 2; omega) (.int .i64 a2)) (by show w.heap.size ≤ w.heap.size + 2; omega) (.int .i64 a3)) (by show w.heap.size ≤ w.heap.size + 2; omega) (.int .i64 a4)) (by show w.heap.size ≤ w.heap.size + 2; omega) (.slice PA pn pc)) (by show w.heap.size ≤ w.heap.size + 2; omega) (.slice A n c)) (by show w.heap.size ≤ w.heap.size + 2; omega) (.slice (some ⟨g, o, none⟩) bn bc)))
       clear HB
       go_wp2_with fail
       exact bodyPost_ret (v := .tuple #[.agg #[.int .i64 a1, .int .i64 a2, .int .i64 a3, .int .i64 a4, .slice PA pn pc, .slice A n c, .slice (some ⟨g, o, none⟩) bn bc], .int .i64 1]) (by simp [results, Try.results29, go_sem, q0, q1, q2, q3, q4, q5, q6, lv]) rfl ⟨HF.out, .inl ⟨by rw [HE.out]; decide, by rw [HE.out]⟩⟩
     · skip
       by_cases b8 : 2 < ql
       · skip
         have q0 := HV.out.cell 0; have s0 := HV.out.free 0; have q1 := HV.out.cell 1; have s1 := HV.out.free 1; have q2 := HV.out.cell 2; have s2 := HV.out.free 2; have q3 := HV.out.cell 3; have s3 := HV.out.free 3; have q4 := HV.out.cell 4; have s4 := HV.out.free 4; have q5 := HV.out.cell 5; have s5 := HV.out.free 5; have q6 := HV.out.cell 6; have s6 := HV.out.free 6
         have HE := Lib.hid (show chgE m ⟨9, qw, qr, qg, qt, qs, ql, qd⟩ = 1 from by unfold chgE; dsimp only; rw [HFX.out]; dsimp only; rw [if_neg (by decide), if_neg (by decide), if_pos (by unfold badL; exact decide_eq_true (by dsimp only; omega))])
         have HF := Lib.hid (show Below w.heap.size w (((((((w8.setCell ⟨w.heap.size + 2, 0, none⟩ (.int .i64 a1)).setCell ⟨w.heap.size + 2, 1, none⟩ (.int .i64 a2)).setCell ⟨w.heap.size + 2, 2, none⟩ (.int .i64 a3)).setCell ⟨w.heap.size + 2, 3, none⟩ (.int .i64 a4)).setCell ⟨w.heap.size + 2, 4, none⟩ (.slice PA pn pc)).setCell ⟨w.heap.size + 2, 5, none⟩ (.slice A n c)).setCell ⟨w.heap.size + 2, 6, none⟩ (.slice (some ⟨g, o, none⟩) bn bc)) from (Below.setCell (p := ⟨w.heap.size + 2, 6, none⟩) (Below.setCell (p := ⟨w.heap.size + 2, 5, none⟩) (Below.setCell (p := ⟨w.heap.size + 2, 4, none⟩) (Below.setCell (p := ⟨w.heap.size + 2, 3, none⟩) (Below.setCell (p := ⟨w.heap.size + 2, 2, none⟩) (Below.setCell (p := ⟨w.heap.size + 2, 1, none⟩) (Below.setCell (p := ⟨w.heap.size + 2, 0, none⟩) (HB.out) (by show w.heap.size ≤ w.heap.size + 2; omega) (.int .i64 a1)) (by show w.heap.size ≤ w.heap.size + 2; omega) (.int .i64 a2)) (by show w.heap.size ≤ w.heap.size + 2; omega) (.int .i64 a3)) (by show w.heap.size ≤ w.heap.size + 2; omega) (.int .i64 a4)) (by show w.heap.size ≤ w.heap.size + 2; omega) (.slice PA pn pc)) (by show w.heap.size ≤ w.heap.size + 2; omega) (.slice A n c)) (by show w.heap.size ≤ w.heap.size + 2; omega) (.slice (some ⟨g, o, none⟩) bn bc)))
         clear HB
         go_wp2_with fail
         exact bodyPost_ret (v := .tuple #[.agg #[.int .i64 a1, .int .i64 a2, .int .i64 a3, .int .i64 a4, .slice PA pn pc, .slice A n c, .slice (some ⟨g, o, none⟩) bn bc], .int .i64 1]) (by simp [results, Try.results29, go_sem, q0, q1, q2, q3, q4, q5, q6, lv]) rfl ⟨HF.out, .inl ⟨by rw [HE.out]; decide, by rw [HE.out]⟩⟩
       · skip
         by_cases b10 : qd < 0
         · skip
           have q0 := HV.out.cell 0; have s0 := HV.out.free 0; have q1 := HV.out.cell 1; have s1 := HV.out.free 1; have q2 := HV.out.cell 2; have s2 := HV.out.free 2; have q3 := HV.out.cell 3; have s3 := HV.out.free 3; have q4 := HV.out.cell 4; have s4 := HV.out.free 4; have q5 := HV.out.cell 5; have s5 := HV.out.free 5; have q6 := HV.out.cell 6; have s6 := HV.out.free 6
           have HE := Lib.hid (show chgE m ⟨9, qw, qr, qg, qt, qs, ql, qd⟩ = 1 from by unfold chgE; dsimp only; rw [HFX.out]; dsimp only; rw [if_neg (by decide), if_neg (by decide), if_pos (by unfold badL; exact decide_eq_true (by dsimp only; omega))])
           have HF := Lib.hid (show Below w.heap.size w (((((((w8.setCell ⟨w.heap.size + 2, 0, none⟩ (.int .i64 a1)).setCell ⟨w.heap.size + 2, 1, none⟩ (.int .i64 a2)).setCell ⟨w.heap.size + 2, 2, none⟩ (.int .i64 a3)).setCell ⟨w.heap.size + 2, 3, none⟩ (.int .i64 a4)).setCell ⟨w.heap.size + 2, 4, none⟩ (.slice PA pn pc)).setCell ⟨w.heap.size + 2, 5, none⟩ (.slice A n c)).setCell ⟨w.heap.size + 2, 6, none⟩ (.slice (some ⟨g, o, none⟩) bn bc)) from (Below.setCell (p := ⟨w.heap.size + 2, 6, none⟩) (Below.setCell (p := ⟨w.heap.size + 2, 5, none⟩) (Below.setCell (p := ⟨w.heap.size + 2, 4, none⟩) (Below.setCell (p := ⟨w.heap.size + 2, 3, none⟩) (Below.setCell (p := ⟨w.heap.size + 2, 2, none⟩) (Below.setCell (p := ⟨w.heap.size + 2, 1, none⟩) (Below.setCell (p := ⟨w.heap.size + 2, 0, none⟩) (HB.out) (by show w.heap.size ≤ w.heap.size + 2; omega) (.int .i64 a1)) (by show w.heap.size ≤ w.heap.size + 2; omega) (.int .i64 a2)) (by show w.heap.size ≤ w.heap.size + 2; omega) (.int .i64 a3)) (by show w.heap.size ≤ w.heap.size + 2; omega) (.int .i64 a4)) (by show w.heap.size ≤ w.heap.size + 2; omega) (.slice PA pn pc)) (by show w.heap.size ≤ w.heap.size + 2; omega) (.slice A n c)) (by show w.heap.size ≤ w.heap.size + 2; omega) (.slice (some ⟨g, o, none⟩) bn bc)))
           clear HB
           go_wp2_with fail
           exact bodyPost_ret (v := .tuple #[.agg #[.int .i64 a1, .int .i64 a2, .int .i64 a3, .int .i64 a4, .slice PA pn pc, .slice A n c, .slice (some ⟨g, o, none⟩) bn bc], .int .i64 1]) (by simp [results, Try.results29, go_sem, q0, q1, q2, q3, q4, q5, q6, lv]) rfl ⟨HF.out, .inl ⟨by rw [HE.out]; decide, by rw [HE.out]⟩⟩
         · skip
           by_cases b12 : 3 < qd
           · skip
             have q0 := HV.out.cell 0; have s0 := HV.out.free 0; have q1 := HV.out.cell 1; have s1 := HV.out.free 1; have q2 := HV.out.cell 2; have s2 := HV.out.free 2; have q3 := HV.out.cell 3; have s3 := HV.out.free 3; have q4 := HV.out.cell 4; have s4 := HV.out.free 4; have q5 := HV.out.cell 5; have s5 := HV.out.free 5; have q6 := HV.out.cell 6; have s6 := HV.out.free 6
             have HE := Lib.hid (show chgE m ⟨9, qw, qr, qg, qt, qs, ql, qd⟩ = 1 from by unfold chgE; dsimp only; rw [HFX.out]; dsimp only; rw [if_neg (by decide), if_neg (by decide), if_pos (by unfold badL; exact decide_eq_true (by dsimp only; omega))])
             have HF := Lib.hid (show Below w.heap.size w (((((((w8.setCell ⟨w.heap.size + 2, 0, none⟩ (.int .i64 a1)).setCell ⟨w.heap.size + 2, 1, none⟩ (.int .i64 a2)).setCell ⟨w.heap.size + 2, 2, none⟩ (.int .i64 a3)).setCell ⟨w.heap.size + 2, 3, none⟩ (.int .i64 a4)).setCell ⟨w.heap.size + 2, 4, none⟩ (.slice PA pn pc)).setCell ⟨w.heap.size + 2, 5, none⟩ (.slice A n c)).setCell ⟨w.heap.size + 2, 6, none⟩ (.slice (some ⟨g, o, none⟩) bn bc)) from (Below.setCell (p := ⟨w.heap.size + 2, 6, none⟩) (Below.setCell (p := ⟨w.heap.size + 2, 5, none⟩) (Below.setCell (p := ⟨w.heap.size + 2, 4, none⟩) (Below.setCell (p := ⟨w.heap.size + 2, 3, none⟩) (Below.setCell (p := ⟨w.heap.size + 2, 2, none⟩) (Below.setCell (p := ⟨w.heap.size + 2, 1, none⟩) (Below.setCell (p := ⟨w.heap.size + 2, 0, none⟩) (HB.out) (by show w.heap.size ≤ w.heap.size + 2; omega) (.int .i64 a1)) (by show w.heap.size ≤ w.heap.size + 2; omega) (.int .i64 a2)) (by show w.heap.size ≤ w.heap.size + 2; omega) (.int .i64 a3)) (by show w.heap.size ≤ w.heap.size + 2; omega) (.int .i64 a4)) (by show w.heap.size ≤ w.heap.size + 2; omega) (.slice PA pn pc)) (by show w.heap.size ≤ w.heap.size + 2; omega) (.slice A n c)) (by show w.heap.size ≤ w.heap.size + 2; omega) (.slice (some ⟨g, o, none⟩) bn bc)))
             clear HB
             go_wp2_with fail
             exact bodyPost_ret (v := .tuple #[.agg #[.int .i64 a1, .int .i64 a2, .int .i64 a3, .int .i64 a4, .slice PA pn pc, .slice A n c, .slice (some ⟨g, o, none⟩) bn bc], .int .i64 1]) (by simp [results, Try.results29, go_sem, q0, q1, q2, q3, q4, q5, q6, lv]) rfl ⟨HF.out, .inl ⟨by rw [HE.out]; decide, by rw [HE.out]⟩⟩
           · skip
             have f6 := HS.out.free 6
             have q0 := HV.out.cell 0; have s0 := HV.out.free 0; have q1 := HV.out.cell 1; have s1 := HV.out.free 1; have q2 := HV.out.cell 2; have s2 := HV.out.free 2; have q3 := HV.out.cell 3; have s3 := HV.out.free 3; have q4 := HV.out.cell 4; have s4 := HV.out.free 4; have q5 := HV.out.cell 5; have s5 := HV.out.free 5; have q6 := HV.out.cell 6; have s6 := HV.out.free 6
             have HE := Lib.hid (show chgE m ⟨9, qw, qr, qg, qt, qs, ql, qd⟩ = 0 from by unfold chgE; dsimp only; rw [HFX.out]; dsimp only; rw [if_neg (by decide), if_neg (by decide), if_neg (by unfold badL; rw [decide_eq_false (by dsimp only; omega)]; decide)])
             have hne : ¬ w.heap.size = w.heap.size + 2 := by omega
             have hn1 : ¬ g8 = w.heap.size := by omega
             have hn2 : ¬ g8 = w.heap.size + 2 := by omega
             have hn3 : ¬ g8 = w.heap.size + 1 := by omega
             have hn4 : ¬ w.heap.size = g8 := by omega
             have hn5 : ¬ w.heap.size + 2 = g8 := by omega
             have hn6 : ¬ w.heap.size + 1 = g8 := by omega
             have HRR := Lib.hid (show chgR m i ⟨xw, xt, xl, xd, xm⟩ ⟨9, qw, qr, qg, qt, qs, ql, qd⟩ = m.set i ⟨xw, xt, ql, qd, xm⟩ from by unfold chgR chgB; simp)
             have HLL := Lib.hid (show (m.set i ⟨xw, xt, ql, qd, xm⟩).length = bn from by rw [List.length_set, HBN.out])
             have HF := Lib.hid (show (((((((((((w8.setCell ⟨g8, i * 5 + 2, none⟩ (.int .i64 ql)).setCell ⟨g8, i * 5 + 3, none⟩ (.int .i64 qd)).setCell ⟨w.heap.size, 6, none⟩ (.slice (some ⟨g8, 0, none⟩) bn c8)).setCell ⟨w.heap.size + 2, 0, none⟩ (.int .i64 a1)).setCell ⟨w.heap.size + 2, 1, none⟩ (.int .i64 a2)).setCell ⟨w.heap.size + 2, 2, none⟩ (.int .i64 a3)).setCell ⟨w.heap.size + 2, 3, none⟩ (.int .i64 a4)).setCell ⟨w.heap.size + 2, 4, none⟩ (.slice PA pn pc)).setCell ⟨w.heap.size + 2, 5, none⟩ (.slice A n c)).setCell ⟨w.heap.size + 2, 6, none⟩ (.slice (some ⟨g8, 0, none⟩) bn c8))).ownsRow (w.heap.size + 3) 56 5 (.slice (some ⟨g8, 0, none⟩) bn c8) bn (sbC (m.set i ⟨xw, xt, ql, qd, xm⟩)) ∧ Below w.heap.size w ((((((((((w8.setCell ⟨g8, i * 5 + 2, none⟩ (.int .i64 ql)).setCell ⟨g8, i * 5 + 3, none⟩ (.int .i64 qd)).setCell ⟨w.heap.size, 6, none⟩ (.slice (some ⟨g8, 0, none⟩) bn c8)).setCell ⟨w.heap.size + 2, 0, none⟩ (.int .i64 a1)).setCell ⟨w.heap.size + 2, 1, none⟩ (.int .i64 a2)).setCell ⟨w.heap.size + 2, 2, none⟩ (.int .i64 a3)).setCell ⟨w.heap.size + 2, 3, none⟩ (.int .i64 a4)).setCell ⟨w.heap.size + 2, 4, none⟩ (.slice PA pn pc)).setCell ⟨w.heap.size + 2, 5, none⟩ (.slice A n c)).setCell ⟨w.heap.size + 2, 6, none⟩ (.slice (some ⟨g8, 0, none⟩) bn c8)) from by
              refine ⟨?_, (Below.setCell (p := ⟨w.heap.size + 2, 6, none⟩) (Below.setCell (p := ⟨w.heap.size + 2, 5, none⟩) (Below.setCell (p := ⟨w.heap.size + 2, 4, none⟩) (Below.setCell (p := ⟨w.heap.size + 2, 3, none⟩) (Below.setCell (p := ⟨w.heap.size + 2, 2, none⟩) (Below.setCell (p := ⟨w.heap.size + 2, 1, none⟩) (Below.setCell (p := ⟨w.heap.size + 2, 0, none⟩) (Below.setCell (p := ⟨w.heap.size, 6, none⟩) (Below.setCell (p := ⟨g8, i * 5 + 3, none⟩) (Below.setCell (p := ⟨g8, i * 5 + 2, none⟩) (HB.out) (by show w.heap.size ≤ g8; omega) (.int .i64 ql)) (by show w.heap.size ≤ g8; omega) (.int .i64 qd)) (Nat.le_refl _) (.slice (some ⟨g8, 0, none⟩) bn c8)) (by show w.heap.size ≤ w.heap.size + 2; omega) (.int .i64 a1)) (by show w.heap.size ≤ w.heap.size + 2; omega) (.int .i64 a2)) (by show w.heap.size ≤ w.heap.size + 2; omega) (.int .i64 a3)) (by show w.heap.size ≤ w.heap.size + 2; omega) (.int .i64 a4)) (by show w.heap.size ≤ w.heap.size + 2; omega) (.slice PA pn pc)) (by show w.heap.size ≤ w.heap.size + 2; omega) (.slice A n c)) (by show w.heap.size ≤ w.heap.size + 2; omega) (.slice (some ⟨g8, 0, none⟩) bn c8))⟩
              have h := own_base (own_setY (j := i * 5 + 3) (u := .int .i64 qd) (own_setY (j := i * 5 + 2) (u := .int .i64 ql) HO8.out (by omega)) (by omega)) (show w.heap.size + 3 ≤ v1.heap.size by omega)
              rw [sbC_set23 (y := ⟨xw, xt, ql, qd, xm⟩) HX.out (by rfl)] at h
              have fq : ∀ q, (Value.slice (some ⟨g8, 0, none⟩) bn c8).ownBlock = some q → ¬ (q = w.heap.size ∨ q = w.heap.size + 2) := fun q hq => by have := (h.lt q hq).1; omega
              exact own_farX (own_farX (own_farX (own_farX (own_farX (own_farX (own_farX (own_farX h (fun q hq e => fq q hq (.inl e.symm))) (fun q hq e => fq q hq (.inr e.symm))) (fun q hq e => fq q hq (.inr e.symm))) (fun q hq e => fq q hq (.inr e.symm))) (fun q hq e => fq q hq (.inr e.symm))) (fun q hq e => fq q hq (.inr e.symm))) (fun q hq e => fq q hq (.inr e.symm))) (fun q hq e => fq q hq (.inr e.symm)))
             clear HB HO8
             go_wp2_with fail
             exact bodyPost_ret (v := .tuple #[.agg #[.int .i64 a1, .int .i64 a2, .int .i64 a3, .int .i64 a4, .slice PA pn pc, .slice A n c, .slice (some ⟨g8, 0, none⟩) bn c8], .int .i64 0]) (by simp [results, Try.results29, go_sem, q0, q1, q2, q3, q4, q5, q6, lv]) rfl ⟨HF.out.2, .inr ⟨HE.out, i, ⟨xw, xt, xl, xd, xm⟩, HX.out, HFX.out, some ⟨g8, 0, none⟩, c8, by rw [HRR.out, HLL.out], by rw [HRR.out, HLL.out]; exact HF.out.1⟩⟩
end Go.Proofs.Ytmmeceehfdbdoaa
