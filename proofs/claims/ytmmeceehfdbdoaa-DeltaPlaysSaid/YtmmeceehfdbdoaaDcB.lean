/-
  Contracts of package delta's readers: within, mayChoose, person, track, sub, own, isIn, subsOf.
-/
import Derived.Test.YtmmeceehfdbdoaaDcS
import Derived.RegionTactic
namespace Go.Proofs.Ytmmeceehfdbdoaa
open Go.RowKit
open Dl
set_option linter.unusedSimpArgs false
set_option linter.unusedVariables false
set_option maxRecDepth 100000

theorem dwithin (n lo hi : Int) (w : World) : Calls Try.prog 35 #[.int .i64 n, .int .i64 lo, .int .i64 hi] w fun e w' => e = .returned (.bool (decide (lo ≤ n ∧ n ≤ hi))) ∧ Below w.heap.size w w' := by
  have HB := Lib.hid (Below.refl w.heap.size w)
  by_cases e1 : lo ≤ n
  · by_cases e2 : n ≤ hi
    · go_enter Try.func35, Try.ntmps35
      go_wp2
      go_ret
      exact ⟨ret_bool (by simp [*]), HB.out⟩
    · go_enter Try.func35, Try.ntmps35
      go_wp2
      go_ret
      exact ⟨ret_bool (by simp [*]), HB.out⟩
  · go_enter Try.func35, Try.ntmps35
    go_wp2
    go_ret
    exact ⟨ret_bool (by simp [*] <;> omega), HB.out⟩

theorem dperson (s : Sm) (g : Nat) (k : Int) (w : World) (h : Rd w g s) : Calls Try.prog 49 #[.pointer (some ⟨g, 0, none⟩), .int .i64 k] w fun e w' => e = .returned (.pointer (ptrS s.A 3 (ixS (isP k) s.X.ps))) ∧ Below w.heap.size w w' := by
  have b1 : Below w.heap.size w (w.alloc (.cells #[.int .i64 k] 3)) := (Below.refl _ _).alloc (Nat.le_refl _) _
  have h1 := h.next b1
  have hq : Whole (w.alloc (.cells #[.int .i64 k] 3)) w.heap.size 3 #[.int .i64 k] := Whole.new w _ _
  have C := Lib.hid (dfindP 79 (.pointer (some ⟨w.heap.size, 0, none⟩)) (isP k) s.A s.a s.X.ps (w.alloc (.cells #[.int .i64 k] 3)) (enters Try.func79 (by kernel_rfl) (by kernel_rfl)) h1.rp (by have := h.small.1; omega)
    (fun x _ wx hb => cl_person x w.heap.size k wx ((hq.below hb hq.lt).cell 0) (by have := hb.size; have := hq.lt; omega)))
  have c0 := h1.at'.cell 4
  have lg := h.at'.lt
  have gq : g ≠ w.heap.size := by omega
  have HB1 := Lib.hid b1
  unfold smA at c0
  obtain ⟨n, hn⟩ : ∃ n, s.X.ps.length = n := ⟨_, rfl⟩
  rw [hn] at C
  simp only [hn] at c0
  replace c0 := c0.trans rfl
  clear h h1 hq b1 hn
  go_enter Try.func49, Try.ntmps49
  go_wp2_with fail
  refine C.out.mono ?_
  rintro e w2 ⟨rfl, b2⟩
  have HB2 := Lib.hid (HB1.out.trans (b2.mono HB1.out.size))
  clear b2 C HB1
  go_wp2_with fail
  go_ret
  exact ⟨rfl, HB2.out⟩

theorem dtrack (s : Sm) (g : Nat) (k : Int) (w : World) (h : Rd w g s) : Calls Try.prog 65 #[.pointer (some ⟨g, 0, none⟩), .int .i64 k] w fun e w' => e = .returned (.pointer (ptrS s.B 4 (ixS (fun x => isT k x.t) s.T))) ∧ Below w.heap.size w w' := by
  have b1 : Below w.heap.size w (w.alloc (.cells #[.int .i64 k] 3)) := (Below.refl _ _).alloc (Nat.le_refl _) _
  have h1 := h.next b1
  have hq : Whole (w.alloc (.cells #[.int .i64 k] 3)) w.heap.size 3 #[.int .i64 k] := Whole.new w _ _
  have C := Lib.hid (dfindT 86 (.pointer (some ⟨w.heap.size, 0, none⟩)) (fun x => isT k x.t) s.B s.b s.T (w.alloc (.cells #[.int .i64 k] 3)) (enters Try.func86 (by kernel_rfl) (by kernel_rfl)) h1.rt.1 (by have := h.small.2.1; omega)
    (fun x _ wx hb => cl_track x w.heap.size k wx ((hq.below hb hq.lt).cell 0) (by have := hb.size; have := hq.lt; omega)))
  have c0 := h1.at'.cell 5
  have lg := h.at'.lt
  have gq : g ≠ w.heap.size := by omega
  have HB1 := Lib.hid b1
  unfold smA at c0
  obtain ⟨n, hn⟩ : ∃ n, s.T.length = n := ⟨_, rfl⟩
  rw [hn] at C
  simp only [hn] at c0
  replace c0 := c0.trans rfl
  clear h h1 hq b1 hn
  go_enter Try.func65, Try.ntmps65
  go_wp2_with fail
  refine C.out.mono ?_
  rintro e w2 ⟨rfl, b2⟩
  have HB2 := Lib.hid (HB1.out.trans (b2.mono HB1.out.size))
  clear b2 C HB1
  go_wp2_with fail
  go_ret
  exact ⟨rfl, HB2.out⟩

theorem dsub (s : Sm) (g : Nat) (k1 k2 : Int) (w : World) (h : Rd w g s) : Calls Try.prog 33 #[.pointer (some ⟨g, 0, none⟩), .int .i64 k1, .int .i64 k2] w fun e w' => e = .returned (.pointer (ptrS s.C 5 (ixS (isB k1 k2) s.X.bs))) ∧ Below w.heap.size w w' := by
  obtain ⟨w1, hw1⟩ : ∃ z, z = (w.alloc (.cells #[.int .i64 k1] 3)).alloc (.cells #[.int .i64 k2] 3) := ⟨_, rfl⟩
  have b1 : Below w.heap.size w w1 := by rw [hw1]; exact ((Below.refl _ _).alloc (Nat.le_refl _) _).alloc (by simp) _
  have h1 := h.next b1
  have hq : Whole w1 w.heap.size 3 #[.int .i64 k1] := by rw [hw1]; exact (Whole.new w _ _).alloc _
  have hq2 : Whole w1 (w.heap.size + 1) 3 #[.int .i64 k2] := by rw [hw1]; exact Whole.new2 w _ _ _
  have C := Lib.hid (dfindB_2 55 (.pointer (some ⟨w.heap.size, 0, none⟩)) (.pointer (some ⟨w.heap.size + 1, 0, none⟩)) (isB k1 k2) s.C s.c s.X.bs w1 (enters Try.func55 (by kernel_rfl) (by kernel_rfl)) h1.rb (by have := h.small.2.2; omega)
    (fun x _ wx hb => cl_sub x w.heap.size (w.heap.size + 1) k1 k2 wx ((hq.below hb hq.lt).cell 0) (by have := hb.size; have := hq.lt; omega) ((hq2.below hb hq2.lt).cell 0) (by have := hb.size; have := hq2.lt; omega)))
  have c0 := h1.at'.cell 6
  have lg := h.at'.lt
  have lg1 := h1.at'.lt
  have HB1 := Lib.hid b1
  unfold smA at c0
  obtain ⟨n, hn⟩ : ∃ n, s.X.bs.length = n := ⟨_, rfl⟩
  rw [hn] at C
  simp only [hn] at c0
  replace c0 := c0.trans rfl
  clear h h1 hq hq2 b1 hn
  go_enter Try.func33, Try.ntmps33
  go_upto_region 1 with fail
  rw [← hw1]
  clear hw1
  go_wp2_with fail
  refine C.out.mono ?_
  rintro e w2 ⟨rfl, b2⟩
  have HB2 := Lib.hid (HB1.out.trans (b2.mono HB1.out.size))
  clear b2 C HB1
  go_wp2_with fail
  go_ret
  exact ⟨rfl, HB2.out⟩

namespace Dl
def ownF (l : List Tm) (q : Rq) : Int := match l.find? (fun x => isT q.track x.t) with
  | none => 21
  | some x => if x.t.owner ≠ q.who then 24 else 0
def reqA (q : Rq) (Q : Option Addr) (n c : Nat) : Array Value := #[.int .i64 q.kind, .int .i64 q.who, .int .i64 q.room, .int .i64 q.rights, .int .i64 q.track, .slice Q n c, .int .i64 q.layer, .int .i64 q.tid]
theorem ix_find {α : Type} {f : α → Bool} {l : List α} : (ixS f l < 0 ∧ l.find? f = none) ∨ ∃ (i : Nat) (x : α), ixS f l = (i : Int) ∧ l[i]? = some x ∧ l.find? f = some x ∧ f x = true := by
  rcases Int.lt_or_le (ixS f l) 0 with h | h
  · exact .inl ⟨h, ix_none h⟩
  · obtain ⟨i, x, e, hx, hf⟩ := ix_get h
    exact .inr ⟨i, x, e, hx, hf, List.find?_some hf⟩
end Dl
/-- What own tells: a pointer to the track, or nil and an error. -/
def OwnTold (s : Sm) (q : Rq) (w : World) (e : Ending) (w' : World) : Prop :=
  Below w.heap.size w w' ∧ ((ownF s.T q ≠ 0 ∧ e = .returned (.tuple #[.pointer none, .int .i64 (ownF s.T q)])) ∨
    (ownF s.T q = 0 ∧ ∃ (i : Nat) (x : Tm) (gB o : Nat), ixS (fun x => isT q.track x.t) s.T = (i : Int) ∧ s.T[i]? = some x ∧ s.T.find? (fun x => isT q.track x.t) = some x ∧ s.B = some ⟨gB, o, none⟩ ∧ e = .returned (.tuple #[.pointer (some ⟨gB, o + i * 4, none⟩), .int .i64 0])))
theorem down (s : Sm) (g : Nat) (q : Rq) (Q : Option Addr) (qn qc : Nat) (w : World) (h : Rd w g s) : Calls Try.prog 69 #[.pointer (some ⟨g, 0, none⟩), .agg (reqA q Q qn qc)] w (OwnTold s q w) := by
  unfold OwnTold
  obtain ⟨qk, qw, qr, qg, qt, qs, ql, qd⟩ := q
  unfold reqA
  dsimp only
  obtain ⟨w1, hw1⟩ : ∃ z, z = w.alloc (.cells #[.int .i64 qk, .int .i64 qw, .int .i64 qr, .int .i64 qg, .int .i64 qt, .slice Q qn qc, .int .i64 ql, .int .i64 qd] 45) := ⟨_, rfl⟩
  have b1 : Below w.heap.size w w1 := by rw [hw1]; exact (Below.refl _ _).alloc (Nat.le_refl _) _
  have h1 := h.next b1
  have hq : Whole w1 w.heap.size 45 #[.int .i64 qk, .int .i64 qw, .int .i64 qr, .int .i64 qg, .int .i64 qt, .slice Q qn qc, .int .i64 ql, .int .i64 qd] := by rw [hw1]; exact Whole.new w _ _
  have C := Lib.hid (dtrack s g qt w1 h1)
  have lg := h.at'.lt
  have gq : g ≠ w.heap.size := by omega
  have lq := hq.lt
  have q4 := (hq.cell 4).trans rfl
  have HQ := Lib.hid hq
  have HB1 := Lib.hid b1
  have HD := Lib.hid h1
  have hf := ix_find (f := fun x : Tm => isT qt x.t) (l := s.T)
  clear h h1 hq b1
  rcases hf with ⟨hix, hno⟩ | ⟨i, x, hix, hx, hfx, hft⟩
  · have HF := Lib.hid (show ownF s.T ⟨qk, qw, qr, qg, qt, qs, ql, qd⟩ = 21 by unfold ownF; dsimp only; rw [hno])
    rw [ptrS_no hix] at C
    clear hno hix
    go_enter Try.func69, Try.ntmps69
    go_upto_region 1 with fail
    rw [← hw1]
    clear hw1
    go_wp2_with fail
    refine C.out.mono ?_
    rintro e w2 ⟨rfl, b2⟩
    have HB2 := Lib.hid (HB1.out.trans (b2.mono HB1.out.size))
    clear b2 C HB1 q4
    go_wp2_with fail
    exact bodyPost_ret (v := .tuple #[.pointer none, .int .i64 21]) (by simp [results, Try.results69, go_sem]) rfl ⟨HB2.out, .inl ⟨by rw [HF.out]; decide, by rw [HF.out]⟩⟩
  · obtain ⟨gB, o, hB, hgB, hc⟩ := HD.out.rt.1.2 (by have := (List.getElem?_eq_some_iff.1 hx).1; omega)
    have c1 := hc _ _ ((tmC_get hx 1 (by decide)).trans rfl)
    rw [← Nat.add_assoc] at c1
    have HX := Lib.hid (And.intro hx hfx)
    have HIX := Lib.hid hix
    have HBB := Lib.hid hB
    rw [hix, hB, ptrS_at] at C
    obtain ⟨⟨xi, xo, xf, xs⟩, xA, xc⟩ := x
    dsimp only at c1
    clear hx hfx hft hix hB hc
    by_cases how : xo = qw
    · have HF := Lib.hid (show ownF s.T ⟨qk, qw, qr, qg, qt, qs, ql, qd⟩ = 0 by unfold ownF; dsimp only; rw [HX.out.2]; dsimp only; rw [if_neg (by simpa using how)])
      go_enter Try.func69, Try.ntmps69
      go_upto_region 1 with fail
      rw [← hw1]
      clear hw1
      go_wp2_with fail
      refine C.out.mono ?_
      rintro e w2 ⟨rfl, b2⟩
      have HB2 := Lib.hid (HB1.out.trans (b2.mono HB1.out.size))
      have c2 := (b2.cell (p := ⟨gB, o + i * 4 + 1, none⟩) hgB).trans c1
      have q1 := ((HQ.out.below b2 lq).cell 1).trans rfl
      have lB2 : gB < w2.heap.size := by have := b2.size; omega
      clear b2 C HB1 q4 c1 hgB
      go_wp2_with fail
      go_region
      go_wp2_with fail
      exact bodyPost_ret (v := .tuple #[.pointer (some ⟨gB, o + i * 4, none⟩), .int .i64 0]) (by simp [results, Try.results69, go_sem]) rfl ⟨HB2.out.drew, .inr ⟨HF.out, i, _, gB, o, HIX.out, HX.out.1, HX.out.2, HBB.out, rfl⟩⟩
    · have HF := Lib.hid (show ownF s.T ⟨qk, qw, qr, qg, qt, qs, ql, qd⟩ = 24 by unfold ownF; dsimp only; rw [HX.out.2]; dsimp only; rw [if_pos (by simpa using how)])
      go_enter Try.func69, Try.ntmps69
      go_upto_region 1 with fail
      rw [← hw1]
      clear hw1
      go_wp2_with fail
      refine C.out.mono ?_
      rintro e w2 ⟨rfl, b2⟩
      have HB2 := Lib.hid (HB1.out.trans (b2.mono HB1.out.size))
      have c2 := (b2.cell (p := ⟨gB, o + i * 4 + 1, none⟩) hgB).trans c1
      have q1 := ((HQ.out.below b2 lq).cell 1).trans rfl
      have lB2 : gB < w2.heap.size := by have := b2.size; omega
      clear b2 C HB1 q4 c1 hgB
      go_wp2_with fail
      go_region
      go_wp2_with fail
      exact bodyPost_ret (v := .tuple #[.pointer none, .int .i64 24]) (by simp [results, Try.results69, go_sem]) rfl ⟨HB2.out.drew, .inl ⟨by rw [HF.out]; decide, by rw [HF.out]⟩⟩
theorem disIn (s : Sm) (g : Nat) (k r : Int) (w : World) (h : Rd w g s) : Calls Try.prog 71 #[.pointer (some ⟨g, 0, none⟩), .int .i64 k, .int .i64 r] w fun e w' => e = .returned (.bool (decide (roomP s.X.ps k = some r))) ∧ Below w.heap.size w w' := by
  have C := Lib.hid (dperson s g k w h)
  have lg := h.at'.lt
  have HD := Lib.hid h
  have hf := ix_find (f := isP k) (l := s.X.ps)
  clear h
  rcases hf with ⟨hix, hno⟩ | ⟨i, x, hix, hx, hfx, hft⟩
  · have HF := Lib.hid (show decide (roomP s.X.ps k = some r) = false by unfold roomP; rw [hno]; rfl)
    rw [ptrS_no hix] at C
    clear hno hix
    go_enter Try.func71, Try.ntmps71
    go_wp2_with fail
    refine C.out.mono ?_
    rintro e w2 ⟨rfl, b2⟩
    have HB2 := Lib.hid b2
    clear b2 C
    go_wp2_with fail
    go_ret
    exact ⟨by rw [HF.out]; rfl, HB2.out⟩
  · obtain ⟨gB, o, hB, hgB, hc⟩ := HD.out.rp.2 (by have := (List.getElem?_eq_some_iff.1 hx).1; omega)
    have c1 := hc _ _ ((pnC_get hx 1 (by decide)).trans rfl)
    rw [← Nat.add_assoc] at c1
    rw [hix, hB, ptrS_at] at C
    have HX := Lib.hid hfx
    obtain ⟨xw, xr, xg⟩ := x
    dsimp only at c1
    clear hx hfx hft hix hB hc
    by_cases how : xr = r
    all_goals
      have HF := Lib.hid (show decide (roomP s.X.ps k = some r) = decide (xr = r) by unfold roomP; rw [HX.out]; simp)
      go_enter Try.func71, Try.ntmps71
      go_wp2_with fail
      refine C.out.mono ?_
      rintro e w2 ⟨rfl, b2⟩
      have HB2 := Lib.hid b2
      have c2 := (b2.cell (p := ⟨gB, o + i * 3 + 1, none⟩) hgB).trans c1
      have lB2 : gB < w2.heap.size := by have := b2.size; omega
      clear b2 C c1 hgB
      go_wp2_with fail
      go_ret
      exact ⟨by rw [HF.out]; exact ret_bool (by simp [how]), HB2.out⟩
theorem dmayChoose (q : Rq) (Q : Option Addr) (qn qc : Nat) (w : World) : Calls Try.prog 72 #[.agg (reqA q Q qn qc)] w fun e w' => e = .returned (.bool (!badL q)) ∧ Below w.heap.size w w' := by
  obtain ⟨qk, qw, qr, qg, qt, qs, ql, qd⟩ := q
  unfold reqA
  dsimp only
  obtain ⟨w1, hw1⟩ : ∃ z, z = w.alloc (.cells #[.int .i64 qk, .int .i64 qw, .int .i64 qr, .int .i64 qg, .int .i64 qt, .slice Q qn qc, .int .i64 ql, .int .i64 qd] 45) := ⟨_, rfl⟩
  have b1 : Below w.heap.size w w1 := by rw [hw1]; exact (Below.refl _ _).alloc (Nat.le_refl _) _
  have hq : Whole w1 w.heap.size 45 #[.int .i64 qk, .int .i64 qw, .int .i64 qr, .int .i64 qg, .int .i64 qt, .slice Q qn qc, .int .i64 ql, .int .i64 qd] := by rw [hw1]; exact Whole.new w _ _
  have lq := hq.lt
  have q6 := (hq.cell 6).trans rfl
  have HQ := Lib.hid hq
  have HB1 := Lib.hid b1
  clear hq b1
  have C1 := Lib.hid (dwithin ql 0 2 w1)
  by_cases e1 : 0 ≤ ql ∧ ql ≤ 2
  · rw [decide_eq_true e1] at C1
    by_cases e2 : 0 ≤ qd ∧ qd ≤ 3
    · have HF := Lib.hid (show (!badL ⟨qk, qw, qr, qg, qt, qs, ql, qd⟩) = true by unfold badL; simp; omega)
      go_enter Try.func72, Try.ntmps72
      go_upto_region 1 with fail
      rw [← hw1]
      clear hw1
      go_wp2_with fail
      refine C1.out.mono ?_
      rintro e w2 ⟨rfl, b2⟩
      have HB2 := Lib.hid (HB1.out.trans (b2.mono HB1.out.size))
      have q7 := ((HQ.out.below b2 lq).cell 7).trans rfl
      have C2 := Lib.hid (dwithin qd 0 3 w2)
      rw [decide_eq_true e2] at C2
      clear b2 C1 HB1 q6
      go_wp2_with fail
      refine C2.out.mono ?_
      rintro e w3 ⟨rfl, b3⟩
      have HB3 := Lib.hid (HB2.out.trans (b3.mono HB2.out.size))
      clear b3 C2 HB2 q7
      go_wp2_with fail
      go_ret
      exact ⟨by rw [HF.out]; rfl, HB3.out⟩
    · have HF := Lib.hid (show (!badL ⟨qk, qw, qr, qg, qt, qs, ql, qd⟩) = false by unfold badL; simp; omega)
      go_enter Try.func72, Try.ntmps72
      go_upto_region 1 with fail
      rw [← hw1]
      clear hw1
      go_wp2_with fail
      refine C1.out.mono ?_
      rintro e w2 ⟨rfl, b2⟩
      have HB2 := Lib.hid (HB1.out.trans (b2.mono HB1.out.size))
      have q7 := ((HQ.out.below b2 lq).cell 7).trans rfl
      have C2 := Lib.hid (dwithin qd 0 3 w2)
      rw [decide_eq_false e2] at C2
      clear b2 C1 HB1 q6
      go_wp2_with fail
      refine C2.out.mono ?_
      rintro e w3 ⟨rfl, b3⟩
      have HB3 := Lib.hid (HB2.out.trans (b3.mono HB2.out.size))
      clear b3 C2 HB2 q7
      go_wp2_with fail
      go_ret
      exact ⟨by rw [HF.out]; rfl, HB3.out⟩
  · rw [decide_eq_false e1] at C1
    have HF := Lib.hid (show (!badL ⟨qk, qw, qr, qg, qt, qs, ql, qd⟩) = false by unfold badL; simp; omega)
    go_enter Try.func72, Try.ntmps72
    go_upto_region 1 with fail
    rw [← hw1]
    clear hw1
    go_wp2_with fail
    refine C1.out.mono ?_
    rintro e w2 ⟨rfl, b2⟩
    have HB2 := Lib.hid (HB1.out.trans (b2.mono HB1.out.size))
    clear b2 C1 HB1 q6
    go_wp2_with fail
    go_ret
    exact ⟨by rw [HF.out]; rfl, HB2.out⟩
theorem dsubsOf (s : Sm) (g : Nat) (k1 : Int) (w : World) (h : Rd w g s) : Calls Try.prog 73 #[.pointer (some ⟨g, 0, none⟩), .int .i64 k1] w fun e w' => e = .returned (.int .i64 ((s.X.bs.filter (ofB k1)).length : Int)) ∧ Below w.heap.size w w' := by
  obtain ⟨n, hn⟩ : ∃ n, s.X.bs.length = n := ⟨_, rfl⟩
  obtain ⟨l, hl⟩ : ∃ l, s.X.bs = l := ⟨_, rfl⟩
  have c6 := h.at'.cell 6
  unfold smA at c6
  replace c6 := c6.trans rfl
  have HR := Lib.hid h.rb
  have hs := h.small.2.2
  have lg := h.at'.lt
  rw [hn] at c6 hs
  rw [hl] at hn HR ⊢
  rw [hn] at HR
  have HN := Lib.hid hn
  clear h hn hl
  go_enter Try.func73, Try.ntmps73
  go_wp2_with fail
  go_loopw [5, 13] (fun v5 i wr => ∃ k : Nat, k ≤ n ∧ v5 = .int .i64 (cnt (ofB k1) l k : Int) ∧ i = .int .i64 (k : Int) ∧ Below w.heap.size w wr) (fun _ i _ => n - (intOf i).toNat)
  case atStart => exact ⟨0, Nat.zero_le _, rfl, rfl, Below.refl _ _⟩
  case round =>
    obtain ⟨k, hk, rfl, rfl, hb⟩ := hrel
    by_cases hlt : k < n
    · obtain ⟨y, hy⟩ : ∃ y, l[k]? = some y := ⟨_, List.getElem?_eq_getElem (by rw [HN.out]; exact hlt)⟩
      obtain ⟨gB, o, hA, hg, hc⟩ := HR.out.2 (by omega)
      have c0 := (hb.cell (p := ⟨gB, o + (k * 5), none⟩) hg).trans (hc _ _ ((sbC_get hy 0 (by decide)).trans rfl))
      have c1 := (hb.cell (p := ⟨gB, o + (k * 5 + 1), none⟩) hg).trans (hc _ _ ((sbC_get hy 1 (by decide)).trans rfl))
      have c2 := (hb.cell (p := ⟨gB, o + (k * 5 + 2), none⟩) hg).trans (hc _ _ ((sbC_get hy 2 (by decide)).trans rfl))
      have c3 := (hb.cell (p := ⟨gB, o + (k * 5 + 3), none⟩) hg).trans (hc _ _ ((sbC_get hy 3 (by decide)).trans rfl))
      have c4 := (hb.cell (p := ⟨gB, o + (k * 5 + 4), none⟩) hg).trans (hc _ _ ((sbC_get hy 4 (by decide)).trans rfl))
      rw [← Nat.add_assoc] at c1 c2 c3 c4
      rw [hA]
      have i0 : (0 : Int) ≤ (k : Int) := by omega
      have i1 : (k : Int) < (n : Int) := by omega
      have lB : gB < wr.heap.size := by have := hb.size; omega
      have HCN := Lib.hid (cnt_next (f := ofB k1) hy)
      have hcl := cnt_le (ofB k1) l k
      have HB := Lib.hid (hb.alloc hb.size)
      obtain ⟨xw, xt, xl, xd, xm⟩ := y
      dsimp only [sbV] at c0 c1 c2 c3 c4
      obtain ⟨m, hm⟩ : ∃ m, cnt (ofB k1) l k = m := ⟨_, rfl⟩
      rw [hm] at HCN hcl ⊢
      clear hc hy hb hm
      by_cases e0 : xw = k1
      · have HC2 := Lib.hid (HCN.out.trans (if_pos (by unfold ofB; simpa using e0)))
        clear HCN
        go_wp2_with fail
        go_roundw
        case rel => exact ⟨k + 1, by omega, by rw [HC2.out]; go_num, by go_num, HB.out _⟩
        case measure => simp [intOf]; omega
      · have HC2 := Lib.hid (HCN.out.trans (if_neg (by unfold ofB; simpa using e0)))
        clear HCN
        go_wp2_with fail
        go_roundw
        case rel => exact ⟨k + 1, by omega, by rw [HC2.out], by go_num, HB.out _⟩
        case measure => simp [intOf]; omega
    · obtain rfl : k = n := by omega
      have HX := Lib.hid (cnt_all (f := ofB k1) (l := l) (k := k) (by rw [HN.out]; exact Nat.le_refl _))
      have HB := Lib.hid hb
      clear HR HN hb
      go_wp2_with fail
      go_ret
      exact ⟨by rw [← HX.out]; rfl, HB.out⟩
end Go.Proofs.Ytmmeceehfdbdoaa
