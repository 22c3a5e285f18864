/-
  Contracts of package delta: put. The function value's own contract is a premise.
-/
import Derived.Test.YtmmeceehfdbdoaaDcC
namespace Go.Proofs.Ytmmeceehfdbdoaa
open Go.RowKit
open Dl
set_option linter.unusedSimpArgs false
set_option linter.unusedVariables false
set_option maxRecDepth 100000
namespace Dl
def placeS {α : Type} (f : α → Bool) (l : List α) : Nat := (l.findIdx? f).getD l.length
def putS {α : Type} (f : α → Bool) (l : List α) (x : α) : List α := l.take (placeS f l) ++ x :: l.drop (placeS f l)
theorem placeS_le {α : Type} (f : α → Bool) (l : List α) : placeS f l ≤ l.length := by
  unfold placeS
  cases h : l.findIdx? f with
  | none => exact Nat.le_refl _
  | some k => obtain ⟨hk, _⟩ := List.findIdx?_eq_some_iff_getElem.mp h; exact Nat.le_of_lt hk
theorem putS_length {α : Type} (f : α → Bool) (l : List α) (x : α) : (putS f l x).length = l.length + 1 := by
  have := placeS_le f l
  unfold putS
  simp
  omega
theorem place_ix {α : Type} {f : α → Bool} {l : List α} : (ixS f l < 0 ∧ placeS f l = l.length) ∨ (ixS f l = (placeS f l : Int)) := by
  unfold ixS placeS
  cases h : l.findIdx? f with
  | none => exact .inl ⟨by decide, rfl⟩
  | some k => exact .inr rfl
end Dl

set_option maxHeartbeats 3200000 in
theorem dputP (base : Nat) (N : FuncId) (u : Value) (f : Pn → Bool) (A : Option Addr) (c : Nat) (l : List Pn) (x : Pn) (w : World) (hN : Ent N) (h : w.ownsRow base 71 3 (.slice A l.length c) l.length (pnC l)) (hl : l.length ≤ 4096) (hbase : base ≤ w.heap.size)
    (hF : ∀ x ∈ l, ∀ wx : World, Below w.heap.size w wx → Calls Try.prog N #[.agg (pnV x).toArray, u] wx fun e w' => e = .returned (.bool (f x)) ∧ Below wx.heap.size wx w') :
    Calls Try.prog 56 #[.slice A l.length c, .agg (pnV x).toArray, .func (.func N) #[] #[u]] w fun e w' => ∃ A' c', e = .returned (.slice A' (l.length + 1) c') ∧ w'.ownsRow base 71 3 (.slice A' (l.length + 1) c') (l.length + 1) (pnC (putS f l x)) ∧ But (fun k => (Value.slice A l.length c).ownBlock = some k) w w' := by
  have hput : pnC (putS f l x) = (pnC l).take (placeS f l * 3) ++ pnV x ++ (pnC l).drop (placeS f l * 3) := by
    unfold putS pnC
    rw [List.map_append, List.map_cons, List.flatten_append, List.flatten_cons, flat_take (z := 3) (fun _ => rfl), flat_drop (z := 3) (fun _ => rfl), List.append_assoc]
  have hvl : (pnV x).length = 3 := rfl
  have h1v := pn_one x
  have h1x : ∀ v ∈ pnC l, v.oneCell' = true := flat_one pn_one l
  have hpl := placeS_le f l
  have hix := place_ix (f := f) (l := l)
  obtain ⟨xw, xr, xg⟩ := x
  rw [show pnV ⟨xw, xr, xg⟩ = [.int .i64 xw, .int .i64 xr, .int .i64 xg] from rfl] at hput hvl h1v
  rw [show (pnV ⟨xw, xr, xg⟩).toArray = #[.int .i64 xw, .int .i64 xr, .int .i64 xg] from by rw [show pnV ⟨xw, xr, xg⟩ = [.int .i64 xw, .int .i64 xr, .int .i64 xg] from rfl]]
  obtain ⟨w1, hw1⟩ : ∃ z, z = w.alloc (.cells #[.int .i64 xw, .int .i64 xr, .int .i64 xg] 71) := ⟨_, rfl⟩
  have b1 : Below w.heap.size w w1 := by rw [hw1]; exact (Below.refl _ _).alloc (Nat.le_refl _) _
  have hX : Whole w1 w.heap.size 71 #[.int .i64 xw, .int .i64 xr, .int .i64 xg] := by rw [hw1]; exact Whole.new w _ _
  have hO1 := own_below h b1 (Nat.le_refl _)
  have CI := Lib.hid (dixP N u f A c l w1 hN (Row.of_own hO1) hl (fun y hy wx hb => hF y hy wx (b1.trans (hb.mono b1.size))))
  obtain ⟨i, hi⟩ : ∃ i, placeS f l = i := ⟨_, rfl⟩
  obtain ⟨n, hn⟩ : ∃ n, l.length = n := ⟨_, rfl⟩
  obtain ⟨r, hrr⟩ : ∃ r, ixS f l = r := ⟨_, rfl⟩
  rw [hi] at hput
  rw [hi, hn] at hpl
  rw [hi, hn, hrr] at hix
  rw [hn, hrr] at CI
  rw [hn] at hl hO1 ⊢
  have HO1 := Lib.hid hO1
  have HX := Lib.hid hX
  have HB1 := Lib.hid b1
  have lX := hX.lt
  have HP := Lib.hid hput
  have HV := Lib.hid hvl
  have H1V := Lib.hid h1v
  have H1X := Lib.hid h1x
  have hob : ∀ q, (Value.slice A n c).ownBlock = some q → q < w.heap.size := fun q hq => by rw [← hn] at hq; exact (h.lt q hq).2
  have HOB := Lib.hid hob
  clear h hput hvl h1v h1x hi hn hrr hX b1 hO1 hF hob
  have FIN := Lib.hid (fun (w2 : World) (b2 : Below w1.heap.size w1 w2) => (show Calls Try.prog 81 #[.slice A n c, .int .i64 (i : Int), .slice (some ⟨w2.heap.size, 0, none⟩) 1 1] (w2.alloc (.cells #[.int .i64 xw, .int .i64 xr, .int .i64 xg] 71)) fun e w' => ∃ A' c', e = .returned (.slice A' (n + 1) c') ∧ w'.ownsRow base 71 3 (.slice A' (n + 1) c') (n + 1) (pnC (putS f l ⟨xw, xr, xg⟩)) ∧ But (fun k => (Value.slice A n c).ownBlock = some k) w w' from by
    have hs1 := HB1.out.size
    have hs2 := b2.size
    have b3 : Below w2.heap.size w2 (w2.alloc (.cells #[.int .i64 xw, .int .i64 xr, .int .i64 xg] 71)) := (Below.refl _ _).alloc (Nat.le_refl _) _
    have ho := own_below (own_below HO1.out b2 (Nat.le_refl _)) b3 (Nat.le_refl _)
    have hv := Whole.new w2 71 #[.int .i64 xw, .int .i64 xr, .int .i64 xg]
    refine (dinsP base A c n i w2.heap.size (pnC l) [.int .i64 xw, .int .i64 xr, .int .i64 xg] _ ho hpl hl (by simp; omega) hv HV.out H1V.out H1X.out (fun e => by have := HOB.out _ e; omega)).mono ?_
    rintro e w' ⟨A', c', e1, e2, e3⟩
    refine ⟨A', c', e1, ?_, ?_⟩
    · rw [HP.out]; exact e2
    · exact ((but_of_below HB1.out).trans ((but_of_below b2).trans (but_of_below b3))).trans e3))
  rcases hix with ⟨h0, rfl⟩ | rfl
  · go_enter Try.func56, Try.ntmps56
    go_upto_region 1 with fail
    rw [← hw1]
    clear hw1
    go_wp2_with fail
    refine CI.out.mono ?_
    rintro e w2 ⟨rfl, b2⟩
    have HB2 := Lib.hid b2
    have CF := Lib.hid (FIN.out w2 b2)
    have x2 := HX.out.below b2 lX
    have c0 := (x2.cell 0).trans rfl
    have c1 := (x2.cell 1).trans rfl
    have c2 := (x2.cell 2).trans rfl
    have lX2 := x2.lt
    clear b2 CI x2
    go_wp2_with fail
    refine CF.out.mono ?_
    rintro e w3 ⟨A', c', rfl, ho, hb⟩
    have HF := Lib.hid (And.intro ho hb)
    clear ho hb CF FIN
    go_wp2_with fail
    go_ret
    exact ⟨A', c', rfl, HF.out.1, HF.out.2⟩
  · have h0 : ¬ ((i : Int) < 0) := by omega
    go_enter Try.func56, Try.ntmps56
    go_upto_region 1 with fail
    rw [← hw1]
    clear hw1
    go_wp2_with fail
    refine CI.out.mono ?_
    rintro e w2 ⟨rfl, b2⟩
    have HB2 := Lib.hid b2
    have CF := Lib.hid (FIN.out w2 b2)
    have x2 := HX.out.below b2 lX
    have c0 := (x2.cell 0).trans rfl
    have c1 := (x2.cell 1).trans rfl
    have c2 := (x2.cell 2).trans rfl
    have lX2 := x2.lt
    clear b2 CI x2
    go_wp2_with fail
    refine CF.out.mono ?_
    rintro e w3 ⟨A', c', rfl, ho, hb⟩
    have HF := Lib.hid (And.intro ho hb)
    clear ho hb CF FIN
    go_wp2_with fail
    go_ret
    exact ⟨A', c', rfl, HF.out.1, HF.out.2⟩

set_option maxHeartbeats 3200000 in
theorem dputT (base : Nat) (N : FuncId) (u : Value) (f : Tm → Bool) (A : Option Addr) (c : Nat) (l : List Tm) (x : Tm) (w : World) (hN : Ent N) (h : w.ownsRow base 72 4 (.slice A l.length c) l.length (tmC l)) (hl : l.length ≤ 4096) (hbase : base ≤ w.heap.size)
    (hF : ∀ x ∈ l, ∀ wx : World, Below w.heap.size w wx → Calls Try.prog N #[.agg (tmV x).toArray, u] wx fun e w' => e = .returned (.bool (f x)) ∧ Below wx.heap.size wx w') :
    Calls Try.prog 67 #[.slice A l.length c, .agg (tmV x).toArray, .func (.func N) #[] #[u]] w fun e w' => ∃ A' c', e = .returned (.slice A' (l.length + 1) c') ∧ w'.ownsRow base 72 4 (.slice A' (l.length + 1) c') (l.length + 1) (tmC (putS f l x)) ∧ But (fun k => (Value.slice A l.length c).ownBlock = some k) w w' := by
  have hput : tmC (putS f l x) = (tmC l).take (placeS f l * 4) ++ tmV x ++ (tmC l).drop (placeS f l * 4) := by
    unfold putS tmC
    rw [List.map_append, List.map_cons, List.flatten_append, List.flatten_cons, flat_take (z := 4) (fun _ => rfl), flat_drop (z := 4) (fun _ => rfl), List.append_assoc]
  have hvl : (tmV x).length = 4 := rfl
  have h1v := tm_one x
  have h1x : ∀ v ∈ tmC l, v.oneCell' = true := flat_one tm_one l
  have hpl := placeS_le f l
  have hix := place_ix (f := f) (l := l)
  obtain ⟨⟨xi, xo, xf, xs⟩, xA, xc⟩ := x
  obtain ⟨n5, hn5⟩ : ∃ z, xs.length = z := ⟨_, rfl⟩
  rw [show tmV ⟨⟨xi, xo, xf, xs⟩, xA, xc⟩ = [.int .i64 xi, .int .i64 xo, .int .i64 xf, .slice xA n5 xc] from by rw [← hn5]; rfl] at hput hvl h1v
  rw [show (tmV ⟨⟨xi, xo, xf, xs⟩, xA, xc⟩).toArray = #[.int .i64 xi, .int .i64 xo, .int .i64 xf, .slice xA n5 xc] from by rw [show tmV ⟨⟨xi, xo, xf, xs⟩, xA, xc⟩ = [.int .i64 xi, .int .i64 xo, .int .i64 xf, .slice xA n5 xc] from by rw [← hn5]; rfl]]
  obtain ⟨w1, hw1⟩ : ∃ z, z = w.alloc (.cells #[.int .i64 xi, .int .i64 xo, .int .i64 xf, .slice xA n5 xc] 72) := ⟨_, rfl⟩
  have b1 : Below w.heap.size w w1 := by rw [hw1]; exact (Below.refl _ _).alloc (Nat.le_refl _) _
  have hX : Whole w1 w.heap.size 72 #[.int .i64 xi, .int .i64 xo, .int .i64 xf, .slice xA n5 xc] := by rw [hw1]; exact Whole.new w _ _
  have hO1 := own_below h b1 (Nat.le_refl _)
  have CI := Lib.hid (dixT N u f A c l w1 hN (Row.of_own hO1) hl (fun y hy wx hb => hF y hy wx (b1.trans (hb.mono b1.size))))
  obtain ⟨i, hi⟩ : ∃ i, placeS f l = i := ⟨_, rfl⟩
  obtain ⟨n, hn⟩ : ∃ n, l.length = n := ⟨_, rfl⟩
  obtain ⟨r, hrr⟩ : ∃ r, ixS f l = r := ⟨_, rfl⟩
  rw [hi] at hput
  rw [hi, hn] at hpl
  rw [hi, hn, hrr] at hix
  rw [hn, hrr] at CI
  rw [hn] at hl hO1 ⊢
  have HO1 := Lib.hid hO1
  have HX := Lib.hid hX
  have HB1 := Lib.hid b1
  have lX := hX.lt
  have HP := Lib.hid hput
  have HV := Lib.hid hvl
  have H1V := Lib.hid h1v
  have H1X := Lib.hid h1x
  have hob : ∀ q, (Value.slice A n c).ownBlock = some q → q < w.heap.size := fun q hq => by rw [← hn] at hq; exact (h.lt q hq).2
  have HOB := Lib.hid hob
  clear h hput hvl h1v h1x hi hn hrr hX b1 hO1 hF hob hn5
  have FIN := Lib.hid (fun (w2 : World) (b2 : Below w1.heap.size w1 w2) => (show Calls Try.prog 91 #[.slice A n c, .int .i64 (i : Int), .slice (some ⟨w2.heap.size, 0, none⟩) 1 1] (w2.alloc (.cells #[.int .i64 xi, .int .i64 xo, .int .i64 xf, .slice xA n5 xc] 72)) fun e w' => ∃ A' c', e = .returned (.slice A' (n + 1) c') ∧ w'.ownsRow base 72 4 (.slice A' (n + 1) c') (n + 1) (tmC (putS f l ⟨⟨xi, xo, xf, xs⟩, xA, xc⟩)) ∧ But (fun k => (Value.slice A n c).ownBlock = some k) w w' from by
    have hs1 := HB1.out.size
    have hs2 := b2.size
    have b3 : Below w2.heap.size w2 (w2.alloc (.cells #[.int .i64 xi, .int .i64 xo, .int .i64 xf, .slice xA n5 xc] 72)) := (Below.refl _ _).alloc (Nat.le_refl _) _
    have ho := own_below (own_below HO1.out b2 (Nat.le_refl _)) b3 (Nat.le_refl _)
    have hv := Whole.new w2 72 #[.int .i64 xi, .int .i64 xo, .int .i64 xf, .slice xA n5 xc]
    refine (dinsT base A c n i w2.heap.size (tmC l) [.int .i64 xi, .int .i64 xo, .int .i64 xf, .slice xA n5 xc] _ ho hpl hl (by simp; omega) hv HV.out H1V.out H1X.out (fun e => by have := HOB.out _ e; omega)).mono ?_
    rintro e w' ⟨A', c', e1, e2, e3⟩
    refine ⟨A', c', e1, ?_, ?_⟩
    · rw [HP.out]; exact e2
    · exact ((but_of_below HB1.out).trans ((but_of_below b2).trans (but_of_below b3))).trans e3))
  rcases hix with ⟨h0, rfl⟩ | rfl
  · go_enter Try.func67, Try.ntmps67
    go_upto_region 1 with fail
    rw [← hw1]
    clear hw1
    go_wp2_with fail
    refine CI.out.mono ?_
    rintro e w2 ⟨rfl, b2⟩
    have HB2 := Lib.hid b2
    have CF := Lib.hid (FIN.out w2 b2)
    have x2 := HX.out.below b2 lX
    have c0 := (x2.cell 0).trans rfl
    have c1 := (x2.cell 1).trans rfl
    have c2 := (x2.cell 2).trans rfl
    have c3 := (x2.cell 3).trans rfl
    have lX2 := x2.lt
    clear b2 CI x2
    go_wp2_with fail
    refine CF.out.mono ?_
    rintro e w3 ⟨A', c', rfl, ho, hb⟩
    have HF := Lib.hid (And.intro ho hb)
    clear ho hb CF FIN
    go_wp2_with fail
    go_ret
    exact ⟨A', c', rfl, HF.out.1, HF.out.2⟩
  · have h0 : ¬ ((i : Int) < 0) := by omega
    go_enter Try.func67, Try.ntmps67
    go_upto_region 1 with fail
    rw [← hw1]
    clear hw1
    go_wp2_with fail
    refine CI.out.mono ?_
    rintro e w2 ⟨rfl, b2⟩
    have HB2 := Lib.hid b2
    have CF := Lib.hid (FIN.out w2 b2)
    have x2 := HX.out.below b2 lX
    have c0 := (x2.cell 0).trans rfl
    have c1 := (x2.cell 1).trans rfl
    have c2 := (x2.cell 2).trans rfl
    have c3 := (x2.cell 3).trans rfl
    have lX2 := x2.lt
    clear b2 CI x2
    go_wp2_with fail
    refine CF.out.mono ?_
    rintro e w3 ⟨A', c', rfl, ho, hb⟩
    have HF := Lib.hid (And.intro ho hb)
    clear ho hb CF FIN
    go_wp2_with fail
    go_ret
    exact ⟨A', c', rfl, HF.out.1, HF.out.2⟩

set_option maxHeartbeats 3200000 in
theorem dputB (base : Nat) (N : FuncId) (u : Value) (f : Sb → Bool) (A : Option Addr) (c : Nat) (l : List Sb) (x : Sb) (w : World) (hN : Ent N) (h : w.ownsRow base 55 5 (.slice A l.length c) l.length (sbC l)) (hl : l.length ≤ 4096) (hbase : base ≤ w.heap.size)
    (hF : ∀ x ∈ l, ∀ wx : World, Below w.heap.size w wx → Calls Try.prog N #[.agg (sbV x).toArray, u] wx fun e w' => e = .returned (.bool (f x)) ∧ Below wx.heap.size wx w') :
    Calls Try.prog 74 #[.slice A l.length c, .agg (sbV x).toArray, .func (.func N) #[] #[u]] w fun e w' => ∃ A' c', e = .returned (.slice A' (l.length + 1) c') ∧ w'.ownsRow base 55 5 (.slice A' (l.length + 1) c') (l.length + 1) (sbC (putS f l x)) ∧ But (fun k => (Value.slice A l.length c).ownBlock = some k) w w' := by
  have hput : sbC (putS f l x) = (sbC l).take (placeS f l * 5) ++ sbV x ++ (sbC l).drop (placeS f l * 5) := by
    unfold putS sbC
    rw [List.map_append, List.map_cons, List.flatten_append, List.flatten_cons, flat_take (z := 5) (fun _ => rfl), flat_drop (z := 5) (fun _ => rfl), List.append_assoc]
  have hvl : (sbV x).length = 5 := rfl
  have h1v := sb_one x
  have h1x : ∀ v ∈ sbC l, v.oneCell' = true := flat_one sb_one l
  have hpl := placeS_le f l
  have hix := place_ix (f := f) (l := l)
  obtain ⟨xw, xt, xl, xd, xm⟩ := x
  rw [show sbV ⟨xw, xt, xl, xd, xm⟩ = [.int .i64 xw, .int .i64 xt, .int .i64 xl, .int .i64 xd, .bool xm] from rfl] at hput hvl h1v
  rw [show (sbV ⟨xw, xt, xl, xd, xm⟩).toArray = #[.int .i64 xw, .int .i64 xt, .int .i64 xl, .int .i64 xd, .bool xm] from by rw [show sbV ⟨xw, xt, xl, xd, xm⟩ = [.int .i64 xw, .int .i64 xt, .int .i64 xl, .int .i64 xd, .bool xm] from rfl]]
  obtain ⟨w1, hw1⟩ : ∃ z, z = w.alloc (.cells #[.int .i64 xw, .int .i64 xt, .int .i64 xl, .int .i64 xd, .bool xm] 55) := ⟨_, rfl⟩
  have b1 : Below w.heap.size w w1 := by rw [hw1]; exact (Below.refl _ _).alloc (Nat.le_refl _) _
  have hX : Whole w1 w.heap.size 55 #[.int .i64 xw, .int .i64 xt, .int .i64 xl, .int .i64 xd, .bool xm] := by rw [hw1]; exact Whole.new w _ _
  have hO1 := own_below h b1 (Nat.le_refl _)
  have CI := Lib.hid (dixB N u f A c l w1 hN (Row.of_own hO1) hl (fun y hy wx hb => hF y hy wx (b1.trans (hb.mono b1.size))))
  obtain ⟨i, hi⟩ : ∃ i, placeS f l = i := ⟨_, rfl⟩
  obtain ⟨n, hn⟩ : ∃ n, l.length = n := ⟨_, rfl⟩
  obtain ⟨r, hrr⟩ : ∃ r, ixS f l = r := ⟨_, rfl⟩
  rw [hi] at hput
  rw [hi, hn] at hpl
  rw [hi, hn, hrr] at hix
  rw [hn, hrr] at CI
  rw [hn] at hl hO1 ⊢
  have HO1 := Lib.hid hO1
  have HX := Lib.hid hX
  have HB1 := Lib.hid b1
  have lX := hX.lt
  have HP := Lib.hid hput
  have HV := Lib.hid hvl
  have H1V := Lib.hid h1v
  have H1X := Lib.hid h1x
  have hob : ∀ q, (Value.slice A n c).ownBlock = some q → q < w.heap.size := fun q hq => by rw [← hn] at hq; exact (h.lt q hq).2
  have HOB := Lib.hid hob
  clear h hput hvl h1v h1x hi hn hrr hX b1 hO1 hF hob
  have FIN := Lib.hid (fun (w2 : World) (b2 : Below w1.heap.size w1 w2) => (show Calls Try.prog 92 #[.slice A n c, .int .i64 (i : Int), .slice (some ⟨w2.heap.size, 0, none⟩) 1 1] (w2.alloc (.cells #[.int .i64 xw, .int .i64 xt, .int .i64 xl, .int .i64 xd, .bool xm] 55)) fun e w' => ∃ A' c', e = .returned (.slice A' (n + 1) c') ∧ w'.ownsRow base 55 5 (.slice A' (n + 1) c') (n + 1) (sbC (putS f l ⟨xw, xt, xl, xd, xm⟩)) ∧ But (fun k => (Value.slice A n c).ownBlock = some k) w w' from by
    have hs1 := HB1.out.size
    have hs2 := b2.size
    have b3 : Below w2.heap.size w2 (w2.alloc (.cells #[.int .i64 xw, .int .i64 xt, .int .i64 xl, .int .i64 xd, .bool xm] 55)) := (Below.refl _ _).alloc (Nat.le_refl _) _
    have ho := own_below (own_below HO1.out b2 (Nat.le_refl _)) b3 (Nat.le_refl _)
    have hv := Whole.new w2 55 #[.int .i64 xw, .int .i64 xt, .int .i64 xl, .int .i64 xd, .bool xm]
    refine (dinsB base A c n i w2.heap.size (sbC l) [.int .i64 xw, .int .i64 xt, .int .i64 xl, .int .i64 xd, .bool xm] _ ho hpl hl (by simp; omega) hv HV.out H1V.out H1X.out (fun e => by have := HOB.out _ e; omega)).mono ?_
    rintro e w' ⟨A', c', e1, e2, e3⟩
    refine ⟨A', c', e1, ?_, ?_⟩
    · rw [HP.out]; exact e2
    · exact ((but_of_below HB1.out).trans ((but_of_below b2).trans (but_of_below b3))).trans e3))
  rcases hix with ⟨h0, rfl⟩ | rfl
  · go_enter Try.func74, Try.ntmps74
    go_upto_region 1 with fail
    rw [← hw1]
    clear hw1
    go_wp2_with fail
    refine CI.out.mono ?_
    rintro e w2 ⟨rfl, b2⟩
    have HB2 := Lib.hid b2
    have CF := Lib.hid (FIN.out w2 b2)
    have x2 := HX.out.below b2 lX
    have c0 := (x2.cell 0).trans rfl
    have c1 := (x2.cell 1).trans rfl
    have c2 := (x2.cell 2).trans rfl
    have c3 := (x2.cell 3).trans rfl
    have c4 := (x2.cell 4).trans rfl
    have lX2 := x2.lt
    clear b2 CI x2
    go_wp2_with fail
    refine CF.out.mono ?_
    rintro e w3 ⟨A', c', rfl, ho, hb⟩
    have HF := Lib.hid (And.intro ho hb)
    clear ho hb CF FIN
    go_wp2_with fail
    go_ret
    exact ⟨A', c', rfl, HF.out.1, HF.out.2⟩
  · have h0 : ¬ ((i : Int) < 0) := by omega
    go_enter Try.func74, Try.ntmps74
    go_upto_region 1 with fail
    rw [← hw1]
    clear hw1
    go_wp2_with fail
    refine CI.out.mono ?_
    rintro e w2 ⟨rfl, b2⟩
    have HB2 := Lib.hid b2
    have CF := Lib.hid (FIN.out w2 b2)
    have x2 := HX.out.below b2 lX
    have c0 := (x2.cell 0).trans rfl
    have c1 := (x2.cell 1).trans rfl
    have c2 := (x2.cell 2).trans rfl
    have c3 := (x2.cell 3).trans rfl
    have c4 := (x2.cell 4).trans rfl
    have lX2 := x2.lt
    clear b2 CI x2
    go_wp2_with fail
    refine CF.out.mono ?_
    rintro e w3 ⟨A', c', rfl, ho, hb⟩
    have HF := Lib.hid (And.intro ho hb)
    clear ho hb CF FIN
    go_wp2_with fail
    go_ret
    exact ⟨A', c', rfl, HF.out.1, HF.out.2⟩
end Go.Proofs.Ytmmeceehfdbdoaa
