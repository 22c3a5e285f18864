/-
 Proved: DeltaNone returns true for every number of people, tracks and subs, and every row of requests: with an error nothing has changed; the state that was handed in stays as it was, always. Conditions: none.
-/
import Derived.Conc.WalkWords
import Derived.Test.YtmmeceehfdbdoaaDaB
import Derived.Test.YtmmeceehfdbdoaaDaO
import Derived.Test.YtmmeceehfdbdoaaDaQ
import Derived.Test.YtmmeceehfdbdoaaLift
import Derived.Deep.CutBlock
import Derived.Deep.DeepCutAuto
import Derived.Test.YtmmeceehfdbdoaaHang
import Derived.Test.YtmmeceehfdbdoaaDaS
import Derived.Test.YtmmeceehfdbdoaaDaTo
import Derived.RegionTactic
namespace Go.Proofs.Ytmmeceehfdbdoaa.LNone
open Go.ChangeShapes Go.WideShapes Go.ChangeAt Go.RowKit
open Dl
set_option linter.unusedSimpArgs false
set_option linter.unusedVariables false
set_option maxRecDepth 100000

theorem sat_weak {P R : Nat → Prop} {w : World} {s : Sm} (h : SAt (fun k => P k ∧ R k) w s) : SAt P w s := ⟨h.rp, h.rt, h.rb, h.ts, h.inv, impP h.pA, impP h.pB, impP h.pC, fun x hx => impQ (h.pS x hx)⟩
theorem qat_with {P : Nat → Prop} {w : World} {x : Qm} (h : QAt P w x) (R : Nat → Prop) (hR : ∀ k, k < w.heap.size → R k) : QAt (fun k => P k ∧ R k) w x := ⟨h.r, h.len, inq_with h.r h.p hR, h.u⟩
theorem row_grownN {w w' : World} {z n : Nat} {A : Option Addr} {xs : List Value} {row : Option Nat} (h : Row w w.heap.size z A n xs) (k : w.grownBy w' row) (hS : 0 < n → ∀ a, A = some a → row ≠ some a.block) : Row w' w'.heap.size z A n xs := by
 rcases Nat.eq_zero_or_pos n with h0 | h0
 · subst h0; exact ⟨h.1, fun h => absurd h (by omega)⟩
 · exact (row_grownX h (Nat.le_refl _) k (hS h0)).more k.size
theorem info_u32N : (Try.prog.info? 64).map (fun i => (i.zero, i.size, i.bytes)) = some (some (.int .u32 0), 1, 4) := by kernel_rfl
theorem u32_one (l : List Int) : ∀ u ∈ n32 l, u.oneCell' = true := by intro u hu; unfold n32 at hu; obtain ⟨x, _, rfl⟩ := List.mem_map.mp hu; rfl
/-- The tracks so far, each with SSRCs of its own, in blocks that aren't the row's. -/
def Own (lo : Nat) (row : Option Nat) (w : World) (l : List Tm) : Prop :=
 ∀ x ∈ l, Row w w.heap.size 1 x.A x.t.ss.length (n32 x.t.ss) ∧ x.t.ss.length ≤ 4096 ∧ InQ (fun b => lo ≤ b ∧ row ≠ some b) x.A x.t.ss.length x.c
theorem Own.below {lo : Nat} {row : Option Nat} {w w' : World} {l : List Tm} (h : Own lo row w l) (b : Below w.heap.size w w') : Own lo row w' l :=
 fun x hx => ⟨((h x hx).1.below b (Nat.le_refl _)).more b.size, (h x hx).2⟩
theorem Own.add {lo : Nat} {row row' : Option Nat} {w w' : World} {l : List Tm} {y : Tm} (h : Own lo row w l) (k : w.grownBy w' row) (hr : row' = row ∨ row' = some w.heap.size)
 (hy : Row w w.heap.size 1 y.A y.t.ss.length (n32 y.t.ss)) (hl : y.t.ss.length ≤ 4096) (hq : InQ (fun b => lo ≤ b ∧ row ≠ some b) y.A y.t.ss.length y.c) : Own lo row' w' (l ++ [y]) := by
 intro x hx
 have key : Row w w.heap.size 1 x.A x.t.ss.length (n32 x.t.ss) ∧ x.t.ss.length ≤ 4096 ∧ InQ (fun b => lo ≤ b ∧ row ≠ some b) x.A x.t.ss.length x.c := by
  rcases List.mem_append.mp hx with hx | hx
  · exact h x hx
  · obtain rfl := List.mem_singleton.mp hx
    exact ⟨hy, hl, hq⟩
 refine ⟨row_grownN key.1 k (fun h0 a ha => (key.2.2.pl h0 a ha).2), key.2.1, ⟨fun h0 a ha => ⟨(key.2.2.pl h0 a ha).1, ?_⟩, key.2.2.le, key.2.2.cap⟩⟩
 rcases hr with rfl | rfl
 · exact (key.2.2.pl h0 a ha).2
 · obtain ⟨g, o, e, hg, _⟩ := key.1.2 h0
   rw [e] at ha
   injection ha with ha
   subst ha
   intro e2
   injection e2 with e2
   have : w.heap.size = g := e2
   omega
theorem tks_app (l m : List Tm) : tks (l ++ m) = tks l ++ tks m := by unfold tks; rw [List.map_append]
set_option maxHeartbeats 12800000 in
theorem walk (w : World) (c : Cf) (_tr : True) (A : Option Addr) (cc : Nat) (l : List Qm) (hl : l.length ≤ maxLen) (hr : Row w w.heap.size 8 A l.length (rowC qmV l)) (ho : ∀ a ∈ l, QOk w a) :
 Calls Try.prog 5 #[.agg #[.int .i64 c.ps, .int .i64 c.ts, .int .i64 c.bs, .int .i64 c.sl], .slice A l.length cc] w fun e w' => e = .returned (.bool true) ∧ Below w.heap.size w w' := by
 obtain ⟨n, hn⟩ : ∃ n, l.length = n := ⟨_, rfl⟩
 have HR := Lib.hid (show Row w w.heap.size 8 A l.length (qmC l) from hr)
 have HO := Lib.hid ho
 have HN := Lib.hid hn
 unfold maxLen at hl
 obtain ⟨w0, hw0⟩ : ∃ z, z = w.alloc (.cells #[.int .i64 c.ps, .int .i64 c.ts, .int .i64 c.bs, .int .i64 c.sl] 23) := ⟨_, rfl⟩
 have b0 : Below w.heap.size w w0 := by rw [hw0]; exact (Below.refl _ _).alloc (Nat.le_refl _) _
 have hC : Whole w0 w.heap.size 23 #[.int .i64 c.ps, .int .i64 c.ts, .int .i64 c.bs, .int .i64 c.sl] := by rw [hw0]; exact Whole.new w _ _
 have HC := Lib.hid hC
 have HB0 := Lib.hid b0
 have lC := hC.lt
 have CA := Lib.hid (awake18 w0)
 have CF := Lib.hid (fun w' (b : Below w.heap.size w w') => few18 A cc l w' ((HR.out.below b (Nat.le_refl _)).more b.size) (by unfold maxLen; omega))
 rw [hn] at hl CF ⊢
 clear hr ho hn b0 hC _tr
 cases hfw : fewS l with
 | false =>
  cases hcf : confL c with
  | false =>
   have CF2 := CF.out
   rw [hfw] at CF2
   have CB := fun w => begun18 c w
   rw [hcf] at CB
   simp only [if_true, if_false, Bool.false_eq_true, reduceIte] at CB
   have HCF2 := Lib.hid CF2
   have HCB := Lib.hid CB
   clear CF2 CB
   go_enter Try.func5, Try.ntmps5
   go_upto_region 1 with fail
   rw [← hw0]
   clear hw0
   go_wp2_with fail
   refine CA.out.mono ?_
   rintro e w1 ⟨rfl, b1⟩
   have HB1 := Lib.hid (HB0.out.trans (b1.mono HB0.out.size))
   have hC1 := HC.out.below b1 lC
   have lC1 := hC1.lt
   have HC1 := Lib.hid hC1
   clear b1 hC1 CA HC HB0
   go_wp2_with fail
   refine (HCF2.out w1 HB1.out).mono ?_
   rintro e w2 ⟨rfl, b2⟩
   have HB2 := Lib.hid (HB1.out.trans (b2.mono HB1.out.size))
   have hC2 := HC1.out.below b2 lC1
   have c0 := (hC2.cell 0).trans rfl
   have c1 := (hC2.cell 1).trans rfl
   have c2 := (hC2.cell 2).trans rfl
   have c3 := (hC2.cell 3).trans rfl
   have lC2 := hC2.lt
   clear b2 hC2 HCF2 HC1 HB1 CF
   go_wp2_with fail
   refine (HCB.out w2).mono ?_
   rintro e w3 ⟨rfl, b3⟩
   have HB3 := Lib.hid (HB2.out.trans (b3.mono HB2.out.size))
   clear b3 HCB HB2 c0 c1 c2 c3
   have HBF := Lib.hid (fun (o p : Obj) => (HB3.out.alloc HB3.out.size o).alloc (HB3.out.alloc HB3.out.size o).size p)
   go_wp2_with fail
   go_ret
   exact ⟨rfl, HBF.out _ _⟩
  | true =>
   have CF2 := CF.out
   rw [hfw] at CF2
   have CB := fun w => begun18 c w
   rw [hcf] at CB
   simp only [if_true, if_false, Bool.false_eq_true, reduceIte] at CB
   rw [show smA (zeroM c) = #[.int .i64 c.ps, .int .i64 c.ts, .int .i64 c.bs, .int .i64 c.sl, .slice none 0 0, .slice none 0 0, .slice none 0 0] from rfl] at CB
   have HCF2 := Lib.hid CF2
   have HCB := Lib.hid CB
   clear CF2 CB
   go_enter Try.func5, Try.ntmps5
   go_upto_region 1 with fail
   rw [← hw0]
   clear hw0
   go_wp2_with fail
   refine CA.out.mono ?_
   rintro e w1 ⟨rfl, b1⟩
   have HB1 := Lib.hid (HB0.out.trans (b1.mono HB0.out.size))
   have hC1 := HC.out.below b1 lC
   have lC1 := hC1.lt
   have HC1 := Lib.hid hC1
   clear b1 hC1 CA HC HB0
   go_wp2_with fail
   refine (HCF2.out w1 HB1.out).mono ?_
   rintro e w2 ⟨rfl, b2⟩
   have HB2 := Lib.hid (HB1.out.trans (b2.mono HB1.out.size))
   have hC2 := HC1.out.below b2 lC1
   have c0 := (hC2.cell 0).trans rfl
   have c1 := (hC2.cell 1).trans rfl
   have c2 := (hC2.cell 2).trans rfl
   have c3 := (hC2.cell 3).trans rfl
   have lC2 := hC2.lt
   clear b2 hC2 HCF2 HC1 HB1 CF
   go_wp2_with fail
   refine (HCB.out w2).mono ?_
   rintro e w3 ⟨rfl, b3⟩
   have HB3 := Lib.hid (HB2.out.trans (b3.mono HB2.out.size))
   clear b3 HCB HB2 c0 c1 c2 c3
   have HBF := Lib.hid (fun (o p : Obj) => (HB3.out.alloc HB3.out.size o).alloc (HB3.out.alloc HB3.out.size o).size p)
   go_wp2_with fail
   go_ret
   exact ⟨rfl, HBF.out _ _⟩
 | true =>
  cases hcf : confL c with
  | false =>
   have CF2 := CF.out
   rw [hfw] at CF2
   have CB := fun w => begun18 c w
   rw [hcf] at CB
   simp only [if_true, if_false, Bool.false_eq_true, reduceIte] at CB
   have HCF2 := Lib.hid CF2
   have HCB := Lib.hid CB
   clear CF2 CB
   go_enter Try.func5, Try.ntmps5
   go_upto_region 1 with fail
   rw [← hw0]
   clear hw0
   go_wp2_with fail
   refine CA.out.mono ?_
   rintro e w1 ⟨rfl, b1⟩
   have HB1 := Lib.hid (HB0.out.trans (b1.mono HB0.out.size))
   have hC1 := HC.out.below b1 lC
   have lC1 := hC1.lt
   have HC1 := Lib.hid hC1
   clear b1 hC1 CA HC HB0
   go_wp2_with fail
   refine (HCF2.out w1 HB1.out).mono ?_
   rintro e w2 ⟨rfl, b2⟩
   have HB2 := Lib.hid (HB1.out.trans (b2.mono HB1.out.size))
   have hC2 := HC1.out.below b2 lC1
   have c0 := (hC2.cell 0).trans rfl
   have c1 := (hC2.cell 1).trans rfl
   have c2 := (hC2.cell 2).trans rfl
   have c3 := (hC2.cell 3).trans rfl
   have lC2 := hC2.lt
   clear b2 hC2 HCF2 HC1 HB1 CF
   go_wp2_with fail
   refine (HCB.out w2).mono ?_
   rintro e w3 ⟨rfl, b3⟩
   have HB3 := Lib.hid (HB2.out.trans (b3.mono HB2.out.size))
   clear b3 HCB HB2 c0 c1 c2 c3
   have HBF := Lib.hid (fun (o p : Obj) => (HB3.out.alloc HB3.out.size o).alloc (HB3.out.alloc HB3.out.size o).size p)
   go_wp2_with fail
   go_ret
   exact ⟨rfl, HBF.out _ _⟩
  | true =>
   have CF2 := CF.out
   rw [hfw] at CF2
   have CB := fun w => begun18 c w
   rw [hcf] at CB
   simp only [if_true, if_false, Bool.false_eq_true, reduceIte] at CB
   rw [show smA (zeroM c) = #[.int .i64 c.ps, .int .i64 c.ts, .int .i64 c.bs, .int .i64 c.sl, .slice none 0 0, .slice none 0 0, .slice none 0 0] from rfl] at CB
   have HCF2 := Lib.hid CF2
   have HCB := Lib.hid CB
   clear CF2 CB
   go_enter Try.func5, Try.ntmps5
   go_upto_region 1 with fail
   rw [← hw0]
   clear hw0
   go_wp2_with fail
   refine CA.out.mono ?_
   rintro e w1 ⟨rfl, b1⟩
   have HB1 := Lib.hid (HB0.out.trans (b1.mono HB0.out.size))
   have hC1 := HC.out.below b1 lC
   have lC1 := hC1.lt
   have HC1 := Lib.hid hC1
   clear b1 hC1 CA HC HB0
   go_wp2_with fail
   refine (HCF2.out w1 HB1.out).mono ?_
   rintro e w2 ⟨rfl, b2⟩
   have HB2 := Lib.hid (HB1.out.trans (b2.mono HB1.out.size))
   have hC2 := HC1.out.below b2 lC1
   have c0 := (hC2.cell 0).trans rfl
   have c1 := (hC2.cell 1).trans rfl
   have c2 := (hC2.cell 2).trans rfl
   have c3 := (hC2.cell 3).trans rfl
   have lC2 := hC2.lt
   clear b2 hC2 HCF2 HC1 HB1 CF
   go_wp2_with fail
   refine (HCB.out w2).mono ?_
   rintro e w3 ⟨rfl, b3⟩
   have HB3 := Lib.hid (HB2.out.trans (b3.mono HB2.out.size))
   clear b3 HCB HB2 c0 c1 c2 c3
   obtain ⟨N, hN⟩ : ∃ N, w3.heap.size = N := ⟨_, rfl⟩
   obtain ⟨w4, hw4⟩ : ∃ z, z = (w3.alloc (.cells #[.int .i64 c.ps, .int .i64 c.ts, .int .i64 c.bs, .int .i64 c.sl, .slice none 0 0, .slice none 0 0, .slice none 0 0] 31)).alloc (.cells #[.int .i64 c.ps, .int .i64 c.ts, .int .i64 c.bs, .int .i64 c.sl, .slice none 0 0, .slice none 0 0, .slice none 0 0] 37) := ⟨_, rfl⟩
   have W4 : Whole w4 N 31 (smA (zeroM c)) := by rw [hw4, ← hN]; exact (Whole.new w3 _ _).alloc _
   have HW4 := Lib.hid W4
   have hlo : w.heap.size ≤ N := by rw [← hN]; exact HB3.out.size
   have HB4 := Lib.hid (show Below w.heap.size w w4 by rw [hw4]; exact (HB3.out.alloc HB3.out.size _).alloc (HB3.out.alloc HB3.out.size _).size _)
   have HS4 := Lib.hid (zero_sat (fun k => k ≠ N) hcf w4)
   go_upto_region 6 with fail
   rw [← hw4]
   clear hw4 hN W4 HB3
   go_wp2_with fail
   go_loopw [10] (fun i wr => ∃ (k : Nat) (s : Sm), k ≤ n ∧ i = .int .i64 (k : Int) ∧ Hid (Whole wr N 31 (smA s)) ∧ Hid (SAt (fun k => k ≠ N) wr s) ∧ Hid (Below w.heap.size w wr)) (fun i _ => n - (intOf i).toNat)
   case atStart => exact ⟨0, zeroM c, Nat.zero_le _, rfl, HW4, HS4, HB4⟩
   case round =>
    obtain ⟨k, s, hk, rfl, HW, HS, HB⟩ := hrel
    clear HW4 HS4 HB4
    by_cases hlt : k < n
    · obtain ⟨x, hx⟩ : ∃ x, l[k]? = some x := ⟨_, List.getElem?_eq_getElem (by rw [HN.out]; exact hlt)⟩
      obtain ⟨ga, oa, rfl, hga, hca⟩ := HR.out.2 (by rw [HN.out]; omega)
      have hxo := HO.out x (List.mem_of_getElem? hx)
      have HX := Lib.hid hx
      obtain ⟨q, QA, qc⟩ := x
      have lga : ga < wr.heap.size := by have := HB.out.size; omega
      have a0 := (HB.out.cell (p := ⟨ga, oa + k * 8, none⟩) hga).trans (by have := hca _ _ ((qmC_get hx 0 (by decide)).trans rfl); simpa [Nat.add_assoc] using this)
      have a1 := (HB.out.cell (p := ⟨ga, oa + k * 8 + 1, none⟩) hga).trans (by have := hca _ _ ((qmC_get hx 1 (by decide)).trans rfl); simpa [Nat.add_assoc] using this)
      have a2 := (HB.out.cell (p := ⟨ga, oa + k * 8 + 2, none⟩) hga).trans (by have := hca _ _ ((qmC_get hx 2 (by decide)).trans rfl); simpa [Nat.add_assoc] using this)
      have a3 := (HB.out.cell (p := ⟨ga, oa + k * 8 + 3, none⟩) hga).trans (by have := hca _ _ ((qmC_get hx 3 (by decide)).trans rfl); simpa [Nat.add_assoc] using this)
      have a4 := (HB.out.cell (p := ⟨ga, oa + k * 8 + 4, none⟩) hga).trans (by have := hca _ _ ((qmC_get hx 4 (by decide)).trans rfl); simpa [Nat.add_assoc] using this)
      have a5 := (HB.out.cell (p := ⟨ga, oa + k * 8 + 5, none⟩) hga).trans (by have := hca _ _ ((qmC_get hx 5 (by decide)).trans rfl); simpa [Nat.add_assoc] using this)
      have a6 := (HB.out.cell (p := ⟨ga, oa + k * 8 + 6, none⟩) hga).trans (by have := hca _ _ ((qmC_get hx 6 (by decide)).trans rfl); simpa [Nat.add_assoc] using this)
      have a7 := (HB.out.cell (p := ⟨ga, oa + k * 8 + 7, none⟩) hga).trans (by have := hca _ _ ((qmC_get hx 7 (by decide)).trans rfl); simpa [Nat.add_assoc] using this)
      try dsimp only at a0 a1 a2 a3 a4 a5 a6 a7
      have i0 : (0 : Int) ≤ (k : Int) := by omega
      have i1 : (k : Int) < (n : Int) := by omega
      have HQA := Lib.hid (show QAt (fun k => k ≠ N) wr ⟨q, QA, qc⟩ from ⟨(hxo.row.below HB.out (Nat.le_refl _)).more HB.out.size, by have h8 := (List.all_eq_true.mp (by unfold fewS at hfw; exact (Bool.and_eq_true_iff.mp hfw).1)) _ (List.mem_of_getElem? HX.out); simp only [decide_eq_true_eq] at h8; dsimp only at h8 ⊢; omega, ⟨fun h0 a ha e => by have h9 := (hxo.row.2 h0); obtain ⟨g9, o9, e9, l9, _⟩ := h9; rw [e9] at ha; injection ha with ha; subst ha; have e2 : g9 = N := e; omega, hxo.le, hxo.cap⟩, fun y hy => (hxo.u y hy).1⟩)
      have hW := HW.out
      have g0 : wr.cell? ⟨N, 0, none⟩ = some (.int .i64 s.X.cf.ps) := (hW.cell 0).trans rfl
      have g1 : wr.cell? ⟨N, 1, none⟩ = some (.int .i64 s.X.cf.ts) := (hW.cell 1).trans rfl
      have g2 : wr.cell? ⟨N, 2, none⟩ = some (.int .i64 s.X.cf.bs) := (hW.cell 2).trans rfl
      have g3 : wr.cell? ⟨N, 3, none⟩ = some (.int .i64 s.X.cf.sl) := (hW.cell 3).trans rfl
      have g4 : wr.cell? ⟨N, 4, none⟩ = some (.slice s.A s.X.ps.length s.a) := (hW.cell 4).trans rfl
      have g5 : wr.cell? ⟨N, 5, none⟩ = some (.slice s.B s.T.length s.b) := (hW.cell 5).trans rfl
      have g6 : wr.cell? ⟨N, 6, none⟩ = some (.slice s.C s.X.bs.length s.c) := (hW.cell 6).trans rfl
      have lN := hW.lt
      clear hW hca hxo hx
      obtain ⟨np, hnp⟩ : ∃ z, s.X.ps.length = z := ⟨_, rfl⟩
      obtain ⟨nt, hnt⟩ : ∃ z, s.T.length = z := ⟨_, rfl⟩
      obtain ⟨nb, hnb⟩ : ∃ z, s.X.bs.length = z := ⟨_, rfl⟩
      have HSM := Lib.hid (show #[.int .i64 s.X.cf.ps, .int .i64 s.X.cf.ts, .int .i64 s.X.cf.bs, .int .i64 s.X.cf.sl, .slice s.A np s.a, .slice s.B nt s.b, .slice s.C nb s.c] = smA s from by unfold smA; rw [hnp, hnt, hnb])
      have HNT := Lib.hid hnt
      have hsm := HS.out.small
      rw [hnp, hnt, hnb] at hsm
      obtain ⟨sp, st, sb⟩ := hsm
      clear hnp hnt hnb
      have HG := Lib.hid (HW.out)
      clear g0 g1 g2 g3 g4 g5 g6
      have g0 : wr.cell? ⟨N, 0, none⟩ = some (.int .i64 s.X.cf.ps) := (HG.out.cell 0).trans (by rw [← HSM.out]; rfl)
      have g1 : wr.cell? ⟨N, 1, none⟩ = some (.int .i64 s.X.cf.ts) := (HG.out.cell 1).trans (by rw [← HSM.out]; rfl)
      have g2 : wr.cell? ⟨N, 2, none⟩ = some (.int .i64 s.X.cf.bs) := (HG.out.cell 2).trans (by rw [← HSM.out]; rfl)
      have g3 : wr.cell? ⟨N, 3, none⟩ = some (.int .i64 s.X.cf.sl) := (HG.out.cell 3).trans (by rw [← HSM.out]; rfl)
      have g4 : wr.cell? ⟨N, 4, none⟩ = some (.slice s.A np s.a) := (HG.out.cell 4).trans (by rw [← HSM.out]; rfl)
      have g5 : wr.cell? ⟨N, 5, none⟩ = some (.slice s.B nt s.b) := (HG.out.cell 5).trans (by rw [← HSM.out]; rfl)
      have g6 : wr.cell? ⟨N, 6, none⟩ = some (.slice s.C nb s.c) := (HG.out.cell 6).trans (by rw [← HSM.out]; rfl)
      have CO := Lib.hid (show Calls Try.prog 16 #[.agg #[.int .i64 s.X.cf.ps, .int .i64 s.X.cf.ts, .int .i64 s.X.cf.bs, .int .i64 s.X.cf.sl, .slice s.A np s.a, .slice s.B nt s.b, .slice s.C nb s.c]] wr (fun e w' => Below wr.heap.size wr w' ∧ ∃ v : Sm, v.X = s.X ∧ v.T = s.T ∧ SAt (fun k => k ≠ N) w' v ∧ e = .returned (.agg (smA v))) from by rw [HSM.out]; exact of18s (fun k => k ≠ N) s wr HS.out (fun k hk => by omega))
      go_wp2_with fail
      refine CO.out.mono ?_
      rintro e w2 ⟨b2, v, hvX, hvT, hv, rfl⟩
      have HVM := Lib.hid (show #[.int .i64 s.X.cf.ps, .int .i64 s.X.cf.ts, .int .i64 s.X.cf.bs, .int .i64 s.X.cf.sl, .slice v.A np v.a, .slice v.B nt v.b, .slice v.C nb v.c] = smA v from by have h9 := HSM.out; unfold smA at h9 ⊢; rw [hvX, hvT]; simp only [Array.mk.injEq, List.cons.injEq, Value.slice.injEq, true_and, and_true] at h9 ⊢; simp_all)
      rw [← HVM.out]
      have HVX := Lib.hid hvX
      have HVT := Lib.hid hvT
      obtain ⟨W, hW⟩ : ∃ z, w2.heap.size = z := ⟨_, rfl⟩
      obtain ⟨w3, hw3⟩ : ∃ z, z = w2.alloc (.cells #[.int .i64 s.X.cf.ps, .int .i64 s.X.cf.ts, .int .i64 s.X.cf.bs, .int .i64 s.X.cf.sl, .slice v.A np v.a, .slice v.B nt v.b, .slice v.C nb v.c] 37) := ⟨_, rfl⟩
      have b23 : Below w2.heap.size w2 w3 := by rw [hw3]; exact (Below.refl _ _).alloc (Nat.le_refl _) _
      have WW : Whole w3 W 37 #[.int .i64 s.X.cf.ps, .int .i64 s.X.cf.ts, .int .i64 s.X.cf.bs, .int .i64 s.X.cf.sl, .slice v.A np v.a, .slice v.B nt v.b, .slice v.C nb v.c] := by rw [hw3, ← hW]; exact Whole.new w2 _ _
      have b3 := b2.trans (b23.mono b2.size)
      have hWlo : wr.heap.size ≤ W := by rw [← hW]; exact b2.size
      have hWN : W ≠ N := by omega
      have hNW : N ≠ W := by omega
      have HV3 := Lib.hid ((SAt.with hv (fun k => k ≠ W) (fun k hk e => by omega)).next b23)
      have HN3 := Lib.hid (HW.out.below b3 lN)
      have HS3 := Lib.hid ((SAt.with HS.out (fun k => k ≠ W) (fun k hk e => by omega)).next b3)
      have HQ3 := Lib.hid ((qat_with HQA.out (fun k => k ≠ W) (fun k hk e => by omega)).next b3)
      have HB3 := Lib.hid (HB.out.trans (b3.mono HB.out.size))
      have HWW3 := Lib.hid WW
      have HA3 := Lib.hid (fun (j : Nat) (u : Value) (h : wr.cell? ⟨ga, oa + k * 8 + j, none⟩ = some u) => (b3.cell (p := ⟨ga, oa + k * 8 + j, none⟩) lga).trans h)
      have HA10 := Lib.hid ((b3.cell (p := ⟨ga, oa + k * 8, none⟩) lga).trans a0)
      have HA11 := Lib.hid ((b3.cell (p := ⟨ga, oa + k * 8 + 1, none⟩) lga).trans a1)
      have HA12 := Lib.hid ((b3.cell (p := ⟨ga, oa + k * 8 + 2, none⟩) lga).trans a2)
      have HA13 := Lib.hid ((b3.cell (p := ⟨ga, oa + k * 8 + 3, none⟩) lga).trans a3)
      have HA14 := Lib.hid ((b3.cell (p := ⟨ga, oa + k * 8 + 4, none⟩) lga).trans a4)
      have HA15 := Lib.hid ((b3.cell (p := ⟨ga, oa + k * 8 + 5, none⟩) lga).trans a5)
      have HA16 := Lib.hid ((b3.cell (p := ⟨ga, oa + k * 8 + 6, none⟩) lga).trans a6)
      have HA17 := Lib.hid ((b3.cell (p := ⟨ga, oa + k * 8 + 7, none⟩) lga).trans a7)
      have lga3 : ga < w3.heap.size := Nat.lt_of_lt_of_le lga b3.size
      have lN3 : N < w3.heap.size := HN3.out.lt
      have lW3 : W < w3.heap.size := WW.lt
      clear b2 b23 b3 hv WW hvX hvT CO a0 a1 a2 a3 a4 a5 a6 a7 g0 g1 g2 g3 g4 g5 g6 HA3 HS HQA HB HW HG
      go_upto_region 12 with fail
      rw [← hw3]
      clear hw3
      try rw [hW]
      clear hW
      have v0 : w3.cell? ⟨W, 0, none⟩ = some (.int .i64 s.X.cf.ps) := (HWW3.out.cell 0).trans rfl
      have v1 : w3.cell? ⟨W, 1, none⟩ = some (.int .i64 s.X.cf.ts) := (HWW3.out.cell 1).trans rfl
      have v2 : w3.cell? ⟨W, 2, none⟩ = some (.int .i64 s.X.cf.bs) := (HWW3.out.cell 2).trans rfl
      have v3 : w3.cell? ⟨W, 3, none⟩ = some (.int .i64 s.X.cf.sl) := (HWW3.out.cell 3).trans rfl
      have v4 : w3.cell? ⟨W, 4, none⟩ = some (.slice v.A np v.a) := (HWW3.out.cell 4).trans rfl
      have v5 : w3.cell? ⟨W, 5, none⟩ = some (.slice v.B nt v.b) := (HWW3.out.cell 5).trans rfl
      have v6 : w3.cell? ⟨W, 6, none⟩ = some (.slice v.C nb v.c) := (HWW3.out.cell 6).trans rfl
      have HZ3 := Lib.hid (Below.refl w3.heap.size w3)
      go_wp2_with fail
      go_loopw [12, 13] (fun tv kv wr => ∃ (j : Nat) (l2 : List Tm) (tw : Value), j ≤ nt ∧ kv = .int .i64 (j : Int) ∧ tw = tv ∧ Hid (tks l2 = tks (s.T.take j)) ∧ Hid (wr.ownsRow w3.heap.size 60 4 tw j (tmC l2)) ∧ Hid (Own w3.heap.size tw.ownBlock wr l2) ∧ Hid (Below w3.heap.size w3 wr)) (fun _ kv _ => nt - (intOf kv).toNat)
      case atStart => exact ⟨0, [], .slice none 0 0, Nat.zero_le _, rfl, rfl, Lib.hid rfl, Lib.hid (World.ownsRow_nil _ _ _ _), Lib.hid (fun x hx => absurd hx (by simp)), HZ3⟩
      case round =>
       obtain ⟨j, l2, tw, hj, rfl, rfl, HTK, HOW, HOO, HJ⟩ := hrel
       obtain ⟨wj, rfl⟩ : ∃ z, z = wr := ⟨_, rfl⟩
       clear v0 v1 v2 v3 v4 v5 v6
       have v0 : wj.cell? ⟨W, 0, none⟩ = some (.int .i64 s.X.cf.ps) := (HJ.out.cell (p := ⟨W, 0, none⟩) lW3).trans ((HWW3.out.cell 0).trans rfl)
       have v1 : wj.cell? ⟨W, 1, none⟩ = some (.int .i64 s.X.cf.ts) := (HJ.out.cell (p := ⟨W, 1, none⟩) lW3).trans ((HWW3.out.cell 1).trans rfl)
       have v2 : wj.cell? ⟨W, 2, none⟩ = some (.int .i64 s.X.cf.bs) := (HJ.out.cell (p := ⟨W, 2, none⟩) lW3).trans ((HWW3.out.cell 2).trans rfl)
       have v3 : wj.cell? ⟨W, 3, none⟩ = some (.int .i64 s.X.cf.sl) := (HJ.out.cell (p := ⟨W, 3, none⟩) lW3).trans ((HWW3.out.cell 3).trans rfl)
       have v4 : wj.cell? ⟨W, 4, none⟩ = some (.slice v.A np v.a) := (HJ.out.cell (p := ⟨W, 4, none⟩) lW3).trans ((HWW3.out.cell 4).trans rfl)
       have v5 : wj.cell? ⟨W, 5, none⟩ = some (.slice v.B nt v.b) := (HJ.out.cell (p := ⟨W, 5, none⟩) lW3).trans ((HWW3.out.cell 5).trans rfl)
       have v6 : wj.cell? ⟨W, 6, none⟩ = some (.slice v.C nb v.c) := (HJ.out.cell (p := ⟨W, 6, none⟩) lW3).trans ((HWW3.out.cell 6).trans rfl)
       have lWj : W < wj.heap.size := by have := HJ.out.size; omega
       by_cases hjl : j < nt
       · obtain ⟨y, hy⟩ : ∃ y, s.T[j]? = some y := ⟨_, List.getElem?_eq_getElem (by rw [HNT.out]; exact hjl)⟩
         have hrt := HV3.out.rt
         rw [HVT.out] at hrt
         obtain ⟨gB, oB, hBe, hgB, hcB⟩ := hrt.1.2 (by rw [HNT.out]; omega)
         rw [hBe] at v5
         have hys := hrt.2 y (List.mem_of_getElem? hy)
         have t0 := (HJ.out.cell (p := ⟨gB, oB + (j * 4 + 0), none⟩) hgB).trans (hcB _ _ ((tmC_get hy 0 (by decide)).trans rfl))
         have t1 := (HJ.out.cell (p := ⟨gB, oB + (j * 4 + 1), none⟩) hgB).trans (hcB _ _ ((tmC_get hy 1 (by decide)).trans rfl))
         have t2 := (HJ.out.cell (p := ⟨gB, oB + (j * 4 + 2), none⟩) hgB).trans (hcB _ _ ((tmC_get hy 2 (by decide)).trans rfl))
         have t3 := (HJ.out.cell (p := ⟨gB, oB + (j * 4 + 3), none⟩) hgB).trans (hcB _ _ ((tmC_get hy 3 (by decide)).trans rfl))
         rw [Nat.add_zero] at t0
         rw [← Nat.add_assoc] at t1
         rw [← Nat.add_assoc] at t2
         rw [← Nat.add_assoc] at t3
         have lB : gB < wj.heap.size := by have := HJ.out.size; omega
         have htk := List.take_add_one (i := j) (l := s.T)
         rw [hy] at htk
         obtain ⟨⟨yi, yo, yf, yss⟩, yA, yc⟩ := y
         obtain ⟨ns, hns⟩ : ∃ z, yss.length = z := ⟨_, rfl⟩
         have HTA := Lib.hid htk
         have HNS := Lib.hid hns
         dsimp only at hys t0 t1 t2 t3
         rw [hns] at hys t3
         have HYR := Lib.hid ((hys.1.below HJ.out (Nat.le_refl _)).more HJ.out.size)
         have hy4 := hys.2
         have j0 : (0 : Int) ≤ (j : Int) := by omega
         have j1 : (j : Int) < (nt : Int) := by omega
         clear hys hrt hcB hns htk hy hBe
         obtain ⟨XB, hXB⟩ : ∃ z, wj.heap.size = z := ⟨_, rfl⟩
         obtain ⟨wx, hwx⟩ : ∃ z, z = wj.alloc (.cells #[.int .i64 yi, .int .i64 yo, .int .i64 yf, .slice yA ns yc] 60) := ⟨_, rfl⟩
         have bx : Below wj.heap.size wj wx := by rw [hwx]; exact (Below.refl _ _).alloc (Nat.le_refl _) _
         have WX : Whole wx XB 60 #[.int .i64 yi, .int .i64 yo, .int .i64 yf, .slice yA ns yc] := by rw [hwx, ← hXB]; exact Whole.new wj _ _
         have HOWx := Lib.hid (show wx.ownsRow w3.heap.size 60 4 tw j (tmC l2) by rw [hwx]; exact HOW.out.alloc _)
         have HBX := Lib.hid bx
         have HWX := Lib.hid WX
         have lX := WX.lt
         have HYRx := Lib.hid ((HYR.out.below bx (Nat.le_refl _)).more bx.size)
         have hwx1 : wj.heap.size ≤ wx.heap.size := bx.size
         clear bx WX
         go_upto_region 17 with fail
         rw [← hwx]
         clear hwx t0 t1 t2 t3 v0 v1 v2 v3 v4 v5 v6
         have x3 := HWX.out.cell 3
         go_wp2_with (at_builtin; refine wpl_append _ rfl (.tmp 55) (.tmp 57) 43 rfl wx.heap.size 64 (.int .u32 0) 1 4 Try.underlying43 info_u32N rfl (by decide) _ 0 [] rfl (World.ownsRow_nil _ _ _ _) _ yA ns yc _ rfl HYRx.out (u32_one _) ?c1 ?c2 ?c3 ?_)
         case c1 => unfold maxLen; omega
         case c2 => omega
         try (case c3 => exact Nat.le_refl _)
         intro v8 w8 hown8 hg8 hv8
         have hown8' : w8.ownsRow wx.heap.size 64 1 v8 ns (n32 yss) := by first | exact hown8 | simpa using hown8
         obtain ⟨A8, c8, rfl⟩ := own_form hown8'
         have b8 : Below wx.heap.size wx w8 := ⟨hg8.os, hg8.tape, hg8.output, hg8.size, fun k hk => hg8.block k hk (by simp [Value.ownBlock])⟩
         have HO8 := Lib.hid hown8'
         have HOW8 := Lib.hid (own_grownX HOWx.out hg8 (fun q hq => by simp [Value.ownBlock]))
         have WX8 := HWX.out.below b8 lX
         have HWX8 := Lib.hid WX8
         have lX8 := WX8.lt
         have x3 := WX8.cell 3
         have f3 := WX8.free 3
         have z8 := b8.size
         have HB8 := Lib.hid (HBX.out.trans (b8.mono HBX.out.size))
         obtain ⟨w9, hw9⟩ : ∃ z, z = w8.setCell ⟨XB, 3, none⟩ (.slice A8 ns c8) := ⟨_, rfl⟩
         have hXBj : wj.heap.size ≤ XB := by omega
         have WX9 : Whole w9 XB 60 #[.int .i64 yi, .int .i64 yo, .int .i64 yf, .slice A8 ns c8] := by rw [hw9]; exact WX8.set 3 (.slice A8 ns c8)
         have Z9 := Lib.hid (show w9.heap.size = w8.heap.size by rw [hw9]; simp)
         have HOW9 := Lib.hid (show w9.ownsRow w3.heap.size 60 4 tw j (tmC l2) by rw [hw9]; exact own_farX HOW8.out (fun q hq e => by have := (HOW.out.lt q hq).2; have e2 : XB = q := e; omega))
         have HO9 := Lib.hid (show w9.ownsRow wx.heap.size 64 1 (.slice A8 ns c8) ns (n32 yss) by rw [hw9]; exact own_farX HO8.out (fun q hq e => by have := (HO8.out.lt q hq).1; have e2 : XB = q := e; omega))
         have HB9 := Lib.hid (show Below wj.heap.size wj w9 by rw [hw9]; exact HB8.out.setCell (p := ⟨XB, 3, none⟩) (by show wj.heap.size ≤ XB; omega) _)
         have HWX9 := Lib.hid WX9
         have lX9 := WX9.lt
         clear hown8 hown8' hg8 hv8 b8 WX8 WX9
         go_upto_region 20 with fail
         rw [← hw9]
         clear hw9 x3 f3
         have x0 := HWX9.out.cell 0
         have x1 := HWX9.out.cell 1
         have x2 := HWX9.out.cell 2
         have x3 := HWX9.out.cell 3
         obtain ⟨w10, hw10⟩ : ∃ z, z = w9.alloc (.cells #[.int .i64 yi, .int .i64 yo, .int .i64 yf, .slice A8 ns c8] 60) := ⟨_, rfl⟩
         have HFR := Lib.hid (show Row w10 w10.heap.size 4 (some ⟨w9.heap.size, 0, none⟩) 1 (tmV ⟨⟨yi, yo, yf, yss⟩, A8, c8⟩) by rw [hw10]; have h9 := Row.fresh w9 60 #[.int .i64 yi, .int .i64 yo, .int .i64 yf, .slice A8 ns c8] 4 1 (tmV ⟨⟨yi, yo, yf, yss⟩, A8, c8⟩) rfl (by unfold tmV; dsimp only; rw [HNS.out]); exact h9)
         have HOW10 := Lib.hid (show w10.ownsRow w3.heap.size 60 4 tw j (tmC l2) by rw [hw10]; exact HOW9.out.alloc _)
         have HO10 := Lib.hid (show w10.ownsRow wx.heap.size 64 1 (.slice A8 ns c8) ns (n32 yss) by rw [hw10]; exact HO9.out.alloc _)
         have HB10 := Lib.hid (show Below wj.heap.size wj w10 by rw [hw10]; exact HB9.out.alloc HB9.out.size _)
         have HS10 := Lib.hid (show w10.heap.size = w9.heap.size + 1 by rw [hw10]; simp)
         have z10 : w9.heap.size < w10.heap.size := by rw [HS10.out]; omega
         have z10b := HB10.out.size
         have z3j := HJ.out.size
         go_wp2_with (at_builtin; rw [← hw10]; refine wpl_append _ rfl (.tmp 61) (.tmp 63) 34 rfl w3.heap.size 60 (.agg #[.int .i64 0, .int .i64 0, .int .i64 0, .slice none 0 0]) 4 48 Try.underlying34 info_T18 rfl (by decide) tw j (tmC l2) rfl HOW10.out _ (some ⟨w9.heap.size, 0, none⟩) 1 1 _ rfl HFR.out (tm_one _) ?d1 ?d2 ?d3 ?_)
         case d1 => unfold maxLen; omega
         case d2 => omega
         try (case d3 => omega)
         intro v11 w11 hown11 hg11 hv11
         try rw [← hw10] at hg11
         try rw [← hw10] at hv11
         have HB11 := Lib.hid (show Below w3.heap.size w3 w11 from (HJ.out.trans (HB10.out.mono HJ.out.size)).grown hg11 (by omega) (fun q hq => (HOW10.out.lt q hq).1))
         have HOW11 := Lib.hid (show w11.ownsRow w3.heap.size 60 4 v11 (j + 1) (tmC (l2 ++ [⟨⟨yi, yo, yf, yss⟩, A8, c8⟩])) by rw [tmC_add]; exact hown11)
         have HTK2 := Lib.hid (show tks (l2 ++ [⟨⟨yi, yo, yf, yss⟩, A8, c8⟩]) = tks (s.T.take (j + 1)) by rw [HTA.out, tks_app, tks_app, HTK.out]; rfl)
         have hO10 := HO10.out
         have HOO11 := Lib.hid (show Own w3.heap.size v11.ownBlock w11 (l2 ++ [⟨⟨yi, yo, yf, yss⟩, A8, c8⟩]) from (HOO.out.below HB10.out).add hg11 (by first | exact hv11 | (rw [HS10.out]; exact hv11)) (by dsimp only; rw [HNS.out]; exact Row.of_own hO10) (by dsimp only; rw [HNS.out]; exact hy4) (by dsimp only; rw [HNS.out]; exact ⟨fun h0 a ha => by have h9 := own_lo hO10 a ha; exact ⟨by omega, fun e => by have := (HOW.out.lt _ e).2; omega⟩, (own_cap hO10).1, (own_cap hO10).2⟩))
         clear hown11 hg11 hv11 hw10 hO10
         go_wp2_with fail
         go_roundw
         case rel => exact ⟨j + 1, _, _, by omega, by go_num, rfl, HTK2, HOW11, HOO11, HB11⟩
         case measure => simp [intOf]; omega
       · obtain rfl : nt = j := by omega
         obtain ⟨A2, c2, rfl⟩ := own_form HOW.out
         have f5 := (HWW3.out.below HJ.out lW3).free 5
         obtain ⟨wd, hwd⟩ : ∃ z, z = wj.setCell ⟨W, 5, none⟩ (.slice A2 nt c2) := ⟨_, rfl⟩
         have htk : tks l2 = tks s.T := by rw [HTK.out, List.take_of_length_le (by rw [HNT.out]; exact Nat.le_refl _)]
         have hl2 : l2.length = nt := by have := congrArg List.length htk; unfold tks at this; rw [List.length_map, List.length_map, HNT.out] at this; exact this
         have hnP : ¬ (fun k => k ≠ N ∧ k ≠ W) W := fun h => h.2 rfl
         have hv := (HV3.out.next HJ.out)
         have hI2 := InP.own HOW.out (P := (fun k => k ≠ N ∧ k ≠ W)) (fun k hk => ⟨by omega, by omega⟩)
         have HR5 : Row wj wj.heap.size 4 A2 nt (tmC l2) := Row.of_own HOW.out
         obtain ⟨vt, HV2X, hV2, HV2M⟩ : ∃ vt : Sm, Hid (vt.X = s.X) ∧ SAt (fun k => k ≠ N ∧ k ≠ W) wd vt ∧ Hid (#[.int .i64 s.X.cf.ps, .int .i64 s.X.cf.ts, .int .i64 s.X.cf.bs, .int .i64 s.X.cf.sl, .slice v.A np v.a, .slice A2 nt c2, .slice v.C nb v.c] = smA vt) := by
          have hv9 := hv.set (p := ⟨W, 5, none⟩) hnP (.slice A2 nt c2)
          rw [← hwd] at hv9
          have hr9 := row_setP (p := ⟨W, 5, none⟩) (u := .slice A2 nt c2) HR5 hI2.q hnP
          rw [← hwd] at hr9
          refine ⟨⟨s.X, l2, v.A, v.a, A2, c2, v.C, v.c⟩, Lib.hid rfl, ⟨?_, ⟨?_, ?_⟩, ?_, ?_, HS3.out.inv, ?_, ?_, ?_, ?_⟩, Lib.hid ?_⟩
          · have := hv9.rp; rw [HVX.out] at this; exact this
          · dsimp only; rw [hl2]; exact hr9
          · intro x hx; have h9 := HOO.out x hx; refine ⟨?_, h9.2.1⟩; have := row_setP (P := (fun k => k ≠ N ∧ k ≠ W)) (p := ⟨W, 5, none⟩) (u := .slice A2 nt c2) h9.1 ⟨fun h0 a ha => by have := (h9.2.2.pl h0 a ha).1; exact ⟨by omega, by omega⟩, h9.2.2.le, h9.2.2.cap⟩ hnP; rw [← hwd] at this; exact this
          · have := hv9.rb; rw [HVX.out] at this; exact this
          · dsimp only; rw [htk]; exact HS3.out.ts
          · have := hv9.pA; rw [HVX.out] at this; exact this
          · dsimp only; rw [hl2]; exact hI2
          · have := hv9.pC; rw [HVX.out] at this; exact this
          · intro x hx; have h9 := HOO.out x hx; exact ⟨fun h0 a ha => by have := (h9.2.2.pl h0 a ha).1; exact ⟨by omega, by omega⟩, h9.2.2.le, h9.2.2.cap⟩
          · have h9 := HSM.out; unfold smA at h9 ⊢; dsimp only; rw [hl2]; simp only [Array.mk.injEq, List.cons.injEq, Value.slice.injEq, true_and, and_true] at h9 ⊢; simp_all
         have HV2 := Lib.hid hV2
         have HWd := Lib.hid (show Whole wd W 37 #[.int .i64 s.X.cf.ps, .int .i64 s.X.cf.ts, .int .i64 s.X.cf.bs, .int .i64 s.X.cf.sl, .slice v.A np v.a, .slice A2 nt c2, .slice v.C nb v.c] by rw [hwd]; exact (HWW3.out.below HJ.out lW3).set 5 (.slice A2 nt c2))
         have HNd := Lib.hid (show Whole wd N 31 (smA s) by rw [hwd]; exact (HN3.out.below HJ.out lN3).far (p := ⟨W, 5, none⟩) hNW _)
         have HSd := Lib.hid (show SAt (fun k => k ≠ N ∧ k ≠ W) wd s by rw [hwd]; exact (HS3.out.next HJ.out).set (p := ⟨W, 5, none⟩) hnP _)
         have HQd := Lib.hid (show QAt (fun k => k ≠ N ∧ k ≠ W) wd ⟨q, QA, qc⟩ by rw [hwd]; have h9 := (HQ3.out.next HJ.out); exact ⟨row_setP (p := ⟨W, 5, none⟩) h9.r h9.p hnP, h9.len, h9.p, h9.u⟩)
         have HBd := Lib.hid (show Below w.heap.size w wd by rw [hwd]; exact (HB3.out.trans (HJ.out.mono HB3.out.size)).setCell (p := ⟨W, 5, none⟩) (by show w.heap.size ≤ W; omega) _)
         have hgW : ga ≠ W := by omega
         have a0 : wd.cell? ⟨ga, oa + k * 8, none⟩ = some (.int .i64 q.kind) := by rw [hwd]; exact (World.cell?_of_block (a := ⟨ga, oa + k * 8, none⟩) (Below.heap_setCell _ _ _ _ (fun e => by have e2 : ga = W := e; omega))).trans ((HJ.out.cell (p := ⟨ga, oa + k * 8, none⟩) lga3).trans HA10.out)
         have a1 : wd.cell? ⟨ga, oa + k * 8 + 1, none⟩ = some (.int .i64 q.who) := by rw [hwd]; exact (World.cell?_of_block (a := ⟨ga, oa + k * 8 + 1, none⟩) (Below.heap_setCell _ _ _ _ (fun e => by have e2 : ga = W := e; omega))).trans ((HJ.out.cell (p := ⟨ga, oa + k * 8 + 1, none⟩) lga3).trans HA11.out)
         have a2 : wd.cell? ⟨ga, oa + k * 8 + 2, none⟩ = some (.int .i64 q.room) := by rw [hwd]; exact (World.cell?_of_block (a := ⟨ga, oa + k * 8 + 2, none⟩) (Below.heap_setCell _ _ _ _ (fun e => by have e2 : ga = W := e; omega))).trans ((HJ.out.cell (p := ⟨ga, oa + k * 8 + 2, none⟩) lga3).trans HA12.out)
         have a3 : wd.cell? ⟨ga, oa + k * 8 + 3, none⟩ = some (.int .i64 q.rights) := by rw [hwd]; exact (World.cell?_of_block (a := ⟨ga, oa + k * 8 + 3, none⟩) (Below.heap_setCell _ _ _ _ (fun e => by have e2 : ga = W := e; omega))).trans ((HJ.out.cell (p := ⟨ga, oa + k * 8 + 3, none⟩) lga3).trans HA13.out)
         have a4 : wd.cell? ⟨ga, oa + k * 8 + 4, none⟩ = some (.int .i64 q.track) := by rw [hwd]; exact (World.cell?_of_block (a := ⟨ga, oa + k * 8 + 4, none⟩) (Below.heap_setCell _ _ _ _ (fun e => by have e2 : ga = W := e; omega))).trans ((HJ.out.cell (p := ⟨ga, oa + k * 8 + 4, none⟩) lga3).trans HA14.out)
         have a5 : wd.cell? ⟨ga, oa + k * 8 + 5, none⟩ = some (.slice QA q.ss.length qc) := by rw [hwd]; exact (World.cell?_of_block (a := ⟨ga, oa + k * 8 + 5, none⟩) (Below.heap_setCell _ _ _ _ (fun e => by have e2 : ga = W := e; omega))).trans ((HJ.out.cell (p := ⟨ga, oa + k * 8 + 5, none⟩) lga3).trans HA15.out)
         have a6 : wd.cell? ⟨ga, oa + k * 8 + 6, none⟩ = some (.int .i64 q.layer) := by rw [hwd]; exact (World.cell?_of_block (a := ⟨ga, oa + k * 8 + 6, none⟩) (Below.heap_setCell _ _ _ _ (fun e => by have e2 : ga = W := e; omega))).trans ((HJ.out.cell (p := ⟨ga, oa + k * 8 + 6, none⟩) lga3).trans HA16.out)
         have a7 : wd.cell? ⟨ga, oa + k * 8 + 7, none⟩ = some (.int .i64 q.tid) := by rw [hwd]; exact (World.cell?_of_block (a := ⟨ga, oa + k * 8 + 7, none⟩) (Below.heap_setCell _ _ _ _ (fun e => by have e2 : ga = W := e; omega))).trans ((HJ.out.cell (p := ⟨ga, oa + k * 8 + 7, none⟩) lga3).trans HA17.out)
         have szd : wd.heap.size = wj.heap.size := by rw [hwd]; simp
         have szj := HJ.out.size
         clear hv hI2 HR5 htk hl2 hV2 HOW HOO HTK HA10 HA11 HA12 HA13 HA14 HA15 HA16 HA17 HV3 HN3 HS3 HQ3 HB3 HWW3
         go_upto_region 22 with fail
         rw [← hwd]
         clear hwd f5 v0 v1 v2 v3 v4 v5 v6
         have lN : N < wd.heap.size := HNd.out.lt
         have lWd : W < wd.heap.size := HWd.out.lt
         have lga : ga < wd.heap.size := by omega
         clear szd szj
         have HS := HSd
         have HQA := HQd
         have g0 : wd.cell? ⟨N, 0, none⟩ = some (.int .i64 s.X.cf.ps) := (HNd.out.cell 0).trans rfl
         have g1 : wd.cell? ⟨N, 1, none⟩ = some (.int .i64 s.X.cf.ts) := (HNd.out.cell 1).trans rfl
         have g2 : wd.cell? ⟨N, 2, none⟩ = some (.int .i64 s.X.cf.bs) := (HNd.out.cell 2).trans rfl
         have g3 : wd.cell? ⟨N, 3, none⟩ = some (.int .i64 s.X.cf.sl) := (HNd.out.cell 3).trans rfl
         have g4 : wd.cell? ⟨N, 4, none⟩ = some (.slice s.A s.X.ps.length s.a) := (HNd.out.cell 4).trans rfl
         have g5 : wd.cell? ⟨N, 5, none⟩ = some (.slice s.B s.T.length s.b) := (HNd.out.cell 5).trans rfl
         have g6 : wd.cell? ⟨N, 6, none⟩ = some (.slice s.C s.X.bs.length s.c) := (HNd.out.cell 6).trans rfl
         have KD := Lib.hid (fun w' (b' : Below wd.heap.size wd w') => show (fun w' => w'.cell? ⟨N, 0, none⟩ = some (.int .i64 s.X.cf.ps) ∧ w'.cell? ⟨N, 1, none⟩ = some (.int .i64 s.X.cf.ts) ∧ w'.cell? ⟨N, 2, none⟩ = some (.int .i64 s.X.cf.bs) ∧ w'.cell? ⟨N, 3, none⟩ = some (.int .i64 s.X.cf.sl) ∧ w'.cell? ⟨N, 4, none⟩ = some (.slice s.A s.X.ps.length s.a) ∧ w'.cell? ⟨N, 5, none⟩ = some (.slice s.B s.T.length s.b) ∧ w'.cell? ⟨N, 6, none⟩ = some (.slice s.C s.X.bs.length s.c) ∧ w'.cell? ⟨ga, oa + k * 8, none⟩ = some (.int .i64 q.kind) ∧ w'.cell? ⟨ga, oa + k * 8 + 1, none⟩ = some (.int .i64 q.who) ∧ w'.cell? ⟨ga, oa + k * 8 + 2, none⟩ = some (.int .i64 q.room) ∧ w'.cell? ⟨ga, oa + k * 8 + 3, none⟩ = some (.int .i64 q.rights) ∧ w'.cell? ⟨ga, oa + k * 8 + 4, none⟩ = some (.int .i64 q.track) ∧ w'.cell? ⟨ga, oa + k * 8 + 5, none⟩ = some (.slice QA q.ss.length qc) ∧ w'.cell? ⟨ga, oa + k * 8 + 6, none⟩ = some (.int .i64 q.layer) ∧ w'.cell? ⟨ga, oa + k * 8 + 7, none⟩ = some (.int .i64 q.tid)) w' from ⟨(b'.cell (p := ⟨N, 0, none⟩) lN).trans g0, (b'.cell (p := ⟨N, 1, none⟩) lN).trans g1, (b'.cell (p := ⟨N, 2, none⟩) lN).trans g2, (b'.cell (p := ⟨N, 3, none⟩) lN).trans g3, (b'.cell (p := ⟨N, 4, none⟩) lN).trans g4, (b'.cell (p := ⟨N, 5, none⟩) lN).trans g5, (b'.cell (p := ⟨N, 6, none⟩) lN).trans g6, (b'.cell (p := ⟨ga, oa + k * 8, none⟩) lga).trans a0, (b'.cell (p := ⟨ga, oa + k * 8 + 1, none⟩) lga).trans a1, (b'.cell (p := ⟨ga, oa + k * 8 + 2, none⟩) lga).trans a2, (b'.cell (p := ⟨ga, oa + k * 8 + 3, none⟩) lga).trans a3, (b'.cell (p := ⟨ga, oa + k * 8 + 4, none⟩) lga).trans a4, (b'.cell (p := ⟨ga, oa + k * 8 + 5, none⟩) lga).trans a5, (b'.cell (p := ⟨ga, oa + k * 8 + 6, none⟩) lga).trans a6, (b'.cell (p := ⟨ga, oa + k * 8 + 7, none⟩) lga).trans a7⟩)
         have CD := Lib.hid (fun (P' : Nat → Prop) w' (hs' : SAt P' w' s) (hq' : QAt P' w' ⟨q, QA, qc⟩) (hp' : ∀ k, w'.heap.size ≤ k → P' k) => (show Calls Try.prog 12 #[.agg #[.int .i64 s.X.cf.ps, .int .i64 s.X.cf.ts, .int .i64 s.X.cf.bs, .int .i64 s.X.cf.sl, .slice s.A s.X.ps.length s.a, .slice s.B s.T.length s.b, .slice s.C s.X.bs.length s.c], .agg #[.int .i64 q.kind, .int .i64 q.who, .int .i64 q.room, .int .i64 q.rights, .int .i64 q.track, .slice QA q.ss.length qc, .int .i64 q.layer, .int .i64 q.tid]] w' (fun e w'' => Below w'.heap.size w' w'' ∧ ∃ t : Sm, t.X = (doS s.X q).1 ∧ SAt P' w'' t ∧ e = .returned (.tuple #[.agg #[.int .i64 t.X.cf.ps, .int .i64 t.X.cf.ts, .int .i64 t.X.cf.bs, .int .i64 t.X.cf.sl, .slice t.A t.X.ps.length t.a, .slice t.B t.T.length t.b, .slice t.C t.X.bs.length t.c], .int .i64 (doS s.X q).2])) from cdo_any P' s ⟨q, QA, qc⟩ w' hs' hq' hp'))
         go_upto_region 22 with fail
         go_cut [16, 17] (fun v1 v2 wx => ∃ (M : Nat) (t : Sm), v1 = .pointer (some ⟨M, 0, none⟩) ∧ v2 = .int .i64 (doS s.X q).2 ∧ wd.heap.size ≤ M ∧ Whole wx M 31 (smA t) ∧ t.X = (doS s.X q).1 ∧ SAt (fun k => k ≠ N ∧ k ≠ W) wx t ∧ Below wd.heap.size wd wx)
         case first =>
          refine wp_region_X (S := fun w' => w'.cell? ⟨N, 0, none⟩ = some (.int .i64 s.X.cf.ps) ∧ w'.cell? ⟨N, 1, none⟩ = some (.int .i64 s.X.cf.ts) ∧ w'.cell? ⟨N, 2, none⟩ = some (.int .i64 s.X.cf.bs) ∧ w'.cell? ⟨N, 3, none⟩ = some (.int .i64 s.X.cf.sl) ∧ w'.cell? ⟨N, 4, none⟩ = some (.slice s.A s.X.ps.length s.a) ∧ w'.cell? ⟨N, 5, none⟩ = some (.slice s.B s.T.length s.b) ∧ w'.cell? ⟨N, 6, none⟩ = some (.slice s.C s.X.bs.length s.c) ∧ w'.cell? ⟨ga, oa + k * 8, none⟩ = some (.int .i64 q.kind) ∧ w'.cell? ⟨ga, oa + k * 8 + 1, none⟩ = some (.int .i64 q.who) ∧ w'.cell? ⟨ga, oa + k * 8 + 2, none⟩ = some (.int .i64 q.room) ∧ w'.cell? ⟨ga, oa + k * 8 + 3, none⟩ = some (.int .i64 q.rights) ∧ w'.cell? ⟨ga, oa + k * 8 + 4, none⟩ = some (.int .i64 q.track) ∧ w'.cell? ⟨ga, oa + k * 8 + 5, none⟩ = some (.slice QA q.ss.length qc) ∧ w'.cell? ⟨ga, oa + k * 8 + 6, none⟩ = some (.int .i64 q.layer) ∧ w'.cell? ⟨ga, oa + k * 8 + 7, none⟩ = some (.int .i64 q.tid)) [] (by kernel_rfl) (KD.out _ (Below.refl _ _).drew) (fun hHeld0 => ?_)
          refine tk (i := 0) [] (v := ?_) ?_ ?_
          rotate_left 1
          · (intro w hSw; obtain ⟨m0, m1, m2, m3, m4, m5, m6, m7, m8, m9, m10, m11, m12, m13, m14⟩ := hSw; go_simp; try (with_reducible rfl))
          (try walk_nrm)
          refine tk (i := 1) [] (v := ?_) ?_ ?_
          rotate_left 1
          · (intro w hSw; obtain ⟨m0, m1, m2, m3, m4, m5, m6, m7, m8, m9, m10, m11, m12, m13, m14⟩ := hSw; go_simp; try (with_reducible rfl))
          (try walk_nrm)
          refine tk (i := 2) [] (v := ?_) ?_ ?_
          rotate_left 1
          · (intro w hSw; obtain ⟨m0, m1, m2, m3, m4, m5, m6, m7, m8, m9, m10, m11, m12, m13, m14⟩ := hSw; go_simp; try (with_reducible rfl))
          (try walk_nrm)
          refine tk (i := 3) [] (v := ?_) ?_ ?_
          rotate_left 1
          · (intro w hSw; obtain ⟨m0, m1, m2, m3, m4, m5, m6, m7, m8, m9, m10, m11, m12, m13, m14⟩ := hSw; go_simp; try (with_reducible rfl))
          (try walk_nrm)
          refine tk (i := 4) [] (v := ?_) ?_ ?_
          rotate_left 1
          · (intro w hSw; obtain ⟨m0, m1, m2, m3, m4, m5, m6, m7, m8, m9, m10, m11, m12, m13, m14⟩ := hSw; go_simp; try (with_reducible rfl))
          (try walk_nrm)
          refine wpAnyX_two 5 9 (by kernel_rfl) rfl rfl (fun K hK => ?_) (fun K hK => ?_)
          · go_simp
            go_wp2_with (refine (CD.out (fun k => k ≠ N ∧ k ≠ W) wd.drew (HS.out.next (Below.refl wd.heap.size wd).drew) (HQA.out.next (Below.refl wd.heap.size wd).drew) (fun k hk => by have h9 : wd.heap.size ≤ k := hk; exact ⟨by omega, by omega⟩)).mono ?_; rintro e v1 ⟨bv1, t, hX, hT, rfl⟩; replace hX := Lib.hid hX)
            have BV1 := (Below.refl wd.heap.size wd).drew.trans (bv1.mono (Below.refl wd.heap.size wd).drew.size)
            refine hK.out _ _ (.inr (KD.out _ BV1)) ?_
            have hHeld1 := KD.out _ BV1
            clear hK K
            (try walk_nrm)
            refine tk (i := 6) [] (v := ?_) ?_ ?_
            rotate_left 1
            · (intro w hSw; obtain ⟨m0, m1, m2, m3, m4, m5, m6, m7, m8, m9, m10, m11, m12, m13, m14⟩ := hSw; go_simp; try (with_reducible rfl))
            (try walk_nrm)
            refine tk (i := 7) [] (v := ?_) ?_ ?_
            rotate_left 1
            · (intro w hSw; obtain ⟨m0, m1, m2, m3, m4, m5, m6, m7, m8, m9, m10, m11, m12, m13, m14⟩ := hSw; go_simp; try (with_reducible rfl))
            (try walk_nrm)
            refine tk (i := 8) [] (v := ?_) ?_ ?_
            rotate_left 1
            · (intro w hSw; obtain ⟨m0, m1, m2, m3, m4, m5, m6, m7, m8, m9, m10, m11, m12, m13, m14⟩ := hSw; go_simp; try (with_reducible rfl))
            (try walk_nrm)
            refine wpAnyX_one 9 (by kernel_rfl) rfl (fun K hK => ?_)
            go_simp
            have BV2 : Below wd.heap.size wd (v1.alloc (.cells #[.int .i64 0, .int .i64 0, .int .i64 0, .int .i64 0, .slice none 0 0, .slice none 0 0, .slice none 0 0] 31)) := BV1.alloc BV1.size _
            have NB : Whole (v1.alloc (.cells #[.int .i64 0, .int .i64 0, .int .i64 0, .int .i64 0, .slice none 0 0, .slice none 0 0, .slice none 0 0] 31)) v1.heap.size 31 #[.int .i64 0, .int .i64 0, .int .i64 0, .int .i64 0, .slice none 0 0, .slice none 0 0, .slice none 0 0] := Whole.new v1 _ _
            refine hK.out _ _ (.inr (KD.out _ BV2)) ?_
            have hHeld2 := KD.out _ BV2
            clear hK K
            (try walk_nrm)
            refine wpAnyX_one 10 (by kernel_rfl) rfl (fun K hK => ?_)
            have z0 := NB.cell 0
            have z1 := NB.cell 1
            have z2 := NB.cell 2
            have z3 := NB.cell 3
            have z4 := NB.cell 4
            have z5 := NB.cell 5
            have z6 := NB.cell 6
            have y0 := NB.free 0
            have y1 := NB.free 1
            have y2 := NB.free 2
            have y3 := NB.free 3
            have y4 := NB.free 4
            have y5 := NB.free 5
            have y6 := NB.free 6
            have lz := NB.lt
            go_simp
            have BF : Below wd.heap.size wd (v1.alloc (.cells #[.int .i64 t.X.cf.ps, .int .i64 t.X.cf.ts, .int .i64 t.X.cf.bs, .int .i64 t.X.cf.sl, .slice t.A t.X.ps.length t.a, .slice t.B t.T.length t.b, .slice t.C t.X.bs.length t.c] 31)) := BV1.alloc BV1.size _
            refine hK.out _ _ (.inr (KD.out _ BF)) ?_
            have hHeld3 := KD.out _ BF
            clear hK K z0 z1 z2 z3 z4 z5 z6 y0 y1 y2 y3 y4 y5 y6 lz
            (try walk_nrm)
            refine tk (i := 11) [] (v := ?_) ?_ ?_
            rotate_left 1
            · (intro w hSw; obtain ⟨m0, m1, m2, m3, m4, m5, m6, m7, m8, m9, m10, m11, m12, m13, m14⟩ := hSw; go_simp; try (with_reducible rfl))
            (try walk_nrm)
            refine wpAnyX_done (by kernel_rfl) ?_ _
            go_wp2_with fail
            go_meet
            exact ⟨_, t, rfl, rfl, BV1.size, Whole.new v1 _ _, hX.out, hT.next ((Below.refl _ _).alloc (Nat.le_refl _) _), BF⟩
          · go_simp
            obtain ⟨v1, hv1⟩ : ∃ z, z = (wd.alloc (.cells #[.int .i64 0, .int .i64 0, .int .i64 0, .int .i64 0, .slice none 0 0, .slice none 0 0, .slice none 0 0] 31)).drew := ⟨_, rfl⟩
            have BV1 : Below wd.heap.size wd v1 := by rw [hv1]; exact ((Below.refl _ _).alloc (Nat.le_refl _) _).drew
            have NB : Whole v1 wd.heap.size 31 #[.int .i64 0, .int .i64 0, .int .i64 0, .int .i64 0, .slice none 0 0, .slice none 0 0, .slice none 0 0] := by rw [hv1]; exact (Whole.new wd _ _).drew
            rw [← hv1]
            clear hv1
            refine hK.out _ _ (.inr (KD.out _ BV1)) ?_
            have hHeld1 := KD.out _ BV1
            clear hK K
            (try walk_nrm)
            have lb1 := NB.lt
            refine wpAnyX_one 5 (by kernel_rfl) rfl (fun K hK => ?_)
            go_simp
            go_wp2_with (refine (CD.out (fun k => (fun k => k ≠ N ∧ k ≠ W) k ∧ (fun k => k ≠ wd.heap.size) k) v1 ((SAt.with HS.out (fun k => k ≠ wd.heap.size) (fun k hk e => by omega)).next BV1) ((qat_with HQA.out (fun k => k ≠ wd.heap.size) (fun k hk e => by omega)).next BV1) (fun k hk => ⟨by have h9 := BV1.size; exact ⟨by omega, by omega⟩, fun e => by omega⟩)).mono ?_; rintro e v2 ⟨bv2, t, hX, hT, rfl⟩; replace hX := Lib.hid hX)
            have BV2 := BV1.trans (bv2.mono BV1.size)
            refine hK.out _ _ (.inr (KD.out _ BV2)) ?_
            have hHeld2 := KD.out _ BV2
            clear hK K
            (try walk_nrm)
            have NB2 := NB.below bv2 NB.lt
            refine tk (i := 6) [] (v := ?_) ?_ ?_
            rotate_left 1
            · (intro w hSw; obtain ⟨m0, m1, m2, m3, m4, m5, m6, m7, m8, m9, m10, m11, m12, m13, m14⟩ := hSw; go_simp; try (with_reducible rfl))
            (try walk_nrm)
            refine tk (i := 7) [] (v := ?_) ?_ ?_
            rotate_left 1
            · (intro w hSw; obtain ⟨m0, m1, m2, m3, m4, m5, m6, m7, m8, m9, m10, m11, m12, m13, m14⟩ := hSw; go_simp; try (with_reducible rfl))
            (try walk_nrm)
            refine tk (i := 8) [] (v := ?_) ?_ ?_
            rotate_left 1
            · (intro w hSw; obtain ⟨m0, m1, m2, m3, m4, m5, m6, m7, m8, m9, m10, m11, m12, m13, m14⟩ := hSw; go_simp; try (with_reducible rfl))
            (try walk_nrm)
            refine wpAnyX_one 10 (by kernel_rfl) rfl (fun K hK => ?_)
            have z0 := NB2.cell 0
            have z1 := NB2.cell 1
            have z2 := NB2.cell 2
            have z3 := NB2.cell 3
            have z4 := NB2.cell 4
            have z5 := NB2.cell 5
            have z6 := NB2.cell 6
            have y0 := NB2.free 0
            have y1 := NB2.free 1
            have y2 := NB2.free 2
            have y3 := NB2.free 3
            have y4 := NB2.free 4
            have y5 := NB2.free 5
            have y6 := NB2.free 6
            have lz := NB2.lt
            go_simp
            have BF : Below wd.heap.size wd (sets7 v2 wd.heap.size (.int .i64 t.X.cf.ps) (.int .i64 t.X.cf.ts) (.int .i64 t.X.cf.bs) (.int .i64 t.X.cf.sl) (.slice t.A t.X.ps.length t.a) (.slice t.B t.T.length t.b) (.slice t.C t.X.bs.length t.c)) := sets7_below BV2 (Nat.le_refl _)
            refine hK.out _ _ (.inr (KD.out _ BF)) ?_
            have hHeld3 := KD.out _ BF
            clear hK K z0 z1 z2 z3 z4 z5 z6 y0 y1 y2 y3 y4 y5 y6 lz
            (try walk_nrm)
            refine tk (i := 11) [] (v := ?_) ?_ ?_
            rotate_left 1
            · (intro w hSw; obtain ⟨m0, m1, m2, m3, m4, m5, m6, m7, m8, m9, m10, m11, m12, m13, m14⟩ := hSw; go_simp; try (with_reducible rfl))
            (try walk_nrm)
            refine wpAnyX_done (by kernel_rfl) ?_ _
            go_wp2_with fail
            go_meet
            exact ⟨_, t, rfl, rfl, Nat.le_refl _, sets7_whole NB2 rfl, hX.out, sat_weak (sets7_sat hT (fun h => h.2 rfl)), BF⟩
         case rest =>
          obtain ⟨M, t, rfl, rfl, hM, hWM, hX, hT, bc⟩ := hcut
          obtain ⟨wz, rfl⟩ : ∃ z, z = wc := ⟨_, rfl⟩
          replace hX := Lib.hid hX
          have HT := Lib.hid hT
          have HWM := Lib.hid hWM
          have HNz := Lib.hid (HNd.out.below bc lN)
          have HWz := Lib.hid (HWd.out.below bc lWd)
          have HSz := Lib.hid (HSd.out.next bc)
          have HV2z := Lib.hid (HV2.out.next bc)
          have HBz := Lib.hid (HBd.out.trans (bc.mono HBd.out.size))
          have hMN : M ≠ N := by omega
          have hNM : N ≠ M := by omega
          have hMW : M ≠ W := by omega
          have hWM2 : W ≠ M := by omega
          obtain ⟨er, her⟩ : ∃ z, (doS s.X q).2 = z := ⟨_, rfl⟩
          rw [her]
          have HTX := Lib.hid (show er ≠ 0 → t.X = s.X from fun h => by rw [hX.out]; exact do_err (by rw [her]; exact h))
          clear her
          obtain ⟨mp, hmp⟩ : ∃ z, t.X.ps.length = z := ⟨_, rfl⟩
          obtain ⟨mt, hmt⟩ : ∃ z, t.T.length = z := ⟨_, rfl⟩
          obtain ⟨mb, hmb⟩ : ∃ z, t.X.bs.length = z := ⟨_, rfl⟩
          have HTM := Lib.hid (show #[.int .i64 t.X.cf.ps, .int .i64 t.X.cf.ts, .int .i64 t.X.cf.bs, .int .i64 t.X.cf.sl, .slice t.A mp t.a, .slice t.B mt t.b, .slice t.C mb t.c] = smA t from by unfold smA; rw [hmp, hmt, hmb])
          clear hmp hmt hmb
          clear a0 a1 a2 a3 a4 a5 a6 a7 g0 g1 g2 g3 g4 g5 g6 KD CD hWM hT bc HS HQA HNd HWd HSd HQd HV2 HBd
          have g0 : wz.cell? ⟨N, 0, none⟩ = some (.int .i64 s.X.cf.ps) := (HNz.out.cell 0).trans (by rw [← HSM.out]; rfl)
          have g1 : wz.cell? ⟨N, 1, none⟩ = some (.int .i64 s.X.cf.ts) := (HNz.out.cell 1).trans (by rw [← HSM.out]; rfl)
          have g2 : wz.cell? ⟨N, 2, none⟩ = some (.int .i64 s.X.cf.bs) := (HNz.out.cell 2).trans (by rw [← HSM.out]; rfl)
          have g3 : wz.cell? ⟨N, 3, none⟩ = some (.int .i64 s.X.cf.sl) := (HNz.out.cell 3).trans (by rw [← HSM.out]; rfl)
          have g4 : wz.cell? ⟨N, 4, none⟩ = some (.slice s.A np s.a) := (HNz.out.cell 4).trans (by rw [← HSM.out]; rfl)
          have g5 : wz.cell? ⟨N, 5, none⟩ = some (.slice s.B nt s.b) := (HNz.out.cell 5).trans (by rw [← HSM.out]; rfl)
          have g6 : wz.cell? ⟨N, 6, none⟩ = some (.slice s.C nb s.c) := (HNz.out.cell 6).trans (by rw [← HSM.out]; rfl)
          have v0 : wz.cell? ⟨W, 0, none⟩ = some (.int .i64 s.X.cf.ps) := (HWz.out.cell 0).trans rfl
          have v1 : wz.cell? ⟨W, 1, none⟩ = some (.int .i64 s.X.cf.ts) := (HWz.out.cell 1).trans rfl
          have v2 : wz.cell? ⟨W, 2, none⟩ = some (.int .i64 s.X.cf.bs) := (HWz.out.cell 2).trans rfl
          have v3 : wz.cell? ⟨W, 3, none⟩ = some (.int .i64 s.X.cf.sl) := (HWz.out.cell 3).trans rfl
          have v4 : wz.cell? ⟨W, 4, none⟩ = some (.slice v.A np v.a) := (HWz.out.cell 4).trans rfl
          have v5 : wz.cell? ⟨W, 5, none⟩ = some (.slice A2 nt c2) := (HWz.out.cell 5).trans rfl
          have v6 : wz.cell? ⟨W, 6, none⟩ = some (.slice v.C nb v.c) := (HWz.out.cell 6).trans rfl
          have z0 : wz.cell? ⟨M, 0, none⟩ = some (.int .i64 t.X.cf.ps) := (HWM.out.cell 0).trans (by rw [← HTM.out]; rfl)
          have z1 : wz.cell? ⟨M, 1, none⟩ = some (.int .i64 t.X.cf.ts) := (HWM.out.cell 1).trans (by rw [← HTM.out]; rfl)
          have z2 : wz.cell? ⟨M, 2, none⟩ = some (.int .i64 t.X.cf.bs) := (HWM.out.cell 2).trans (by rw [← HTM.out]; rfl)
          have z3 : wz.cell? ⟨M, 3, none⟩ = some (.int .i64 t.X.cf.sl) := (HWM.out.cell 3).trans (by rw [← HTM.out]; rfl)
          have z4 : wz.cell? ⟨M, 4, none⟩ = some (.slice t.A mp t.a) := (HWM.out.cell 4).trans (by rw [← HTM.out]; rfl)
          have z5 : wz.cell? ⟨M, 5, none⟩ = some (.slice t.B mt t.b) := (HWM.out.cell 5).trans (by rw [← HTM.out]; rfl)
          have z6 : wz.cell? ⟨M, 6, none⟩ = some (.slice t.C mb t.c) := (HWM.out.cell 6).trans (by rw [← HTM.out]; rfl)
          have lNz := HNz.out.lt
          have lWz := HWz.out.lt
          have lMz := HWM.out.lt
          have KD := Lib.hid (fun w' (b' : Below wz.heap.size wz w') => show (fun w' => w'.cell? ⟨N, 0, none⟩ = some (.int .i64 s.X.cf.ps) ∧ w'.cell? ⟨N, 1, none⟩ = some (.int .i64 s.X.cf.ts) ∧ w'.cell? ⟨N, 2, none⟩ = some (.int .i64 s.X.cf.bs) ∧ w'.cell? ⟨N, 3, none⟩ = some (.int .i64 s.X.cf.sl) ∧ w'.cell? ⟨N, 4, none⟩ = some (.slice s.A np s.a) ∧ w'.cell? ⟨N, 5, none⟩ = some (.slice s.B nt s.b) ∧ w'.cell? ⟨N, 6, none⟩ = some (.slice s.C nb s.c) ∧ w'.cell? ⟨W, 0, none⟩ = some (.int .i64 s.X.cf.ps) ∧ w'.cell? ⟨W, 1, none⟩ = some (.int .i64 s.X.cf.ts) ∧ w'.cell? ⟨W, 2, none⟩ = some (.int .i64 s.X.cf.bs) ∧ w'.cell? ⟨W, 3, none⟩ = some (.int .i64 s.X.cf.sl) ∧ w'.cell? ⟨W, 4, none⟩ = some (.slice v.A np v.a) ∧ w'.cell? ⟨W, 5, none⟩ = some (.slice A2 nt c2) ∧ w'.cell? ⟨W, 6, none⟩ = some (.slice v.C nb v.c) ∧ w'.cell? ⟨M, 0, none⟩ = some (.int .i64 t.X.cf.ps) ∧ w'.cell? ⟨M, 1, none⟩ = some (.int .i64 t.X.cf.ts) ∧ w'.cell? ⟨M, 2, none⟩ = some (.int .i64 t.X.cf.bs) ∧ w'.cell? ⟨M, 3, none⟩ = some (.int .i64 t.X.cf.sl) ∧ w'.cell? ⟨M, 4, none⟩ = some (.slice t.A mp t.a) ∧ w'.cell? ⟨M, 5, none⟩ = some (.slice t.B mt t.b) ∧ w'.cell? ⟨M, 6, none⟩ = some (.slice t.C mb t.c)) w' from ⟨(b'.cell (p := ⟨N, 0, none⟩) lNz).trans g0, (b'.cell (p := ⟨N, 1, none⟩) lNz).trans g1, (b'.cell (p := ⟨N, 2, none⟩) lNz).trans g2, (b'.cell (p := ⟨N, 3, none⟩) lNz).trans g3, (b'.cell (p := ⟨N, 4, none⟩) lNz).trans g4, (b'.cell (p := ⟨N, 5, none⟩) lNz).trans g5, (b'.cell (p := ⟨N, 6, none⟩) lNz).trans g6, (b'.cell (p := ⟨W, 0, none⟩) lWz).trans v0, (b'.cell (p := ⟨W, 1, none⟩) lWz).trans v1, (b'.cell (p := ⟨W, 2, none⟩) lWz).trans v2, (b'.cell (p := ⟨W, 3, none⟩) lWz).trans v3, (b'.cell (p := ⟨W, 4, none⟩) lWz).trans v4, (b'.cell (p := ⟨W, 5, none⟩) lWz).trans v5, (b'.cell (p := ⟨W, 6, none⟩) lWz).trans v6, (b'.cell (p := ⟨M, 0, none⟩) lMz).trans z0, (b'.cell (p := ⟨M, 1, none⟩) lMz).trans z1, (b'.cell (p := ⟨M, 2, none⟩) lMz).trans z2, (b'.cell (p := ⟨M, 3, none⟩) lMz).trans z3, (b'.cell (p := ⟨M, 4, none⟩) lMz).trans z4, (b'.cell (p := ⟨M, 5, none⟩) lMz).trans z5, (b'.cell (p := ⟨M, 6, none⟩) lMz).trans z6⟩)
          have COs := Lib.hid (fun w' (hu : SAt (fun k => k ≠ N ∧ k ≠ W) w' s) (hp : wz.heap.size ≤ w'.heap.size) => (show Calls Try.prog 16 #[.agg #[.int .i64 s.X.cf.ps, .int .i64 s.X.cf.ts, .int .i64 s.X.cf.bs, .int .i64 s.X.cf.sl, .slice s.A np s.a, .slice s.B nt s.b, .slice s.C nb s.c]] w' (fun e w'' => Below w'.heap.size w' w'' ∧ ∃ y : Sm, y.X = s.X ∧ SAt (fun k => k ≠ N ∧ k ≠ W) w'' y ∧ e = .returned (.agg (smA y))) from by rw [HSM.out]; refine (of18s (fun k => k ≠ N ∧ k ≠ W) s w' hu (fun k hk => ⟨by omega, by omega⟩)).mono ?_; rintro e w'' ⟨b9, y, h1, _, h2, rfl⟩; exact ⟨b9, y, h1, h2, rfl⟩))
          have COt := Lib.hid (fun w' (hu : SAt (fun k => k ≠ N ∧ k ≠ W) w' t) (hp : wz.heap.size ≤ w'.heap.size) => (show Calls Try.prog 16 #[.agg #[.int .i64 t.X.cf.ps, .int .i64 t.X.cf.ts, .int .i64 t.X.cf.bs, .int .i64 t.X.cf.sl, .slice t.A mp t.a, .slice t.B mt t.b, .slice t.C mb t.c]] w' (fun e w'' => Below w'.heap.size w' w'' ∧ ∃ y : Sm, y.X = t.X ∧ SAt (fun k => k ≠ N ∧ k ≠ W) w'' y ∧ e = .returned (.agg (smA y))) from by rw [HTM.out]; refine (of18s (fun k => k ≠ N ∧ k ≠ W) t w' hu (fun k hk => ⟨by omega, by omega⟩)).mono ?_; rintro e w'' ⟨b9, y, h1, _, h2, rfl⟩; exact ⟨b9, y, h1, h2, rfl⟩))
          have CS := Lib.hid (fun (y : Sm) w' (hy : SAt (fun k => k ≠ N ∧ k ≠ W) w' y) (hv : SAt (fun k => k ≠ N ∧ k ≠ W) w' vt) (e : vt.X = y.X) => (show Calls Try.prog 15 #[.agg (smA y), .agg #[.int .i64 s.X.cf.ps, .int .i64 s.X.cf.ts, .int .i64 s.X.cf.bs, .int .i64 s.X.cf.sl, .slice v.A np v.a, .slice A2 nt c2, .slice v.C nb v.c]] w' (fun e w'' => e = .returned (.bool true) ∧ Below w'.heap.size w' w'') from by rw [HV2M.out]; exact same18 (fun k => k ≠ N ∧ k ≠ W) y vt w' hy hv e))
          by_cases he : er = 0
          · subst he
            clear HTX
            go_upto_region 23 with fail
            go_cut [91] (fun b wx => b = .bool false ∧ Below wz.heap.size wz wx)
            case first =>
             refine wp_region_X (S := fun w' => w'.cell? ⟨N, 0, none⟩ = some (.int .i64 s.X.cf.ps) ∧ w'.cell? ⟨N, 1, none⟩ = some (.int .i64 s.X.cf.ts) ∧ w'.cell? ⟨N, 2, none⟩ = some (.int .i64 s.X.cf.bs) ∧ w'.cell? ⟨N, 3, none⟩ = some (.int .i64 s.X.cf.sl) ∧ w'.cell? ⟨N, 4, none⟩ = some (.slice s.A np s.a) ∧ w'.cell? ⟨N, 5, none⟩ = some (.slice s.B nt s.b) ∧ w'.cell? ⟨N, 6, none⟩ = some (.slice s.C nb s.c) ∧ w'.cell? ⟨W, 0, none⟩ = some (.int .i64 s.X.cf.ps) ∧ w'.cell? ⟨W, 1, none⟩ = some (.int .i64 s.X.cf.ts) ∧ w'.cell? ⟨W, 2, none⟩ = some (.int .i64 s.X.cf.bs) ∧ w'.cell? ⟨W, 3, none⟩ = some (.int .i64 s.X.cf.sl) ∧ w'.cell? ⟨W, 4, none⟩ = some (.slice v.A np v.a) ∧ w'.cell? ⟨W, 5, none⟩ = some (.slice A2 nt c2) ∧ w'.cell? ⟨W, 6, none⟩ = some (.slice v.C nb v.c) ∧ w'.cell? ⟨M, 0, none⟩ = some (.int .i64 t.X.cf.ps) ∧ w'.cell? ⟨M, 1, none⟩ = some (.int .i64 t.X.cf.ts) ∧ w'.cell? ⟨M, 2, none⟩ = some (.int .i64 t.X.cf.bs) ∧ w'.cell? ⟨M, 3, none⟩ = some (.int .i64 t.X.cf.sl) ∧ w'.cell? ⟨M, 4, none⟩ = some (.slice t.A mp t.a) ∧ w'.cell? ⟨M, 5, none⟩ = some (.slice t.B mt t.b) ∧ w'.cell? ⟨M, 6, none⟩ = some (.slice t.C mb t.c)) [] (by kernel_rfl) (KD.out _ (Below.refl _ _).drew) (fun hHeld0 => ?_)
             refine tk (i := 0) [] (v := ?_) ?_ ?_
             rotate_left 1
             · (intro w hSw; obtain ⟨m0', m1', m2', m3', m4', m5', m6', m7', m8', m9', m10', m11', m12', m13', m14', m15', m16', m17', m18', m19', m20'⟩ := hSw; go_simp; try (with_reducible rfl))
             (try walk_nrm)
             refine tk (i := 2) [] (v := ?_) ?_ ?_
             rotate_left 1
             · (intro w hSw; obtain ⟨m0', m1', m2', m3', m4', m5', m6', m7', m8', m9', m10', m11', m12', m13', m14', m15', m16', m17', m18', m19', m20'⟩ := hSw; go_simp; try (with_reducible rfl))
             (try walk_nrm)
             refine wpAnyX_one 1 (by kernel_rfl) rfl (fun K hK => ?_)
             go_simp
             go_wp2_with (refine (COs.out wz.drew (HSz.out.next (Below.refl wz.heap.size wz).drew) (by have h9 := (Below.refl wz.heap.size wz).drew.size; omega)).mono ?_; rintro e v1' ⟨bv1, y1, hyX1, hyS1, rfl⟩; replace hyX1 := Lib.hid hyX1)
             have BV1 := (Below.refl wz.heap.size wz).drew.trans (bv1.mono (Below.refl wz.heap.size wz).drew.size)
             refine hK.out _ _ (.inr (KD.out _ BV1)) ?_
             have hHeld1 := KD.out _ BV1
             clear hK K
             (try walk_nrm)
             refine wpAnyX_one 3 (by kernel_rfl) rfl (fun K hK => ?_)
             go_simp
             go_wp2_with (refine (CS.out y1 v1' hyS1 (HV2z.out.next BV1) (by rw [HV2X.out, hyX1.out])).mono ?_; rintro e v2' ⟨rfl, bv2⟩)
             have BV2 := BV1.trans (bv2.mono BV1.size)
             refine hK.out _ _ (.inr (KD.out _ BV2)) ?_
             have hHeld2 := KD.out _ BV2
             clear hK K
             (try walk_nrm)
             refine tk (i := 4) [] (v := ?_) ?_ ?_
             rotate_left 1
             · (intro w hSw; obtain ⟨m0', m1', m2', m3', m4', m5', m6', m7', m8', m9', m10', m11', m12', m13', m14', m15', m16', m17', m18', m19', m20'⟩ := hSw; go_simp; try (with_reducible rfl))
             (try walk_nrm)
             refine tk (i := 5) [] (v := ?_) ?_ ?_
             rotate_left 1
             · (intro w hSw; obtain ⟨m0', m1', m2', m3', m4', m5', m6', m7', m8', m9', m10', m11', m12', m13', m14', m15', m16', m17', m18', m19', m20'⟩ := hSw; go_simp; try (with_reducible rfl))
             (try walk_nrm)
             refine tk (i := 6) [] (v := ?_) ?_ ?_
             rotate_left 1
             · (intro w hSw; obtain ⟨m0', m1', m2', m3', m4', m5', m6', m7', m8', m9', m10', m11', m12', m13', m14', m15', m16', m17', m18', m19', m20'⟩ := hSw; go_simp; try (with_reducible rfl))
             (try walk_nrm)
             refine tk (i := 7) [] (v := ?_) ?_ ?_
             rotate_left 1
             · (intro w hSw; obtain ⟨m0', m1', m2', m3', m4', m5', m6', m7', m8', m9', m10', m11', m12', m13', m14', m15', m16', m17', m18', m19', m20'⟩ := hSw; go_simp; try (with_reducible rfl))
             (try walk_nrm)
             refine tk (i := 8) [] (v := ?_) ?_ ?_
             rotate_left 1
             · (intro w hSw; obtain ⟨m0', m1', m2', m3', m4', m5', m6', m7', m8', m9', m10', m11', m12', m13', m14', m15', m16', m17', m18', m19', m20'⟩ := hSw; go_simp; try (with_reducible rfl))
             (try walk_nrm)
             refine wpAnyX_take (i := 9) [] (v := undef) rfl (by kernel_rfl) (by kernel_rfl) (by kernel_rfl) (by kernel_rfl) (fun _ _ _ h => h) (Or.inr ⟨by kernel_rfl, rfl⟩) (by assumption) ?_
             (try walk_nrm)
             refine wpAnyX_take (i := 10) [] (v := undef) rfl (by kernel_rfl) (by kernel_rfl) (by kernel_rfl) (by kernel_rfl) (fun _ _ _ h => h) (Or.inr ⟨by kernel_rfl, rfl⟩) (by assumption) ?_
             (try walk_nrm)
             refine wpAnyX_take (i := 11) [] (v := undef) rfl (by kernel_rfl) (by kernel_rfl) (by kernel_rfl) (by kernel_rfl) (fun _ _ _ h => h) (Or.inr ⟨by kernel_rfl, rfl⟩) (by assumption) ?_
             (try walk_nrm)
             refine wpAnyX_take (i := 12) [] (v := undef) rfl (by kernel_rfl) (by kernel_rfl) (by kernel_rfl) (by kernel_rfl) (fun _ _ _ h => h) (Or.inr ⟨by kernel_rfl, rfl⟩) (by assumption) ?_
             (try walk_nrm)
             refine wpAnyX_take (i := 13) [] (v := undef) rfl (by kernel_rfl) (by kernel_rfl) (by kernel_rfl) (by kernel_rfl) (fun _ _ _ h => h) (Or.inr ⟨by kernel_rfl, rfl⟩) (by assumption) ?_
             (try walk_nrm)
             refine tk (i := 14) [] (v := ?_) ?_ ?_
             rotate_left 1
             · (intro w hSw; obtain ⟨m0', m1', m2', m3', m4', m5', m6', m7', m8', m9', m10', m11', m12', m13', m14', m15', m16', m17', m18', m19', m20'⟩ := hSw; go_simp; try (with_reducible rfl))
             (try walk_nrm)
             refine tk (i := 15) [] (v := ?_) ?_ ?_
             rotate_left 1
             · (intro w hSw; obtain ⟨m0', m1', m2', m3', m4', m5', m6', m7', m8', m9', m10', m11', m12', m13', m14', m15', m16', m17', m18', m19', m20'⟩ := hSw; go_simp; try (with_reducible rfl))
             (try walk_nrm)
             refine wpAnyX_done (by kernel_rfl) ?_ _
             go_wp2_with fail
             go_meet
             exact ⟨rfl, BV2⟩
            case rest =>
             obtain ⟨rfl, b6⟩ := hcut
             obtain ⟨wq, rfl⟩ : ∃ z, z = wc := ⟨_, rfl⟩
             have HN6 := Lib.hid (HNz.out.below b6 lNz)
             have HM6 := Lib.hid (HWM.out.below b6 lMz)
             have HT6 := Lib.hid (show SAt (fun k => k ≠ N) wq t from sat_weak (HT.out.next b6))
             have HB6 := Lib.hid (HBz.out.trans (b6.mono HBz.out.size))
             clear b6 g0 g1 g2 g3 g4 g5 g6 v0 v1 v2 v3 v4 v5 v6 z0 z1 z2 z3 z4 z5 z6 KD COs COt CS HNz HWz HSz HV2z HBz HT HWM
             have g0 : wq.cell? ⟨N, 0, none⟩ = some (.int .i64 s.X.cf.ps) := (HN6.out.cell 0).trans (by rw [← HSM.out]; rfl)
             have g1 : wq.cell? ⟨N, 1, none⟩ = some (.int .i64 s.X.cf.ts) := (HN6.out.cell 1).trans (by rw [← HSM.out]; rfl)
             have g2 : wq.cell? ⟨N, 2, none⟩ = some (.int .i64 s.X.cf.bs) := (HN6.out.cell 2).trans (by rw [← HSM.out]; rfl)
             have g3 : wq.cell? ⟨N, 3, none⟩ = some (.int .i64 s.X.cf.sl) := (HN6.out.cell 3).trans (by rw [← HSM.out]; rfl)
             have g4 : wq.cell? ⟨N, 4, none⟩ = some (.slice s.A np s.a) := (HN6.out.cell 4).trans (by rw [← HSM.out]; rfl)
             have g5 : wq.cell? ⟨N, 5, none⟩ = some (.slice s.B nt s.b) := (HN6.out.cell 5).trans (by rw [← HSM.out]; rfl)
             have g6 : wq.cell? ⟨N, 6, none⟩ = some (.slice s.C nb s.c) := (HN6.out.cell 6).trans (by rw [← HSM.out]; rfl)
             have z0 : wq.cell? ⟨M, 0, none⟩ = some (.int .i64 t.X.cf.ps) := (HM6.out.cell 0).trans (by rw [← HTM.out]; rfl)
             have z1 : wq.cell? ⟨M, 1, none⟩ = some (.int .i64 t.X.cf.ts) := (HM6.out.cell 1).trans (by rw [← HTM.out]; rfl)
             have z2 : wq.cell? ⟨M, 2, none⟩ = some (.int .i64 t.X.cf.bs) := (HM6.out.cell 2).trans (by rw [← HTM.out]; rfl)
             have z3 : wq.cell? ⟨M, 3, none⟩ = some (.int .i64 t.X.cf.sl) := (HM6.out.cell 3).trans (by rw [← HTM.out]; rfl)
             have z4 : wq.cell? ⟨M, 4, none⟩ = some (.slice t.A mp t.a) := (HM6.out.cell 4).trans (by rw [← HTM.out]; rfl)
             have z5 : wq.cell? ⟨M, 5, none⟩ = some (.slice t.B mt t.b) := (HM6.out.cell 5).trans (by rw [← HTM.out]; rfl)
             have z6 : wq.cell? ⟨M, 6, none⟩ = some (.slice t.C mb t.c) := (HM6.out.cell 6).trans (by rw [← HTM.out]; rfl)
             have lM6 := HM6.out.lt
             go_upto_region 25 with fail
             have f0 := HN6.out.free 0
             have f1 := HN6.out.free 1
             have f2 := HN6.out.free 2
             have f3 := HN6.out.free 3
             have f4 := HN6.out.free 4
             have f5 := HN6.out.free 5
             have f6 := HN6.out.free 6
             have lNz := HN6.out.lt
             go_wp2_with fail
             go_roundw
             case rel =>
              have HFW : Whole (sets7 wq N (.int .i64 t.X.cf.ps) (.int .i64 t.X.cf.ts) (.int .i64 t.X.cf.bs) (.int .i64 t.X.cf.sl) (.slice t.A mp t.a) (.slice t.B mt t.b) (.slice t.C mb t.c)) N 31 (smA t) := by rw [← HTM.out]; exact sets7_whole HN6.out rfl
              have HFS : SAt (fun k => k ≠ N) (sets7 wq N (.int .i64 t.X.cf.ps) (.int .i64 t.X.cf.ts) (.int .i64 t.X.cf.bs) (.int .i64 t.X.cf.sl) (.slice t.A mp t.a) (.slice t.B mt t.b) (.slice t.C mb t.c)) t := sets7_sat HT6.out (fun h => h rfl)
              have HFB : Below w.heap.size w (sets7 wq N (.int .i64 t.X.cf.ps) (.int .i64 t.X.cf.ts) (.int .i64 t.X.cf.bs) (.int .i64 t.X.cf.sl) (.slice t.A mp t.a) (.slice t.B mt t.b) (.slice t.C mb t.c)) := sets7_below HB6.out hlo
              exact ⟨k + 1, t, by omega, by go_num, Lib.hid HFW, Lib.hid HFS, Lib.hid HFB⟩
             case measure => simp [intOf]; omega
          · have he1 : (er != 0) = true := by simp [he]
            go_upto_region 23 with fail
            go_cut [91] (fun b wx => b = .bool false ∧ Below wz.heap.size wz wx)
            case first =>
             refine wp_region_X (S := fun w' => w'.cell? ⟨N, 0, none⟩ = some (.int .i64 s.X.cf.ps) ∧ w'.cell? ⟨N, 1, none⟩ = some (.int .i64 s.X.cf.ts) ∧ w'.cell? ⟨N, 2, none⟩ = some (.int .i64 s.X.cf.bs) ∧ w'.cell? ⟨N, 3, none⟩ = some (.int .i64 s.X.cf.sl) ∧ w'.cell? ⟨N, 4, none⟩ = some (.slice s.A np s.a) ∧ w'.cell? ⟨N, 5, none⟩ = some (.slice s.B nt s.b) ∧ w'.cell? ⟨N, 6, none⟩ = some (.slice s.C nb s.c) ∧ w'.cell? ⟨W, 0, none⟩ = some (.int .i64 s.X.cf.ps) ∧ w'.cell? ⟨W, 1, none⟩ = some (.int .i64 s.X.cf.ts) ∧ w'.cell? ⟨W, 2, none⟩ = some (.int .i64 s.X.cf.bs) ∧ w'.cell? ⟨W, 3, none⟩ = some (.int .i64 s.X.cf.sl) ∧ w'.cell? ⟨W, 4, none⟩ = some (.slice v.A np v.a) ∧ w'.cell? ⟨W, 5, none⟩ = some (.slice A2 nt c2) ∧ w'.cell? ⟨W, 6, none⟩ = some (.slice v.C nb v.c) ∧ w'.cell? ⟨M, 0, none⟩ = some (.int .i64 t.X.cf.ps) ∧ w'.cell? ⟨M, 1, none⟩ = some (.int .i64 t.X.cf.ts) ∧ w'.cell? ⟨M, 2, none⟩ = some (.int .i64 t.X.cf.bs) ∧ w'.cell? ⟨M, 3, none⟩ = some (.int .i64 t.X.cf.sl) ∧ w'.cell? ⟨M, 4, none⟩ = some (.slice t.A mp t.a) ∧ w'.cell? ⟨M, 5, none⟩ = some (.slice t.B mt t.b) ∧ w'.cell? ⟨M, 6, none⟩ = some (.slice t.C mb t.c)) [] (by kernel_rfl) (KD.out _ (Below.refl _ _).drew) (fun hHeld0 => ?_)
             refine tk (i := 0) [] (v := ?_) ?_ ?_
             rotate_left 1
             · (intro w hSw; obtain ⟨m0', m1', m2', m3', m4', m5', m6', m7', m8', m9', m10', m11', m12', m13', m14', m15', m16', m17', m18', m19', m20'⟩ := hSw; go_simp; try (with_reducible rfl))
             (try walk_nrm)
             refine tk (i := 2) [] (v := ?_) ?_ ?_
             rotate_left 1
             · (intro w hSw; obtain ⟨m0', m1', m2', m3', m4', m5', m6', m7', m8', m9', m10', m11', m12', m13', m14', m15', m16', m17', m18', m19', m20'⟩ := hSw; go_simp; try (with_reducible rfl))
             (try walk_nrm)
             refine wpAnyX_one 1 (by kernel_rfl) rfl (fun K hK => ?_)
             go_simp
             go_wp2_with (refine (COs.out wz.drew (HSz.out.next (Below.refl wz.heap.size wz).drew) (by have h9 := (Below.refl wz.heap.size wz).drew.size; omega)).mono ?_; rintro e v1' ⟨bv1, y1, hyX1, hyS1, rfl⟩; replace hyX1 := Lib.hid hyX1)
             have BV1 := (Below.refl wz.heap.size wz).drew.trans (bv1.mono (Below.refl wz.heap.size wz).drew.size)
             refine hK.out _ _ (.inr (KD.out _ BV1)) ?_
             have hHeld1 := KD.out _ BV1
             clear hK K
             (try walk_nrm)
             refine wpAnyX_one 3 (by kernel_rfl) rfl (fun K hK => ?_)
             go_simp
             go_wp2_with (refine (CS.out y1 v1' hyS1 (HV2z.out.next BV1) (by rw [HV2X.out, hyX1.out])).mono ?_; rintro e v2' ⟨rfl, bv2⟩)
             have BV2 := BV1.trans (bv2.mono BV1.size)
             refine hK.out _ _ (.inr (KD.out _ BV2)) ?_
             have hHeld2 := KD.out _ BV2
             clear hK K
             (try walk_nrm)
             refine tk (i := 4) [] (v := ?_) ?_ ?_
             rotate_left 1
             · (intro w hSw; obtain ⟨m0', m1', m2', m3', m4', m5', m6', m7', m8', m9', m10', m11', m12', m13', m14', m15', m16', m17', m18', m19', m20'⟩ := hSw; go_simp; try (with_reducible rfl))
             (try walk_nrm)
             refine tk (i := 5) [] (v := ?_) ?_ ?_
             rotate_left 1
             · (intro w hSw; obtain ⟨m0', m1', m2', m3', m4', m5', m6', m7', m8', m9', m10', m11', m12', m13', m14', m15', m16', m17', m18', m19', m20'⟩ := hSw; go_simp; try (with_reducible rfl))
             (try walk_nrm)
             refine tk (i := 6) [] (v := ?_) ?_ ?_
             rotate_left 1
             · (intro w hSw; obtain ⟨m0', m1', m2', m3', m4', m5', m6', m7', m8', m9', m10', m11', m12', m13', m14', m15', m16', m17', m18', m19', m20'⟩ := hSw; go_simp; try (with_reducible rfl))
             (try walk_nrm)
             refine tk (i := 7) [] (v := ?_) ?_ ?_
             rotate_left 1
             · (intro w hSw; obtain ⟨m0', m1', m2', m3', m4', m5', m6', m7', m8', m9', m10', m11', m12', m13', m14', m15', m16', m17', m18', m19', m20'⟩ := hSw; go_simp; try (with_reducible rfl))
             (try walk_nrm)
             refine tk (i := 8) [] (v := ?_) ?_ ?_
             rotate_left 1
             · (intro w hSw; obtain ⟨m0', m1', m2', m3', m4', m5', m6', m7', m8', m9', m10', m11', m12', m13', m14', m15', m16', m17', m18', m19', m20'⟩ := hSw; go_simp; try (with_reducible rfl))
             (try walk_nrm)
             refine tk (i := 9) [] (v := ?_) ?_ ?_
             rotate_left 1
             · (intro w hSw; obtain ⟨m0', m1', m2', m3', m4', m5', m6', m7', m8', m9', m10', m11', m12', m13', m14', m15', m16', m17', m18', m19', m20'⟩ := hSw; go_simp; try (with_reducible rfl))
             (try walk_nrm)
             refine tk (i := 11) [] (v := ?_) ?_ ?_
             rotate_left 1
             · (intro w hSw; obtain ⟨m0', m1', m2', m3', m4', m5', m6', m7', m8', m9', m10', m11', m12', m13', m14', m15', m16', m17', m18', m19', m20'⟩ := hSw; go_simp; try (with_reducible rfl))
             (try walk_nrm)
             refine wpAnyX_one 10 (by kernel_rfl) rfl (fun K hK => ?_)
             go_simp
             go_wp2_with (refine (COt.out v2' (HT.out.next BV2) (by have h9 := BV2.size; omega)).mono ?_; rintro e v3' ⟨bv3, y3, hyX3, hyS3, rfl⟩; replace hyX3 := Lib.hid hyX3)
             have BV3 := BV2.trans (bv3.mono BV2.size)
             refine hK.out _ _ (.inr (KD.out _ BV3)) ?_
             have hHeld3 := KD.out _ BV3
             clear hK K
             (try walk_nrm)
             refine wpAnyX_one 12 (by kernel_rfl) rfl (fun K hK => ?_)
             go_simp
             go_wp2_with (refine (CS.out y3 v3' hyS3 (HV2z.out.next BV3) (by rw [HV2X.out, hyX3.out, HTX.out he])).mono ?_; rintro e v4' ⟨rfl, bv4⟩)
             have BV4 := BV3.trans (bv4.mono BV3.size)
             refine hK.out _ _ (.inr (KD.out _ BV4)) ?_
             have hHeld4 := KD.out _ BV4
             clear hK K
             (try walk_nrm)
             refine tk (i := 13) [] (v := ?_) ?_ ?_
             rotate_left 1
             · (intro w hSw; obtain ⟨m0', m1', m2', m3', m4', m5', m6', m7', m8', m9', m10', m11', m12', m13', m14', m15', m16', m17', m18', m19', m20'⟩ := hSw; go_simp; try (with_reducible rfl))
             (try walk_nrm)
             refine tk (i := 14) [] (v := ?_) ?_ ?_
             rotate_left 1
             · (intro w hSw; obtain ⟨m0', m1', m2', m3', m4', m5', m6', m7', m8', m9', m10', m11', m12', m13', m14', m15', m16', m17', m18', m19', m20'⟩ := hSw; go_simp; try (with_reducible rfl))
             (try walk_nrm)
             refine tk (i := 15) [] (v := ?_) ?_ ?_
             rotate_left 1
             · (intro w hSw; obtain ⟨m0', m1', m2', m3', m4', m5', m6', m7', m8', m9', m10', m11', m12', m13', m14', m15', m16', m17', m18', m19', m20'⟩ := hSw; go_simp; try (with_reducible rfl))
             (try walk_nrm)
             refine wpAnyX_done (by kernel_rfl) ?_ _
             go_wp2_with fail
             go_meet
             exact ⟨rfl, BV4⟩
            case rest =>
             obtain ⟨rfl, b6⟩ := hcut
             obtain ⟨wq, rfl⟩ : ∃ z, z = wc := ⟨_, rfl⟩
             have HN6 := Lib.hid (HNz.out.below b6 lNz)
             have HM6 := Lib.hid (HWM.out.below b6 lMz)
             have HT6 := Lib.hid (show SAt (fun k => k ≠ N) wq t from sat_weak (HT.out.next b6))
             have HB6 := Lib.hid (HBz.out.trans (b6.mono HBz.out.size))
             clear b6 g0 g1 g2 g3 g4 g5 g6 v0 v1 v2 v3 v4 v5 v6 z0 z1 z2 z3 z4 z5 z6 KD COs COt CS HNz HWz HSz HV2z HBz HT HWM
             have g0 : wq.cell? ⟨N, 0, none⟩ = some (.int .i64 s.X.cf.ps) := (HN6.out.cell 0).trans (by rw [← HSM.out]; rfl)
             have g1 : wq.cell? ⟨N, 1, none⟩ = some (.int .i64 s.X.cf.ts) := (HN6.out.cell 1).trans (by rw [← HSM.out]; rfl)
             have g2 : wq.cell? ⟨N, 2, none⟩ = some (.int .i64 s.X.cf.bs) := (HN6.out.cell 2).trans (by rw [← HSM.out]; rfl)
             have g3 : wq.cell? ⟨N, 3, none⟩ = some (.int .i64 s.X.cf.sl) := (HN6.out.cell 3).trans (by rw [← HSM.out]; rfl)
             have g4 : wq.cell? ⟨N, 4, none⟩ = some (.slice s.A np s.a) := (HN6.out.cell 4).trans (by rw [← HSM.out]; rfl)
             have g5 : wq.cell? ⟨N, 5, none⟩ = some (.slice s.B nt s.b) := (HN6.out.cell 5).trans (by rw [← HSM.out]; rfl)
             have g6 : wq.cell? ⟨N, 6, none⟩ = some (.slice s.C nb s.c) := (HN6.out.cell 6).trans (by rw [← HSM.out]; rfl)
             have z0 : wq.cell? ⟨M, 0, none⟩ = some (.int .i64 t.X.cf.ps) := (HM6.out.cell 0).trans (by rw [← HTM.out]; rfl)
             have z1 : wq.cell? ⟨M, 1, none⟩ = some (.int .i64 t.X.cf.ts) := (HM6.out.cell 1).trans (by rw [← HTM.out]; rfl)
             have z2 : wq.cell? ⟨M, 2, none⟩ = some (.int .i64 t.X.cf.bs) := (HM6.out.cell 2).trans (by rw [← HTM.out]; rfl)
             have z3 : wq.cell? ⟨M, 3, none⟩ = some (.int .i64 t.X.cf.sl) := (HM6.out.cell 3).trans (by rw [← HTM.out]; rfl)
             have z4 : wq.cell? ⟨M, 4, none⟩ = some (.slice t.A mp t.a) := (HM6.out.cell 4).trans (by rw [← HTM.out]; rfl)
             have z5 : wq.cell? ⟨M, 5, none⟩ = some (.slice t.B mt t.b) := (HM6.out.cell 5).trans (by rw [← HTM.out]; rfl)
             have z6 : wq.cell? ⟨M, 6, none⟩ = some (.slice t.C mb t.c) := (HM6.out.cell 6).trans (by rw [← HTM.out]; rfl)
             have lM6 := HM6.out.lt
             go_upto_region 25 with fail
             have f0 := HN6.out.free 0
             have f1 := HN6.out.free 1
             have f2 := HN6.out.free 2
             have f3 := HN6.out.free 3
             have f4 := HN6.out.free 4
             have f5 := HN6.out.free 5
             have f6 := HN6.out.free 6
             have lNz := HN6.out.lt
             go_wp2_with fail
             go_roundw
             case rel =>
              have HFW : Whole (sets7 wq N (.int .i64 t.X.cf.ps) (.int .i64 t.X.cf.ts) (.int .i64 t.X.cf.bs) (.int .i64 t.X.cf.sl) (.slice t.A mp t.a) (.slice t.B mt t.b) (.slice t.C mb t.c)) N 31 (smA t) := by rw [← HTM.out]; exact sets7_whole HN6.out rfl
              have HFS : SAt (fun k => k ≠ N) (sets7 wq N (.int .i64 t.X.cf.ps) (.int .i64 t.X.cf.ts) (.int .i64 t.X.cf.bs) (.int .i64 t.X.cf.sl) (.slice t.A mp t.a) (.slice t.B mt t.b) (.slice t.C mb t.c)) t := sets7_sat HT6.out (fun h => h rfl)
              have HFB : Below w.heap.size w (sets7 wq N (.int .i64 t.X.cf.ps) (.int .i64 t.X.cf.ts) (.int .i64 t.X.cf.bs) (.int .i64 t.X.cf.sl) (.slice t.A mp t.a) (.slice t.B mt t.b) (.slice t.C mb t.c)) := sets7_below HB6.out hlo
              exact ⟨k + 1, t, by omega, by go_num, Lib.hid HFW, Lib.hid HFS, Lib.hid HFB⟩
             case measure => simp [intOf]; omega
    · obtain rfl : n = k := by omega
      have HBE := HB
      clear HB
      go_wp2_with fail
      go_ret
      exact ⟨rfl, HBE.out⟩

set_option maxRecDepth 100000 in
theorem lifted (os : Os) (started : os.Started) (H : Type) (enc : TypeId × Value → H) :
 ReturnsInHanded {} Try.checked os 5 .any (Rows.deltaNoneSpec.pre6 enc Try.prog Try.f5 Rows.deltaNoneRow.domain false) (Rows.deltaNoneSpec.post enc Try.prog Try.f5 false true false false) := by
 refine returnsInHanded_of_change (C := Try.checked) own started (by kernel_rfl) Try.func5
  (ChangeSpec.witness6 (enc := enc) (C := Try.checked) false ⟨#[], #[.agg #[.int .i64 0, .int .i64 0, .int .i64 0, .int .i64 0], .slice none 0 0], []⟩ 8 (by kernel_rfl) (by kernel_rfl) (by kernel_rfl) (by kernel_rfl)) ?_
 intro W base args ds gs before hval0 hW _ _
 have hval : ∀ (j : Nat) t v, Try.f5.params[j]? = some t → args[j]? = some v → Value.okWide Try.prog W .any base t v := hval0
 have hW' := hW
 obtain ⟨p, q, hA0, hV, _, _, _⟩ := hW
 have hA : DataW.TrodAll enc Try.prog W 0 (fun _ => true) true Try.f5.params.toList args.toList ds p := hA0
 rw [Try.params5] at hA hval
 obtain ⟨v0, vs0, d0, ds0, p0, q0, hargs, rfl, _, h0, r0⟩ := trodAll_cons hA
 obtain ⟨v1, vs1, d1, ds1, p1, q1, rfl, rfl, _, h1, r1⟩ := trodAll_cons r0
 obtain ⟨rfl, rfl, _⟩ := trodAll_nil r1
 obtain rfl : args = #[v0, v1] := by cases args; simp_all
 obtain ⟨rfl, _⟩ := trodVars_none hV
 refine law_post (s := Rows.deltaNoneSpec) rfl rfl (by rw [Try.params5]; intro t ht; simp at ht; rcases ht with rfl | rfl <;> exact ⟨by kernel_rfl, of_decide_eq_true (by kernel_rfl)⟩) rfl hW' ?_
 obtain ⟨cf0, rfl, tr0⟩ := open_conf (hval 0 23 v0 rfl rfl) h0
 obtain ⟨A1, c1, l1, rfl, hl1, hr1, ho1⟩ := open_reqs (hval 1 24 v1 rfl rfl) h1
 exact walk W cf0 tr0 A1 c1 l1 hl1 hr1 ho1

theorem over : Rows.deltaNoneRow.holds Try.pinned (OpenSpec.ofChange Rows.deltaNoneSpec) :=
 OpenClaim.holds_of_wide 5 Try.f5 rfl rfl rfl rfl rfl rfl rfl ⟨rfl, rfl, rfl, rfl, rfl⟩ rfl rfl rfl rfl rfl (by kernel_rfl) Try.func5 (by kernel_rfl)
  (of_decide_eq_true (by kernel_rfl)) (by unfold Func.isWrapper; first | (rw [if_pos (by decide +kernel)]; kernel_rfl) | (rw [if_neg (by decide +kernel)]; exact ⟨rfl, rfl⟩))
  (fun os started H enc _ => lifted os started H enc)

/-- The statement. -/
theorem deltaNone_holds : Rows.DeltaNoneSaid := over

end Go.Proofs.Ytmmeceehfdbdoaa.LNone
