/-
  Contracts of the document's answers of layer 4 (louverref04) that make a row: Start, End.
-/
import Derived.Test.YtpbenlbkfabdoaaDedR
import Derived.Laws.OwnMore
namespace Go.Proofs.Ytpbenlbkfabdoaa
open Go.RowKit

theorem info_E : (Try.prog.info? 53).map (fun i => (i.zero, i.size, i.bytes)) = some (some (.agg #[.int .u64 0, .string ⟨#[]⟩, .bool false]), 3, 32) := by kernel_rfl

theorem own_at {w : World} {base : Nat} {e : TypeId} {z n : Nat} {A : Option Addr} {c : Nat} {xs : List Value} (h : w.ownsRow base e z (.slice A n c) n xs) (hn : 0 < n) :
    ∃ g cur, A = some ⟨g, 0, none⟩ ∧ base ≤ g ∧ g < w.heap.size ∧ w.heap[g]? = some (.cells cur e (0, 0)) ∧ cur.size = c * z ∧ ∀ j u, xs[j]? = some u → w.cell? ⟨g, j, none⟩ = some u := by
  have h2 := h.2
  rcases h2 with ⟨hv, h0⟩ | ⟨g, cap, cur, hv, hb, hg, _, _, hs, _⟩
  · omega
  · injection hv with hA _ hc
    subst hA
    subst hc
    refine ⟨g, cur, rfl, hb, (Array.getElem?_eq_some_iff.1 hg).1, hg, hs, fun j u hu => ?_⟩
    have := h.cells (g := g) rfl j u hu
    rwa [Addr.add_lit, Nat.zero_add] at this

/-- The document's row is a row of the call's own. -/
theorem refE_own {w : World} {base : Nat} {e : TypeId} {A : Option Addr} {c : Nat} {l : List Ent} {P : Nat → Prop} (h : w.ownsRow base e 3 (.slice A l.length c) l.length (entC l)) (hP : ∀ b, base ≤ b → P b) : RefE w P A c l :=
  ⟨(own_cap h).1, (own_cap h).2, Row.of_own h, fun a ha => ⟨by subst ha; exact (h.lt a.block rfl).2, hP _ (own_lo h a ha)⟩⟩

set_option maxRecDepth 100000 in
set_option maxHeartbeats 1600000 in
theorem refStart_none (A : Option Addr) (c : Nat) (l : List Ent) (N : Nat) (k : Int) (P : Nat → Prop) (w : World) (h : RefE w P A c l) (hf : fnd l k = none) (hll : l.length ≤ 4096) (hN1 : 1 ≤ N) (hlN : l.length ≤ N) (hP : ∀ b, w.heap.size ≤ b → P b) :
    Calls Try.prog 12 #[.agg #[.slice A l.length c, .int .i64 N], .int .u64 k] w (RLeaves N (startL N l k).1 (startL N l k).2 P w) := by
  have hl := Nat.le_trans h.1 h.2.1
  unfold maxLen at hl
  have b2 := ((Below.refl w.heap.size w).alloc (Nat.le_refl _) (.cells #[.slice A l.length c, .int .i64 N] 28)).alloc (by simp) (.cells #[.slice none 0 0, .int .i64 0] 28)
  have hw1 := (Whole.new w 28 #[.slice A l.length c, .int .i64 N]).alloc (.cells #[.slice none 0 0, .int .i64 0] 28)
  have hw2 := Whole.new2 w (.cells #[.slice A l.length c, .int .i64 N] 28) 28 #[.slice none 0 0, .int .i64 0]
  have H1 := Lib.hid (h.next b2)
  have HW1 := Lib.hid hw1
  have HW2 := Lib.hid hw2
  have HB := Lib.hid b2
  have H := Lib.hid h
  have HPP := Lib.hid hP
  have HST := Lib.hid (show ∀ w', RLeaves N (startL N l k).1 (startL N l k).2 P w w' = RLeaves N (startL N l k).1 (startL N l k).2 P w w' from fun _ => rfl)
  clear h hw1 hw2 b2 hP HST
  go_enter Try.func12, Try.ntmps12
  go_wp2_with fail
  refine (reffind_any A c l N k P _ H1.out).mono ?_
  rintro e w2 ⟨r, rfl, hr, b2⟩
  have v1 := HW1.out.below b2 HW1.out.lt
  have v2 := HW2.out.below b2 HW2.out.lt
  have hB := bnext HB.out b2
  have hE := (H1.out.next b2).2.2.1
  have c0 := v1.cell 0
  have hz2 : w.heap.size + 2 ≤ w2.heap.size := by have := v2.lt; omega
  rcases hr with ⟨rfl, hf'⟩ | ⟨i, y, rfl, _, _, hf'⟩
  rotate_left
  · rw [hf] at hf'; cases hf'
  clear hf'
  clear b2 H1 HW1 HW2 HB
  have HF := Lib.hid hf
  clear hf
  go_wp2_with (at_builtin; refine wpl_append _ rfl (.tmp 12) (.tmp 14) 26 rfl (w.heap.size + 2) 53 (.agg #[.int .u64 0, .string ⟨#[]⟩, .bool false]) 3 32 Try.underlying26 info_E rfl (by decide) _ 0 [] rfl (World.ownsRow_nil _ _ _ _) _ _ l.length c _ rfl hE (entC_one l) ?c1 ?c2 ?c3 ?_)
  case c1 => unfold maxLen; omega
  case c2 => omega
  case c3 => omega
  intro v3 w3 hown3 hg3 _
  replace v1 := v1.grown hg3 (by simp [Value.ownBlock])
  replace v2 := v2.grown hg3 (by simp [Value.ownBlock])
  replace hB := hB.grown hg3 (by omega) (fun q hq => by simp [Value.ownBlock] at hq)
  have hz3 : w.heap.size + 2 ≤ w3.heap.size := by have := hg3.size; omega
  obtain ⟨A3, c3, rfl⟩ := own_form hown3
  have hcap := own_cap hown3
  clear hg3 hE c0 hz2
  have c0 := v1.cell 0
  have c1 := v1.cell 1
  have d0 := v2.cell 0
  have d1 := v2.cell 1
  have f0 := v1.free 0
  have f1 := v2.free 0
  have f2 := v2.free 1
  by_cases hlt : l.length < N
  · have ht : ¬ (N : Int) ≤ (l.length : Int) := by omega
    have hst : startL N l k = (0, l ++ [fresh k]) := by unfold startL; rw [HF.out]; dsimp only; rw [if_pos hlt]
    go_wp2_with (at_builtin; refine wpl_append _ rfl (.tmp 29) (.tmp 32) 26 rfl (w.heap.size + 2) 53 (.agg #[.int .u64 0, .string ⟨#[]⟩, .bool false]) 3 32 Try.underlying26 info_E rfl (by decide) _ _ _ rfl (hown3.alloc _) _ _ 1 1 [.int .u64 k, .string ⟨#[]⟩, .bool false] rfl (Row.fresh w3 53 #[.int .u64 k, .string ⟨#[]⟩, .bool false] 3 1 _ rfl rfl) (by simp [Value.oneCell']) ?d1 ?d2 ?d3 ?_)
    case d1 => unfold maxLen; omega
    case d2 => omega
    case d3 => first | omega | (simp; omega)
    intro v4 w4 hown4 hg4 _
    have hfar := fun q hq => (hown3.lt q hq).1
    replace v1 := (v1.alloc _).grown hg4 (fun e => by have := hfar _ e.symm; omega)
    replace v2 := (v2.alloc _).grown hg4 (fun e => by have := hfar _ e.symm; omega)
    have b4 := (hB.alloc (by omega) _).grown hg4 (by simp; omega) (fun q hq => by have := hfar q hq; omega)
    obtain ⟨A4, c4, rfl⟩ := own_form hown4
    clear c0 c1 d0 d1 f0 f1 f2
    have c0 := v1.cell 0
    have c1 := v1.cell 1
    have d0 := v2.cell 0
    have d1 := v2.cell 1
    have f0 := v1.free 0
    have f1 := v2.free 0
    have f2 := v2.free 1
    have hfin : ∀ u1 u2 u3, RLeaves N (startL N l k).1 (startL N l k).2 P w (.returned (.tuple #[.agg #[.slice A4 (l.length + 1) c4, .int .i64 N], .int .i64 0])) (((w4.setCell ⟨w.heap.size, 0, none⟩ u1).setCell ⟨w.heap.size + 1, 0, none⟩ u2).setCell ⟨w.heap.size + 1, 1, none⟩ u3) := by
      intro u1 u2 u3
      rw [hst]
      have hown5 := ownsRow_setCell_below (ownsRow_setCell_below (ownsRow_setCell_below hown4 (a := ⟨w.heap.size, 0, none⟩) (by simp) u1) (a := ⟨w.heap.size + 1, 0, none⟩) (by simp) u2) (a := ⟨w.heap.size + 1, 1, none⟩) (by simp) u3
      refine ⟨A4, c4, by simp, refE_own (base := w.heap.size + 2) (e := 53) ?_ (fun b hb => HPP.out b (by omega)), ((b4.setCell (by simp) _).setCell (by simp) _).setCell (by simp) _⟩
      rw [entC_append, List.length_append]
      exact hown5
    have HFin := Lib.hid hfin
    clear hst hfin hown3 hown4 hg4 hfar b4 v1 v2 hB
    go_wp2
    refine bodyPost_ret (v := .tuple #[.agg #[.slice A4 (l.length + 1) c4, .int .i64 N], .int .i64 0]) (by simp [results, Try.results12, go_sem, d0, d1]) rfl (HFin.out _ _ _)
  · have ht : (N : Int) ≤ (l.length : Int) := by omega
    cases l with
    | nil => simp at hlt; omega
    | cons x t =>
      obtain ⟨g3, cur, rfl, hb3, hl3, hg3, hcs, hcell⟩ := own_at hown3 (by simp)
      have e2 := hcell 2 (.bool x.done) rfl
      rw [List.length_cons] at hlN hll hl hlt hcap ht
      cases hd : x.done with
      | false =>
        rw [hd] at e2
        have hst : startL N (x :: t) k = (20, x :: t) := by unfold startL; rw [HF.out]; dsimp only; rw [if_neg (by rw [List.length_cons]; omega), if_neg (by simp [hd])]
        have hfin : ∀ u2 u3, RLeaves N (startL N (x :: t) k).1 (startL N (x :: t) k).2 P w (.returned (.tuple #[.agg #[.slice A (t.length + 1) c, .int .i64 N], .int .i64 20])) ((w3.setCell ⟨w.heap.size + 1, 0, none⟩ u2).setCell ⟨w.heap.size + 1, 1, none⟩ u3) := by
          intro u2 u3
          rw [hst]
          exact ⟨A, c, rfl, H.out.next ((hB.setCell (by simp) _).setCell (by simp) _), (hB.setCell (by simp) _).setCell (by simp) _⟩
        have HFin := Lib.hid hfin
        have hi0 : (0 : Int) < ((t.length + 1 : Nat) : Int) := by omega
        clear hst hfin v1 v2 hB hown3 hcell hg3 hcs hd HF H HPP
        go_wp2
        exact bodyPost_ret (v := .tuple #[.agg #[.slice A (t.length + 1) c, .int .i64 N], .int .i64 20]) (by simp [results, Try.results12, go_sem, d0, d1]) rfl (HFin.out _ _)
      | true =>
        rw [hd] at e2
        have hst : startL N (x :: t) k = (0, t ++ [fresh k]) := by unfold startL; rw [HF.out]; dsimp only; rw [if_neg (by rw [List.length_cons]; omega), if_pos hd]
        have hcons : entC (x :: t) = x.cells ++ entC t := by simp [entC]
        have hi0 : (0 : Int) < ((t.length + 1 : Nat) : Int) := by omega
        have hct : ∀ j u, (entC t)[j]? = some u → w3.cell? ⟨g3, 3 + j, none⟩ = some u := by
          intro j u hu
          refine hcell (3 + j) u ?_
          rw [hcons, List.getElem?_append_right (by show 3 ≤ 3 + j; omega), show 3 + j - x.cells.length = j by show 3 + j - 3 = j; omega]
          exact hu
        have hentl := entC_length t
        have HC := Lib.hid hct
        have HS := Lib.hid hst
        have HH := Lib.hid hg3
        have hlt3 : g3 ≠ w.heap.size := by omega
        have hlt4 : g3 ≠ w.heap.size + 1 := by omega
        have HB := Lib.hid hB
        have V1 := Lib.hid v1
        have V2 := Lib.hid v2
        have hfin : ∀ A4 c4 w4, t.length + 1 ≤ c4 → c4 ≤ maxLen → Row w4 w4.heap.size 3 A4 (t.length + 1) (entC t ++ [.int .u64 k, .string ⟨#[]⟩, .bool false]) → (∀ q, A4 = some q → q.block = g3 ∨ w3.heap.size + 1 ≤ q.block) → (∀ q, A4 = some q → q.block < w4.heap.size) → Below w.heap.size w w4 → ∀ u1 u2 u3,
            RLeaves N (startL N (x :: t) k).1 (startL N (x :: t) k).2 P w (.returned (.tuple #[.agg #[.slice A4 (t.length + 1) c4, .int .i64 N], .int .i64 0])) (((w4.setCell ⟨w.heap.size, 0, none⟩ u1).setCell ⟨w.heap.size + 1, 0, none⟩ u2).setCell ⟨w.heap.size + 1, 1, none⟩ u3) := by
          intro A4 c4 w4 g1 g2 g4 g5 g6 g7 u1 u2 u3
          rw [hst]
          have e0 : (t ++ [fresh k]).length = t.length + 1 := by simp
          have e1 : entC (t ++ [fresh k]) = entC t ++ [.int .u64 k, .string ⟨#[]⟩, .bool false] := by rw [entC_append]; rfl
          have r0 : RefE w4 (fun b => w.heap.size + 2 ≤ b) A4 c4 (t ++ [fresh k]) := by
            refine ⟨by rw [e0]; exact g1, g2, by rw [e0, e1]; exact g4, fun q hq => ⟨g6 q hq, ?_⟩⟩
            rcases g5 q hq with h | h <;> omega
          refine ⟨A4, c4, by rw [e0], (((r0.set (p := ⟨w.heap.size, 0, none⟩) (by simp) u1).set (p := ⟨w.heap.size + 1, 0, none⟩) (by simp) u2).set (p := ⟨w.heap.size + 1, 1, none⟩) (by simp) u3).weak (fun b _ hb => HPP.out b (by omega)), ((g7.setCell (by simp) _).setCell (by simp) _).setCell (by simp) _⟩
        have HFin := Lib.hid hfin
        clear hfin hst hct hg3 hown3 hcell hcons v1 v2 hB hd HF H HPP
        have HGA := Lib.hid (fun o : Obj => (Below.heap_alloc w3 o g3 hl3).trans HH.out)
        have hnew : ∀ j u, ([.int .u64 k, .string ⟨#[]⟩, .bool false] : List Value)[j]? = some u → (w3.alloc (.cells #[.int .u64 k, .string ⟨#[]⟩, .bool false] 53)).cell? ((⟨w3.heap.size, 0, none⟩ : Addr).add j) = some u := by
          intro j u hu
          rw [Addr.add_lit, Nat.zero_add, World.cell?_alloc_new]
          simpa using hu
        have HNEW := Lib.hid hnew
        clear hnew
        by_cases hc : c3 = 1
        · have ht0 : t.length = 0 := by omega
          obtain rfl : t = [] := List.eq_nil_of_length_eq_zero ht0
          subst hc
          clear ht0 hentl
          go_wp2_with (at_builtin; refine wpl_append_tail _ rfl (.tmp 29) (.tmp 32) 26 rfl 53 (.agg #[.int .u64 0, .string ⟨#[]⟩, .bool false]) 3 32 Try.underlying26 info_E rfl (by decide) g3 0 0 0 cur rfl (HGA.out _) ?a1 ?a2 ?a3 [] rfl ?a4 ⟨w3.heap.size, 0, none⟩ 1 1 [.int .u64 k, .string ⟨#[]⟩, .bool false] rfl rfl HNEW.out (by simp [Value.oneCell']) (by decide) ?a5 ?a6 ?_)
          case a1 => intro h0; omega
          case a2 => omega
          case a3 => unfold maxLen at *; omega
          case a4 => intro j u hu; simp at hu
          case a5 => unfold maxLen; omega
          case a6 => omega
          intro A4 c4 w4 g1 g2 g4 g5 g6 hgrow
          have v1 := (V1.out.alloc _).grown hgrow (by simp; omega)
          have v2 := (V2.out.alloc _).grown hgrow (by simp; omega)
          have b4 := (HB.out.alloc (by omega) _).grown hgrow (by simp; omega) (fun q hq => by injection hq with hq; omega)
          clear c0 c1 d0 d1 f0 f1 f2
          have c0 := v1.cell 0
          have c1 := v1.cell 1
          have d0 := v2.cell 0
          have d1 := v2.cell 1
          have f0 := v1.free 0
          have f1 := v2.free 0
          have f2 := v2.free 1
          have HR := Lib.hid (HFin.out A4 c4 w4 (by simpa using g1) g2 g4 (fun q hq => by have := g5 q hq; simpa using this) g6 b4)
          clear hgrow b4 v1 v2 HB V1 V2 HFin g1 g4 g5 g6
          go_wp2
          exact bodyPost_ret (v := .tuple #[.agg #[.slice A4 (1) c4, .int .i64 N], .int .i64 0]) (by simp [results, Try.results12, go_sem, d0, d1]) rfl (HR.out _ _ _)
        · have hcap1 := hcap.1
          have hcap2 := hcap.2
          clear hcap
          go_wp2_with (at_builtin; refine wpl_append_tail _ rfl (.tmp 29) (.tmp 32) 26 rfl 53 (.agg #[.int .u64 0, .string ⟨#[]⟩, .bool false]) 3 32 Try.underlying26 info_E rfl (by decide) g3 3 t.length (c3 - 1) cur rfl (HGA.out _) ?b1 ?b2 ?b3 (entC t) hentl ?b4 ⟨w3.heap.size, 0, none⟩ 1 1 [.int .u64 k, .string ⟨#[]⟩, .bool false] rfl rfl HNEW.out (by simp [Value.oneCell']) (by decide) ?b5 ?b6 ?_)
          case b1 => intro _; omega
          case b2 => omega
          case b3 => unfold maxLen at *; omega
          case b4 => intro j u hu; exact (((Below.refl w3.heap.size w3).alloc (Nat.le_refl _) _).cell (p := ⟨g3, 3 + j, none⟩) hl3).trans (HC.out j u hu)
          case b5 => unfold maxLen; omega
          case b6 => omega
          intro A4 c4 w4 g1 g2 g4 g5 g6 hgrow
          have v1 := (V1.out.alloc _).grown hgrow (by simp; omega)
          have v2 := (V2.out.alloc _).grown hgrow (by simp; omega)
          have b4 := (HB.out.alloc (by omega) _).grown hgrow (by simp; omega) (fun q hq => by injection hq with hq; omega)
          clear c0 c1 d0 d1 f0 f1 f2
          have c0 := v1.cell 0
          have c1 := v1.cell 1
          have d0 := v2.cell 0
          have d1 := v2.cell 1
          have f0 := v1.free 0
          have f1 := v2.free 0
          have f2 := v2.free 1
          have HR := Lib.hid (HFin.out A4 c4 w4 g1 g2 g4 (fun q hq => by have := g5 q hq; simpa using this) g6 b4)
          clear hgrow b4 v1 v2 HB V1 V2 HFin g1 g4 g5 g6
          go_wp2
          exact bodyPost_ret (v := .tuple #[.agg #[.slice A4 (t.length + 1) c4, .int .i64 N], .int .i64 0]) (by simp [results, Try.results12, go_sem, d0, d1]) rfl (HR.out _ _ _)

/-- Start, of any row. -/
theorem refStart_any (A : Option Addr) (c : Nat) (l : List Ent) (N : Nat) (k : Int) (P : Nat → Prop) (w : World) (h : RefE w P A c l) (hll : l.length ≤ 4096) (hN1 : 1 ≤ N) (hlN : l.length ≤ N) (hP : ∀ b, w.heap.size ≤ b → P b) :
    Calls Try.prog 12 #[.agg #[.slice A l.length c, .int .i64 N], .int .u64 k] w (RLeaves N (startL N l k).1 (startL N l k).2 P w) := by
  cases hf : fnd l k with
  | none => exact refStart_none A c l N k P w h hf hll hN1 hlN hP
  | some x =>
    have := refStart_there A c l N k P w h hf
    unfold startL
    rw [hf]
    exact this

set_option maxRecDepth 100000 in
set_option maxHeartbeats 1600000 in
theorem refEnd_any (A : Option Addr) (c : Nat) (l : List Ent) (N : Nat) (k : Int) (s : ByteArray) (P : Nat → Prop) (w : World) (h : RefE w P A c l) (hap : IdsApart l) (hll : l.length ≤ 4096) (hP : ∀ b, w.heap.size ≤ b → P b) :
    Calls Try.prog 10 #[.agg #[.slice A l.length c, .int .i64 N], .int .u64 k, .string s] w (RLeaves N (endL l k s).1 (endL l k s).2 P w) := by
  have hl := Nat.le_trans h.1 h.2.1
  unfold maxLen at hl
  have b2 := ((Below.refl w.heap.size w).alloc (Nat.le_refl _) (.cells #[.slice A l.length c, .int .i64 N] 28)).alloc (by simp) (.cells #[.slice none 0 0, .int .i64 0] 28)
  have hw1 := (Whole.new w 28 #[.slice A l.length c, .int .i64 N]).alloc (.cells #[.slice none 0 0, .int .i64 0] 28)
  have hw2 := Whole.new2 w (.cells #[.slice A l.length c, .int .i64 N] 28) 28 #[.slice none 0 0, .int .i64 0]
  have H1 := Lib.hid (h.next b2)
  have HW1 := Lib.hid hw1
  have HW2 := Lib.hid hw2
  have HB := Lib.hid b2
  have H := Lib.hid h
  have HPP := Lib.hid hP
  have HAP := Lib.hid hap
  clear h hw1 hw2 b2 hP hap
  go_enter Try.func10, Try.ntmps10
  go_wp2_with fail
  refine (reffind_any A c l N k P _ H1.out).mono ?_
  rintro e w2 ⟨r, rfl, hr, b2⟩
  have v1 := HW1.out.below b2 HW1.out.lt
  have v2 := HW2.out.below b2 HW2.out.lt
  have hB := bnext HB.out b2
  have H2 := Lib.hid (H1.out.next b2)
  have c0 := v1.cell 0
  have c1 := v1.cell 1
  have d0 := v2.cell 0
  have d1 := v2.cell 1
  have f0 := v1.free 0
  have f1 := v2.free 0
  have f2 := v2.free 1
  have hz2 : w.heap.size + 2 ≤ w2.heap.size := by have := v2.lt; omega
  have hstay : ∀ cc u2 u3, RLeaves N cc l P w (.returned (.tuple #[.agg #[.slice A l.length c, .int .i64 N], .int .i64 cc])) ((w2.setCell ⟨w.heap.size + 1, 0, none⟩ u2).setCell ⟨w.heap.size + 1, 1, none⟩ u3) := by
    intro cc u2 u3
    exact ⟨A, c, rfl, H.out.next ((hB.setCell (by simp) _).setCell (by simp) _), (hB.setCell (by simp) _).setCell (by simp) _⟩
  have HSt := Lib.hid hstay
  clear hstay b2 H1 HW1 HW2 HB
  rcases hr with ⟨rfl, hf⟩ | ⟨i, x, rfl, hx, hid, hf⟩
  · have hst : endL l k s = (21, l) := by unfold endL; rw [hf]
    have HF := Lib.hid (show ∀ u2 u3, RLeaves N (endL l k s).1 (endL l k s).2 P w (.returned (.tuple #[.agg #[.slice A l.length c, .int .i64 N], .int .i64 21])) ((w2.setCell ⟨w.heap.size + 1, 0, none⟩ u2).setCell ⟨w.heap.size + 1, 1, none⟩ u3) from by
      intro u2 u3
      rw [hst]
      exact HSt.out 21 u2 u3)
    clear hst hf HSt v1 v2 hB H2
    go_wp2
    exact bodyPost_ret (v := .tuple #[.agg #[.slice A l.length c, .int .i64 N], .int .i64 21]) (by simp [results, Try.results10, go_sem, d0, d1]) rfl (HF.out _ _)
  · subst hid
    obtain ⟨g, o, rfl, hg, _, _, _, e2⟩ := H2.out.at i x hx
    have hil := (List.getElem?_eq_some_iff.1 hx).1
    have hi1 : (0 : Int) ≤ (i : Int) := by omega
    have hi2 : (i : Int) < (l.length : Int) := by omega
    have hi3 : ¬ (i : Int) < 0 := by omega
    cases hd : x.done with
    | true =>
      rw [hd] at e2
      have hst : endL l x.id s = (23, l) := by unfold endL; rw [hf]; dsimp only; rw [if_pos hd]
      have HF := Lib.hid (show ∀ u2 u3, RLeaves N (endL l x.id s).1 (endL l x.id s).2 P w (.returned (.tuple #[.agg #[.slice (some ⟨g, o, none⟩) l.length c, .int .i64 N], .int .i64 23])) ((w2.setCell ⟨w.heap.size + 1, 0, none⟩ u2).setCell ⟨w.heap.size + 1, 1, none⟩ u3) from by
        intro u2 u3
        rw [hst]
        exact HSt.out 23 u2 u3)
      clear hst hf hd hx HSt v1 v2 hB H2
      go_wp2
      exact bodyPost_ret (v := .tuple #[.agg #[.slice (some ⟨g, o, none⟩) l.length c, .int .i64 N], .int .i64 23]) (by simp [results, Try.results10, go_sem, d0, d1]) rfl (HF.out _ _)
    | false =>
      rw [hd] at e2
      have hst : endL l x.id s = (0, upd l x.id s) := by unfold endL; rw [hf]; dsimp only; rw [if_neg (by simp [hd])]
      have hE := H2.out.2.2.1
      have HS := Lib.hid hst
      have HX := Lib.hid hx
      clear hst hf hd hx HSt
      go_wp2_with (at_builtin; refine wpl_append _ rfl (.tmp 23) (.tmp 25) 26 rfl (w.heap.size + 2) 53 (.agg #[.int .u64 0, .string ⟨#[]⟩, .bool false]) 3 32 Try.underlying26 info_E rfl (by decide) _ 0 [] rfl (World.ownsRow_nil _ _ _ _) _ _ l.length c _ rfl hE (entC_one l) ?c1 ?c2 ?c3 ?_)
      case c1 => unfold maxLen; omega
      case c2 => omega
      case c3 => omega
      intro v3 w3 hown3 hg3 _
      replace v1 := v1.grown hg3 (by simp [Value.ownBlock])
      replace v2 := v2.grown hg3 (by simp [Value.ownBlock])
      replace hB := hB.grown hg3 (by omega) (fun q hq => by simp [Value.ownBlock] at hq)
      have hz3 : w.heap.size + 2 ≤ w3.heap.size := by have := hg3.size; omega
      obtain ⟨A3, c3, rfl⟩ := own_form hown3
      have hcap := own_cap hown3
      have hcap1 := hcap.1
      have hcap2 := hcap.2
      clear hg3 hE c0 hz2 c1 d0 d1 f0 f1 f2 e2 hcap
      obtain ⟨g3, cur, rfl, hb3, hl3, hg3, hcs, hcell⟩ := own_at hown3 (by omega)
      have c0 := v1.cell 0
      have c1 := v1.cell 1
      have d0 := v2.cell 0
      have d1 := v2.cell 1
      have f0 := v1.free 0
      have f1 := v2.free 0
      have f2 := v2.free 1
      obtain ⟨q0, q1, q2⟩ := entC_at l i x HX.out
      have e0 := hcell _ _ q0
      have e1 := hcell _ _ q1
      have e2 := hcell _ _ q2
      have hfree : ∀ q, w3.frozen? ⟨g3, q, none⟩ = false := fun q => by simp [World.frozen?, hg3]
      have k0 := hfree (i * 3)
      have k1 := hfree (i * 3 + 1)
      have k2 := hfree (i * 3 + 2)
      have n1 : g3 ≠ w.heap.size := by omega
      have n2 : g3 ≠ w.heap.size + 1 := by omega
      have hentl := entC_length l
      have hset := set_upd HAP.out HX.out s
      have hfin : ∀ u1 u2 u3, RLeaves N (endL l x.id s).1 (endL l x.id s).2 P w (.returned (.tuple #[.agg #[.slice (some ⟨g3, 0, none⟩) l.length c3, .int .i64 N], .int .i64 0])) ((((((w3.setCell ⟨g3, i * 3, none⟩ (.int .u64 x.id)).setCell ⟨g3, i * 3 + 1, none⟩ (.string s)).setCell ⟨g3, i * 3 + 2, none⟩ (.bool true)).setCell ⟨w.heap.size, 0, none⟩ u1).setCell ⟨w.heap.size + 1, 0, none⟩ u2).setCell ⟨w.heap.size + 1, 1, none⟩ u3) := by
        intro u1 u2 u3
        rw [HS.out, ← hset]
        have hlen : (l.set i ⟨x.id, s, true⟩).length = l.length := by simp
        refine ⟨some ⟨g3, 0, none⟩, c3, by rw [hlen], ⟨by rw [hlen]; exact hcap1, hcap2, ⟨by rw [entC_length, hlen], fun _ => ⟨g3, 0, rfl, by simpa using hl3, fun j u hu => ?_⟩⟩, fun a ha => ?_⟩, ?_⟩
        · rw [entC_get, List.getElem?_set] at hu
          rw [Nat.zero_add]
          have hW : Whole w3 g3 53 cur := hg3
          have hF := (((((hW.set (i * 3) (.int .u64 x.id)).set (i * 3 + 1) (.string s)).set (i * 3 + 2) (.bool true)).far (p := ⟨w.heap.size, 0, none⟩) n1 u1).far (p := ⟨w.heap.size + 1, 0, none⟩) n2 u2).far (p := ⟨w.heap.size + 1, 1, none⟩) n2 u3
          rw [hF.cell j]
          have hs : i * 3 + 2 < cur.size := by omega
          by_cases hji : j / 3 = i
          · rw [if_pos hji.symm, if_pos (by omega)] at hu
            have hj3 : j = i * 3 ∨ j = i * 3 + 1 ∨ j = i * 3 + 2 := by omega
            rcases hj3 with rfl | rfl | rfl
            · rw [show i * 3 % 3 = 0 by omega] at hu
              rw [Array.getElem?_setIfInBounds_ne (by omega), Array.getElem?_setIfInBounds_ne (by omega), Array.getElem?_setIfInBounds_self_of_lt (by omega)]
              exact hu
            · rw [show (i * 3 + 1) % 3 = 1 by omega] at hu
              rw [Array.getElem?_setIfInBounds_ne (by omega), Array.getElem?_setIfInBounds_self_of_lt (by simp; omega)]
              exact hu
            · rw [show (i * 3 + 2) % 3 = 2 by omega] at hu
              rw [Array.getElem?_setIfInBounds_self_of_lt (by simp; omega)]
              exact hu
          · rw [if_neg (fun e => hji e.symm), ← entC_get] at hu
            rw [Array.getElem?_setIfInBounds_ne (by omega), Array.getElem?_setIfInBounds_ne (by omega), Array.getElem?_setIfInBounds_ne (by omega), ← hW.cell j]
            exact hcell j u hu
        · injection ha with ha
          subst ha
          exact ⟨by simpa using hl3, HPP.out _ (by show w.heap.size ≤ g3; omega)⟩
        · exact (((((hB.setCell (by show w.heap.size ≤ g3; omega) _).setCell (by show w.heap.size ≤ g3; omega) _).setCell (by show w.heap.size ≤ g3; omega) _).setCell (by simp) _).setCell (by simp) _).setCell (by simp) _
      have HFin := Lib.hid hfin
      clear hfin hset hown3 hcell hg3 hcs hB v1 v2 hfree q0 q1 q2 hentl
      go_wp2
      exact bodyPost_ret (v := .tuple #[.agg #[.slice (some ⟨g3, 0, none⟩) l.length c3, .int .i64 N], .int .i64 0]) (by simp [results, Try.results10, go_sem, d0, d1]) rfl (HFin.out _ _ _)
end Go.Proofs.Ytpbenlbkfabdoaa
