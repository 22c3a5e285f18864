/-
  The contract of the laws' 'of' (layer 9): a message as the document has it.
-/
import Derived.Test.YtcjmiidnhbmclaaDoorRtK
import Derived.Test.YtcjmiidnhbmclaaDoorRtB
import Derived.Laws.OwnMore
import Derived.Deep.AppendLies
import Derived.Deep.RegionHeld3
namespace Go.Proofs.YtcjmiidnhbmclaaDoor
set_option maxRecDepth 100000
set_option linter.unusedSimpArgs false
open Go.RowKit

theorem info_R9 : (Tryd.prog.info? 61).map (fun i => (i.zero, i.size, i.bytes)) = some (some (.agg #[.int .u32 0, .int .u8 0, .int .u32 0, .int .u32 0, .int .u32 0, .int .u32 0, .int .u32 0]), 7, 28) := by kernel_rfl
theorem info_P9 : (Tryd.prog.info? 84).map (fun i => (i.zero, i.size, i.bytes)) = some (some (.agg #[.int .i64 0, .int .i64 0]), 2, 16) := by kernel_rfl
theorem info_A9 : (Tryd.prog.info? 87).map (fun i => (i.zero, i.size, i.bytes)) = some (some (.agg #[.int .u32 0, .int .u8 0]), 2, 8) := by kernel_rfl

theorem i64_nat9 (p : Nat) (h : p < 9223372036854775808) : IntKind.i64.wrap (p : Int) = (p : Int) := by
  simp only [IntKind.wrap, IntKind.bits, IntKind.signed]; simp; split <;> omega
theorem apartN {v u : Value} {n : Nat} (h1 : ∀ q, v.ownBlock = some q → q < n) (h2 : ∀ q, u.ownBlock = some q → n ≤ q) : v.ownBlock = none ∨ v.ownBlock ≠ u.ownBlock := by
  cases hv : v.ownBlock with
  | none => exact .inl rfl
  | some q => exact .inr fun e => by have := h1 q hv; have := h2 q e.symm; omega
/-- The rows of reports, pairs and asks lie in blocks from here on. -/
def NewIn (lo : Nat) (s : Sl) : Prop := ∀ g o, (s.rA = some ⟨g, o, none⟩ ∨ s.pA = some ⟨g, o, none⟩ ∨ s.aA = some ⟨g, o, none⟩) → lo ≤ g
theorem repC_take (l : List Rp) (k : Nat) (r : Rp) (h : l[k]? = some r) : repC (l.take (k + 1)) = repC (l.take k) ++ r.cells := by rw [List.take_add_one, h]; simp [repC]

theorem whole12 {w : World} {r : Nat} {t : TypeId} {x0 x1 x2 x3 x4 x5 x6 x7 x8 x9 x10 x11 : Value} (h : Whole w r t #[x0, x1, x2, x3, x4, x5, x6, x7, x8, x9, x10, x11]) (u0 u1 u2 u3 u4 u5 u6 u7 u8 u9 u10 u11 : Value) : Whole ((((((((((((w.setCell ⟨r, 0, none⟩ u0).setCell ⟨r, 1, none⟩ u1).setCell ⟨r, 2, none⟩ u2).setCell ⟨r, 3, none⟩ u3).setCell ⟨r, 4, none⟩ u4).setCell ⟨r, 5, none⟩ u5).setCell ⟨r, 6, none⟩ u6).setCell ⟨r, 7, none⟩ u7).setCell ⟨r, 8, none⟩ u8).setCell ⟨r, 9, none⟩ u9).setCell ⟨r, 10, none⟩ u10).setCell ⟨r, 11, none⟩ u11) r t #[u0, u1, u2, u3, u4, u5, u6, u7, u8, u9, u10, u11] := by
  have h : Whole _ r t #[u0, x1, x2, x3, x4, x5, x6, x7, x8, x9, x10, x11] := h.set 0 u0
  have h : Whole _ r t #[u0, u1, x2, x3, x4, x5, x6, x7, x8, x9, x10, x11] := h.set 1 u1
  have h : Whole _ r t #[u0, u1, u2, x3, x4, x5, x6, x7, x8, x9, x10, x11] := h.set 2 u2
  have h : Whole _ r t #[u0, u1, u2, u3, x4, x5, x6, x7, x8, x9, x10, x11] := h.set 3 u3
  have h : Whole _ r t #[u0, u1, u2, u3, u4, x5, x6, x7, x8, x9, x10, x11] := h.set 4 u4
  have h : Whole _ r t #[u0, u1, u2, u3, u4, u5, x6, x7, x8, x9, x10, x11] := h.set 5 u5
  have h : Whole _ r t #[u0, u1, u2, u3, u4, u5, u6, x7, x8, x9, x10, x11] := h.set 6 u6
  have h : Whole _ r t #[u0, u1, u2, u3, u4, u5, u6, u7, x8, x9, x10, x11] := h.set 7 u7
  have h : Whole _ r t #[u0, u1, u2, u3, u4, u5, u6, u7, u8, x9, x10, x11] := h.set 8 u8
  have h : Whole _ r t #[u0, u1, u2, u3, u4, u5, u6, u7, u8, u9, x10, x11] := h.set 9 u9
  have h : Whole _ r t #[u0, u1, u2, u3, u4, u5, u6, u7, u8, u9, u10, x11] := h.set 10 u10
  have h : Whole _ r t #[u0, u1, u2, u3, u4, u5, u6, u7, u8, u9, u10, u11] := h.set 11 u11
  exact h
theorem below12 {b : Nat} {w0 w : World} {r : Nat} (h : Below b w0 w) (hr : b ≤ r) (u0 u1 u2 u3 u4 u5 u6 u7 u8 u9 u10 u11 : Value) : Below b w0 ((((((((((((w.setCell ⟨r, 0, none⟩ u0).setCell ⟨r, 1, none⟩ u1).setCell ⟨r, 2, none⟩ u2).setCell ⟨r, 3, none⟩ u3).setCell ⟨r, 4, none⟩ u4).setCell ⟨r, 5, none⟩ u5).setCell ⟨r, 6, none⟩ u6).setCell ⟨r, 7, none⟩ u7).setCell ⟨r, 8, none⟩ u8).setCell ⟨r, 9, none⟩ u9).setCell ⟨r, 10, none⟩ u10).setCell ⟨r, 11, none⟩ u11) := by
  have h := h.setCell (p := ⟨r, 0, none⟩) hr u0
  have h := h.setCell (p := ⟨r, 1, none⟩) hr u1
  have h := h.setCell (p := ⟨r, 2, none⟩) hr u2
  have h := h.setCell (p := ⟨r, 3, none⟩) hr u3
  have h := h.setCell (p := ⟨r, 4, none⟩) hr u4
  have h := h.setCell (p := ⟨r, 5, none⟩) hr u5
  have h := h.setCell (p := ⟨r, 6, none⟩) hr u6
  have h := h.setCell (p := ⟨r, 7, none⟩) hr u7
  have h := h.setCell (p := ⟨r, 8, none⟩) hr u8
  have h := h.setCell (p := ⟨r, 9, none⟩) hr u9
  have h := h.setCell (p := ⟨r, 10, none⟩) hr u10
  have h := h.setCell (p := ⟨r, 11, none⟩) hr u11
  exact h
theorem own12 {w : World} {base : Nat} {e : TypeId} {z k : Nat} {v : Value} {xs : List Value} {r : Nat} (h : w.ownsRow base e z v k xs) (hr : r < base) (u0 u1 u2 u3 u4 u5 u6 u7 u8 u9 u10 u11 : Value) : ((((((((((((w.setCell ⟨r, 0, none⟩ u0).setCell ⟨r, 1, none⟩ u1).setCell ⟨r, 2, none⟩ u2).setCell ⟨r, 3, none⟩ u3).setCell ⟨r, 4, none⟩ u4).setCell ⟨r, 5, none⟩ u5).setCell ⟨r, 6, none⟩ u6).setCell ⟨r, 7, none⟩ u7).setCell ⟨r, 8, none⟩ u8).setCell ⟨r, 9, none⟩ u9).setCell ⟨r, 10, none⟩ u10).setCell ⟨r, 11, none⟩ u11).ownsRow base e z v k xs := by
  have h := ownsRow_setCell_below h (a := ⟨r, 0, none⟩) hr u0
  have h := ownsRow_setCell_below h (a := ⟨r, 1, none⟩) hr u1
  have h := ownsRow_setCell_below h (a := ⟨r, 2, none⟩) hr u2
  have h := ownsRow_setCell_below h (a := ⟨r, 3, none⟩) hr u3
  have h := ownsRow_setCell_below h (a := ⟨r, 4, none⟩) hr u4
  have h := ownsRow_setCell_below h (a := ⟨r, 5, none⟩) hr u5
  have h := ownsRow_setCell_below h (a := ⟨r, 6, none⟩) hr u6
  have h := ownsRow_setCell_below h (a := ⟨r, 7, none⟩) hr u7
  have h := ownsRow_setCell_below h (a := ⟨r, 8, none⟩) hr u8
  have h := ownsRow_setCell_below h (a := ⟨r, 9, none⟩) hr u9
  have h := ownsRow_setCell_below h (a := ⟨r, 10, none⟩) hr u10
  have h := ownsRow_setCell_below h (a := ⟨r, 11, none⟩) hr u11
  exact h

set_option maxRecDepth 1000000 in
set_option maxHeartbeats 6400000 in
theorem of_any (m : Ms) (s : Sl) (w : World) (h : CmAt w w.heap.size m s) (hf : m.Fits) (hw : m.Mod) :
    Calls Tryd.prog 20 #[.agg (m.cells s).toArray] w
      fun e w' => (∃ s', e = .returned (.agg (m.cells s').toArray) ∧ MsAt w' w'.heap.size m s' ∧ NewIn w.heap.size s' ∧ s'.wA = s.wA) ∧ Below w.heap.size w w' := by
  obtain ⟨kind, ssrc, media, clock, time, packets, bytes, reps, who, pairs, asks, typ⟩ := m
  obtain ⟨rA, rc, wA, wc, pA, pc, aA, ac⟩ := s
  obtain ⟨fr, fw, fp, fa⟩ := hw
  dsimp only at fr fw fp fa
  unfold Ms.cells
  dsimp only
  have HFP : Hid (∀ p ∈ pairs, p.1 < 65536 ∧ p.2 < 65536) := Lib.hid hf.pairs
  have HFA : Hid (∀ p ∈ asks, p.1 < 4294967296 ∧ p.2 < 256) := Lib.hid hf.asks
  have h7 : Row w w.heap.size 7 rA reps.length (repC reps) := h.reps
  have h8 : Row w w.heap.size 1 wA who.length (u32s who) := h.who
  have h9 : Row w w.heap.size 2 pA pairs.length (p16C pairs) := h.pairs
  have h10 : Row w w.heap.size 2 aA asks.length (askC asks) := h.asks
  obtain ⟨nr, hnr⟩ : ∃ n, reps.length = n := ⟨_, rfl⟩
  obtain ⟨nw, hnw⟩ : ∃ n, who.length = n := ⟨_, rfl⟩
  obtain ⟨np, hnp⟩ : ∃ n, pairs.length = n := ⟨_, rfl⟩
  obtain ⟨na, hna⟩ : ∃ n, asks.length = n := ⟨_, rfl⟩
  rw [hnr] at fr h7 ⊢
  rw [hnw] at fw h8 ⊢
  rw [hnp] at fp h9 ⊢
  rw [hna] at fa h10 ⊢
  have H7 := Lib.hid h7
  have H8 := Lib.hid h8
  have H9 := Lib.hid h9
  have H10 := Lib.hid h10
  have HNR := Lib.hid hnr
  have HNW := Lib.hid hnw
  have HNP := Lib.hid hnp
  have HNA := Lib.hid hna
  clear h hf h7 h8 h9 h10 hnr hnw hnp hna
  go_enter Tryd.func20, Tryd.ntmps20
  go_wp2_with fail
  obtain ⟨g1, hg1⟩ : ∃ g1, g1 = w.heap.size := ⟨_, rfl⟩
  obtain ⟨w0, hw0⟩ : ∃ w0, w0 = ((w.alloc (.cells #[.int .i64 kind, .int .u32 (ssrc : Int), .int .u32 (media : Int), .int .u64 (clock : Int), .int .u32 (time : Int), .int .u32 (packets : Int), .int .u32 (bytes : Int), .slice rA nr rc, .slice wA nw wc, .slice pA np pc, .slice aA na ac, .int .u8 (typ : Int)] 59)).alloc (.cells #[.int .i64 0, .int .u32 0, .int .u32 0, .int .u64 0, .int .u32 0, .int .u32 0, .int .u32 0, .slice none 0 0, .slice none 0 0, .slice none 0 0, .slice none 0 0, .int .u8 0] 50)).alloc (.cells #[.int .i64 kind, .int .u32 (ssrc : Int), .int .u32 (media : Int), .int .u64 (clock : Int), .int .u32 (time : Int), .int .u32 (packets : Int), .int .u32 (bytes : Int), .slice none 0 0, .slice wA nw wc, .slice none 0 0, .slice none 0 0, .int .u8 (typ : Int)] 50) := ⟨_, rfl⟩
  rw [← hw0]
  have W1 : Whole w0 g1 59 #[.int .i64 kind, .int .u32 (ssrc : Int), .int .u32 (media : Int), .int .u64 (clock : Int), .int .u32 (time : Int), .int .u32 (packets : Int), .int .u32 (bytes : Int), .slice rA nr rc, .slice wA nw wc, .slice pA np pc, .slice aA na ac, .int .u8 (typ : Int)] := by rw [hw0, hg1]; exact ((Whole.new w _ _).alloc _).alloc _
  have W2 : Whole w0 (g1 + 1) 50 #[.int .i64 0, .int .u32 0, .int .u32 0, .int .u64 0, .int .u32 0, .int .u32 0, .int .u32 0, .slice none 0 0, .slice none 0 0, .slice none 0 0, .slice none 0 0, .int .u8 0] := by rw [hw0, hg1]; exact (Whole.new2 w _ _ _).alloc _
  have W3 : Whole w0 (g1 + 1 + 1) 50 #[.int .i64 kind, .int .u32 (ssrc : Int), .int .u32 (media : Int), .int .u64 (clock : Int), .int .u32 (time : Int), .int .u32 (packets : Int), .int .u32 (bytes : Int), .slice none 0 0, .slice wA nw wc, .slice none 0 0, .slice none 0 0, .int .u8 (typ : Int)] := by rw [hw0, hg1]; have := Whole.new2 (w.alloc (.cells #[.int .i64 kind, .int .u32 (ssrc : Int), .int .u32 (media : Int), .int .u64 (clock : Int), .int .u32 (time : Int), .int .u32 (packets : Int), .int .u32 (bytes : Int), .slice rA nr rc, .slice wA nw wc, .slice pA np pc, .slice aA na ac, .int .u8 (typ : Int)] 59)) (.cells #[.int .i64 0, .int .u32 0, .int .u32 0, .int .u64 0, .int .u32 0, .int .u32 0, .int .u32 0, .slice none 0 0, .slice none 0 0, .slice none 0 0, .slice none 0 0, .int .u8 0] 50) 50 #[.int .i64 kind, .int .u32 (ssrc : Int), .int .u32 (media : Int), .int .u64 (clock : Int), .int .u32 (time : Int), .int .u32 (packets : Int), .int .u32 (bytes : Int), .slice none 0 0, .slice wA nw wc, .slice none 0 0, .slice none 0 0, .int .u8 (typ : Int)]; simpa using this
  have hB0 : Below w.heap.size w w0 := by rw [hw0]; exact (((Below.refl _ _).alloc (Nat.le_refl _) _).alloc (by simp) _).alloc (by simp; omega) _
  have HG1 := Lib.hid hg1
  rw [← hg1]
  clear hw0 hg1
  go_loopw [4] (fun i wr => ∃ (k : Nat) (A : Option Addr) (cc : Nat), k ≤ nr ∧ i = .int .i64 k ∧ Whole wr g1 59 #[.int .i64 kind, .int .u32 (ssrc : Int), .int .u32 (media : Int), .int .u64 (clock : Int), .int .u32 (time : Int), .int .u32 (packets : Int), .int .u32 (bytes : Int), .slice rA nr rc, .slice wA nw wc, .slice pA np pc, .slice aA na ac, .int .u8 (typ : Int)] ∧ Whole wr (g1 + 1) 50 #[.int .i64 0, .int .u32 0, .int .u32 0, .int .u64 0, .int .u32 0, .int .u32 0, .int .u32 0, .slice none 0 0, .slice none 0 0, .slice none 0 0, .slice none 0 0, .int .u8 0] ∧ Whole wr (g1 + 1 + 1) 50 #[.int .i64 kind, .int .u32 (ssrc : Int), .int .u32 (media : Int), .int .u64 (clock : Int), .int .u32 (time : Int), .int .u32 (packets : Int), .int .u32 (bytes : Int), .slice A k cc, .slice wA nw wc, .slice none 0 0, .slice none 0 0, .int .u8 (typ : Int)] ∧ wr.ownsRow (g1 + 3) 61 7 (.slice A k cc) k (repC (reps.take k)) ∧ Below w.heap.size w wr) (fun i _ => nr - (intOf i).toNat)
  case atStart => exact ⟨0, none, 0, Nat.zero_le _, rfl, W1, W2, W3, World.ownsRow_nil _ _ _ _, hB0⟩
  case round =>
    clear W1 W2 W3 hB0
    obtain ⟨k, A, cc, hk, rfl, W1, W2, W3, hown, hb⟩ := hrel
    have m4 := W1.cell 7
    have x7 := W3.cell 7
    have y7 := W3.free 7
    simp at m4 x7
    by_cases hlt : k < nr
    · obtain ⟨r, hr⟩ : ∃ r, reps[k]? = some r := ⟨reps[k]'(by rw [HNR.out]; exact hlt), by simp⟩
      obtain ⟨g, o, hA, hg, hcs⟩ := repC_at (by rw [HNR.out]; exact H7.out.below hb (Nat.le_refl _)) k r hr
      subst hA
      have HT : Hid (repC (reps.take (k + 1)) = repC (reps.take k) ++ r.cells) := Lib.hid (repC_take reps k r hr)
      obtain ⟨r0, r1, r2, r3, r4, r5, r6⟩ := r
      have c0 : wr.cell? ⟨g, o + k * 7, none⟩ = some (.int .u32 (r0 : Int)) := hcs 0 _ rfl
      have c1 : wr.cell? ⟨g, o + k * 7 + 1, none⟩ = some (.int .u8 (r1 : Int)) := hcs 1 _ rfl
      have c2 : wr.cell? ⟨g, o + k * 7 + 2, none⟩ = some (.int .u32 (r2 : Int)) := hcs 2 _ rfl
      have c3 : wr.cell? ⟨g, o + k * 7 + 3, none⟩ = some (.int .u32 (r3 : Int)) := hcs 3 _ rfl
      have c4 : wr.cell? ⟨g, o + k * 7 + 4, none⟩ = some (.int .u32 (r4 : Int)) := hcs 4 _ rfl
      have c5 : wr.cell? ⟨g, o + k * 7 + 5, none⟩ = some (.int .u32 (r5 : Int)) := hcs 5 _ rfl
      have c6 : wr.cell? ⟨g, o + k * 7 + 6, none⟩ = some (.int .u32 (r6 : Int)) := hcs 6 _ rfl
      have hi1 : (0 : Int) ≤ (k : Int) := by omega
      have hi2 : (k : Int) < (nr : Int) := by omega
      have hsz := hb.size
      have hz3 := W3.lt
      have hne : ∀ q, (Value.slice A k cc).ownBlock = some q → g1 + 3 ≤ q := fun q hq => (hown.lt q hq).1
      have hrow : Row ((wr.alloc (.cells #[.int .u32 (r0 : Int), .int .u8 (r1 : Int), .int .u32 (r2 : Int), .int .u32 (r3 : Int), .int .u32 (r4 : Int), .int .u32 (r5 : Int), .int .u32 (r6 : Int)] 82)).alloc (.cells #[.int .u32 (r0 : Int), .int .u8 (r1 : Int), .int .u32 (r2 : Int), .int .u32 (r3 : Int), .int .u32 (r4 : Int), .int .u32 (r5 : Int), .int .u32 (r6 : Int)] 61)) (wr.heap.size + 2) 7 (some ⟨wr.heap.size + 1, 0, none⟩) 1 (Rp.cells ⟨r0, r1, r2, r3, r4, r5, r6⟩) := by
        have e := Row.lit (wr.alloc (.cells #[.int .u32 (r0 : Int), .int .u8 (r1 : Int), .int .u32 (r2 : Int), .int .u32 (r3 : Int), .int .u32 (r4 : Int), .int .u32 (r5 : Int), .int .u32 (r6 : Int)] 82)) 61 #[.int .u32 (r0 : Int), .int .u8 (r1 : Int), .int .u32 (r2 : Int), .int .u32 (r3 : Int), .int .u32 (r4 : Int), .int .u32 (r5 : Int), .int .u32 (r6 : Int)] 7 1 rfl
        rw [show (wr.alloc (.cells #[.int .u32 (r0 : Int), .int .u8 (r1 : Int), .int .u32 (r2 : Int), .int .u32 (r3 : Int), .int .u32 (r4 : Int), .int .u32 (r5 : Int), .int .u32 (r6 : Int)] 82)).heap.size = wr.heap.size + 1 by simp] at e
        exact e
      have HW1 := Lib.hid W1
      have HW2 := Lib.hid W2
      have HW3 := Lib.hid W3
      have HO := Lib.hid hown
      have HB := Lib.hid hb
      have HR := Lib.hid hrow
      have HNE := Lib.hid hne
      clear W1 W2 W3 hown hb hrow hne hcs hr
      go_wp2_with (at_builtin; refine wpl_append _ rfl (.tmp 44) (.tmp 60) 45 rfl (g1 + 3) 61 (.agg #[.int .u32 0, .int .u8 0, .int .u32 0, .int .u32 0, .int .u32 0, .int .u32 0, .int .u32 0]) 7 28 Tryd.underlying45 info_R9 rfl (by decide) (.slice A k cc) k (repC (reps.take k)) rfl ((HO.out.alloc _).alloc _) (wr.heap.size + 2) (some ⟨wr.heap.size + 1, 0, none⟩) 1 1 (Rp.cells ⟨r0, r1, r2, r3, r4, r5, r6⟩) rfl HR.out (by simp [Rp.cells, Value.oneCell']) ?c1 ?c2 ?c3 ?_)
      case c1 => unfold maxLen; omega
      case c2 => omega
      case c3 => simp; omega
      intro v3 w3 hown3 hg3 _
      obtain ⟨A3, c3', rfl⟩ := own_form hown3
      have W1 := ((HW1.out.alloc (.cells #[.int .u32 (r0 : Int), .int .u8 (r1 : Int), .int .u32 (r2 : Int), .int .u32 (r3 : Int), .int .u32 (r4 : Int), .int .u32 (r5 : Int), .int .u32 (r6 : Int)] 82)).alloc (.cells #[.int .u32 (r0 : Int), .int .u8 (r1 : Int), .int .u32 (r2 : Int), .int .u32 (r3 : Int), .int .u32 (r4 : Int), .int .u32 (r5 : Int), .int .u32 (r6 : Int)] 61)).grown hg3 (fun e => by have := HNE.out _ e.symm; omega)
      have W2 := ((HW2.out.alloc (.cells #[.int .u32 (r0 : Int), .int .u8 (r1 : Int), .int .u32 (r2 : Int), .int .u32 (r3 : Int), .int .u32 (r4 : Int), .int .u32 (r5 : Int), .int .u32 (r6 : Int)] 82)).alloc (.cells #[.int .u32 (r0 : Int), .int .u8 (r1 : Int), .int .u32 (r2 : Int), .int .u32 (r3 : Int), .int .u32 (r4 : Int), .int .u32 (r5 : Int), .int .u32 (r6 : Int)] 61)).grown hg3 (fun e => by have := HNE.out _ e.symm; omega)
      have W3 := ((HW3.out.alloc (.cells #[.int .u32 (r0 : Int), .int .u8 (r1 : Int), .int .u32 (r2 : Int), .int .u32 (r3 : Int), .int .u32 (r4 : Int), .int .u32 (r5 : Int), .int .u32 (r6 : Int)] 82)).alloc (.cells #[.int .u32 (r0 : Int), .int .u8 (r1 : Int), .int .u32 (r2 : Int), .int .u32 (r3 : Int), .int .u32 (r4 : Int), .int .u32 (r5 : Int), .int .u32 (r6 : Int)] 61)).grown hg3 (fun e => by have := HNE.out _ e.symm; omega)
      have hb3 : Below w.heap.size w w3 := ((HB.out.alloc hsz _).alloc (by simp; omega) _).grown hg3 (by simp; omega) (fun q hq => by have := HNE.out q hq; have := HG1.out; omega)
      rw [← HT.out] at hown3
      clear x7 y7 m4 c0 c1 c2 c3 c4 c5 c6 hsz hz3
      have x7 := W3.cell 7
      have y7 := W3.free 7
      simp at x7
      have HX1 := Lib.hid (W1.far (p := ⟨g1 + 1 + 1, 7, none⟩) (show g1 ≠ g1 + 1 + 1 by omega) (.slice A3 (k + 1) c3'))
      have HX2 := Lib.hid (W2.far (p := ⟨g1 + 1 + 1, 7, none⟩) (show g1 + 1 ≠ g1 + 1 + 1 by omega) (.slice A3 (k + 1) c3'))
      have HX3 := Lib.hid (W3.set 7 (.slice A3 (k + 1) c3'))
      have HXO : Hid ((w3.setCell ⟨g1 + 1 + 1, 7, none⟩ (.slice A3 (k + 1) c3')).ownsRow (g1 + 3) 61 7 (.slice A3 (k + 1) c3') (k + 1) (repC (reps.take (k + 1)))) := Lib.hid (ownsRow_setCell_below hown3 (by simp) _)
      have HXB : Hid (Below w.heap.size w (w3.setCell ⟨g1 + 1 + 1, 7, none⟩ (.slice A3 (k + 1) c3'))) := Lib.hid (hb3.setCell (by have := HG1.out; simp; omega) _)
      clear hown3 hg3 HO HB HR HW1 HW2 HW3 W1 W2 W3 hb3 HNE HT
      go_wp2
      go_roundw
      case rel => exact ⟨k + 1, A3, c3', by omega, by go_num, HX1.out, HX2.out, HX3.out, HXO.out, HXB.out⟩
      case measure => simp [intOf]; omega
    · obtain rfl : nr = k := by omega
      have HRE : Hid (wr.ownsRow (g1 + 3) 61 7 (.slice A nr cc) nr (repC reps)) := Lib.hid (by rwa [List.take_of_length_le (by rw [HNR.out]; exact Nat.le_refl _)] at hown)
      obtain ⟨w1, hw1⟩ : ∃ w1, w1 = wr := ⟨_, rfl⟩
      rw [← hw1] at W1 W2 W3 hb HRE x7 y7 m4 ⊢
      clear hw1 hown
      have hz1s := hb.size
      go_wp2_with fail
      go_loopw [6] (fun i wr => ∃ (k : Nat) (AP : Option Addr) (cp : Nat), k ≤ np ∧ i = .int .i64 k ∧ Whole wr g1 59 #[.int .i64 kind, .int .u32 (ssrc : Int), .int .u32 (media : Int), .int .u64 (clock : Int), .int .u32 (time : Int), .int .u32 (packets : Int), .int .u32 (bytes : Int), .slice rA nr rc, .slice wA nw wc, .slice pA np pc, .slice aA na ac, .int .u8 (typ : Int)] ∧ Whole wr (g1 + 1) 50 #[.int .i64 0, .int .u32 0, .int .u32 0, .int .u64 0, .int .u32 0, .int .u32 0, .int .u32 0, .slice none 0 0, .slice none 0 0, .slice none 0 0, .slice none 0 0, .int .u8 0] ∧ Whole wr (g1 + 1 + 1) 50 #[.int .i64 kind, .int .u32 (ssrc : Int), .int .u32 (media : Int), .int .u64 (clock : Int), .int .u32 (time : Int), .int .u32 (packets : Int), .int .u32 (bytes : Int), .slice A nr cc, .slice wA nw wc, .slice AP k cp, .slice none 0 0, .int .u8 (typ : Int)] ∧ wr.ownsRow w1.heap.size 84 2 (.slice AP k cp) k (dpC (pairs.take k)) ∧ Below w.heap.size w wr ∧ Hid (wr.ownsRow (g1 + 3) 61 7 (.slice A nr cc) nr (repC reps)) ∧ w1.heap.size ≤ wr.heap.size) (fun i _ => np - (intOf i).toNat)
      case atStart => exact ⟨0, none, 0, Nat.zero_le _, rfl, W1, W2, W3, World.ownsRow_nil _ _ _ _, hb, HRE, Nat.le_refl _⟩
      case round =>
        have z3 := W3.lt
        have HRL : Hid (∀ q, (Value.slice A nr cc).ownBlock = some q → q < w1.heap.size) := Lib.hid (fun q hq => (HRE.out.lt q hq).2)
        clear W1 W2 W3 hb HRE x7 y7 m4
        obtain ⟨k, AP, cp, hk, rfl, W1, W2, W3, hown, hb, HRE, hgr⟩ := hrel
        have m6 := W1.cell 9
        have x9 := W3.cell 9
        have y9 := W3.free 9
        simp at m6 x9
        by_cases hlt2 : k < np
        · obtain ⟨⟨p, t⟩, hp⟩ : ∃ x, pairs[k]? = some x := ⟨pairs[k]'(by rw [HNP.out]; exact hlt2), by simp⟩
          obtain ⟨gP, oP, rfl, hgP, hcP⟩ := (H9.out.below hb (Nat.le_refl _)).2 (by omega)
          obtain ⟨d0, d1⟩ := two_get (fun p : Nat × Nat => Value.int .u16 (p.1 : Int)) (fun p => .int .u16 (p.2 : Int)) pairs k (p, t) hp
          have c0 := hcP _ _ d0
          have c1 := hcP _ _ d1
          rw [← Nat.add_assoc] at c1
          dsimp only at c0 c1
          obtain ⟨hp6, ht6⟩ := HFP.out _ (List.mem_of_getElem? hp)
          dsimp only at hp6 ht6
          have HT : Hid (dpC (pairs.take (k + 1)) = dpC (pairs.take k) ++ [.int .i64 (p : Int), .int .i64 (t : Int)]) := Lib.hid (by rw [List.take_add_one, hp]; simp [dpC])
          have hi1 : (0 : Int) ≤ (k : Int) := by omega
          have hi2 : (k : Int) < (np : Int) := by omega
          have hsz := hb.size
          have hz3 := W3.lt
          have HW1 := Lib.hid W1
          have HW2 := Lib.hid W2
          have HW3 := Lib.hid W3
          have HO := Lib.hid hown
          have HB := Lib.hid hb
          clear W1 W2 W3 hown hb
          have KEEP := Lib.hid (fun w' (b : Below w.heap.size w w') (hw : Whole w' g1 59 #[.int .i64 kind, .int .u32 (ssrc : Int), .int .u32 (media : Int), .int .u64 (clock : Int), .int .u32 (time : Int), .int .u32 (packets : Int), .int .u32 (bytes : Int), .slice rA nr rc, .slice wA nw wc, .slice (some ⟨gP, oP, none⟩) np pc, .slice aA na ac, .int .u8 (typ : Int)]) => show (fun w' => w'.cell? ⟨g1, 9, none⟩ = some (.slice (some ⟨gP, oP, none⟩) np pc) ∧ w'.cell? ⟨gP, oP + k * 2, none⟩ = some (.int .u16 (p : Int)) ∧ w'.cell? ⟨gP, oP + k * 2 + 1, none⟩ = some (.int .u16 (t : Int))) w' from by
            obtain ⟨g', o', e', _, hc⟩ := (H9.out.below b (Nat.le_refl _)).2 (by omega)
            injection e' with e'
            injection e' with e1 e2
            subst e1 e2
            have q1 := hc _ _ d1
            rw [← Nat.add_assoc] at q1
            exact ⟨hw.cell 9, hc _ _ d0, q1⟩)
          obtain ⟨i0, hi0, hz0, hz1, hz2⟩ := info_parts info_P9
          have HI0 := Lib.hid hi0
          have HZ0 := Lib.hid hz0
          have HZ1 := Lib.hid hz1
          have HZ2 := Lib.hid hz2
          have HNE : Hid (∀ q, (Value.slice AP k cp).ownBlock = some q → w1.heap.size ≤ q) := Lib.hid (fun q hq => (HO.out.lt q hq).1)
          have hcv0 := i64_nat9 p (by omega)
          have hcv1 := i64_nat9 t (by omega)
          clear hi0 hz0 hz1 hz2 d0 d1 hp hcP
          go_wp2_with fail
          have b0 : Below w.heap.size w wr.drew := HB.out.drew
          refine wp_region_held_drew (S := fun w' => w'.cell? ⟨g1, 9, none⟩ = some (.slice (some ⟨gP, oP, none⟩) np pc) ∧ w'.cell? ⟨gP, oP + k * 2, none⟩ = some (.int .u16 (p : Int)) ∧ w'.cell? ⟨gP, oP + k * 2 + 1, none⟩ = some (.int .u16 (t : Int))) (by kernel_rfl) (KEEP.out _ b0 HW1.out) (fun hHeld0 => ?_)
          refine wpAnyH_take (i := 0) (v := ?_) rfl (by kernel_rfl) (by kernel_rfl) (by kernel_rfl) (fun _ _ _ h => h) (Or.inl ⟨by kernel_rfl, ?_⟩) (by assumption) ?_
          rotate_left 1
          · (intro w hSw; obtain ⟨q0, q1, q2⟩ := hSw; go_simp; try (with_reducible rfl))
          (try simp only [Act.put, List.getElem_toArray, List.getElem_cons_succ, List.getElem_cons_zero, List.setIfInBounds_toArray, List.set_cons_zero, List.set_cons_succ])
          refine wpAnyH_take (i := 2) (v := ?_) rfl (by kernel_rfl) (by kernel_rfl) (by kernel_rfl) (fun _ _ _ h => h) (Or.inl ⟨by kernel_rfl, ?_⟩) (by assumption) ?_
          rotate_left 1
          · (intro w hSw; obtain ⟨q0, q1, q2⟩ := hSw; go_simp; try (with_reducible rfl))
          (try simp only [Act.put, List.getElem_toArray, List.getElem_cons_succ, List.getElem_cons_zero, List.setIfInBounds_toArray, List.set_cons_zero, List.set_cons_succ])
          refine wpAnyH_take (i := 3) (v := ?_) rfl (by kernel_rfl) (by kernel_rfl) (by kernel_rfl) (fun _ _ _ h => h) (Or.inl ⟨by kernel_rfl, ?_⟩) (by assumption) ?_
          rotate_left 1
          · (intro w hSw; obtain ⟨q0, q1, q2⟩ := hSw; go_simp; try (with_reducible rfl))
          (try simp only [Act.put, List.getElem_toArray, List.getElem_cons_succ, List.getElem_cons_zero, List.setIfInBounds_toArray, List.set_cons_zero, List.set_cons_succ])
          refine wpAnyH_take (i := 4) (v := ?_) rfl (by kernel_rfl) (by kernel_rfl) (by kernel_rfl) (fun _ _ _ h => h) (Or.inl ⟨by kernel_rfl, ?_⟩) (by assumption) ?_
          rotate_left 1
          · (intro w hSw; obtain ⟨q0, q1, q2⟩ := hSw; go_simp; try (with_reducible rfl))
          (try simp only [Act.put, List.getElem_toArray, List.getElem_cons_succ, List.getElem_cons_zero, List.setIfInBounds_toArray, List.set_cons_zero, List.set_cons_succ])
          refine wpAnyH_take (i := 5) (v := ?_) rfl (by kernel_rfl) (by kernel_rfl) (by kernel_rfl) (fun _ _ _ h => h) (Or.inl ⟨by kernel_rfl, ?_⟩) (by assumption) ?_
          rotate_left 1
          · (intro w hSw; obtain ⟨q0, q1, q2⟩ := hSw; go_simp; try (with_reducible rfl))
          (try simp only [Act.put, List.getElem_toArray, List.getElem_cons_succ, List.getElem_cons_zero, List.setIfInBounds_toArray, List.set_cons_zero, List.set_cons_succ])
          refine wpAnyH_take (i := 6) (v := ?_) rfl (by kernel_rfl) (by kernel_rfl) (by kernel_rfl) (fun _ _ _ h => h) (Or.inl ⟨by kernel_rfl, ?_⟩) (by assumption) ?_
          rotate_left 1
          · (intro w hSw; obtain ⟨q0, q1, q2⟩ := hSw; go_simp; try (with_reducible rfl))
          (try simp only [Act.put, List.getElem_toArray, List.getElem_cons_succ, List.getElem_cons_zero, List.setIfInBounds_toArray, List.set_cons_zero, List.set_cons_succ])
          refine wpAnyH_take (i := 7) (v := ?_) rfl (by kernel_rfl) (by kernel_rfl) (by kernel_rfl) (fun _ _ _ h => h) (Or.inl ⟨by kernel_rfl, ?_⟩) (by assumption) ?_
          rotate_left 1
          · (intro w hSw; obtain ⟨q0, q1, q2⟩ := hSw; go_simp; try (with_reducible rfl))
          (try simp only [Act.put, List.getElem_toArray, List.getElem_cons_succ, List.getElem_cons_zero, List.setIfInBounds_toArray, List.set_cons_zero, List.set_cons_succ])
          refine wpAnyH_take (i := 8) (v := ?_) rfl (by kernel_rfl) (by kernel_rfl) (by kernel_rfl) (fun _ _ _ h => h) (Or.inl ⟨by kernel_rfl, ?_⟩) (by assumption) ?_
          rotate_left 1
          · (intro w hSw; obtain ⟨q0, q1, q2⟩ := hSw; go_simp; try (with_reducible rfl))
          (try simp only [Act.put, List.getElem_toArray, List.getElem_cons_succ, List.getElem_cons_zero, List.setIfInBounds_toArray, List.set_cons_zero, List.set_cons_succ])
          refine wpAnyH_take (i := 9) (v := ?_) rfl (by kernel_rfl) (by kernel_rfl) (by kernel_rfl) (fun _ _ _ h => h) (Or.inl ⟨by kernel_rfl, ?_⟩) (by assumption) ?_
          rotate_left 1
          · (intro w hSw; obtain ⟨q0, q1, q2⟩ := hSw; go_simp; try (with_reducible rfl))
          (try simp only [Act.put, List.getElem_toArray, List.getElem_cons_succ, List.getElem_cons_zero, List.setIfInBounds_toArray, List.set_cons_zero, List.set_cons_succ])
          refine wpAnyH_take (i := 10) (v := ?_) rfl (by kernel_rfl) (by kernel_rfl) (by kernel_rfl) (fun _ _ _ h => h) (Or.inl ⟨by kernel_rfl, ?_⟩) (by assumption) ?_
          rotate_left 1
          · (intro w hSw; obtain ⟨q0, q1, q2⟩ := hSw; go_simp; try (with_reducible rfl))
          (try simp only [Act.put, List.getElem_toArray, List.getElem_cons_succ, List.getElem_cons_zero, List.setIfInBounds_toArray, List.set_cons_zero, List.set_cons_succ])
          refine wpAnyH_take (i := 11) (v := ?_) rfl (by kernel_rfl) (by kernel_rfl) (by kernel_rfl) (fun _ _ _ h => h) (Or.inl ⟨by kernel_rfl, ?_⟩) (by assumption) ?_
          rotate_left 1
          · (intro w hSw; obtain ⟨q0, q1, q2⟩ := hSw; go_simp; try (with_reducible rfl))
          (try simp only [Act.put, List.getElem_toArray, List.getElem_cons_succ, List.getElem_cons_zero, List.setIfInBounds_toArray, List.set_cons_zero, List.set_cons_succ])
          refine wpAnyH_take (i := 12) (v := ?_) rfl (by kernel_rfl) (by kernel_rfl) (by kernel_rfl) (fun _ _ _ h => h) (Or.inl ⟨by kernel_rfl, ?_⟩) (by assumption) ?_
          rotate_left 1
          · (intro w hSw; obtain ⟨q0, q1, q2⟩ := hSw; go_simp; try (with_reducible rfl))
          (try simp only [Act.put, List.getElem_toArray, List.getElem_cons_succ, List.getElem_cons_zero, List.setIfInBounds_toArray, List.set_cons_zero, List.set_cons_succ])
          refine wpAnyH_take (i := 13) (v := ?_) rfl (by kernel_rfl) (by kernel_rfl) (by kernel_rfl) (fun _ _ _ h => h) (Or.inl ⟨by kernel_rfl, ?_⟩) (by assumption) ?_
          rotate_left 1
          · (intro w hSw; obtain ⟨q0, q1, q2⟩ := hSw; go_simp; try (with_reducible rfl))
          (try simp only [Act.put, List.getElem_toArray, List.getElem_cons_succ, List.getElem_cons_zero, List.setIfInBounds_toArray, List.set_cons_zero, List.set_cons_succ])
          refine wpAnyH_take (i := 14) (v := ?_) rfl (by kernel_rfl) (by kernel_rfl) (by kernel_rfl) (fun _ _ _ h => h) (Or.inl ⟨by kernel_rfl, ?_⟩) (by assumption) ?_
          rotate_left 1
          · (intro w hSw; obtain ⟨q0, q1, q2⟩ := hSw; go_simp; try (with_reducible rfl))
          (try simp only [Act.put, List.getElem_toArray, List.getElem_cons_succ, List.getElem_cons_zero, List.setIfInBounds_toArray, List.set_cons_zero, List.set_cons_succ])
          refine wpAnyH_take (i := 15) (v := ?_) rfl (by kernel_rfl) (by kernel_rfl) (by kernel_rfl) (fun _ _ _ h => h) (Or.inl ⟨by kernel_rfl, ?_⟩) (by assumption) ?_
          rotate_left 1
          · (intro w hSw; obtain ⟨q0, q1, q2⟩ := hSw; go_simp; try (with_reducible rfl))
          (try simp only [Act.put, List.getElem_toArray, List.getElem_cons_succ, List.getElem_cons_zero, List.setIfInBounds_toArray, List.set_cons_zero, List.set_cons_succ])
          refine wpAnyH_take (i := 16) (v := ?_) rfl (by kernel_rfl) (by kernel_rfl) (by kernel_rfl) (fun _ _ _ h => h) (Or.inl ⟨by kernel_rfl, ?_⟩) (by assumption) ?_
          rotate_left 1
          · (intro w hSw; obtain ⟨q0, q1, q2⟩ := hSw; go_simp; try (with_reducible rfl))
          (try simp only [Act.put, List.getElem_toArray, List.getElem_cons_succ, List.getElem_cons_zero, List.setIfInBounds_toArray, List.set_cons_zero, List.set_cons_succ])
          refine wpAnyH_ready (rs := [1, 17]) (by kernel_rfl) (by simp) ?_
          refine AllReadyH.cons rfl (fun K hK => ?_) ?_
          · go_simp
            refine hK.out _ _ (KEEP.out _ b0 HW1.out) (fun hHeld1 => ?_)
            clear hK K
            (try simp only [Act.put, List.getElem_toArray, List.getElem_cons_succ, List.getElem_cons_zero, List.setIfInBounds_toArray, List.set_cons_zero, List.set_cons_succ])
            refine wpAnyH_ready (rs := [17]) (by kernel_rfl) (by simp) ?_
            refine AllReadyH.cons rfl (fun K hK => ?_) ?_
            · go_simp
              have b2 := (HB.out.alloc hsz (.cells #[.int .i64 (p : Int), .int .i64 (t : Int)] 84)).drew
              have Wa2 := (HW1.out.alloc (.cells #[.int .i64 (p : Int), .int .i64 (t : Int)] 84)).drew
              have Wb2 := (HW2.out.alloc (.cells #[.int .i64 (p : Int), .int .i64 (t : Int)] 84)).drew
              have Wc2 := (HW3.out.alloc (.cells #[.int .i64 (p : Int), .int .i64 (t : Int)] 84)).drew
              have ow2 := (HO.out.alloc (.cells #[.int .i64 (p : Int), .int .i64 (t : Int)] 84)).drew
              have re2_0 := (HRE.out.alloc (.cells #[.int .i64 (p : Int), .int .i64 (t : Int)] 84)).drew
              refine hK.out _ _ (KEEP.out _ b2 Wa2) (fun hHeld2 => ?_)
              clear hK K
              (try simp only [Act.put, List.getElem_toArray, List.getElem_cons_succ, List.getElem_cons_zero, List.setIfInBounds_toArray, List.set_cons_zero, List.set_cons_succ])
              refine wpAnyH_ready (rs := [18]) (by kernel_rfl) (by simp) ?_
              refine AllReadyH.cons rfl (fun K hK => ?_) ?_
              · refine step_append_lies _ (by rfl) (.tmp 71) (.tmp 87) 47 (by rfl) w1.heap.size 84 i0 _ 2 16 Tryd.underlying47 HI0.out HZ0.out HZ1.out HZ2.out rfl (by omega) (.slice AP k cp) k (dpC (pairs.take k)) (by rfl) ow2 ⟨wr.heap.size, 0, none⟩ 1 1 [.int .i64 (p : Int), .int .i64 (t : Int)] (by rfl) (by rfl) (World.news_of_block (cs := #[.int .i64 (p : Int), .int .i64 (t : Int)]) (t := 84) (fr := (0, 0)) (heap_alloc_new wr _)) (by simp [Value.oneCell']) (by omega) (by unfold maxLen; omega) (by omega) (by simp; omega) (wr.heap.size + 1) (by simp) ?_
                intro gg cap w2 hown2 hgrow hat hlt9
                have B2 : Below w.heap.size w w2 := (b2).grown hgrow (by simp; omega) (fun q hq => by have := HNE.out q hq; omega)
                have V1 := (Wa2).grown hgrow (fun e => by have := HNE.out _ e.symm; omega)
                have V2 := (Wb2).grown hgrow (fun e => by have := HNE.out _ e.symm; omega)
                have V3 := (Wc2).grown hgrow (fun e => by have := HNE.out _ e.symm; omega)
                have RE2_0 := (re2_0).kept hgrow (apartN HRL.out (fun q hq => HNE.out q hq))
                have e9 := V3.cell 9
                have f9 := V3.free 9
                simp at e9
                refine hK.out _ _ (KEEP.out _ B2 V1) (fun hHeld3 => ?_)
                clear hK K
                (try simp only [Act.put, List.getElem_toArray, List.getElem_cons_succ, List.getElem_cons_zero, List.setIfInBounds_toArray, List.set_cons_zero, List.set_cons_succ])
                refine wpAnyH_take (i := 19) (v := ?_) rfl (by kernel_rfl) (by kernel_rfl) (by kernel_rfl) (fun _ _ _ h => h) (Or.inl ⟨by kernel_rfl, ?_⟩) (by assumption) ?_
                rotate_left 1
                · (intro w hSw; obtain ⟨q0, q1, q2⟩ := hSw; go_simp; try (with_reducible rfl))
                (try simp only [Act.put, List.getElem_toArray, List.getElem_cons_succ, List.getElem_cons_zero, List.setIfInBounds_toArray, List.set_cons_zero, List.set_cons_succ])
                refine wpAnyH_ready (rs := [20]) (by kernel_rfl) (by simp) ?_
                refine AllReadyH.cons rfl (fun K hK => ?_) ?_
                · go_simp
                  have B3 := B2.setCell (p := ⟨g1 + 1 + 1, 9, none⟩) (by have := HG1.out; show w.heap.size ≤ g1 + 1 + 1; omega) (.slice (some ⟨gg, 0, none⟩) (k + 1) cap)
                  have U1 := V1.far (p := ⟨g1 + 1 + 1, 9, none⟩) (show g1 ≠ g1 + 1 + 1 by omega) (.slice (some ⟨gg, 0, none⟩) (k + 1) cap)
                  have U2 := V2.far (p := ⟨g1 + 1 + 1, 9, none⟩) (show g1 + 1 ≠ g1 + 1 + 1 by omega) (.slice (some ⟨gg, 0, none⟩) (k + 1) cap)
                  have U3 := V3.set 9 (.slice (some ⟨gg, 0, none⟩) (k + 1) cap)
                  have OW := ownsRow_setCell_below hown2 (a := ⟨g1 + 1 + 1, 9, none⟩) (show g1 + 1 + 1 < w1.heap.size by omega) (.slice (some ⟨gg, 0, none⟩) (k + 1) cap)
                  have RE3_0 := ownsRow_setCell_below RE2_0 (a := ⟨g1 + 1 + 1, 9, none⟩) (show g1 + 1 + 1 < g1 + 3 by omega) (.slice (some ⟨gg, 0, none⟩) (k + 1) cap)
                  refine hK.out _ _ (KEEP.out _ B3 U1) (fun hHeld4 => ?_)
                  clear hK K
                  (try simp only [Act.put, List.getElem_toArray, List.getElem_cons_succ, List.getElem_cons_zero, List.setIfInBounds_toArray, List.set_cons_zero, List.set_cons_succ])
                  refine wpAnyH_done (by kernel_rfl) ?_ _
                  rw [← HT.out] at OW
                  have hgr2 : w1.heap.size ≤ (w2.setCell ⟨g1 + 1 + 1, 9, none⟩ (.slice (some ⟨gg, 0, none⟩) (k + 1) cap)).heap.size := by have := hgrow.size; simp at this ⊢; omega
                  have HU3 := Lib.hid U3
                  have HOW := Lib.hid OW
                  have HRE3_0 := Lib.hid RE3_0
                  have HU1 := Lib.hid U1
                  have HU2 := Lib.hid U2
                  have HB3 := Lib.hid B3
                  clear U1 U2 U3 OW B3 V1 V2 V3 B2 RE3_0 RE2_0 hown2 hgrow hat hlt9 e9 f9
                  go_wp2
                  go_roundw
                  case rel => exact ⟨k + 1, some ⟨gg, 0, none⟩, cap, by omega, by go_num, HU1.out, HU2.out, HU3.out, HOW.out, HB3.out, HRE3_0, hgr2⟩
                  case measure => simp [intOf]; omega
                exact AllReadyH.nil
              exact AllReadyH.nil
            exact AllReadyH.nil
          refine AllReadyH.cons rfl (fun K hK => ?_) ?_
          · go_simp
            have b1 := (HB.out.alloc hsz (.cells #[.int .i64 (p : Int), .int .i64 (t : Int)] 84)).drew
            have Wa1 := (HW1.out.alloc (.cells #[.int .i64 (p : Int), .int .i64 (t : Int)] 84)).drew
            have Wb1 := (HW2.out.alloc (.cells #[.int .i64 (p : Int), .int .i64 (t : Int)] 84)).drew
            have Wc1 := (HW3.out.alloc (.cells #[.int .i64 (p : Int), .int .i64 (t : Int)] 84)).drew
            have ow1 := (HO.out.alloc (.cells #[.int .i64 (p : Int), .int .i64 (t : Int)] 84)).drew
            have re1_0 := (HRE.out.alloc (.cells #[.int .i64 (p : Int), .int .i64 (t : Int)] 84)).drew
            refine hK.out _ _ (KEEP.out _ b1 Wa1) (fun hHeld1 => ?_)
            clear hK K
            (try simp only [Act.put, List.getElem_toArray, List.getElem_cons_succ, List.getElem_cons_zero, List.setIfInBounds_toArray, List.set_cons_zero, List.set_cons_succ])
            refine wpAnyH_ready (rs := [1]) (by kernel_rfl) (by simp) ?_
            refine AllReadyH.cons rfl (fun K hK => ?_) ?_
            · go_simp
              refine hK.out _ _ (KEEP.out _ b1 Wa1) (fun hHeld2 => ?_)
              clear hK K
              (try simp only [Act.put, List.getElem_toArray, List.getElem_cons_succ, List.getElem_cons_zero, List.setIfInBounds_toArray, List.set_cons_zero, List.set_cons_succ])
              refine wpAnyH_ready (rs := [18]) (by kernel_rfl) (by simp) ?_
              refine AllReadyH.cons rfl (fun K hK => ?_) ?_
              · refine step_append_lies _ (by rfl) (.tmp 71) (.tmp 87) 47 (by rfl) w1.heap.size 84 i0 _ 2 16 Tryd.underlying47 HI0.out HZ0.out HZ1.out HZ2.out rfl (by omega) (.slice AP k cp) k (dpC (pairs.take k)) (by rfl) ow1 ⟨wr.heap.size, 0, none⟩ 1 1 [.int .i64 (p : Int), .int .i64 (t : Int)] (by rfl) (by rfl) (World.news_of_block (cs := #[.int .i64 (p : Int), .int .i64 (t : Int)]) (t := 84) (fr := (0, 0)) (heap_alloc_new wr _)) (by simp [Value.oneCell']) (by omega) (by unfold maxLen; omega) (by omega) (by simp; omega) (wr.heap.size + 1) (by simp) ?_
                intro gg cap w2 hown2 hgrow hat hlt9
                have B2 : Below w.heap.size w w2 := (b1).grown hgrow (by simp; omega) (fun q hq => by have := HNE.out q hq; omega)
                have V1 := (Wa1).grown hgrow (fun e => by have := HNE.out _ e.symm; omega)
                have V2 := (Wb1).grown hgrow (fun e => by have := HNE.out _ e.symm; omega)
                have V3 := (Wc1).grown hgrow (fun e => by have := HNE.out _ e.symm; omega)
                have RE2_0 := (re1_0).kept hgrow (apartN HRL.out (fun q hq => HNE.out q hq))
                have e9 := V3.cell 9
                have f9 := V3.free 9
                simp at e9
                refine hK.out _ _ (KEEP.out _ B2 V1) (fun hHeld3 => ?_)
                clear hK K
                (try simp only [Act.put, List.getElem_toArray, List.getElem_cons_succ, List.getElem_cons_zero, List.setIfInBounds_toArray, List.set_cons_zero, List.set_cons_succ])
                refine wpAnyH_take (i := 19) (v := ?_) rfl (by kernel_rfl) (by kernel_rfl) (by kernel_rfl) (fun _ _ _ h => h) (Or.inl ⟨by kernel_rfl, ?_⟩) (by assumption) ?_
                rotate_left 1
                · (intro w hSw; obtain ⟨q0, q1, q2⟩ := hSw; go_simp; try (with_reducible rfl))
                (try simp only [Act.put, List.getElem_toArray, List.getElem_cons_succ, List.getElem_cons_zero, List.setIfInBounds_toArray, List.set_cons_zero, List.set_cons_succ])
                refine wpAnyH_ready (rs := [20]) (by kernel_rfl) (by simp) ?_
                refine AllReadyH.cons rfl (fun K hK => ?_) ?_
                · go_simp
                  have B3 := B2.setCell (p := ⟨g1 + 1 + 1, 9, none⟩) (by have := HG1.out; show w.heap.size ≤ g1 + 1 + 1; omega) (.slice (some ⟨gg, 0, none⟩) (k + 1) cap)
                  have U1 := V1.far (p := ⟨g1 + 1 + 1, 9, none⟩) (show g1 ≠ g1 + 1 + 1 by omega) (.slice (some ⟨gg, 0, none⟩) (k + 1) cap)
                  have U2 := V2.far (p := ⟨g1 + 1 + 1, 9, none⟩) (show g1 + 1 ≠ g1 + 1 + 1 by omega) (.slice (some ⟨gg, 0, none⟩) (k + 1) cap)
                  have U3 := V3.set 9 (.slice (some ⟨gg, 0, none⟩) (k + 1) cap)
                  have OW := ownsRow_setCell_below hown2 (a := ⟨g1 + 1 + 1, 9, none⟩) (show g1 + 1 + 1 < w1.heap.size by omega) (.slice (some ⟨gg, 0, none⟩) (k + 1) cap)
                  have RE3_0 := ownsRow_setCell_below RE2_0 (a := ⟨g1 + 1 + 1, 9, none⟩) (show g1 + 1 + 1 < g1 + 3 by omega) (.slice (some ⟨gg, 0, none⟩) (k + 1) cap)
                  refine hK.out _ _ (KEEP.out _ B3 U1) (fun hHeld4 => ?_)
                  clear hK K
                  (try simp only [Act.put, List.getElem_toArray, List.getElem_cons_succ, List.getElem_cons_zero, List.setIfInBounds_toArray, List.set_cons_zero, List.set_cons_succ])
                  refine wpAnyH_done (by kernel_rfl) ?_ _
                  rw [← HT.out] at OW
                  have hgr2 : w1.heap.size ≤ (w2.setCell ⟨g1 + 1 + 1, 9, none⟩ (.slice (some ⟨gg, 0, none⟩) (k + 1) cap)).heap.size := by have := hgrow.size; simp at this ⊢; omega
                  have HU3 := Lib.hid U3
                  have HOW := Lib.hid OW
                  have HRE3_0 := Lib.hid RE3_0
                  have HU1 := Lib.hid U1
                  have HU2 := Lib.hid U2
                  have HB3 := Lib.hid B3
                  clear U1 U2 U3 OW B3 V1 V2 V3 B2 RE3_0 RE2_0 hown2 hgrow hat hlt9 e9 f9
                  go_wp2
                  go_roundw
                  case rel => exact ⟨k + 1, some ⟨gg, 0, none⟩, cap, by omega, by go_num, HU1.out, HU2.out, HU3.out, HOW.out, HB3.out, HRE3_0, hgr2⟩
                  case measure => simp [intOf]; omega
                exact AllReadyH.nil
              exact AllReadyH.nil
            exact AllReadyH.nil
          exact AllReadyH.nil
        · obtain rfl : np = k := by omega
          have HPE : Hid (wr.ownsRow w1.heap.size 84 2 (.slice AP np cp) np (dpC pairs)) := Lib.hid (by rwa [List.take_of_length_le (by rw [HNP.out]; exact Nat.le_refl _)] at hown)
          obtain ⟨wp, hwp⟩ : ∃ wp, wp = wr := ⟨_, rfl⟩
          rw [← hwp] at W1 W2 W3 hb HRE HPE hgr x9 y9 m6 ⊢
          clear hwp hown
          have hz2s := hb.size
          go_wp2_with fail
          go_loopw [7] (fun i wr => ∃ (k : Nat) (AP2 : Option Addr) (cp2 : Nat), k ≤ na ∧ i = .int .i64 k ∧ Whole wr g1 59 #[.int .i64 kind, .int .u32 (ssrc : Int), .int .u32 (media : Int), .int .u64 (clock : Int), .int .u32 (time : Int), .int .u32 (packets : Int), .int .u32 (bytes : Int), .slice rA nr rc, .slice wA nw wc, .slice pA np pc, .slice aA na ac, .int .u8 (typ : Int)] ∧ Whole wr (g1 + 1) 50 #[.int .i64 0, .int .u32 0, .int .u32 0, .int .u64 0, .int .u32 0, .int .u32 0, .int .u32 0, .slice none 0 0, .slice none 0 0, .slice none 0 0, .slice none 0 0, .int .u8 0] ∧ Whole wr (g1 + 1 + 1) 50 #[.int .i64 kind, .int .u32 (ssrc : Int), .int .u32 (media : Int), .int .u64 (clock : Int), .int .u32 (time : Int), .int .u32 (packets : Int), .int .u32 (bytes : Int), .slice A nr cc, .slice wA nw wc, .slice AP np cp, .slice AP2 k cp2, .int .u8 (typ : Int)] ∧ wr.ownsRow wp.heap.size 87 2 (.slice AP2 k cp2) k (askC (asks.take k)) ∧ Below w.heap.size w wr ∧ Hid (wr.ownsRow (g1 + 3) 61 7 (.slice A nr cc) nr (repC reps)) ∧ Hid (wr.ownsRow w1.heap.size 84 2 (.slice AP np cp) np (dpC pairs)) ∧ wp.heap.size ≤ wr.heap.size) (fun i _ => na - (intOf i).toNat)
          case atStart => exact ⟨0, none, 0, Nat.zero_le _, rfl, W1, W2, W3, World.ownsRow_nil _ _ _ _, hb, HRE, HPE, Nat.le_refl _⟩
          case round =>
            have z33 := W3.lt
            have HRL2 : Hid (∀ q, (Value.slice A nr cc).ownBlock = some q → q < wp.heap.size) := Lib.hid (fun q hq => (HRE.out.lt q hq).2)
            have HPL : Hid (∀ q, (Value.slice AP np cp).ownBlock = some q → q < wp.heap.size) := Lib.hid (fun q hq => (HPE.out.lt q hq).2)
            clear W1 W2 W3 hb HRE HPE x9 y9 m6
            obtain ⟨k, AP2, cp2, hk, rfl, W1, W2, W3, hown, hb, HRE, HPE, hgr⟩ := hrel
            have m6 := W1.cell 10
            have x9 := W3.cell 10
            have y9 := W3.free 10
            simp at m6 x9
            by_cases hlt3 : k < na
            · obtain ⟨⟨p, t⟩, hp⟩ : ∃ x, asks[k]? = some x := ⟨asks[k]'(by rw [HNA.out]; exact hlt3), by simp⟩
              obtain ⟨gP, oP, rfl, hgP, hcP⟩ := (H10.out.below hb (Nat.le_refl _)).2 (by omega)
              obtain ⟨d0, d1⟩ := two_get (fun p : Nat × Nat => Value.int .u32 (p.1 : Int)) (fun p => .int .u8 (p.2 : Int)) asks k (p, t) hp
              have c0 := hcP _ _ d0
              have c1 := hcP _ _ d1
              rw [← Nat.add_assoc] at c1
              dsimp only at c0 c1
              obtain ⟨hp6, ht6⟩ := HFA.out _ (List.mem_of_getElem? hp)
              dsimp only at hp6 ht6
              have HT : Hid (askC (asks.take (k + 1)) = askC (asks.take k) ++ [.int .u32 (p : Int), .int .u8 (t : Int)]) := Lib.hid (by rw [List.take_add_one, hp]; simp [askC])
              have hi1 : (0 : Int) ≤ (k : Int) := by omega
              have hi2 : (k : Int) < (na : Int) := by omega
              have hsz := hb.size
              have hz3 := W3.lt
              have HW1 := Lib.hid W1
              have HW2 := Lib.hid W2
              have HW3 := Lib.hid W3
              have HO := Lib.hid hown
              have HB := Lib.hid hb
              clear W1 W2 W3 hown hb
              have KEEP := Lib.hid (fun w' (b : Below w.heap.size w w') (hw : Whole w' g1 59 #[.int .i64 kind, .int .u32 (ssrc : Int), .int .u32 (media : Int), .int .u64 (clock : Int), .int .u32 (time : Int), .int .u32 (packets : Int), .int .u32 (bytes : Int), .slice rA nr rc, .slice wA nw wc, .slice pA np pc, .slice (some ⟨gP, oP, none⟩) na ac, .int .u8 (typ : Int)]) => show (fun w' => w'.cell? ⟨g1, 10, none⟩ = some (.slice (some ⟨gP, oP, none⟩) na ac) ∧ w'.cell? ⟨gP, oP + k * 2, none⟩ = some (.int .u32 (p : Int)) ∧ w'.cell? ⟨gP, oP + k * 2 + 1, none⟩ = some (.int .u8 (t : Int))) w' from by
                obtain ⟨g', o', e', _, hc⟩ := (H10.out.below b (Nat.le_refl _)).2 (by omega)
                injection e' with e'
                injection e' with e1 e2
                subst e1 e2
                have q1 := hc _ _ d1
                rw [← Nat.add_assoc] at q1
                exact ⟨hw.cell 10, hc _ _ d0, q1⟩)
              obtain ⟨i0, hi0, hz0, hz1, hz2⟩ := info_parts info_A9
              have HI0 := Lib.hid hi0
              have HZ0 := Lib.hid hz0
              have HZ1 := Lib.hid hz1
              have HZ2 := Lib.hid hz2
              have HNE : Hid (∀ q, (Value.slice AP2 k cp2).ownBlock = some q → wp.heap.size ≤ q) := Lib.hid (fun q hq => (HO.out.lt q hq).1)
              skip
              skip
              clear hi0 hz0 hz1 hz2 d0 d1 hp hcP
              go_wp2_with fail
              have b0 : Below w.heap.size w wr.drew := HB.out.drew
              refine wp_region_held_drew (S := fun w' => w'.cell? ⟨g1, 10, none⟩ = some (.slice (some ⟨gP, oP, none⟩) na ac) ∧ w'.cell? ⟨gP, oP + k * 2, none⟩ = some (.int .u32 (p : Int)) ∧ w'.cell? ⟨gP, oP + k * 2 + 1, none⟩ = some (.int .u8 (t : Int))) (by kernel_rfl) (KEEP.out _ b0 HW1.out) (fun hHeld0 => ?_)
              refine wpAnyH_take (i := 0) (v := ?_) rfl (by kernel_rfl) (by kernel_rfl) (by kernel_rfl) (fun _ _ _ h => h) (Or.inl ⟨by kernel_rfl, ?_⟩) (by assumption) ?_
              rotate_left 1
              · (intro w hSw; obtain ⟨q0, q1, q2⟩ := hSw; go_simp; try (with_reducible rfl))
              (try simp only [Act.put, List.getElem_toArray, List.getElem_cons_succ, List.getElem_cons_zero, List.setIfInBounds_toArray, List.set_cons_zero, List.set_cons_succ])
              refine wpAnyH_take (i := 2) (v := ?_) rfl (by kernel_rfl) (by kernel_rfl) (by kernel_rfl) (fun _ _ _ h => h) (Or.inl ⟨by kernel_rfl, ?_⟩) (by assumption) ?_
              rotate_left 1
              · (intro w hSw; obtain ⟨q0, q1, q2⟩ := hSw; go_simp; try (with_reducible rfl))
              (try simp only [Act.put, List.getElem_toArray, List.getElem_cons_succ, List.getElem_cons_zero, List.setIfInBounds_toArray, List.set_cons_zero, List.set_cons_succ])
              refine wpAnyH_take (i := 3) (v := ?_) rfl (by kernel_rfl) (by kernel_rfl) (by kernel_rfl) (fun _ _ _ h => h) (Or.inl ⟨by kernel_rfl, ?_⟩) (by assumption) ?_
              rotate_left 1
              · (intro w hSw; obtain ⟨q0, q1, q2⟩ := hSw; go_simp; try (with_reducible rfl))
              (try simp only [Act.put, List.getElem_toArray, List.getElem_cons_succ, List.getElem_cons_zero, List.setIfInBounds_toArray, List.set_cons_zero, List.set_cons_succ])
              refine wpAnyH_take (i := 4) (v := ?_) rfl (by kernel_rfl) (by kernel_rfl) (by kernel_rfl) (fun _ _ _ h => h) (Or.inl ⟨by kernel_rfl, ?_⟩) (by assumption) ?_
              rotate_left 1
              · (intro w hSw; obtain ⟨q0, q1, q2⟩ := hSw; go_simp; try (with_reducible rfl))
              (try simp only [Act.put, List.getElem_toArray, List.getElem_cons_succ, List.getElem_cons_zero, List.setIfInBounds_toArray, List.set_cons_zero, List.set_cons_succ])
              refine wpAnyH_take (i := 5) (v := ?_) rfl (by kernel_rfl) (by kernel_rfl) (by kernel_rfl) (fun _ _ _ h => h) (Or.inl ⟨by kernel_rfl, ?_⟩) (by assumption) ?_
              rotate_left 1
              · (intro w hSw; obtain ⟨q0, q1, q2⟩ := hSw; go_simp; try (with_reducible rfl))
              (try simp only [Act.put, List.getElem_toArray, List.getElem_cons_succ, List.getElem_cons_zero, List.setIfInBounds_toArray, List.set_cons_zero, List.set_cons_succ])
              refine wpAnyH_take (i := 6) (v := ?_) rfl (by kernel_rfl) (by kernel_rfl) (by kernel_rfl) (fun _ _ _ h => h) (Or.inl ⟨by kernel_rfl, ?_⟩) (by assumption) ?_
              rotate_left 1
              · (intro w hSw; obtain ⟨q0, q1, q2⟩ := hSw; go_simp; try (with_reducible rfl))
              (try simp only [Act.put, List.getElem_toArray, List.getElem_cons_succ, List.getElem_cons_zero, List.setIfInBounds_toArray, List.set_cons_zero, List.set_cons_succ])
              refine wpAnyH_take (i := 7) (v := ?_) rfl (by kernel_rfl) (by kernel_rfl) (by kernel_rfl) (fun _ _ _ h => h) (Or.inl ⟨by kernel_rfl, ?_⟩) (by assumption) ?_
              rotate_left 1
              · (intro w hSw; obtain ⟨q0, q1, q2⟩ := hSw; go_simp; try (with_reducible rfl))
              (try simp only [Act.put, List.getElem_toArray, List.getElem_cons_succ, List.getElem_cons_zero, List.setIfInBounds_toArray, List.set_cons_zero, List.set_cons_succ])
              refine wpAnyH_take (i := 8) (v := ?_) rfl (by kernel_rfl) (by kernel_rfl) (by kernel_rfl) (fun _ _ _ h => h) (Or.inl ⟨by kernel_rfl, ?_⟩) (by assumption) ?_
              rotate_left 1
              · (intro w hSw; obtain ⟨q0, q1, q2⟩ := hSw; go_simp; try (with_reducible rfl))
              (try simp only [Act.put, List.getElem_toArray, List.getElem_cons_succ, List.getElem_cons_zero, List.setIfInBounds_toArray, List.set_cons_zero, List.set_cons_succ])
              refine wpAnyH_take (i := 9) (v := ?_) rfl (by kernel_rfl) (by kernel_rfl) (by kernel_rfl) (fun _ _ _ h => h) (Or.inl ⟨by kernel_rfl, ?_⟩) (by assumption) ?_
              rotate_left 1
              · (intro w hSw; obtain ⟨q0, q1, q2⟩ := hSw; go_simp; try (with_reducible rfl))
              (try simp only [Act.put, List.getElem_toArray, List.getElem_cons_succ, List.getElem_cons_zero, List.setIfInBounds_toArray, List.set_cons_zero, List.set_cons_succ])
              refine wpAnyH_take (i := 10) (v := ?_) rfl (by kernel_rfl) (by kernel_rfl) (by kernel_rfl) (fun _ _ _ h => h) (Or.inl ⟨by kernel_rfl, ?_⟩) (by assumption) ?_
              rotate_left 1
              · (intro w hSw; obtain ⟨q0, q1, q2⟩ := hSw; go_simp; try (with_reducible rfl))
              (try simp only [Act.put, List.getElem_toArray, List.getElem_cons_succ, List.getElem_cons_zero, List.setIfInBounds_toArray, List.set_cons_zero, List.set_cons_succ])
              refine wpAnyH_take (i := 11) (v := ?_) rfl (by kernel_rfl) (by kernel_rfl) (by kernel_rfl) (fun _ _ _ h => h) (Or.inl ⟨by kernel_rfl, ?_⟩) (by assumption) ?_
              rotate_left 1
              · (intro w hSw; obtain ⟨q0, q1, q2⟩ := hSw; go_simp; try (with_reducible rfl))
              (try simp only [Act.put, List.getElem_toArray, List.getElem_cons_succ, List.getElem_cons_zero, List.setIfInBounds_toArray, List.set_cons_zero, List.set_cons_succ])
              refine wpAnyH_take (i := 12) (v := ?_) rfl (by kernel_rfl) (by kernel_rfl) (by kernel_rfl) (fun _ _ _ h => h) (Or.inl ⟨by kernel_rfl, ?_⟩) (by assumption) ?_
              rotate_left 1
              · (intro w hSw; obtain ⟨q0, q1, q2⟩ := hSw; go_simp; try (with_reducible rfl))
              (try simp only [Act.put, List.getElem_toArray, List.getElem_cons_succ, List.getElem_cons_zero, List.setIfInBounds_toArray, List.set_cons_zero, List.set_cons_succ])
              refine wpAnyH_take (i := 13) (v := ?_) rfl (by kernel_rfl) (by kernel_rfl) (by kernel_rfl) (fun _ _ _ h => h) (Or.inl ⟨by kernel_rfl, ?_⟩) (by assumption) ?_
              rotate_left 1
              · (intro w hSw; obtain ⟨q0, q1, q2⟩ := hSw; go_simp; try (with_reducible rfl))
              (try simp only [Act.put, List.getElem_toArray, List.getElem_cons_succ, List.getElem_cons_zero, List.setIfInBounds_toArray, List.set_cons_zero, List.set_cons_succ])
              refine wpAnyH_take (i := 14) (v := ?_) rfl (by kernel_rfl) (by kernel_rfl) (by kernel_rfl) (fun _ _ _ h => h) (Or.inl ⟨by kernel_rfl, ?_⟩) (by assumption) ?_
              rotate_left 1
              · (intro w hSw; obtain ⟨q0, q1, q2⟩ := hSw; go_simp; try (with_reducible rfl))
              (try simp only [Act.put, List.getElem_toArray, List.getElem_cons_succ, List.getElem_cons_zero, List.setIfInBounds_toArray, List.set_cons_zero, List.set_cons_succ])
              refine wpAnyH_ready (rs := [1, 15]) (by kernel_rfl) (by simp) ?_
              refine AllReadyH.cons rfl (fun K hK => ?_) ?_
              · go_simp
                refine hK.out _ _ (KEEP.out _ b0 HW1.out) (fun hHeld1 => ?_)
                clear hK K
                (try simp only [Act.put, List.getElem_toArray, List.getElem_cons_succ, List.getElem_cons_zero, List.setIfInBounds_toArray, List.set_cons_zero, List.set_cons_succ])
                refine wpAnyH_ready (rs := [15]) (by kernel_rfl) (by simp) ?_
                refine AllReadyH.cons rfl (fun K hK => ?_) ?_
                · go_simp
                  have b2 := (HB.out.alloc hsz (.cells #[.int .u32 (p : Int), .int .u8 (t : Int)] 87)).drew
                  have Wa2 := (HW1.out.alloc (.cells #[.int .u32 (p : Int), .int .u8 (t : Int)] 87)).drew
                  have Wb2 := (HW2.out.alloc (.cells #[.int .u32 (p : Int), .int .u8 (t : Int)] 87)).drew
                  have Wc2 := (HW3.out.alloc (.cells #[.int .u32 (p : Int), .int .u8 (t : Int)] 87)).drew
                  have ow2 := (HO.out.alloc (.cells #[.int .u32 (p : Int), .int .u8 (t : Int)] 87)).drew
                  have re2_0 := (HRE.out.alloc (.cells #[.int .u32 (p : Int), .int .u8 (t : Int)] 87)).drew
                  have re2_1 := (HPE.out.alloc (.cells #[.int .u32 (p : Int), .int .u8 (t : Int)] 87)).drew
                  refine hK.out _ _ (KEEP.out _ b2 Wa2) (fun hHeld2 => ?_)
                  clear hK K
                  (try simp only [Act.put, List.getElem_toArray, List.getElem_cons_succ, List.getElem_cons_zero, List.setIfInBounds_toArray, List.set_cons_zero, List.set_cons_succ])
                  refine wpAnyH_ready (rs := [16]) (by kernel_rfl) (by simp) ?_
                  refine AllReadyH.cons rfl (fun K hK => ?_) ?_
                  · refine step_append_lies _ (by rfl) (.tmp 98) (.tmp 112) 48 (by rfl) wp.heap.size 87 i0 _ 2 8 Tryd.underlying48 HI0.out HZ0.out HZ1.out HZ2.out rfl (by omega) (.slice AP2 k cp2) k (askC (asks.take k)) (by rfl) ow2 ⟨wr.heap.size, 0, none⟩ 1 1 [.int .u32 (p : Int), .int .u8 (t : Int)] (by rfl) (by rfl) (World.news_of_block (cs := #[.int .u32 (p : Int), .int .u8 (t : Int)]) (t := 87) (fr := (0, 0)) (heap_alloc_new wr _)) (by simp [Value.oneCell']) (by omega) (by unfold maxLen; omega) (by omega) (by simp; omega) (wr.heap.size + 1) (by simp) ?_
                    intro gg cap w2 hown2 hgrow hat hlt9
                    have B2 : Below w.heap.size w w2 := (b2).grown hgrow (by simp; omega) (fun q hq => by have := HNE.out q hq; omega)
                    have V1 := (Wa2).grown hgrow (fun e => by have := HNE.out _ e.symm; omega)
                    have V2 := (Wb2).grown hgrow (fun e => by have := HNE.out _ e.symm; omega)
                    have V3 := (Wc2).grown hgrow (fun e => by have := HNE.out _ e.symm; omega)
                    have RE2_0 := (re2_0).kept hgrow (apartN HRL2.out (fun q hq => HNE.out q hq))
                    have RE2_1 := (re2_1).kept hgrow (apartN HPL.out (fun q hq => HNE.out q hq))
                    have e9 := V3.cell 10
                    have f9 := V3.free 10
                    simp at e9
                    refine hK.out _ _ (KEEP.out _ B2 V1) (fun hHeld3 => ?_)
                    clear hK K
                    (try simp only [Act.put, List.getElem_toArray, List.getElem_cons_succ, List.getElem_cons_zero, List.setIfInBounds_toArray, List.set_cons_zero, List.set_cons_succ])
                    refine wpAnyH_take (i := 17) (v := ?_) rfl (by kernel_rfl) (by kernel_rfl) (by kernel_rfl) (fun _ _ _ h => h) (Or.inl ⟨by kernel_rfl, ?_⟩) (by assumption) ?_
                    rotate_left 1
                    · (intro w hSw; obtain ⟨q0, q1, q2⟩ := hSw; go_simp; try (with_reducible rfl))
                    (try simp only [Act.put, List.getElem_toArray, List.getElem_cons_succ, List.getElem_cons_zero, List.setIfInBounds_toArray, List.set_cons_zero, List.set_cons_succ])
                    refine wpAnyH_ready (rs := [18]) (by kernel_rfl) (by simp) ?_
                    refine AllReadyH.cons rfl (fun K hK => ?_) ?_
                    · go_simp
                      have B3 := B2.setCell (p := ⟨g1 + 1 + 1, 10, none⟩) (by have := HG1.out; show w.heap.size ≤ g1 + 1 + 1; omega) (.slice (some ⟨gg, 0, none⟩) (k + 1) cap)
                      have U1 := V1.far (p := ⟨g1 + 1 + 1, 10, none⟩) (show g1 ≠ g1 + 1 + 1 by omega) (.slice (some ⟨gg, 0, none⟩) (k + 1) cap)
                      have U2 := V2.far (p := ⟨g1 + 1 + 1, 10, none⟩) (show g1 + 1 ≠ g1 + 1 + 1 by omega) (.slice (some ⟨gg, 0, none⟩) (k + 1) cap)
                      have U3 := V3.set 10 (.slice (some ⟨gg, 0, none⟩) (k + 1) cap)
                      have OW := ownsRow_setCell_below hown2 (a := ⟨g1 + 1 + 1, 10, none⟩) (show g1 + 1 + 1 < wp.heap.size by omega) (.slice (some ⟨gg, 0, none⟩) (k + 1) cap)
                      have RE3_0 := ownsRow_setCell_below RE2_0 (a := ⟨g1 + 1 + 1, 10, none⟩) (show g1 + 1 + 1 < g1 + 3 by omega) (.slice (some ⟨gg, 0, none⟩) (k + 1) cap)
                      have RE3_1 := ownsRow_setCell_below RE2_1 (a := ⟨g1 + 1 + 1, 10, none⟩) (show g1 + 1 + 1 < w1.heap.size by omega) (.slice (some ⟨gg, 0, none⟩) (k + 1) cap)
                      refine hK.out _ _ (KEEP.out _ B3 U1) (fun hHeld4 => ?_)
                      clear hK K
                      (try simp only [Act.put, List.getElem_toArray, List.getElem_cons_succ, List.getElem_cons_zero, List.setIfInBounds_toArray, List.set_cons_zero, List.set_cons_succ])
                      refine wpAnyH_done (by kernel_rfl) ?_ _
                      rw [← HT.out] at OW
                      have hgr2 : wp.heap.size ≤ (w2.setCell ⟨g1 + 1 + 1, 10, none⟩ (.slice (some ⟨gg, 0, none⟩) (k + 1) cap)).heap.size := by have := hgrow.size; simp at this ⊢; omega
                      have HU3 := Lib.hid U3
                      have HOW := Lib.hid OW
                      have HRE3_0 := Lib.hid RE3_0
                      have HRE3_1 := Lib.hid RE3_1
                      have HU1 := Lib.hid U1
                      have HU2 := Lib.hid U2
                      have HB3 := Lib.hid B3
                      clear U1 U2 U3 OW B3 V1 V2 V3 B2 RE3_0 RE2_0 RE3_1 RE2_1 hown2 hgrow hat hlt9 e9 f9
                      go_wp2
                      go_roundw
                      case rel => exact ⟨k + 1, some ⟨gg, 0, none⟩, cap, by omega, by go_num, HU1.out, HU2.out, HU3.out, HOW.out, HB3.out, HRE3_0, HRE3_1, hgr2⟩
                      case measure => simp [intOf]; omega
                    exact AllReadyH.nil
                  exact AllReadyH.nil
                exact AllReadyH.nil
              refine AllReadyH.cons rfl (fun K hK => ?_) ?_
              · go_simp
                have b1 := (HB.out.alloc hsz (.cells #[.int .u32 (p : Int), .int .u8 (t : Int)] 87)).drew
                have Wa1 := (HW1.out.alloc (.cells #[.int .u32 (p : Int), .int .u8 (t : Int)] 87)).drew
                have Wb1 := (HW2.out.alloc (.cells #[.int .u32 (p : Int), .int .u8 (t : Int)] 87)).drew
                have Wc1 := (HW3.out.alloc (.cells #[.int .u32 (p : Int), .int .u8 (t : Int)] 87)).drew
                have ow1 := (HO.out.alloc (.cells #[.int .u32 (p : Int), .int .u8 (t : Int)] 87)).drew
                have re1_0 := (HRE.out.alloc (.cells #[.int .u32 (p : Int), .int .u8 (t : Int)] 87)).drew
                have re1_1 := (HPE.out.alloc (.cells #[.int .u32 (p : Int), .int .u8 (t : Int)] 87)).drew
                refine hK.out _ _ (KEEP.out _ b1 Wa1) (fun hHeld1 => ?_)
                clear hK K
                (try simp only [Act.put, List.getElem_toArray, List.getElem_cons_succ, List.getElem_cons_zero, List.setIfInBounds_toArray, List.set_cons_zero, List.set_cons_succ])
                refine wpAnyH_ready (rs := [1]) (by kernel_rfl) (by simp) ?_
                refine AllReadyH.cons rfl (fun K hK => ?_) ?_
                · go_simp
                  refine hK.out _ _ (KEEP.out _ b1 Wa1) (fun hHeld2 => ?_)
                  clear hK K
                  (try simp only [Act.put, List.getElem_toArray, List.getElem_cons_succ, List.getElem_cons_zero, List.setIfInBounds_toArray, List.set_cons_zero, List.set_cons_succ])
                  refine wpAnyH_ready (rs := [16]) (by kernel_rfl) (by simp) ?_
                  refine AllReadyH.cons rfl (fun K hK => ?_) ?_
                  · refine step_append_lies _ (by rfl) (.tmp 98) (.tmp 112) 48 (by rfl) wp.heap.size 87 i0 _ 2 8 Tryd.underlying48 HI0.out HZ0.out HZ1.out HZ2.out rfl (by omega) (.slice AP2 k cp2) k (askC (asks.take k)) (by rfl) ow1 ⟨wr.heap.size, 0, none⟩ 1 1 [.int .u32 (p : Int), .int .u8 (t : Int)] (by rfl) (by rfl) (World.news_of_block (cs := #[.int .u32 (p : Int), .int .u8 (t : Int)]) (t := 87) (fr := (0, 0)) (heap_alloc_new wr _)) (by simp [Value.oneCell']) (by omega) (by unfold maxLen; omega) (by omega) (by simp; omega) (wr.heap.size + 1) (by simp) ?_
                    intro gg cap w2 hown2 hgrow hat hlt9
                    have B2 : Below w.heap.size w w2 := (b1).grown hgrow (by simp; omega) (fun q hq => by have := HNE.out q hq; omega)
                    have V1 := (Wa1).grown hgrow (fun e => by have := HNE.out _ e.symm; omega)
                    have V2 := (Wb1).grown hgrow (fun e => by have := HNE.out _ e.symm; omega)
                    have V3 := (Wc1).grown hgrow (fun e => by have := HNE.out _ e.symm; omega)
                    have RE2_0 := (re1_0).kept hgrow (apartN HRL2.out (fun q hq => HNE.out q hq))
                    have RE2_1 := (re1_1).kept hgrow (apartN HPL.out (fun q hq => HNE.out q hq))
                    have e9 := V3.cell 10
                    have f9 := V3.free 10
                    simp at e9
                    refine hK.out _ _ (KEEP.out _ B2 V1) (fun hHeld3 => ?_)
                    clear hK K
                    (try simp only [Act.put, List.getElem_toArray, List.getElem_cons_succ, List.getElem_cons_zero, List.setIfInBounds_toArray, List.set_cons_zero, List.set_cons_succ])
                    refine wpAnyH_take (i := 17) (v := ?_) rfl (by kernel_rfl) (by kernel_rfl) (by kernel_rfl) (fun _ _ _ h => h) (Or.inl ⟨by kernel_rfl, ?_⟩) (by assumption) ?_
                    rotate_left 1
                    · (intro w hSw; obtain ⟨q0, q1, q2⟩ := hSw; go_simp; try (with_reducible rfl))
                    (try simp only [Act.put, List.getElem_toArray, List.getElem_cons_succ, List.getElem_cons_zero, List.setIfInBounds_toArray, List.set_cons_zero, List.set_cons_succ])
                    refine wpAnyH_ready (rs := [18]) (by kernel_rfl) (by simp) ?_
                    refine AllReadyH.cons rfl (fun K hK => ?_) ?_
                    · go_simp
                      have B3 := B2.setCell (p := ⟨g1 + 1 + 1, 10, none⟩) (by have := HG1.out; show w.heap.size ≤ g1 + 1 + 1; omega) (.slice (some ⟨gg, 0, none⟩) (k + 1) cap)
                      have U1 := V1.far (p := ⟨g1 + 1 + 1, 10, none⟩) (show g1 ≠ g1 + 1 + 1 by omega) (.slice (some ⟨gg, 0, none⟩) (k + 1) cap)
                      have U2 := V2.far (p := ⟨g1 + 1 + 1, 10, none⟩) (show g1 + 1 ≠ g1 + 1 + 1 by omega) (.slice (some ⟨gg, 0, none⟩) (k + 1) cap)
                      have U3 := V3.set 10 (.slice (some ⟨gg, 0, none⟩) (k + 1) cap)
                      have OW := ownsRow_setCell_below hown2 (a := ⟨g1 + 1 + 1, 10, none⟩) (show g1 + 1 + 1 < wp.heap.size by omega) (.slice (some ⟨gg, 0, none⟩) (k + 1) cap)
                      have RE3_0 := ownsRow_setCell_below RE2_0 (a := ⟨g1 + 1 + 1, 10, none⟩) (show g1 + 1 + 1 < g1 + 3 by omega) (.slice (some ⟨gg, 0, none⟩) (k + 1) cap)
                      have RE3_1 := ownsRow_setCell_below RE2_1 (a := ⟨g1 + 1 + 1, 10, none⟩) (show g1 + 1 + 1 < w1.heap.size by omega) (.slice (some ⟨gg, 0, none⟩) (k + 1) cap)
                      refine hK.out _ _ (KEEP.out _ B3 U1) (fun hHeld4 => ?_)
                      clear hK K
                      (try simp only [Act.put, List.getElem_toArray, List.getElem_cons_succ, List.getElem_cons_zero, List.setIfInBounds_toArray, List.set_cons_zero, List.set_cons_succ])
                      refine wpAnyH_done (by kernel_rfl) ?_ _
                      rw [← HT.out] at OW
                      have hgr2 : wp.heap.size ≤ (w2.setCell ⟨g1 + 1 + 1, 10, none⟩ (.slice (some ⟨gg, 0, none⟩) (k + 1) cap)).heap.size := by have := hgrow.size; simp at this ⊢; omega
                      have HU3 := Lib.hid U3
                      have HOW := Lib.hid OW
                      have HRE3_0 := Lib.hid RE3_0
                      have HRE3_1 := Lib.hid RE3_1
                      have HU1 := Lib.hid U1
                      have HU2 := Lib.hid U2
                      have HB3 := Lib.hid B3
                      clear U1 U2 U3 OW B3 V1 V2 V3 B2 RE3_0 RE2_0 RE3_1 RE2_1 hown2 hgrow hat hlt9 e9 f9
                      go_wp2
                      go_roundw
                      case rel => exact ⟨k + 1, some ⟨gg, 0, none⟩, cap, by omega, by go_num, HU1.out, HU2.out, HU3.out, HOW.out, HB3.out, HRE3_0, HRE3_1, hgr2⟩
                      case measure => simp [intOf]; omega
                    exact AllReadyH.nil
                  exact AllReadyH.nil
                exact AllReadyH.nil
              exact AllReadyH.nil
            · obtain rfl : na = k := by omega
              have hown' : wr.ownsRow wp.heap.size 87 2 (.slice AP2 na cp2) na (askC asks) := by rwa [List.take_of_length_le (by rw [HNA.out]; exact Nat.le_refl _)] at hown
              clear x9 y9 hown
              have c0 := W3.cell 0
              have e0 := W2.cell 0
              have f0 := W2.free 0
              have c1 := W3.cell 1
              have e1 := W2.cell 1
              have f1 := W2.free 1
              have c2 := W3.cell 2
              have e2 := W2.cell 2
              have f2 := W2.free 2
              have c3 := W3.cell 3
              have e3 := W2.cell 3
              have f3 := W2.free 3
              have c4 := W3.cell 4
              have e4 := W2.cell 4
              have f4 := W2.free 4
              have c5 := W3.cell 5
              have e5 := W2.cell 5
              have f5 := W2.free 5
              have c6 := W3.cell 6
              have e6 := W2.cell 6
              have f6 := W2.free 6
              have c7 := W3.cell 7
              have e7 := W2.cell 7
              have f7 := W2.free 7
              have c8 := W3.cell 8
              have e8 := W2.cell 8
              have f8 := W2.free 8
              have c9 := W3.cell 9
              have e9 := W2.cell 9
              have f9 := W2.free 9
              have c10 := W3.cell 10
              have e10 := W2.cell 10
              have f10 := W2.free 10
              have c11 := W3.cell 11
              have e11 := W2.cell 11
              have f11 := W2.free 11
              simp at c0 e0 c1 e1 c2 e2 c3 e3 c4 e4 c5 e5 c6 e6 c7 e7 c8 e8 c9 e9 c10 e10 c11 e11
              go_wp2_with fail
              have hG := HG1.out
              have hBB := below12 (r := g1 + 1) hb (by omega) (.int .i64 kind) (.int .u32 (ssrc : Int)) (.int .u32 (media : Int)) (.int .u64 (clock : Int)) (.int .u32 (time : Int)) (.int .u32 (packets : Int)) (.int .u32 (bytes : Int)) (.slice A nr cc) (.slice wA nw wc) (.slice AP np cp) (.slice AP2 na cp2) (.int .u8 (typ : Int))
              have hR := own12 (r := g1 + 1) HRE.out (by omega) (.int .i64 kind) (.int .u32 (ssrc : Int)) (.int .u32 (media : Int)) (.int .u64 (clock : Int)) (.int .u32 (time : Int)) (.int .u32 (packets : Int)) (.int .u32 (bytes : Int)) (.slice A nr cc) (.slice wA nw wc) (.slice AP np cp) (.slice AP2 na cp2) (.int .u8 (typ : Int))
              have hP := own12 (r := g1 + 1) HPE.out (by omega) (.int .i64 kind) (.int .u32 (ssrc : Int)) (.int .u32 (media : Int)) (.int .u64 (clock : Int)) (.int .u32 (time : Int)) (.int .u32 (packets : Int)) (.int .u32 (bytes : Int)) (.slice A nr cc) (.slice wA nw wc) (.slice AP np cp) (.slice AP2 na cp2) (.int .u8 (typ : Int))
              have hA := own12 (r := g1 + 1) hown' (by omega) (.int .i64 kind) (.int .u32 (ssrc : Int)) (.int .u32 (media : Int)) (.int .u64 (clock : Int)) (.int .u32 (time : Int)) (.int .u32 (packets : Int)) (.int .u32 (bytes : Int)) (.slice A nr cc) (.slice wA nw wc) (.slice AP np cp) (.slice AP2 na cp2) (.int .u8 (typ : Int))
              have hW := whole12 W2 (.int .i64 kind) (.int .u32 (ssrc : Int)) (.int .u32 (media : Int)) (.int .u64 (clock : Int)) (.int .u32 (time : Int)) (.int .u32 (packets : Int)) (.int .u32 (bytes : Int)) (.slice A nr cc) (.slice wA nw wc) (.slice AP np cp) (.slice AP2 na cp2) (.int .u8 (typ : Int))
              clear W1 W2 W3 hb HRE HPE hown' c0 e0 f0 c1 e1 f1 c2 e2 f2 c3 e3 f3 c4 e4 f4 c5 e5 f5 c6 e6 f6 c7 e7 f7 c8 e8 f8 c9 e9 f9 c10 e10 f10 c11 e11 f11
              obtain ⟨we, hwe⟩ : ∃ we, we = ((((((((((((wr.setCell ⟨g1 + 1, 0, none⟩ (.int .i64 kind)).setCell ⟨g1 + 1, 1, none⟩ (.int .u32 (ssrc : Int))).setCell ⟨g1 + 1, 2, none⟩ (.int .u32 (media : Int))).setCell ⟨g1 + 1, 3, none⟩ (.int .u64 (clock : Int))).setCell ⟨g1 + 1, 4, none⟩ (.int .u32 (time : Int))).setCell ⟨g1 + 1, 5, none⟩ (.int .u32 (packets : Int))).setCell ⟨g1 + 1, 6, none⟩ (.int .u32 (bytes : Int))).setCell ⟨g1 + 1, 7, none⟩ (.slice A nr cc)).setCell ⟨g1 + 1, 8, none⟩ (.slice wA nw wc)).setCell ⟨g1 + 1, 9, none⟩ (.slice AP np cp)).setCell ⟨g1 + 1, 10, none⟩ (.slice AP2 na cp2)).setCell ⟨g1 + 1, 11, none⟩ (.int .u8 (typ : Int))) := ⟨_, rfl⟩
              rw [← hwe] at hW hBB hR hP hA ⊢
              clear hwe
              have e0 : we.cell? ⟨g1 + 1, 0, none⟩ = some (.int .i64 kind) := hW.cell 0
              have e1 : we.cell? ⟨g1 + 1, 1, none⟩ = some (.int .u32 (ssrc : Int)) := hW.cell 1
              have e2 : we.cell? ⟨g1 + 1, 2, none⟩ = some (.int .u32 (media : Int)) := hW.cell 2
              have e3 : we.cell? ⟨g1 + 1, 3, none⟩ = some (.int .u64 (clock : Int)) := hW.cell 3
              have e4 : we.cell? ⟨g1 + 1, 4, none⟩ = some (.int .u32 (time : Int)) := hW.cell 4
              have e5 : we.cell? ⟨g1 + 1, 5, none⟩ = some (.int .u32 (packets : Int)) := hW.cell 5
              have e6 : we.cell? ⟨g1 + 1, 6, none⟩ = some (.int .u32 (bytes : Int)) := hW.cell 6
              have e7 : we.cell? ⟨g1 + 1, 7, none⟩ = some (.slice A nr cc) := hW.cell 7
              have e8 : we.cell? ⟨g1 + 1, 8, none⟩ = some (.slice wA nw wc) := hW.cell 8
              have e9 : we.cell? ⟨g1 + 1, 9, none⟩ = some (.slice AP np cp) := hW.cell 9
              have e10 : we.cell? ⟨g1 + 1, 10, none⟩ = some (.slice AP2 na cp2) := hW.cell 10
              have e11 : we.cell? ⟨g1 + 1, 11, none⟩ = some (.int .u8 (typ : Int)) := hW.cell 11
              refine bodyPost_ret (v := .agg #[.int .i64 kind, .int .u32 (ssrc : Int), .int .u32 (media : Int), .int .u64 (clock : Int), .int .u32 (time : Int), .int .u32 (packets : Int), .int .u32 (bytes : Int), .slice A nr cc, .slice wA nw wc, .slice AP np cp, .slice AP2 na cp2, .int .u8 (typ : Int)]) (by simp [results, Tryd.results20, e0, e1, e2, e3, e4, e5, e6, e7, e8, e9, e10, e11, go_sem]) rfl ⟨⟨⟨A, cc, wA, wc, AP, cp, AP2, cp2⟩, rfl, ⟨?_, ?_, ?_, ?_⟩, ?_, rfl⟩, hBB⟩
              · have := Row.of_own hR; rw [← HNR.out] at this; exact this
              · have := (H8.out.below hBB (Nat.le_refl _)).more hBB.size; rw [← HNW.out] at this; exact this
              · have := Row.of_own hP; rw [← HNP.out] at this; exact this
              · have := Row.of_own hA; rw [← HNA.out] at this; exact this
              · rintro g o (h | h | h)
                · dsimp only at h; rw [h] at hR; have := (hR.lt g rfl).1; omega
                · dsimp only at h; rw [h] at hP; have := (hP.lt g rfl).1; omega
                · dsimp only at h; rw [h] at hA; have := (hA.lt g rfl).1; omega
end Go.Proofs.YtcjmiidnhbmclaaDoor
