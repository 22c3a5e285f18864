/-
  Contract of the document's Gone (layer 18).
-/
import Derived.Test.YtmmeceehfdbdoaaDeW
namespace Go.Proofs.Ytmmeceehfdbdoaa
open Go.RowKit
open Dl
set_option linter.unusedSimpArgs false
set_option linter.unusedVariables false
set_option maxRecDepth 100000

namespace Dl
def goneB (l : List Sb) (b : Sb) : Bool := (l.find? (isB b.who b.track)).isNone
theorem goneB_iff {l : List Sb} {b : Sb} : goneB l b = true ↔ ixS (isB b.who b.track) l < 0 := by
  unfold goneB
  have h := ixS_low (f := isB b.who b.track) (l := l)
  rw [Option.isNone_iff_eq_none, List.find?_eq_none]
  constructor
  · intro a
    have : l.any (isB b.who b.track) = false := List.any_eq_false.mpr fun x hx => a x hx
    rw [this] at h
    have : ¬ 0 ≤ ixS (isB b.who b.track) l := fun e => by have := h.mpr e; cases this
    omega
  · intro a x hx e
    have := h.mp (List.any_eq_true.mpr ⟨x, hx, e⟩)
    omega
end Dl
set_option maxHeartbeats 6400000 in
theorem rgone18 (a1 a2 a3 a4 : Int) (PA : Option Addr) (pn pc : Nat) (TA : Option Addr) (tn tc : Nat) (A : Option Addr) (c : Nat) (m : List Sb)
    (e1 e2 e3 e4 : Int) (QA : Option Addr) (qn qc : Nat) (UA : Option Addr) (un uc : Nat) (B : Option Addr) (d : Nat) (l : List Sb) (w : World)
    (hr : Row w w.heap.size 5 A m.length (sbC m)) (hm : m.length ≤ 4096) (hb : Row w w.heap.size 5 B l.length (sbC l)) (hl : l.length ≤ 4096) :
    Calls Try.prog 18 #[.agg #[.int .i64 a1, .int .i64 a2, .int .i64 a3, .int .i64 a4, .slice PA pn pc, .slice TA tn tc, .slice A m.length c], .agg #[.int .i64 e1, .int .i64 e2, .int .i64 e3, .int .i64 e4, .slice QA qn qc, .slice UA un uc, .slice B l.length d]] w fun e w' =>
      ∃ A' c', e = .returned (.slice A' (m.filter (goneB l)).length c') ∧ w'.ownsRow (w.heap.size + 2) 56 5 (.slice A' (m.filter (goneB l)).length c') (m.filter (goneB l)).length (sbC (m.filter (goneB l))) ∧ Below w.heap.size w w' := by
  obtain ⟨n, hn⟩ : ∃ n, m.length = n := ⟨_, rfl⟩
  obtain ⟨nb, hnb⟩ : ∃ n, l.length = n := ⟨_, rfl⟩
  have HN := Lib.hid hn
  have HNB := Lib.hid hnb
  have HR := Lib.hid hr
  have HRB := Lib.hid hb
  rw [hn] at hm ⊢
  rw [hnb] at hl ⊢
  obtain ⟨w1, hw1⟩ : ∃ z, z = w.alloc (.cells #[.int .i64 a1, .int .i64 a2, .int .i64 a3, .int .i64 a4, .slice PA pn pc, .slice TA tn tc, .slice A n c] 37) := ⟨_, rfl⟩
  have HB1 := Lib.hid (show Below w.heap.size w w1 by rw [hw1]; exact (Below.refl _ _).alloc (Nat.le_refl _) _)
  have HS := Lib.hid (show Whole w1 w.heap.size 37 #[.int .i64 a1, .int .i64 a2, .int .i64 a3, .int .i64 a4, .slice PA pn pc, .slice TA tn tc, .slice A n c] by rw [hw1]; exact Whole.new w _ _)
  have hz1 : w1.heap.size = w.heap.size + 1 := by rw [hw1]; simp
  obtain ⟨w2, hw2⟩ : ∃ z, z = w1.alloc (.cells #[.int .i64 e1, .int .i64 e2, .int .i64 e3, .int .i64 e4, .slice QA qn qc, .slice UA un uc, .slice B nb d] 37) := ⟨_, rfl⟩
  have HB2 := Lib.hid (show Below w1.heap.size w1 w2 by rw [hw2]; exact (Below.refl _ _).alloc (Nat.le_refl _) _)
  have HS2 := Lib.hid (Whole.below HS.out HB2.out (by omega))
  have HV2 := Lib.hid (show Whole w2 (w.heap.size + 1) 37 #[.int .i64 e1, .int .i64 e2, .int .i64 e3, .int .i64 e4, .slice QA qn qc, .slice UA un uc, .slice B nb d] by rw [hw2, ← hz1]; exact Whole.new w1 _ _)
  have hz2 : w2.heap.size = w.heap.size + 2 := by rw [hw2]; simp; omega
  have HBB := Lib.hid (HB1.out.trans (HB2.out.mono (by omega)))
  have HR2 := Lib.hid (HR.out.below HBB.out (Nat.le_refl _))
  have HRB2 := Lib.hid (HRB.out.below HBB.out (Nat.le_refl _))
  have HZ2 := Lib.hid (show w.heap.size + 2 ≤ w2.heap.size by omega)
  have CT := Lib.hid (fun w' (b : Below w2.heap.size w2 w') (yw yt : Int) => (show Calls Try.prog 34 #[.agg #[.int .i64 e1, .int .i64 e2, .int .i64 e3, .int .i64 e4, .slice QA qn qc, .slice UA un uc, .slice B nb d], .int .i64 yw, .int .i64 yt] w' (fun e w'' => e = .returned (.int .i64 (ixS (isB yw yt) l)) ∧ Below w'.heap.size w' w'') by
    have h := rsub18 e1 e2 e3 e4 (.slice QA qn qc) (.slice UA un uc) B d l yw yt w' ((HRB2.out.below (b.mono (by omega) : Below w.heap.size w2 w') (Nat.le_refl _)).more (by have := b.size; omega)) (by rw [HNB.out]; exact hl)
    rw [HNB.out] at h; exact h))
  go_enter Try.func18, Try.ntmps18
  go_upto_region 1 with fail
  rw [← hw1]
  rw [← hw2]
  clear hr hn hb hnb hw1 hw2 HS HR HRB HB1 HB2 hz1 hz2
  go_wp2_with fail
  go_loopw [5, 6] (fun v i wr => ∃ k : Nat, k ≤ n ∧ i = .int .i64 (k : Int) ∧ wr.ownsRow w2.heap.size 56 5 v ((m.take k).filter (goneB l)).length (sbC ((m.take k).filter (goneB l))) ∧ Below w2.heap.size w2 wr) (fun _ i _ => n - (intOf i).toNat)
  case atStart => exact ⟨0, Nat.zero_le _, rfl, World.ownsRow_nil _ _ _ _, Below.refl _ _⟩
  case round =>
    obtain ⟨k, hk, rfl, hown, hb⟩ := hrel
    obtain ⟨Bv, dv, rfl⟩ := own_form hown
    have HO := Lib.hid hown
    have HB := Lib.hid hb
    have hsz := hb.size
    have HVr := Lib.hid (Whole.below HV2.out hb (by have := HZ2.out; omega))
    have q0 := HVr.out.cell 0
    have q1 := HVr.out.cell 1
    have q2 := HVr.out.cell 2
    have q3 := HVr.out.cell 3
    have q4 := HVr.out.cell 4
    have q5 := HVr.out.cell 5
    have q6 := HVr.out.cell 6
    have r6 := (Whole.below HS2.out hb (by have := HZ2.out; omega)).cell 6
    have lw : w.heap.size < wr.heap.size := by have := HZ2.out; omega
    have lv : w.heap.size + 1 < wr.heap.size := by have := HZ2.out; omega
    clear hown hb
    by_cases hlt : k < n
    · obtain ⟨y, hy⟩ : ∃ y, m[k]? = some y := ⟨_, List.getElem?_eq_getElem (by rw [HN.out]; exact hlt)⟩
      obtain ⟨g, o, rfl, hg, hc⟩ := HR2.out.2 (by rw [HN.out]; omega)
      have h0 := (HB.out.cell (p := ⟨g, o + (k * 5 + 0), none⟩) (by show g < _; have := HZ2.out; omega)).trans (hc _ _ ((sbC_get hy 0 (by decide)).trans rfl))
      have h1 := (HB.out.cell (p := ⟨g, o + (k * 5 + 1), none⟩) (by show g < _; have := HZ2.out; omega)).trans (hc _ _ ((sbC_get hy 1 (by decide)).trans rfl))
      have h2 := (HB.out.cell (p := ⟨g, o + (k * 5 + 2), none⟩) (by show g < _; have := HZ2.out; omega)).trans (hc _ _ ((sbC_get hy 2 (by decide)).trans rfl))
      have h3 := (HB.out.cell (p := ⟨g, o + (k * 5 + 3), none⟩) (by show g < _; have := HZ2.out; omega)).trans (hc _ _ ((sbC_get hy 3 (by decide)).trans rfl))
      have h4 := (HB.out.cell (p := ⟨g, o + (k * 5 + 4), none⟩) (by show g < _; have := HZ2.out; omega)).trans (hc _ _ ((sbC_get hy 4 (by decide)).trans rfl))
      rw [← Nat.add_assoc] at h0 h1 h2 h3 h4
      rw [Nat.add_zero] at h0
      have HT := Lib.hid (filter_add (goneB l) hy)
      obtain ⟨out, hout⟩ : ∃ z, (m.take k).filter (goneB l) = z := ⟨_, rfl⟩
      have hle := len_take_filter (goneB l) m k
      rw [hout] at HT HO hle ⊢
      obtain ⟨OL, hOL⟩ : ∃ z, out.length = z := ⟨_, rfl⟩
      have HOL := Lib.hid hOL
      rw [hOL] at HO hle ⊢
      have lg : g < wr.heap.size := by omega
      have i0 : (0 : Int) ≤ (k : Int) := by omega
      have i1 : (k : Int) < (n : Int) := by omega
      obtain ⟨yw, yt, yl, yd, ym⟩ := y
      dsimp only at h0 h1 h2 h3 h4
      clear hy hc hout hOL
      have KS := Lib.hid (fun w' (b' : Below wr.heap.size wr w') => show (fun w' => w'.cell? ⟨w.heap.size + 1, 0, none⟩ = some (.int .i64 e1) ∧ w'.cell? ⟨w.heap.size + 1, 1, none⟩ = some (.int .i64 e2) ∧ w'.cell? ⟨w.heap.size + 1, 2, none⟩ = some (.int .i64 e3) ∧ w'.cell? ⟨w.heap.size + 1, 3, none⟩ = some (.int .i64 e4) ∧ w'.cell? ⟨w.heap.size + 1, 4, none⟩ = some (.slice QA qn qc) ∧ w'.cell? ⟨w.heap.size + 1, 5, none⟩ = some (.slice UA un uc) ∧ w'.cell? ⟨w.heap.size + 1, 6, none⟩ = some (.slice B nb d) ∧ w'.cell? ⟨w.heap.size, 6, none⟩ = some (.slice (some ⟨g, o, none⟩) n c) ∧ w'.cell? ⟨g, o + k * 5, none⟩ = some (.int .i64 yw) ∧ w'.cell? ⟨g, o + k * 5 + 1, none⟩ = some (.int .i64 yt) ∧ Below wr.heap.size wr w') w' from ⟨(b'.cell (p := ⟨w.heap.size + 1, 0, none⟩) lv).trans q0, (b'.cell (p := ⟨w.heap.size + 1, 1, none⟩) lv).trans q1, (b'.cell (p := ⟨w.heap.size + 1, 2, none⟩) lv).trans q2, (b'.cell (p := ⟨w.heap.size + 1, 3, none⟩) lv).trans q3, (b'.cell (p := ⟨w.heap.size + 1, 4, none⟩) lv).trans q4, (b'.cell (p := ⟨w.heap.size + 1, 5, none⟩) lv).trans q5, (b'.cell (p := ⟨w.heap.size + 1, 6, none⟩) lv).trans q6, (b'.cell (p := ⟨w.heap.size, 6, none⟩) lw).trans r6, (b'.cell (p := ⟨g, o + k * 5, none⟩) lg).trans h0, (b'.cell (p := ⟨g, o + k * 5 + 1, none⟩) lg).trans h1, b'⟩)
      go_wp2_with fail
      go_region_held3 (fun w' => w'.cell? ⟨w.heap.size + 1, 0, none⟩ = some (.int .i64 e1) ∧ w'.cell? ⟨w.heap.size + 1, 1, none⟩ = some (.int .i64 e2) ∧ w'.cell? ⟨w.heap.size + 1, 2, none⟩ = some (.int .i64 e3) ∧ w'.cell? ⟨w.heap.size + 1, 3, none⟩ = some (.int .i64 e4) ∧ w'.cell? ⟨w.heap.size + 1, 4, none⟩ = some (.slice QA qn qc) ∧ w'.cell? ⟨w.heap.size + 1, 5, none⟩ = some (.slice UA un uc) ∧ w'.cell? ⟨w.heap.size + 1, 6, none⟩ = some (.slice B nb d) ∧ w'.cell? ⟨w.heap.size, 6, none⟩ = some (.slice (some ⟨g, o, none⟩) n c) ∧ w'.cell? ⟨g, o + k * 5, none⟩ = some (.int .i64 yw) ∧ w'.cell? ⟨g, o + k * 5 + 1, none⟩ = some (.int .i64 yt) ∧ Below wr.heap.size wr w')
        (first | exact KS.out _ (Below.refl _ _).drew | exact KS.out _ B8 | exact ‹_ ∧ _ ∧ _ ∧ _ ∧ _ ∧ _ ∧ _ ∧ _ ∧ _ ∧ _ ∧ Below _ _ _› | go_keep)
        ((go_at_call 34; with_reducible refine (CT.out _ ?_ yw yt).mono ?_; (exact HB.out.trans (((‹_ ∧ _ ∧ _ ∧ _ ∧ _ ∧ _ ∧ _ ∧ _ ∧ _ ∧ _ ∧ Below _ _ _›).2.2.2.2.2.2.2.2.2.2).mono HB.out.size)); rintro e w8 ⟨rfl, b8⟩; have B8 := ((‹_ ∧ _ ∧ _ ∧ _ ∧ _ ∧ _ ∧ _ ∧ _ ∧ _ ∧ _ ∧ Below _ _ _›).2.2.2.2.2.2.2.2.2.2).trans (b8.mono ((‹_ ∧ _ ∧ _ ∧ _ ∧ _ ∧ _ ∧ _ ∧ _ ∧ _ ∧ _ ∧ Below _ _ _›).2.2.2.2.2.2.2.2.2.2).size)))
      have HB8 := Lib.hid (HB.out.trans (B8.mono hsz))
      have HO8 := Lib.hid (own_below HO.out B8 (Nat.le_refl _))
      have hz8 := B8.size
      have e6 := (B8.cell (p := ⟨w.heap.size, 6, none⟩) lw).trans r6
      have y0 := (B8.cell (p := ⟨g, o + k * 5, none⟩) lg).trans h0
      have y1 := (B8.cell (p := ⟨g, o + k * 5 + 1, none⟩) lg).trans h1
      have y2 := (B8.cell (p := ⟨g, o + k * 5 + 2, none⟩) lg).trans h2
      have y3 := (B8.cell (p := ⟨g, o + k * 5 + 3, none⟩) lg).trans h3
      have y4 := (B8.cell (p := ⟨g, o + k * 5 + 4, none⟩) lg).trans h4
      have lg8 : g < w8.heap.size := by omega
      have lw8 : w.heap.size < w8.heap.size := by omega
      obtain ⟨ix, hix⟩ : ∃ z, ixS (isB yw yt) l = z := ⟨_, rfl⟩
      have HIX := Lib.hid hix
      rw [hix]
      clear hix KS b8 B8 HB HO h0 h1 h2 h3 h4 q0 q1 q2 q3 q4 q5 q6 r6 HVr lg lw lv
      by_cases hi : ix < 0
      · have HT2 := Lib.hid (show (m.take (k + 1)).filter (goneB l) = out ++ [⟨yw, yt, yl, yd, ym⟩] by rw [HT.out, if_pos (by rw [goneB_iff]; rw [HIX.out]; exact hi)])
        have HW := Lib.hid (Row.fresh w8 56 #[.int .i64 yw, .int .i64 yt, .int .i64 yl, .int .i64 yd, .bool ym] 5 1 [.int .i64 yw, .int .i64 yt, .int .i64 yl, .int .i64 yd, .bool ym] rfl rfl)
        clear HT
        go_wp2_with (at_builtin; refine wpl_append _ rfl (.tmp 29) (.tmp 35) 35 rfl w2.heap.size 56 (.agg #[.int .i64 0, .int .i64 0, .int .i64 0, .int .i64 0, .bool false]) 5 40 Try.underlying35 info_B18 rfl (by decide) _ OL (sbC out) rfl (HO8.out.alloc _) _ _ 1 1 [.int .i64 yw, .int .i64 yt, .int .i64 yl, .int .i64 yd, .bool ym] rfl HW.out (by simp [Value.oneCell']) ?c1 ?c2 ?c3 ?_)
        case c1 => unfold maxLen; omega
        case c2 => omega
        case c3 => first | omega | (simp; omega)
        intro v7 w7 hown7 hg7 _
        have HF := Lib.hid (And.intro (show w7.ownsRow w2.heap.size 56 5 v7 ((m.take (k + 1)).filter (goneB l)).length (sbC ((m.take (k + 1)).filter (goneB l))) by
            rw [HT2.out, List.length_append, HOL.out, sbC_add, List.length_singleton]
            exact hown7)
          (show Below w2.heap.size w2 w7 from (HB8.out.alloc HB8.out.size _).grown hg7 (by simp; omega) (fun q hq => (HO8.out.lt q hq).1)))
        clear hown7 hg7 HO8 HB8 HW
        go_wp2_with fail
        go_roundw
        case rel => exact ⟨k + 1, by omega, by go_num, HF.out.1, HF.out.2⟩
        case measure => simp [intOf]; omega
      · have HT2 := Lib.hid (show (m.take (k + 1)).filter (goneB l) = out by rw [HT.out, if_neg (by rw [goneB_iff]; rw [HIX.out]; omega)])
        have i9 : (0 : Int) ≤ ix := by omega
        clear HT
        go_wp2_with fail
        go_roundw
        case rel => exact ⟨k + 1, by omega, by go_num, by rw [HT2.out, HOL.out]; exact HO8.out, HB8.out⟩
        case measure => simp [intOf]; omega
    · obtain rfl : k = n := by omega
      have hF : (m.take k).filter (goneB l) = m.filter (goneB l) := by rw [List.take_of_length_le (by rw [HN.out]; exact Nat.le_refl _)]
      rw [hF] at HO ⊢
      have HF := Lib.hid (And.intro (own_base HO.out HZ2.out) (HBB.out.trans (HB.out.mono (by have := HZ2.out; omega))))
      clear HO hF
      go_wp2_with fail
      go_ret
      exact ⟨Bv, dv, rfl, HF.out.1, HF.out.2⟩
end Go.Proofs.Ytmmeceehfdbdoaa
