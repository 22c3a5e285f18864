/-
  The contract of package nack's Pack.
-/
import Derived.Test.YtoooemmjfmdiaaaNacC
namespace Go.Proofs.Ytoooemmjfmdiaaa
open Go.RowKit

theorem info_pair : (Try.prog.info? 27).map (fun i => (i.zero, i.size, i.bytes)) = some (some (.agg #[.int .u16 0, .int .u16 0]), 2, 4) := by kernel_rfl

/-- New pairs. -/
def NewPairs (ps : List (Nat × Nat)) (w : World) (e : Ending) (w' : World) : Prop :=
  ∃ A c, e = .returned (.slice A ps.length c) ∧ w'.ownsRow w.heap.size 27 2 (.slice A ps.length c) ps.length (prC ps) ∧ Below w.heap.size w w'

theorem n16_at {w : World} {B : Nat} {A : Option Addr} {l : List Nat} (h : Row w B 1 A l.length (n16 l)) (k x : Nat) (hp : l[k]? = some x) :
    ∃ g o, A = some ⟨g, o, none⟩ ∧ g < B ∧ w.cell? ⟨g, o + k, none⟩ = some (.int .u16 (x : Int)) := by
  have hk := (List.getElem?_eq_some_iff.1 hp).1
  obtain ⟨g, o, hA, hg, hc⟩ := h.2 (by omega)
  exact ⟨g, o, hA, hg, hc _ _ (n16_get l k x hp)⟩
theorem row_pair (w : World) (a b : Value) : Row (w.alloc (.cells #[a, b] 27)) (w.heap.size + 1) 2 (some ⟨w.heap.size, 0, none⟩) 1 [a, b] := by
  have := Row.lit w 27 #[a, b] 2 1 rfl
  exact this
/-- The last pair of a row of the call's own. -/
theorem last_pair {w : World} {base : Nat} {A : Option Addr} {c M : Nat} {acc : List (Nat × Nat)} {p m : Nat} (h : w.ownsRow base 27 2 (.slice A (M + 1) c) (M + 1) (prC (acc ++ [(p, m)]))) (hM : acc.length = M) :
    ∃ g, A = some ⟨g, 0, none⟩ ∧ base ≤ g ∧ g < w.heap.size ∧ w.cell? ⟨g, M * 2, none⟩ = some (.int .u16 (p : Int)) ∧ w.cell? ⟨g, M * 2 + 1, none⟩ = some (.int .u16 (m : Int)) ∧ w.frozen? ⟨g, M * 2 + 1, none⟩ = false := by
  obtain ⟨g, cap, hv, hb, hg⟩ := h.form (by omega)
  have hA : A = some ⟨g, 0, none⟩ := by injection hv
  subst hA
  obtain ⟨k0, k1⟩ := prC_get (acc ++ [(p, m)]) M (p, m) (by rw [← hM]; simp)
  refine ⟨g, rfl, hb, hg, ?_, ?_, h.frozenAt _⟩
  · rw [h.cellAt _ (by omega)]; exact k0
  · rw [h.cellAt _ (by omega)]; exact k1
theorem prC_set (acc : List (Nat × Nat)) (p m y : Nat) : (prC (acc ++ [(p, m)])).set (acc.length * 2 + 1) (.int .u16 (y : Int)) = prC (acc ++ [(p, y)]) := by
  rw [prC_append, prC_append, List.set_append_right _ _ (by rw [prC_length]; omega), prC_length]
  rw [show acc.length * 2 + 1 - acc.length * 2 = 1 by omega]
  rfl

set_option maxRecDepth 100000 in
set_option maxHeartbeats 1600000 in
theorem pack_any (A : Option Addr) (c : Nat) (l : List Nat) (w : World) (h : Row w w.heap.size 1 A l.length (n16 l)) (hf : ∀ x ∈ l, x < 65536) (hl : l.length ≤ 4096) :
    Calls Try.prog 12 #[.slice A l.length c] w (NewPairs (packS l) w) := by
  have H := Lib.hid h
  have HFIT := Lib.hid hf
  clear h hf
  go_enter Try.func12, Try.ntmps12
  go_wp2
  go_loopw [3, 9] (fun v i wr => ∃ (k N : Nat) (ps : List (Nat × Nat)), k ≤ l.length ∧ i = .int .i64 k ∧ N ≤ k ∧ wr.ownsRow w.heap.size 27 2 v N (prC ps) ∧ Hid ((l.take k).foldl stepP [] = ps) ∧ Hid (Fit ps) ∧ Below w.heap.size w wr) (fun _ i _ => l.length - (intOf i).toNat)
  case atStart => exact ⟨0, 0, [], Nat.zero_le _, rfl, by omega, World.ownsRow_nil _ _ _ _, Lib.hid rfl, Lib.hid (fun _ h => by simp at h), Below.refl _ _⟩
  case round =>
    obtain ⟨k, N, ps, hk, rfl, hN, hown, HX, HFP, hb⟩ := hrel
    obtain ⟨Av, cv, rfl⟩ := own_form hown
    have hpl : ps.length = N := by have := hown.1; rw [prC_length] at this; omega
    by_cases hlt : k < l.length
    · obtain ⟨x, hp⟩ : ∃ x, l[k]? = some x := ⟨l[k], by simp [hlt]⟩
      obtain ⟨g, o, hA, hg, hc0⟩ := n16_at ((H.out.below hb (Nat.le_refl _)).more (Nat.le_refl _)) k x hp
      subst hA
      have hi1 : (0 : Int) ≤ (k : Int) := by omega
      have hi2 : (k : Int) < (l.length : Int) := by omega
      have hsz := hb.size
      have hx := HFIT.out _ (List.mem_of_getElem? hp)
      have HX' : Hid ((l.take (k + 1)).foldl stepP [] = stepP ps x) := Lib.hid (by rw [fold_take l k x hp, HX.out])
      have HFP' : Hid (Fit (stepP ps x)) := Lib.hid (stepP_fit ps x HFP.out hx)
      have hne : ∀ q, (Value.slice Av N cv).ownBlock = some q → w.heap.size ≤ q ∧ q < wr.heap.size := fun q hq => hown.lt q hq
      have HNE := Lib.hid hne
      clear hp hne HX
      rcases List.eq_nil_or_concat ps with rfl | ⟨acc, ⟨p, m⟩, hps⟩
      · obtain rfl : N = 0 := by simpa using hpl.symm
        have HO := Lib.hid hown
        have HB := Lib.hid hb
        have HR := Lib.hid (row_pair wr (.int .u16 (x : Int)) (.int .u16 0))
        clear hown hb hpl
        go_wp2_with (at_builtin; refine wpl_append _ rfl (.tmp 26) (.tmp 29) 22 rfl w.heap.size 27 (.agg #[.int .u16 0, .int .u16 0]) 2 4 Try.underlying22 info_pair rfl (by decide) (.slice Av 0 cv) 0 (prC []) rfl (HO.out.alloc _) (wr.heap.size + 1) (some ⟨wr.heap.size, 0, none⟩) 1 1 [.int .u16 (x : Int), .int .u16 0] rfl HR.out (by simp [Value.oneCell']) ?c1 ?c2 ?c3 ?_)
        case c1 => unfold maxLen; omega
        case c2 => omega
        case c3 => simp; omega
        intro v3 w3 hown3 hg3 _
        have hb3 : Below w.heap.size w w3 := (HB.out.alloc (by omega) _).grown hg3 (by simp; omega) (fun q hq => (HNE.out q hq).1)
        clear hg3 HO HB HR HNE hsz hc0
        go_wp2
        go_roundw
        case rel => exact ⟨k + 1, 1, [(x, 0)], by omega, by go_num, by omega, hown3, HX', HFP', hb3⟩
        case measure => simp [intOf]; omega
      · rw [List.concat_eq_append] at hps
        subst hps
        obtain ⟨M, hM⟩ : ∃ M, acc.length = M := ⟨_, rfl⟩
        obtain rfl : N = M + 1 := by simp at hpl; omega
        obtain ⟨gv, hAv, hgv, hgv2, d0, d1, df⟩ := last_pair hown hM
        subst hAv
        have hpm := HFP.out (p, m) (by simp)
        have hp6 : p < 65536 := hpm.1
        have hm6 : m < 65536 := hpm.2
        have HO := Lib.hid hown
        have HB := Lib.hid hb
        have HM := Lib.hid hM
        clear hown hb hpl hpm hM
        by_cases h16 : 16 < farN p x
        · have HC := Lib.hid (take_no gv (M * 2) p x wr hp6 hx d0 h16)
          have HS : Hid (stepP (acc ++ [(p, m)]) x = acc ++ [(p, m)] ++ [(x, 0)]) := Lib.hid (by rw [stepP_snoc, if_pos h16])
          clear h16 d0 d1 df
          go_wp2_with fail
          refine HC.out.mono ?_
          rintro e w1 ⟨rfl, b1⟩
          have hsz1 := b1.size
          have HO1 := Lib.hid (own_below HO.out b1 (Nat.le_refl _))
          have HB1 := Lib.hid (bnext HB.out b1)
          have HR := Lib.hid (row_pair w1 (.int .u16 (x : Int)) (.int .u16 0))
          clear HC b1 HO HB hc0
          go_wp2_with (at_builtin; refine wpl_append _ rfl (.tmp 26) (.tmp 29) 22 rfl w.heap.size 27 (.agg #[.int .u16 0, .int .u16 0]) 2 4 Try.underlying22 info_pair rfl (by decide) (.slice (some ⟨gv, 0, none⟩) (M + 1) cv) (M + 1) (prC (acc ++ [(p, m)])) rfl (HO1.out.alloc _) (w1.heap.size + 1) (some ⟨w1.heap.size, 0, none⟩) 1 1 [.int .u16 (x : Int), .int .u16 0] rfl HR.out (by simp [Value.oneCell']) ?c1 ?c2 ?c3 ?_)
          case c1 => unfold maxLen; omega
          case c2 => omega
          case c3 => simp; omega
          intro v3 w3 hown3 hg3 _
          have hb3 : Below w.heap.size w w3 := (HB1.out.alloc (by omega) _).grown hg3 (by simp; omega) (fun q hq => (HNE.out q hq).1)
          have hown3' : w3.ownsRow w.heap.size 27 2 v3 (M + 1 + 1) (prC (stepP (acc ++ [(p, m)]) x)) := by
            rw [HS.out, prC_append]
            exact hown3
          clear hg3 HO1 HB1 HR HNE hsz hown3 HS
          go_wp2
          go_roundw
          case rel => exact ⟨k + 1, M + 1 + 1, _, by omega, by go_num, by omega, hown3', HX', HFP', hb3⟩
          case measure => simp [intOf]; omega
        · by_cases h0 : farN p x = 0
          · have HC := Lib.hid (take_same gv (M * 2) p x wr hp6 hx d0 h0)
            have HS : Hid (stepP (acc ++ [(p, m)]) x = acc ++ [(p, m)]) := Lib.hid (by rw [stepP_snoc, if_neg h16, if_pos h0])
            clear h16 h0 d0 d1 df
            go_wp2_with fail
            refine HC.out.mono ?_
            rintro e w1 ⟨rfl, b1⟩
            have HO1 := own_below HO.out b1 (Nat.le_refl _)
            have HB1 := bnext HB.out b1
            rw [← HS.out] at HO1
            clear HC b1 HO HB hc0 HS
            go_wp2
            go_roundw
            case rel => exact ⟨k + 1, M + 1, _, by omega, by go_num, by omega, HO1, HX', HFP', HB1⟩
            case measure => simp [intOf]; omega
          · have HC := Lib.hid (take_bit gv (M * 2) p m x wr hp6 hm6 hx d0 d1 df hgv2 h16 h0)
            have HS : Hid (stepP (acc ++ [(p, m)]) x = acc ++ [(p, setb m (farN p x - 1))]) := Lib.hid (by rw [stepP_snoc, if_neg h16, if_neg h0])
            clear h16 h0 d0 d1 df
            go_wp2_with fail
            refine HC.out.mono ?_
            rintro e w2 ⟨rfl, w1, b1, rfl⟩
            have HO1 := own_below HO.out b1 (Nat.le_refl _)
            have hst := (HO1.stored (M * 2 + 1) (.int .u16 ((setb m (farN p x - 1) : Nat) : Int))).1
            have HB1 : Below w.heap.size w (w1.setCell ⟨gv, M * 2 + 1, none⟩ (.int .u16 ((setb m (farN p x - 1) : Nat) : Int))).drew := bdrewN ((bnext HB.out b1).setCell hgv _) 1
            have hset := prC_set acc p m (setb m (farN p x - 1))
            rw [HM.out] at hset
            rw [hset, ← HS.out] at hst
            have hst' : (w1.setCell ⟨gv, M * 2 + 1, none⟩ (.int .u16 ((setb m (farN p x - 1) : Nat) : Int))).drew.ownsRow w.heap.size 27 2 (.slice (some ⟨gv, 0, none⟩) (M + 1) cv) (M + 1) (prC (stepP (acc ++ [(p, m)]) x)) := hst
            clear HC b1 HO HB hc0 HS HO1 hst hset
            go_wp2
            go_roundw
            case rel => exact ⟨k + 1, M + 1, _, by omega, by go_num, by omega, hst', HX', HFP', HB1⟩
            case measure => simp [intOf]; omega
    · obtain rfl : k = l.length := by omega
      have HF : Hid (NewPairs (packS l) w (.returned (.slice Av N cv)) wr) := Lib.hid (by
        have e1 := HX.out
        rw [List.take_length, fold_packS] at e1
        subst e1
        subst hpl
        exact ⟨Av, cv, rfl, hown, hb⟩)
      clear hown hb HX
      go_wp2
      go_ret
      exact HF.out
end Go.Proofs.Ytoooemmjfmdiaaa
