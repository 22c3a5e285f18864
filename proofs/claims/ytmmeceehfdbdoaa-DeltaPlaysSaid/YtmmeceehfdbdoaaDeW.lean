/-
  Contract of the document's without (layer 18).
-/
import Derived.Test.YtmmeceehfdbdoaaDeS
import Derived.Deep.AppendLies
namespace Go.Proofs.Ytmmeceehfdbdoaa
open Go.RowKit
open Dl
set_option linter.unusedSimpArgs false
set_option linter.unusedVariables false
set_option maxRecDepth 100000

namespace Dl
def keepT (id owner : Int) (x : Tm) : Bool := !decide (x.t.id = id) && !decide (x.t.owner = owner)
def keepB (who : Int) (l : List Tm) (b : Sb) : Bool := !ofB who b && l.any fun x => isT b.track x.t
theorem flat_append {α : Type} {f : α → List Value} (l m : List α) : ((l ++ m).map f).flatten = (l.map f).flatten ++ (m.map f).flatten := by simp
theorem filter_add {α : Type} {l : List α} {k : Nat} {x : α} (f : α → Bool) (h : l[k]? = some x) : (l.take (k + 1)).filter f = if f x = true then (l.take k).filter f ++ [x] else (l.take k).filter f := by
  have e : l.take (k + 1) = l.take k ++ [x] := by rw [List.take_add_one, h]; rfl
  rw [e, List.filter_append]
  by_cases q : f x = true
  · rw [if_pos q, List.filter_cons_of_pos q, List.filter_nil]
  · rw [if_neg q, List.filter_cons_of_neg q, List.filter_nil, List.append_nil]
theorem tmC_add (l : List Tm) (x : Tm) : tmC (l ++ [x]) = tmC l ++ tmV x := by unfold tmC; simp
theorem sbC_add (l : List Sb) (x : Sb) : sbC (l ++ [x]) = sbC l ++ sbV x := by unfold sbC; simp
theorem len_take_filter {α : Type} (f : α → Bool) (l : List α) (k : Nat) : ((l.take k).filter f).length ≤ k := by
  have := List.length_filter_le f (l.take k); rw [List.length_take] at this; omega
theorem ixS_low {α : Type} {f : α → Bool} {l : List α} : l.any f = true ↔ 0 ≤ ixS f l := by
  unfold ixS
  cases e : l.findIdx? f with
  | none =>
    have h : l.any f = false := any_no fun i x hx => by
      have := List.findIdx?_eq_none_iff.mp e x (List.mem_of_getElem? hx)
      simpa using this
    rw [h]; simp
  | some i =>
    obtain ⟨hi, h, _⟩ := List.findIdx?_eq_some_iff_getElem.mp e
    have : l.any f = true := List.any_eq_true.mpr ⟨l[i], List.getElem_mem hi, h⟩
    rw [this]; simp
theorem keepB_iff {k : Int} {l : List Tm} {b : Sb} : keepB k l b = true ↔ ¬ b.who = k ∧ 0 ≤ ixS (fun x : Tm => isT b.track x.t) l := by
  unfold keepB ofB
  rw [Bool.and_eq_true, ixS_low]
  simp
end Dl
theorem info_T18 : (Try.prog.info? 60).map (fun i => (i.zero, i.size, i.bytes)) = some (some (.agg #[.int .i64 0, .int .i64 0, .int .i64 0, .slice none 0 0]), 4, 48) := by kernel_rfl
theorem info_B18 : (Try.prog.info? 56).map (fun i => (i.zero, i.size, i.bytes)) = some (some (.agg #[.int .i64 0, .int .i64 0, .int .i64 0, .int .i64 0, .bool false]), 5, 40) := by kernel_rfl
set_option maxHeartbeats 6400000 in
theorem rwithout18 (a1 a2 a3 a4 : Int) (PA : Option Addr) (pn pc : Nat) (A : Option Addr) (c : Nat) (l : List Tm) (B : Option Addr) (d : Nat) (m : List Sb) (k1 k2 k3 : Int) (w : World)
    (hr : TsAt w w.heap.size A l) (hl : l.length ≤ 4096) (hb : Row w w.heap.size 5 B m.length (sbC m)) (hm : m.length ≤ 4096) :
    Calls Try.prog 25 #[.agg #[.int .i64 a1, .int .i64 a2, .int .i64 a3, .int .i64 a4, .slice PA pn pc, .slice A l.length c, .slice B m.length d], .int .i64 k1, .int .i64 k2, .int .i64 k3] w fun e w' => ∃ Av cv Bv dv, e = .returned (.agg #[.int .i64 a1, .int .i64 a2, .int .i64 a3, .int .i64 a4, .slice PA pn pc, .slice Av (l.filter (keepT k1 k2)).length cv, .slice Bv (m.filter (keepB k3 (l.filter (keepT k1 k2)))).length dv]) ∧ w'.ownsRow (w.heap.size + 2) 60 4 (.slice Av (l.filter (keepT k1 k2)).length cv) (l.filter (keepT k1 k2)).length (tmC (l.filter (keepT k1 k2))) ∧ w'.ownsRow (w.heap.size + 2) 56 5 (.slice Bv (m.filter (keepB k3 (l.filter (keepT k1 k2)))).length dv) (m.filter (keepB k3 (l.filter (keepT k1 k2)))).length (sbC (m.filter (keepB k3 (l.filter (keepT k1 k2))))) ∧ Below w.heap.size w w' := by
  obtain ⟨n, hn⟩ : ∃ n, l.length = n := ⟨_, rfl⟩
  obtain ⟨nb, hnb⟩ : ∃ n, m.length = n := ⟨_, rfl⟩
  have HN := Lib.hid hn
  have HNB := Lib.hid hnb
  have HR := Lib.hid hr
  have HRB := Lib.hid hb
  rw [hn] at hl ⊢
  rw [hnb] at hm ⊢
  obtain ⟨w1, hw1⟩ : ∃ z, z = w.alloc (.cells #[.int .i64 a1, .int .i64 a2, .int .i64 a3, .int .i64 a4, .slice PA pn pc, .slice A n c, .slice B nb d] 37) := ⟨_, rfl⟩
  have HB1 := Lib.hid (show Below w.heap.size w w1 by rw [hw1]; exact (Below.refl _ _).alloc (Nat.le_refl _) _)
  have HS := Lib.hid (show Whole w1 w.heap.size 37 #[.int .i64 a1, .int .i64 a2, .int .i64 a3, .int .i64 a4, .slice PA pn pc, .slice A n c, .slice B nb d] by rw [hw1]; exact Whole.new w _ _)
  have hz1 : w1.heap.size = w.heap.size + 1 := by rw [hw1]; simp
  clear hr hn hb hnb
  go_enter Try.func25, Try.ntmps25
  go_upto_region 1 with fail
  rw [← hw1]
  obtain ⟨w2, hw2⟩ : ∃ z, z = w1.alloc (.cells #[.int .i64 0, .int .i64 0, .int .i64 0, .int .i64 0, .slice none 0 0, .slice none 0 0, .slice none 0 0] 37) := ⟨_, rfl⟩
  have HB2 := Lib.hid (show Below w1.heap.size w1 w2 by rw [hw2]; exact (Below.refl _ _).alloc (Nat.le_refl _) _)
  have HS2 := Lib.hid (show Whole w2 w.heap.size 37 #[.int .i64 a1, .int .i64 a2, .int .i64 a3, .int .i64 a4, .slice PA pn pc, .slice A n c, .slice B nb d] from Whole.below HS.out HB2.out (by omega))
  have HV2 := Lib.hid (show Whole w2 (w.heap.size + 1) 37 #[.int .i64 0, .int .i64 0, .int .i64 0, .int .i64 0, .slice none 0 0, .slice none 0 0, .slice none 0 0] by rw [hw2, ← hz1]; exact Whole.new w1 _ _)
  have hz2 : w2.heap.size = w.heap.size + 2 := by rw [hw2]; simp; omega
  have HR2 := Lib.hid ((HR.out.below HB1.out (Nat.le_refl _)).below HB2.out (by omega))
  have HRB2 := Lib.hid ((HRB.out.below HB1.out (Nat.le_refl _)).below HB2.out (by omega))
  have HBB := Lib.hid (HB1.out.trans (HB2.out.mono (by omega)))
  rw [← hw2]
  have HZ2 := Lib.hid hz2
  clear hw1 hw2 HS HR HRB HB1 HB2 hz1 hz2
  go_wp2_with fail
  go_loopw [9, 11] (fun v i wr => ∃ k : Nat, k ≤ n ∧ i = .int .i64 (k : Int) ∧ wr.ownsRow w2.heap.size 60 4 v ((l.take k).filter (keepT k1 k2)).length (tmC ((l.take k).filter (keepT k1 k2))) ∧ Below w2.heap.size w2 wr) (fun _ i _ => n - (intOf i).toNat)
  case atStart => exact ⟨0, Nat.zero_le _, rfl, World.ownsRow_nil _ _ _ _, Below.refl _ _⟩
  case round =>
    obtain ⟨k, hk, rfl, hown, hb⟩ := hrel
    obtain ⟨Av, cv, rfl⟩ := own_form hown
    have HO := Lib.hid hown
    have HB := Lib.hid hb
    have hsz := hb.size
    have r5 := (hb.cell (p := ⟨w.heap.size, 5, none⟩) (by show w.heap.size < _; have := HZ2.out; omega)).trans (HS2.out.cell 5)
    clear hown hb
    by_cases hlt : k < n
    · obtain ⟨x, hx⟩ : ∃ x, l[k]? = some x := ⟨_, List.getElem?_eq_getElem (by rw [HN.out]; exact hlt)⟩
      obtain ⟨g, o, rfl, hg, hc⟩ := HR2.out.1.2 (by rw [HN.out]; omega)
      have h0 := (HB.out.cell (p := ⟨g, o + (k * 4 + 0), none⟩) (by show g < _; have := HZ2.out; omega)).trans (hc _ _ ((tmC_get hx 0 (by decide)).trans rfl))
      have h1 := (HB.out.cell (p := ⟨g, o + (k * 4 + 1), none⟩) (by show g < _; have := HZ2.out; omega)).trans (hc _ _ ((tmC_get hx 1 (by decide)).trans rfl))
      have h2 := (HB.out.cell (p := ⟨g, o + (k * 4 + 2), none⟩) (by show g < _; have := HZ2.out; omega)).trans (hc _ _ ((tmC_get hx 2 (by decide)).trans rfl))
      have h3 := (HB.out.cell (p := ⟨g, o + (k * 4 + 3), none⟩) (by show g < _; have := HZ2.out; omega)).trans (hc _ _ ((tmC_get hx 3 (by decide)).trans rfl))
      rw [← Nat.add_assoc] at h0 h1 h2 h3
      rw [Nat.add_zero] at h0
      have HT := Lib.hid (filter_add (keepT k1 k2) hx)
      obtain ⟨out, hout⟩ : ∃ z, (l.take k).filter (keepT k1 k2) = z := ⟨_, rfl⟩
      have hle := len_take_filter (keepT k1 k2) l k
      rw [hout] at HT HO hle ⊢
      obtain ⟨OL, hOL⟩ : ∃ z, out.length = z := ⟨_, rfl⟩
      have HOL := Lib.hid hOL
      rw [hOL] at HO hle ⊢
      have lg : g < wr.heap.size := by have := HZ2.out; omega
      have lw : w.heap.size < wr.heap.size := by have := HZ2.out; omega
      have i0 : (0 : Int) ≤ (k : Int) := by omega
      have i1 : (k : Int) < (n : Int) := by omega
      obtain ⟨⟨xi, xo, xf, xs⟩, xA, xc⟩ := x
      obtain ⟨ns, hns⟩ : ∃ n, xs.length = n := ⟨_, rfl⟩
      have HNS := Lib.hid hns
      dsimp only at h0 h1 h2 h3
      rw [hns] at h3
      clear hx hc hout hOL hns
      by_cases hi : xi = k1
      · have HT2 := Lib.hid (show (l.take (k + 1)).filter (keepT k1 k2) = out by rw [HT.out, if_neg (by simp [keepT, hi])])
        subst hi
        clear HT
        go_wp2_with fail
        go_roundw
        case rel => exact ⟨k + 1, by omega, by go_num, by rw [HT2.out, HOL.out]; exact HO.out, HB.out⟩
        case measure => simp [intOf]; omega
      · by_cases ho : xo = k2
        · have HT2 := Lib.hid (show (l.take (k + 1)).filter (keepT k1 k2) = out by rw [HT.out, if_neg (by simp [keepT, ho])])
          subst ho
          clear HT
          go_wp2_with fail
          go_roundw
          case rel => exact ⟨k + 1, by omega, by go_num, by rw [HT2.out, HOL.out]; exact HO.out, HB.out⟩
          case measure => simp [intOf]; omega
        · have HT2 := Lib.hid (show (l.take (k + 1)).filter (keepT k1 k2) = out ++ [⟨⟨xi, xo, xf, xs⟩, xA, xc⟩] by rw [HT.out, if_pos (by simp [keepT, hi, ho])])
          have HW := Lib.hid (Row.fresh wr 60 #[.int .i64 xi, .int .i64 xo, .int .i64 xf, .slice xA ns xc] 4 1 [.int .i64 xi, .int .i64 xo, .int .i64 xf, .slice xA ns xc] rfl rfl)
          have b1 : (xi != k1) = true := by simp [hi]
          have b2 : (xo != k2) = true := by simp [ho]
          clear HT
          go_wp2_with (at_builtin; refine wpl_append _ rfl (.tmp 38) (.tmp 44) 34 rfl w2.heap.size 60 (.agg #[.int .i64 0, .int .i64 0, .int .i64 0, .slice none 0 0]) 4 48 Try.underlying34 info_T18 rfl (by decide) _ OL (tmC out) rfl (HO.out.alloc _) _ _ 1 1 [.int .i64 xi, .int .i64 xo, .int .i64 xf, .slice xA ns xc] rfl HW.out (by simp [Value.oneCell']) ?c1 ?c2 ?c3 ?_)
          case c1 => unfold maxLen; omega
          case c2 => omega
          case c3 => first | omega | (simp; omega)
          intro v7 w7 hown7 hg7 _
          have HF := Lib.hid (And.intro (show w7.ownsRow w2.heap.size 60 4 v7 ((l.take (k + 1)).filter (keepT k1 k2)).length (tmC ((l.take (k + 1)).filter (keepT k1 k2))) by
              rw [HT2.out, List.length_append, HOL.out, tmC_add, List.length_singleton]
              have e : tmV ⟨⟨xi, xo, xf, xs⟩, xA, xc⟩ = [.int .i64 xi, .int .i64 xo, .int .i64 xf, .slice xA ns xc] := by rw [← HNS.out]; rfl
              rw [e]; exact hown7)
            (show Below w2.heap.size w2 w7 from (HB.out.alloc HB.out.size _).grown hg7 (by simp; omega) (fun q hq => (HO.out.lt q hq).1)))
          clear hown7 hg7 HO HB HW
          go_wp2_with fail
          go_roundw
          case rel => exact ⟨k + 1, by omega, by go_num, HF.out.1, HF.out.2⟩
          case measure => simp [intOf]; omega
    · obtain rfl : k = n := by omega
      have fr5 := (Whole.below HS2.out HB.out (by have := HZ2.out; omega)).free 5
      obtain ⟨L, hL⟩ : ∃ z, l.filter (keepT k1 k2) = z := ⟨_, rfl⟩
      have hF : (l.take k).filter (keepT k1 k2) = L := by rw [← hL, List.take_of_length_le (by rw [HN.out]; exact Nat.le_refl _)]
      rw [hF] at HO ⊢
      obtain ⟨LT, hLT⟩ : ∃ z, L.length = z := ⟨_, rfl⟩
      have HLT := Lib.hid hLT
      have HL := Lib.hid hL
      have hLk : LT ≤ 4096 := by have := List.length_filter_le (keepT k1 k2) l; rw [hL, hLT, HN.out] at this; omega
      rw [hLT] at HO ⊢
      clear hF hL hLT
      go_upto_region 9 with fail
      have HSr := Lib.hid (Whole.below HS2.out HB.out (by have := HZ2.out; omega))
      obtain ⟨w3, hw3⟩ : ∃ z, z = wr.setCell ⟨w.heap.size, 5, none⟩ (.slice Av LT cv) := ⟨_, rfl⟩
      have HS3 := Lib.hid (show Whole w3 w.heap.size 37 #[.int .i64 a1, .int .i64 a2, .int .i64 a3, .int .i64 a4, .slice PA pn pc, .slice Av LT cv, .slice B nb d] by rw [hw3]; exact Whole.set HSr.out 5 (.slice Av LT cv))
      have HO3 := Lib.hid (show w3.ownsRow w2.heap.size 60 4 (.slice Av LT cv) LT (tmC L) by
        rw [hw3]
        exact own_farX HO.out (fun q hq e => by have h1 := (HO.out.lt q hq).1; have h2 := HZ2.out; have h3 : w.heap.size = q := e; clear e; omega))
      have HB3 := Lib.hid (show Below w.heap.size w w3 by
        rw [hw3]
        exact Below.setCell (p := ⟨w.heap.size, 5, none⟩) (HBB.out.trans (HB.out.mono (by have := HZ2.out; omega))) (Nat.le_refl _) _)
      have HB23 := Lib.hid (show Below w.heap.size w2 w3 by
        rw [hw3]
        have h : Below w.heap.size w2 wr := HB.out.mono (by have := HZ2.out; omega)
        exact Below.setCell (p := ⟨w.heap.size, 5, none⟩) h (Nat.le_refl _) _)
      have hz3 : w.heap.size + 2 ≤ w3.heap.size := by rw [hw3]; have := HZ2.out; simp; omega
      have HRB3 := Lib.hid (HRB2.out.below HB23.out (Nat.le_refl _))
      have HR3 := Lib.hid (show TsAt w3 w3.heap.size Av L from ⟨by rw [HLT.out]; exact Row.of_own HO3.out, fun x hx => by
        rw [← HL.out] at hx
        have h := HR2.out.2 x (List.mem_filter.mp hx).1
        exact ⟨(h.1.below HB23.out (Nat.le_refl _)).more (by omega), h.2⟩⟩)
      have HV3 := Lib.hid (show Whole w3 (w.heap.size + 1) 37 #[.int .i64 0, .int .i64 0, .int .i64 0, .int .i64 0, .slice none 0 0, .slice none 0 0, .slice none 0 0] by
        rw [hw3]; exact Whole.far (Whole.below HV2.out HB.out (by have := HZ2.out; omega)) (by show w.heap.size + 1 ≠ w.heap.size; omega) _)
      rw [← hw3]
      clear hw3 HSr fr5 HO HB HB23 HR2 HRB2 HBB HS2 HV2 r5 hsz hk hlt
      have CT := Lib.hid (fun w' (b : Below w3.heap.size w3 w') (yt : Int) => (show Calls Try.prog 50 #[.agg #[.int .i64 a1, .int .i64 a2, .int .i64 a3, .int .i64 a4, .slice PA pn pc, .slice Av LT cv, .slice B nb d], .int .i64 yt] w' (fun e w'' => e = .returned (.int .i64 (ixS (fun x : Tm => isT yt x.t) L)) ∧ Below w'.heap.size w' w'') by
        have h := rtrack18 a1 a2 a3 a4 (.slice PA pn pc) (.slice B nb d) Av cv L yt w' ((HR3.out.1.below b (Nat.le_refl _)).more b.size |> fun h => h) (by rw [HLT.out]; exact hLk)
        rw [HLT.out] at h; exact h))
      go_wp2_with fail
      go_loopw [10, 12] (fun v i wr => ∃ k : Nat, k ≤ nb ∧ i = .int .i64 (k : Int) ∧ wr.ownsRow w3.heap.size 56 5 v ((m.take k).filter (keepB k3 L)).length (sbC ((m.take k).filter (keepB k3 L))) ∧ Below w3.heap.size w3 wr) (fun _ i _ => nb - (intOf i).toNat)
      case atStart => exact ⟨0, Nat.zero_le _, rfl, World.ownsRow_nil _ _ _ _, Below.refl _ _⟩
      case round =>
        obtain ⟨k, hk, rfl, hown, hb⟩ := hrel
        obtain ⟨Bv, dv, rfl⟩ := own_form hown
        have HO := Lib.hid hown
        have HB := Lib.hid hb
        have hsz := hb.size
        have HSr := Lib.hid (Whole.below HS3.out hb (by omega))
        have r0 := HSr.out.cell 0
        have r1 := HSr.out.cell 1
        have r2 := HSr.out.cell 2
        have r3 := HSr.out.cell 3
        have r4 := HSr.out.cell 4
        have r5 := HSr.out.cell 5
        have r6 := HSr.out.cell 6
        have lw : w.heap.size < wr.heap.size := by omega
        clear hown hb
        by_cases hlt : k < nb
        · obtain ⟨y, hy⟩ : ∃ y, m[k]? = some y := ⟨_, List.getElem?_eq_getElem (by rw [HNB.out]; exact hlt)⟩
          obtain ⟨g, o, rfl, hg, hc⟩ := HRB3.out.2 (by rw [HNB.out]; omega)
          have h0 := (HB.out.cell (p := ⟨g, o + (k * 5 + 0), none⟩) (by show g < _; omega)).trans (hc _ _ ((sbC_get hy 0 (by decide)).trans rfl))
          have h1 := (HB.out.cell (p := ⟨g, o + (k * 5 + 1), none⟩) (by show g < _; omega)).trans (hc _ _ ((sbC_get hy 1 (by decide)).trans rfl))
          have h2 := (HB.out.cell (p := ⟨g, o + (k * 5 + 2), none⟩) (by show g < _; omega)).trans (hc _ _ ((sbC_get hy 2 (by decide)).trans rfl))
          have h3 := (HB.out.cell (p := ⟨g, o + (k * 5 + 3), none⟩) (by show g < _; omega)).trans (hc _ _ ((sbC_get hy 3 (by decide)).trans rfl))
          have h4 := (HB.out.cell (p := ⟨g, o + (k * 5 + 4), none⟩) (by show g < _; omega)).trans (hc _ _ ((sbC_get hy 4 (by decide)).trans rfl))
          rw [← Nat.add_assoc] at h0 h1 h2 h3 h4
          rw [Nat.add_zero] at h0
          have HT := Lib.hid (filter_add (keepB k3 L) hy)
          obtain ⟨out, hout⟩ : ∃ z, (m.take k).filter (keepB k3 L) = z := ⟨_, rfl⟩
          have hle := len_take_filter (keepB k3 L) m k
          rw [hout] at HT HO hle ⊢
          obtain ⟨OL, hOL⟩ : ∃ z, out.length = z := ⟨_, rfl⟩
          have HOL := Lib.hid hOL
          rw [hOL] at HO hle ⊢
          have lg : g < wr.heap.size := by omega
          have i0 : (0 : Int) ≤ (k : Int) := by omega
          have i1 : (k : Int) < (nb : Int) := by omega
          obtain ⟨yw, yt, yl, yd, ym⟩ := y
          dsimp only at h0 h1 h2 h3 h4
          clear hy hc hout hOL
          by_cases hw : yw = k3
          · have HT2 := Lib.hid (show (m.take (k + 1)).filter (keepB k3 L) = out by rw [HT.out, if_neg (by simp [keepB, ofB, hw])])
            subst hw
            clear HT
            go_wp2_with fail
            go_region
            go_wp2_with fail
            go_roundw
            case rel => exact ⟨k + 1, by omega, by go_num, by rw [HT2.out, HOL.out]; exact HO.out.drew, HB.out.drew⟩
            case measure => simp [intOf]; omega
          · have b1 : (yw != k3) = true := by simp [hw]
            have KS := Lib.hid (fun w' (b' : Below wr.heap.size wr w') => show (fun w' => w'.cell? ⟨w.heap.size, 0, none⟩ = some (.int .i64 a1) ∧ w'.cell? ⟨w.heap.size, 1, none⟩ = some (.int .i64 a2) ∧ w'.cell? ⟨w.heap.size, 2, none⟩ = some (.int .i64 a3) ∧ w'.cell? ⟨w.heap.size, 3, none⟩ = some (.int .i64 a4) ∧ w'.cell? ⟨w.heap.size, 4, none⟩ = some (.slice PA pn pc) ∧ w'.cell? ⟨w.heap.size, 5, none⟩ = some (.slice Av LT cv) ∧ w'.cell? ⟨w.heap.size, 6, none⟩ = some (.slice (some ⟨g, o, none⟩) nb d) ∧ w'.cell? ⟨g, o + k * 5, none⟩ = some (.int .i64 yw) ∧ w'.cell? ⟨g, o + k * 5 + 1, none⟩ = some (.int .i64 yt) ∧ Below wr.heap.size wr w') w' from
              ⟨(b'.cell (p := ⟨w.heap.size, 0, none⟩) lw).trans r0, (b'.cell (p := ⟨w.heap.size, 1, none⟩) lw).trans r1, (b'.cell (p := ⟨w.heap.size, 2, none⟩) lw).trans r2, (b'.cell (p := ⟨w.heap.size, 3, none⟩) lw).trans r3, (b'.cell (p := ⟨w.heap.size, 4, none⟩) lw).trans r4, (b'.cell (p := ⟨w.heap.size, 5, none⟩) lw).trans r5, (b'.cell (p := ⟨w.heap.size, 6, none⟩) lw).trans r6, (b'.cell (p := ⟨g, o + k * 5, none⟩) lg).trans h0, (b'.cell (p := ⟨g, o + k * 5 + 1, none⟩) lg).trans h1, b'⟩)
            go_wp2_with fail
            go_region_held3 (fun w' => w'.cell? ⟨w.heap.size, 0, none⟩ = some (.int .i64 a1) ∧ w'.cell? ⟨w.heap.size, 1, none⟩ = some (.int .i64 a2) ∧ w'.cell? ⟨w.heap.size, 2, none⟩ = some (.int .i64 a3) ∧ w'.cell? ⟨w.heap.size, 3, none⟩ = some (.int .i64 a4) ∧ w'.cell? ⟨w.heap.size, 4, none⟩ = some (.slice PA pn pc) ∧ w'.cell? ⟨w.heap.size, 5, none⟩ = some (.slice Av LT cv) ∧ w'.cell? ⟨w.heap.size, 6, none⟩ = some (.slice (some ⟨g, o, none⟩) nb d) ∧ w'.cell? ⟨g, o + k * 5, none⟩ = some (.int .i64 yw) ∧ w'.cell? ⟨g, o + k * 5 + 1, none⟩ = some (.int .i64 yt) ∧ Below wr.heap.size wr w')
              (first | exact KS.out _ (Below.refl _ _).drew | exact KS.out _ B8 | exact ‹_ ∧ _ ∧ _ ∧ _ ∧ _ ∧ _ ∧ _ ∧ _ ∧ _ ∧ Below _ _ _› | go_keep)
              ((go_at_call 50; with_reducible refine (CT.out _ ?_ yt).mono ?_; (exact HB.out.trans (((‹_ ∧ _ ∧ _ ∧ _ ∧ _ ∧ _ ∧ _ ∧ _ ∧ _ ∧ Below _ _ _›).2.2.2.2.2.2.2.2.2).mono HB.out.size)); rintro e w8 ⟨rfl, b8⟩; have B8 := (‹_ ∧ _ ∧ _ ∧ _ ∧ _ ∧ _ ∧ _ ∧ _ ∧ _ ∧ Below _ _ _›).2.2.2.2.2.2.2.2.2.trans (b8.mono (‹_ ∧ _ ∧ _ ∧ _ ∧ _ ∧ _ ∧ _ ∧ _ ∧ _ ∧ Below _ _ _›).2.2.2.2.2.2.2.2.2.size)))
            have HB8 := Lib.hid (HB.out.trans (B8.mono hsz))
            have HO8 := Lib.hid (own_below HO.out B8 (Nat.le_refl _))
            have hz8 := B8.size
            have e6 := (B8.cell (p := ⟨w.heap.size, 6, none⟩) lw).trans r6
            have y0 := (B8.cell (p := ⟨g, o + k * 5, none⟩) lg).trans h0
            have y1 := (B8.cell (p := ⟨g, o + k * 5 + 1, none⟩) lg).trans h1
            have y2 := (B8.cell (p := ⟨g, o + k * 5 + 2, none⟩) lg).trans h2
            have y3 := (B8.cell (p := ⟨g, o + k * 5 + 3, none⟩) lg).trans h3
            have y4 := (B8.cell (p := ⟨g, o + k * 5 + 4, none⟩) lg).trans h4
            have lg8 : g < w8.heap.size := by omega
            have lw8 : w.heap.size < w8.heap.size := by omega
            have HSL := Lib.hid HSr.out
            obtain ⟨ix, hix⟩ : ∃ z, ixS (fun x : Tm => isT yt x.t) L = z := ⟨_, rfl⟩
            have HIX := Lib.hid hix
            rw [hix]
            clear hix KS b8 B8 HB HO h0 h1 h2 h3 h4 r0 r1 r2 r3 r4 r5 r6 HSr lg lw
            by_cases hi : ix < 0
            · have HT2 := Lib.hid (show (m.take (k + 1)).filter (keepB k3 L) = out by rw [HT.out, if_neg (by rw [keepB_iff]; rw [HIX.out]; omega)])
              clear HT
              go_wp2_with fail
              go_roundw
              case rel => exact ⟨k + 1, by omega, by go_num, by rw [HT2.out, HOL.out]; exact HO8.out, HB8.out⟩
              case measure => simp [intOf]; omega
            · have HT2 := Lib.hid (show (m.take (k + 1)).filter (keepB k3 L) = out ++ [⟨yw, yt, yl, yd, ym⟩] by rw [HT.out, if_pos (by rw [keepB_iff]; rw [HIX.out]; exact ⟨hw, by omega⟩)])
              have i9 : (0 : Int) ≤ ix := by omega
              have HW := Lib.hid (Row.fresh w8 56 #[.int .i64 yw, .int .i64 yt, .int .i64 yl, .int .i64 yd, .bool ym] 5 1 [.int .i64 yw, .int .i64 yt, .int .i64 yl, .int .i64 yd, .bool ym] rfl rfl)
              clear HT
              go_wp2_with (at_builtin; refine wpl_append _ rfl (.tmp 74) (.tmp 80) 35 rfl w3.heap.size 56 (.agg #[.int .i64 0, .int .i64 0, .int .i64 0, .int .i64 0, .bool false]) 5 40 Try.underlying35 info_B18 rfl (by decide) _ OL (sbC out) rfl (HO8.out.alloc _) _ _ 1 1 [.int .i64 yw, .int .i64 yt, .int .i64 yl, .int .i64 yd, .bool ym] rfl HW.out (by simp [Value.oneCell']) ?c1 ?c2 ?c3 ?_)
              case c1 => unfold maxLen; omega
              case c2 => omega
              case c3 => first | omega | (simp; omega)
              intro v7 w7 hown7 hg7 _
              have HF := Lib.hid (And.intro (show w7.ownsRow w3.heap.size 56 5 v7 ((m.take (k + 1)).filter (keepB k3 L)).length (sbC ((m.take (k + 1)).filter (keepB k3 L))) by
                  rw [HT2.out, List.length_append, HOL.out, sbC_add, List.length_singleton]
                  exact hown7)
                (show Below w3.heap.size w3 w7 from (HB8.out.alloc HB8.out.size _).grown hg7 (by simp; omega) (fun q hq => (HO8.out.lt q hq).1)))
              clear hown7 hg7 HO8 HB8 HW
              go_wp2_with fail
              go_roundw
              case rel => exact ⟨k + 1, by omega, by go_num, HF.out.1, HF.out.2⟩
              case measure => simp [intOf]; omega
        · obtain rfl : k = nb := by omega
          obtain ⟨M, hM⟩ : ∃ z, m.filter (keepB k3 L) = z := ⟨_, rfl⟩
          have hF : (m.take k).filter (keepB k3 L) = M := by rw [← hM, List.take_of_length_le (by rw [HNB.out]; exact Nat.le_refl _)]
          rw [hF] at HO ⊢
          obtain ⟨LB, hLB⟩ : ∃ z, M.length = z := ⟨_, rfl⟩
          have HLB := Lib.hid hLB
          have HM := Lib.hid hM
          rw [hLB] at HO ⊢
          have HVr := Lib.hid (Whole.below HV3.out HB.out (by omega))
          have f6 := HSr.out.free 6
          have q0 := HVr.out.cell 0
          have q1 := HVr.out.cell 1
          have q2 := HVr.out.cell 2
          have q3 := HVr.out.cell 3
          have q4 := HVr.out.cell 4
          have q5 := HVr.out.cell 5
          have q6 := HVr.out.cell 6
          have g0 := HVr.out.free 0
          have g1 := HVr.out.free 1
          have g2 := HVr.out.free 2
          have g3 := HVr.out.free 3
          have g4 := HVr.out.free 4
          have g5 := HVr.out.free 5
          have g6 := HVr.out.free 6
          have lv : w.heap.size + 1 < wr.heap.size := by omega
          have hne : ¬ w.heap.size = w.heap.size + 1 := by omega
          clear hF hM hLB
          have HBw : Below w.heap.size w wr := HB3.out.trans (HB.out.mono (by omega))
          have HF := Lib.hid (show (((((((((wr.setCell ⟨w.heap.size, 6, none⟩ (.slice Bv LB dv)).setCell ⟨w.heap.size + 1, 0, none⟩ (.int .i64 a1)).setCell ⟨w.heap.size + 1, 1, none⟩ (.int .i64 a2)).setCell ⟨w.heap.size + 1, 2, none⟩ (.int .i64 a3)).setCell ⟨w.heap.size + 1, 3, none⟩ (.int .i64 a4)).setCell ⟨w.heap.size + 1, 4, none⟩ (.slice PA pn pc)).setCell ⟨w.heap.size + 1, 5, none⟩ (.slice Av LT cv)).setCell ⟨w.heap.size + 1, 6, none⟩ (.slice Bv LB dv))).ownsRow (w.heap.size + 2) 60 4 (.slice Av LT cv) LT (tmC L) ∧ (((((((((wr.setCell ⟨w.heap.size, 6, none⟩ (.slice Bv LB dv)).setCell ⟨w.heap.size + 1, 0, none⟩ (.int .i64 a1)).setCell ⟨w.heap.size + 1, 1, none⟩ (.int .i64 a2)).setCell ⟨w.heap.size + 1, 2, none⟩ (.int .i64 a3)).setCell ⟨w.heap.size + 1, 3, none⟩ (.int .i64 a4)).setCell ⟨w.heap.size + 1, 4, none⟩ (.slice PA pn pc)).setCell ⟨w.heap.size + 1, 5, none⟩ (.slice Av LT cv)).setCell ⟨w.heap.size + 1, 6, none⟩ (.slice Bv LB dv))).ownsRow (w.heap.size + 2) 56 5 (.slice Bv LB dv) LB (sbC M) ∧ Below w.heap.size w ((((((((wr.setCell ⟨w.heap.size, 6, none⟩ (.slice Bv LB dv)).setCell ⟨w.heap.size + 1, 0, none⟩ (.int .i64 a1)).setCell ⟨w.heap.size + 1, 1, none⟩ (.int .i64 a2)).setCell ⟨w.heap.size + 1, 2, none⟩ (.int .i64 a3)).setCell ⟨w.heap.size + 1, 3, none⟩ (.int .i64 a4)).setCell ⟨w.heap.size + 1, 4, none⟩ (.slice PA pn pc)).setCell ⟨w.heap.size + 1, 5, none⟩ (.slice Av LT cv)).setCell ⟨w.heap.size + 1, 6, none⟩ (.slice Bv LB dv)) from by
            refine ⟨?_, ?_, (Below.setCell (p := ⟨w.heap.size + 1, 6, none⟩) (Below.setCell (p := ⟨w.heap.size + 1, 5, none⟩) (Below.setCell (p := ⟨w.heap.size + 1, 4, none⟩) (Below.setCell (p := ⟨w.heap.size + 1, 3, none⟩) (Below.setCell (p := ⟨w.heap.size + 1, 2, none⟩) (Below.setCell (p := ⟨w.heap.size + 1, 1, none⟩) (Below.setCell (p := ⟨w.heap.size + 1, 0, none⟩) (Below.setCell (p := ⟨w.heap.size, 6, none⟩) HBw (Nat.le_refl _) (.slice Bv LB dv)) (Nat.le_succ _) (.int .i64 a1)) (Nat.le_succ _) (.int .i64 a2)) (Nat.le_succ _) (.int .i64 a3)) (Nat.le_succ _) (.int .i64 a4)) (Nat.le_succ _) (.slice PA pn pc)) (Nat.le_succ _) (.slice Av LT cv)) (Nat.le_succ _) (.slice Bv LB dv))⟩
            · have h := own_base (own_below HO3.out HB.out (Nat.le_refl _)) (show w.heap.size + 2 ≤ w2.heap.size by rw [HZ2.out]; exact Nat.le_refl _)
              have fq : ∀ q, (Value.slice Av LT cv).ownBlock = some q → ¬ (q = w.heap.size ∨ q = w.heap.size + 1) := fun q hq => by have := (h.lt q hq).1; omega
              exact own_farX (own_farX (own_farX (own_farX (own_farX (own_farX (own_farX (own_farX h (fun q hq e => fq q hq (.inl e.symm))) (fun q hq e => fq q hq (.inr e.symm))) (fun q hq e => fq q hq (.inr e.symm))) (fun q hq e => fq q hq (.inr e.symm))) (fun q hq e => fq q hq (.inr e.symm))) (fun q hq e => fq q hq (.inr e.symm))) (fun q hq e => fq q hq (.inr e.symm))) (fun q hq e => fq q hq (.inr e.symm))
            · have h := own_base HO.out (show w.heap.size + 2 ≤ w3.heap.size from hz3)
              have fq : ∀ q, (Value.slice Bv LB dv).ownBlock = some q → ¬ (q = w.heap.size ∨ q = w.heap.size + 1) := fun q hq => by have := (h.lt q hq).1; omega
              exact own_farX (own_farX (own_farX (own_farX (own_farX (own_farX (own_farX (own_farX h (fun q hq e => fq q hq (.inl e.symm))) (fun q hq e => fq q hq (.inr e.symm))) (fun q hq e => fq q hq (.inr e.symm))) (fun q hq e => fq q hq (.inr e.symm))) (fun q hq e => fq q hq (.inr e.symm))) (fun q hq e => fq q hq (.inr e.symm))) (fun q hq e => fq q hq (.inr e.symm))) (fun q hq e => fq q hq (.inr e.symm)))
          clear HBw HO HO3 HB HB3 HRB3 HR3 HS3 HV3 CT HSr HVr HZ2
          go_wp2_with fail
          have eL : (l.filter (keepT k1 k2)).length = LT := by rw [HL.out]; exact HLT.out
          have eM : (m.filter (keepB k3 L)).length = LB := by rw [HM.out]; exact HLB.out
          rw [HL.out, HM.out, HLT.out, HLB.out]
          exact bodyPost_ret (v := .agg #[.int .i64 a1, .int .i64 a2, .int .i64 a3, .int .i64 a4, .slice PA pn pc, .slice Av LT cv, .slice Bv LB dv]) (by simp [results, Try.results25, go_sem, q0, q1, q2, q3, q4, q5, q6, lv]) rfl ⟨Av, cv, Bv, dv, rfl, HF.out.1, HF.out.2.1, HF.out.2.2⟩
end Go.Proofs.Ytmmeceehfdbdoaa
