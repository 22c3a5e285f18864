/-
  Contracts of the document's answers of layer 16 (louverref16): Sweep.
-/
import Derived.Test.YtgacejencnkpmaaPnH
namespace Go.Proofs.Ytgacejencnkpmaa
open Go.RowKit
set_option linter.unusedSimpArgs false
set_option linter.unusedVariables false
set_option maxRecDepth 100000

theorem goes_take {q : List Wt} {k : Nat} {t : Wt} (h : q[k]? = some t) (x : Int) : goes x (q.take (k + 1)) = if t.ep ≤ x then goes x (q.take k) ++ [t] else goes x (q.take k) := by
  have e : q.take (k + 1) = q.take k ++ [t] := by rw [List.take_add_one, h]; rfl
  unfold goes
  rw [e, List.filter_append]
  by_cases h1 : t.ep ≤ x <;> simp [h1]
theorem stays_take {q : List Wt} {k : Nat} {t : Wt} (h : q[k]? = some t) (x : Int) : stays x (q.take (k + 1)) = if t.ep ≤ x then stays x (q.take k) else stays x (q.take k) ++ [t] := by
  have e : q.take (k + 1) = q.take k ++ [t] := by rw [List.take_add_one, h]; rfl
  unfold stays
  rw [e, List.filter_append]
  by_cases h1 : t.ep ≤ x
  · have h2 : ¬ x < t.ep := by omega
    simp [h1, h2]
  · have h2 : x < t.ep := by omega
    simp [h1, h2]
/-- What Sweep answers. -/
def SOut (Av : Value) (B : Option Addr) (l : List Wk) (q : List Wt) (w : World) (e : Ending) (w' : World) : Prop :=
  ∃ B' d' R rc, e = .returned (.tuple #[.agg #[Av, .slice B' (stays (oldS l) q).length d'], .slice R (goes (oldS l) q).length rc]) ∧ PRow B q.length w B' w' (stays (oldS l) q).length (wtC (stays (oldS l) q)) ∧
    Row w' w'.heap.size 2 R (goes (oldS l) q).length (rfC (goes (oldS l) q)) ∧ ∀ a, R = some a → w.heap.size ≤ a.block

set_option maxHeartbeats 6400000 in
theorem rsweep_any (A : Option Addr) (c : Nat) (l : List Wk) (B : Option Addr) (q : List Wt) (d : Nat) (w : World) (hr : Row w w.heap.size 3 A l.length (wdC l)) (hl : l.length ≤ 64) (h1 : 1 ≤ l.length) (hq : Row w w.heap.size 3 B q.length (wtC q)) (hql : q.length ≤ 64) :
    Calls Try.prog 18 #[.agg #[.slice A l.length c, .slice B q.length d]] w (SOut (.slice A l.length c) B l q w) := by
  obtain ⟨w2, hw2⟩ : ∃ z, z = (w.alloc (.cells #[.slice A l.length c, .slice B q.length d] 29)).alloc (.cells #[.slice none 0 0, .slice none 0 0] 29) := ⟨_, rfl⟩
  have hb0 : Below w.heap.size w w2 := by rw [hw2]; exact ((Below.refl w.heap.size w).alloc (Nat.le_refl _) _).alloc (by simp) _
  have hz : w2.heap.size = w.heap.size + 2 := by rw [hw2]; simp
  have WP := Lib.hid (show Whole w2 w.heap.size 29 #[.slice A l.length c, .slice B q.length d] by rw [hw2]; exact (Whole.new w _ _).alloc _)
  have WR := Lib.hid (show Whole w2 (w.heap.size + 1) 29 #[.slice none 0 0, .slice none 0 0] by rw [hw2]; exact Whole.new2 w _ _ _)
  have HR0 := Lib.hid (hq.below hb0 (Nat.le_refl _))
  have HB0 := Lib.hid hb0
  have CO := Lib.hid (rold_any A c l B q.length d w2 ((hr.below hb0 (Nat.le_refl _)).more (by omega)) hl h1)
  unfold SOut
  obtain ⟨x, hx⟩ : ∃ z, oldS l = z := ⟨_, rfl⟩
  rw [hx] at CO ⊢
  obtain ⟨n, hn⟩ : ∃ n, q.length = n := ⟨_, rfl⟩
  have HN := Lib.hid hn
  obtain ⟨an, han⟩ : ∃ n, l.length = n := ⟨_, rfl⟩
  rw [hn, han] at WP hw2 CO
  rw [hn] at HR0 hql
  rw [han, hn]
  have p0 := WP.out.cell 0
  have p1 := WP.out.cell 1
  have lP := WP.out.lt
  clear hr hb0 hn hx hq han h1 hl
  go_enter Try.func18, Try.ntmps18
  go_upto_region 1 with fail
  rw [← hw2]
  clear hw2
  go_wp2_with fail
  refine CO.out.mono ?_
  rintro e w3 ⟨rfl, b3⟩
  have HB3 := Lib.hid (HB0.out.trans (b3.mono (by omega)))
  have HP3 := Lib.hid (WP.out.below b3 WP.out.lt)
  have HF3 := Lib.hid (WR.out.below b3 WR.out.lt)
  have HR3 := Lib.hid (HR0.out.below b3 (by omega))
  have hz3 := b3.size
  clear b3 CO WP WR HR0 HB0 p0 p1 lP
  obtain ⟨K, hK⟩ : ∃ K, w3.heap.size = K := ⟨_, rfl⟩
  have HK := Lib.hid hK
  rw [hz, hK] at hz3
  clear hz hK
  go_wp2_with fail
  go_loopw [4, 5, 7] (fun v4 v5 i wr => ∃ k : Nat, k ≤ n ∧ i = .int .i64 (k : Int) ∧ wr.ownsRow K 33 2 v4 (goes x (q.take k)).length (rfC (goes x (q.take k))) ∧ wr.ownsRow K 73 3 v5 (stays x (q.take k)).length (wtC (stays x (q.take k))) ∧ Below K w3 wr ∧ K ≤ wr.heap.size) (fun _ _ i _ => n - (intOf i).toNat)
  case atStart => exact ⟨0, Nat.zero_le _, rfl, World.ownsRow_nil _ _ _ _, World.ownsRow_nil _ _ _ _, Below.refl _ _, Nat.le_of_eq HK.out.symm⟩
  case round =>
    obtain ⟨k, hk, rfl, ho4, ho5, hb, hKw⟩ := hrel
    obtain ⟨A4, c4, rfl⟩ := own_form ho4
    obtain ⟨A5, c5, rfl⟩ := own_form ho5
    have HB := Lib.hid hb
    have P4 := HP3.out.below hb (by omega)
    have p0 := P4.cell 0
    have p1 := P4.cell 1
    have lP := P4.lt
    have HO4 := Lib.hid ho4
    have HO5 := Lib.hid ho5
    clear hb P4 ho4 ho5
    by_cases hlt : k < n
    · obtain ⟨t, ht⟩ : ∃ y, q[k]? = some y := ⟨_, List.getElem?_eq_getElem (by rw [HN.out]; exact hlt)⟩
      obtain ⟨g, o, rfl, hg, hc⟩ := HR3.out.2 (by omega)
      obtain ⟨e0, e1, e2⟩ := wtC_get ht
      have c0 := (HB.out.cell (p := ⟨g, o + k * 3, none⟩) (by show g < K; omega)).trans (hc _ _ e0)
      have c1 := (HB.out.cell (p := ⟨g, o + (k * 3 + 1), none⟩) (by show g < K; omega)).trans (hc _ _ e1)
      have c2 := (HB.out.cell (p := ⟨g, o + (k * 3 + 2), none⟩) (by show g < K; omega)).trans (hc _ _ e2)
      rw [← Nat.add_assoc] at c1 c2
      have i0 : (0 : Int) ≤ (k : Int) := by omega
      have i1 : (k : Int) < (n : Int) := by omega
      have lg : g < wr.heap.size := by omega
      have HG := goes_take ht x
      have HS := stays_take ht x
      obtain ⟨gs, hgs⟩ : ∃ z, goes x (q.take k) = z := ⟨_, rfl⟩
      obtain ⟨ss, hss⟩ : ∃ z, stays x (q.take k) = z := ⟨_, rfl⟩
      have lgs : gs.length ≤ 64 := by rw [← hgs]; have h1 := goes_le x (q.take k); have h2 : (q.take k).length ≤ k := by rw [List.length_take]; exact Nat.min_le_left _ _
                                      omega
      have lss : ss.length ≤ 64 := by rw [← hss]; have h1 := stays_le x (q.take k); have h2 : (q.take k).length ≤ k := by rw [List.length_take]; exact Nat.min_le_left _ _
                                      omega
      rw [hgs] at HG HO4
      rw [hss] at HS HO5
      rw [hgs, hss]
      have HAP := Lib.hid (own_apartX HO4.out HO5.out (by decide))
      have HAQ := Lib.hid (own_apartX HO5.out HO4.out (by decide))
      obtain ⟨gl, hgl⟩ : ∃ z, gs.length = z := ⟨_, rfl⟩
      obtain ⟨sl, hsl⟩ : ∃ z, ss.length = z := ⟨_, rfl⟩
      have HGL := Lib.hid hgl
      have HSL := Lib.hid hsl
      rw [hgl] at HO4 HAP HAQ lgs
      rw [hsl] at HO5 HAP HAQ lss
      rw [hgl, hsl]
      obtain ⟨ts, tt, te⟩ := t
      dsimp only at c0 c1 c2 HG HS
      have hlo4 : ∀ q, (Value.slice A4 gl c4).ownBlock = some q → K ≤ q := fun q hq => (HO4.out.lt q hq).1
      have hlo5 : ∀ q, (Value.slice A5 sl c5).ownBlock = some q → K ≤ q := fun q hq => (HO5.out.lt q hq).1
      have HL4 := Lib.hid hlo4
      have HL5 := Lib.hid hlo5
      clear ht hc e0 e1 e2 hgs hss hgl hsl hlo4 hlo5
      by_cases hx : te ≤ x
      · have hx' : ¬ x < te := by omega
        rw [if_pos hx] at HG HS
        replace HG := Lib.hid HG
        replace HS := Lib.hid HS
        have HRow := Lib.hid (Row.fresh wr 33 #[.int .i64 ts, .int .u32 tt] 2 1 [.int .i64 ts, .int .u32 tt] rfl rfl)
        clear hx
        go_wp2_with (at_builtin; refine wpl_append _ rfl (.tmp 33) (.tmp 40) 48 rfl K 33 (.agg #[.int .i64 0, .int .u32 0]) 2 16 Try.underlying48 info_RD rfl (by decide) _ gl (rfC gs) rfl (HO4.out.alloc _) _ _ 1 1 [.int .i64 ts, .int .u32 tt] rfl HRow.out (by simp [Value.oneCell']) ?c1 ?c2 ?c3 ?_)
        case c1 => unfold maxLen; omega
        case c2 => omega
        case c3 => first | omega | (simp; omega)
        intro v6 w6 hown6 hg6 _
        have HF := Lib.hid (And.intro (show w6.ownsRow K 33 2 v6 (goes x (q.take (k + 1))).length (rfC (goes x (q.take (k + 1)))) by rw [HG.out, List.length_append, HGL.out, rfC_add]; exact hown6)
          (And.intro (show w6.ownsRow K 73 3 (.slice A5 sl c5) (stays x (q.take (k + 1))).length (wtC (stays x (q.take (k + 1)))) by rw [HS.out, HSL.out]; exact own_grownX (HO5.out.alloc _) hg6 (fun q hq e => HAQ.out q hq e))
          (And.intro (show Below K w3 w6 from (HB.out.alloc (by omega) _).grown hg6 (by simp; omega) (fun q hq => HL4.out q hq)) (show K ≤ w6.heap.size by have := hg6.size; simp at this; omega))))
        clear hown6 hg6 HG HS HO4 HO5 HB HL4 HL5 HAP HAQ HRow p0 p1 c0 c1 c2
        go_wp2_with fail
        go_roundw
        case rel => exact ⟨k + 1, by omega, by go_num, HF.out⟩
        case measure => simp [intOf]; omega
      · have hx' : x < te := by omega
        rw [if_neg hx] at HG HS
        replace HG := Lib.hid HG
        replace HS := Lib.hid HS
        have HRow := Lib.hid (Row.fresh wr 73 #[.int .i64 ts, .int .u32 tt, .int .u64 te] 3 1 [.int .i64 ts, .int .u32 tt, .int .u64 te] rfl rfl)
        clear hx
        go_wp2_with (at_builtin; refine wpl_append _ rfl (.tmp 25) (.tmp 31) 27 rfl K 73 (.agg #[.int .i64 0, .int .u32 0, .int .u64 0]) 3 24 Try.underlying27 info_TD rfl (by decide) _ sl (wtC ss) rfl (HO5.out.alloc _) _ _ 1 1 [.int .i64 ts, .int .u32 tt, .int .u64 te] rfl HRow.out (by simp [Value.oneCell']) ?d1 ?d2 ?d3 ?_)
        case d1 => unfold maxLen; omega
        case d2 => omega
        case d3 => first | omega | (simp; omega)
        intro v6 w6 hown6 hg6 _
        have HF := Lib.hid (And.intro (show w6.ownsRow K 33 2 (.slice A4 gl c4) (goes x (q.take (k + 1))).length (rfC (goes x (q.take (k + 1)))) by rw [HG.out, HGL.out]; exact own_grownX (HO4.out.alloc _) hg6 (fun q hq e => HAP.out q hq e))
          (And.intro (show w6.ownsRow K 73 3 v6 (stays x (q.take (k + 1))).length (wtC (stays x (q.take (k + 1)))) by rw [HS.out, List.length_append, HSL.out, wtC_add]; exact hown6)
          (And.intro (show Below K w3 w6 from (HB.out.alloc (by omega) _).grown hg6 (by simp; omega) (fun q hq => HL5.out q hq)) (show K ≤ w6.heap.size by have := hg6.size; simp at this; omega))))
        clear hown6 hg6 HG HS HO4 HO5 HB HL4 HL5 HAP HAQ HRow p0 p1 c0 c1 c2
        go_wp2_with fail
        go_roundw
        case rel => exact ⟨k + 1, by omega, by go_num, HF.out⟩
        case measure => simp [intOf]; omega
    · obtain rfl : k = n := by omega
      have hta : q.take k = q := by rw [← HN.out]; exact List.take_length
      rw [hta] at HO4 HO5 ⊢
      have R4 := HF3.out.below HB.out (by omega)
      have r0 := R4.cell 0
      have r1 := R4.cell 1
      have lR := R4.lt
      have rf0 := R4.free 0
      have rf1 := R4.free 1
      have P4 := HP3.out.below HB.out (by omega)
      have pf1 := P4.free 1
      have nPR : w.heap.size ≠ w.heap.size + 1 := by omega
      have B5 : Below w.heap.size w wr := HB3.out.trans (HB.out.mono (by omega))
      have far5 : ∀ a, A5 = some a → K ≤ a.block := own_lo HO5.out
      have far4 : ∀ a, A4 = some a → K ≤ a.block := own_lo HO4.out
      have O5 := row_farX (p := ⟨w.heap.size + 1, 1, none⟩) (u := .slice A5 (stays x q).length c5) (row_farX (p := ⟨w.heap.size + 1, 0, none⟩) (u := .slice A an c) (row_farX (p := ⟨w.heap.size, 1, none⟩) (u := .slice A5 (stays x q).length c5) (Row.of_own HO5.out) (fun a ha e => by have h1 := far5 a ha; have e : w.heap.size = a.block := e; omega)) (fun a ha e => by have h1 := far5 a ha; have e : w.heap.size + 1 = a.block := e; omega)) (fun a ha e => by have h1 := far5 a ha; have e : w.heap.size + 1 = a.block := e; omega)
      have O4 := row_farX (p := ⟨w.heap.size + 1, 1, none⟩) (u := .slice A5 (stays x q).length c5) (row_farX (p := ⟨w.heap.size + 1, 0, none⟩) (u := .slice A an c) (row_farX (p := ⟨w.heap.size, 1, none⟩) (u := .slice A5 (stays x q).length c5) (Row.of_own HO4.out) (fun a ha e => by have h1 := far4 a ha; have e : w.heap.size = a.block := e; omega)) (fun a ha e => by have h1 := far4 a ha; have e : w.heap.size + 1 = a.block := e; omega)) (fun a ha e => by have h1 := far4 a ha; have e : w.heap.size + 1 = a.block := e; omega)
      have HF := Lib.hid (And.intro (show PRow B k w A5 (((wr.setCell ⟨w.heap.size, 1, none⟩ (.slice A5 (stays x q).length c5)).setCell ⟨w.heap.size + 1, 0, none⟩ (.slice A an c)).setCell ⟨w.heap.size + 1, 1, none⟩ (.slice A5 (stays x q).length c5)) (stays x q).length (wtC (stays x q)) from
        ⟨by simpa using O5, .inr (fun a ha => by have h1 := far5 a ha; omega), ((B5.setCell (p := ⟨w.heap.size, 1, none⟩) (Nat.le_refl _) _).setCell (p := ⟨w.heap.size + 1, 0, none⟩) (by show w.heap.size ≤ w.heap.size + 1; omega) _).setCell (p := ⟨w.heap.size + 1, 1, none⟩) (by show w.heap.size ≤ w.heap.size + 1; omega) _⟩)
        (show Row (((wr.setCell ⟨w.heap.size, 1, none⟩ (.slice A5 (stays x q).length c5)).setCell ⟨w.heap.size + 1, 0, none⟩ (.slice A an c)).setCell ⟨w.heap.size + 1, 1, none⟩ (.slice A5 (stays x q).length c5)) _ 2 A4 (goes x q).length (rfC (goes x q)) by simpa using O4))
      have HF4 := Lib.hid (fun a (ha : A4 = some a) => (show w.heap.size ≤ a.block by have := far4 a ha; omega))
      clear R4 P4 B5 far5 far4 O5 O4 HO4 HO5 HB HP3 HF3 HR3 HB3
      go_wp2_with fail
      exact bodyPost_ret (v := .tuple #[.agg #[.slice A an c, .slice A5 (stays x q).length c5], .slice A4 (goes x q).length c4]) (by simp [results, Try.results18, go_sem, r0, r1, lR]) rfl ⟨_, c5, _, c4, rfl, HF.out.1, by simpa using HF.out.2, HF4.out⟩
end Go.Proofs.Ytgacejencnkpmaa
