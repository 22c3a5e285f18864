/-
  Contracts of the document's answers of layer 11: Lost, Missing.
-/
import Derived.Test.YtphhhfgenhbmlaaRvR
namespace Go.Proofs.Ytphhhfgenhbmlaa
open Go.RowKit

theorem info_i64 : (Try.prog.info? 2).map (fun i => (i.zero, i.size, i.bytes)) = some (some (.int .i64 0), 1, 8) := by kernel_rfl
set_option maxRecDepth 100000 in
theorem refLost_any (t : Trk) (L : List Int) (n : Nat) (A : Option Addr) (c : Nat) (ht : t.Fit) (hR : Rep t L) (hn : L.length = n) (hl : n ≤ 4096) (B : Nat) (w : World) (hr : Row w B 1 A n (i64r L)) (hB : B ≤ w.heap.size) :
    Calls Try.prog 13 #[.agg #[.slice A n c]] w fun e w' => e = .returned (.int .i64 t.lost) ∧ Below w.heap.size w w' := by
  have h0 : 0 < n := by rw [← hn]; exact List.length_pos_of_mem hR.high_mem
  have hgot := hR.got
  rw [hn] at hgot
  have hlo : t.lost = t.high - t.base + 1 - n := by unfold Trk.lost; rw [if_pos hR.on, hgot]
  have e := ht.base0
  have e1 := ht.base1
  have e2 := ht.high0
  have e3 := ht.high1
  obtain ⟨l, hll⟩ : ∃ l, t.lost = l := ⟨_, rfl⟩
  rw [hll] at hlo ⊢
  obtain ⟨hi, hhi⟩ : ∃ x, t.high = x := ⟨_, rfl⟩
  obtain ⟨bs, hbs⟩ : ∃ x, t.base = x := ⟨_, rfl⟩
  have CH := Lib.hid (fun w' (b : Below w.heap.size w w') => refHigh_any L n A c hi (hhi ▸ hR.high_mem) (hhi ▸ hR.high_ge) hn hl B w' (hr.below b hB) (Nat.le_trans hB b.size))
  have CB := Lib.hid (fun w' (b : Below w.heap.size w w') => refBase_any L n A c bs (hbs ▸ hR.base_mem) (hbs ▸ hR.base_le) hn hl B w' (hr.below b hB) (Nat.le_trans hB b.size))
  have hb := (Below.refl w.heap.size w).alloc (Nat.le_refl _) (.cells #[.slice A n c] 29)
  have hw := Whole.new w 29 #[.slice A n c]
  rw [hhi] at hlo e2 e3
  rw [hbs] at hlo e e1
  have HL := Lib.hid hlo
  have h0' : (0 : Int) < (n : Int) := by omega
  have h0'' : ((n : Int) == 0) = false := by simp; omega
  clear hlo hll hhi hbs hgot hR ht hr
  obtain ⟨wb, hwb⟩ : ∃ wb, wb = w.alloc (.cells #[.slice A n c] 29) := ⟨_, rfl⟩
  rw [← hwb] at hb hw
  obtain ⟨gb, hgb⟩ : ∃ g, g = w.heap.size := ⟨_, rfl⟩
  rw [← hgb] at hw
  have KS := Lib.hid (fun w' (b' : Below wb.heap.size wb w') => show w'.cell? ⟨gb, 0, none⟩ = some (.slice A n c) ∧ Below w.heap.size w w' from ⟨(hw.below b' hw.lt).cell 0, hb.trans (b'.mono hb.size)⟩)
  obtain ⟨q0, q1⟩ := KS.out wb (Below.refl _ _)
  clear hw hb
  go_enter Try.func13, Try.ntmps13
  go_upto_region 3 with fail
  rw [← hwb, ← hgb]
  clear hwb hgb
  go_region_held3 (fun w' => w'.cell? ⟨gb, 0, none⟩ = some (.slice A n c) ∧ Below w.heap.size w w')
    (first | exact ⟨q0, q1⟩ | (refine KS.out _ ?_; repeat' (first | exact Below.refl _ _ | (refine Below.drew ?_) | (refine Below.trans ?_ (b4.mono b3.size)) | (refine Below.trans ?_ (b3.mono (by simp))))))
    (first
      | (go_at_call 14; refine (CH.out _ ?hb3).mono ?_; (exact (‹_ ∧ Below _ _ _›).2); rintro e w3 ⟨rfl, b3⟩)
      | (go_at_call 15; refine (CB.out _ ?hb4).mono ?_; (exact (‹_ ∧ Below _ _ _›).2); rintro e w4 ⟨rfl, b4⟩))
  have hfin := (‹_ ∧ Below _ _ _›).2
  have hwr : IntKind.i64.wrap (IntKind.i64.wrap (IntKind.i64.wrap (hi - bs) + 1) - (n : Int)) = l := by
    have := HL.out
    rw [i64in (hi - bs) (by omega) (by omega), i64in (hi - bs + 1) (by omega) (by omega), i64in _ (by omega) (by omega)]
    omega
  rw [hwr]
  have HF := Lib.hid hfin
  clear hfin hwr ‹_ ∧ Below _ _ _› b3 b4 q0 q1
  go_wp2
  go_ret
  exact ⟨rfl, HF.out⟩

/-- New numbers, as the document has them. -/
def NewI64 (xs : List Int) (w : World) (e : Ending) (w' : World) : Prop :=
  ∃ A c, e = .returned (.slice A xs.length c) ∧ w'.ownsRow w.heap.size 2 1 (.slice A xs.length c) xs.length (i64r xs) ∧ Below w.heap.size w w'
set_option maxRecDepth 100000 in
set_option maxHeartbeats 1600000 in
theorem refMissing_any (t : Trk) (L : List Int) (n : Nat) (A : Option Addr) (c : Nat) (ht : t.Fit) (hR : Rep t L) (hn : L.length = n) (hl : n ≤ 4096) (B : Nat) (w : World) (hr : Row w B 1 A n (i64r L)) (hB : B ≤ w.heap.size) :
    Calls Try.prog 17 #[.agg #[.slice A n c]] w (NewI64 t.miss w) := by
  have h0 : 0 < n := by rw [← hn]; exact List.length_pos_of_mem hR.high_mem
  have e := ht.base0
  have e1 := ht.base1
  have e2 := ht.high0
  have e3 := ht.high1
  have hms := hR.miss
  obtain ⟨hi, hhi⟩ : ∃ x, t.high = x := ⟨_, rfl⟩
  obtain ⟨bs, hbs⟩ : ∃ x, t.base = x := ⟨_, rfl⟩
  have CH := Lib.hid (refHigh_any L n A c hi (hhi ▸ hR.high_mem) (hhi ▸ hR.high_ge) hn hl B _ (hr.below ((Below.refl w.heap.size w).alloc (Nat.le_refl _) (.cells #[.slice A n c] 29)) hB) (by simp; omega))
  have CB := Lib.hid (fun w' (b : Below w.heap.size w w') => refBase_any L n A c bs (hbs ▸ hR.base_mem) (hbs ▸ hR.base_le) hn hl B w' (hr.below b hB) (Nat.le_trans hB b.size))
  have CS := fun v w' (b : Below w.heap.size w w') => refHas_any L n A c v hn hl h0 B w' (hr.below b hB) (Nat.le_trans hB b.size)
  rw [hhi] at hms e2 e3
  rw [hbs] at hms e e1
  obtain ⟨f, hf⟩ : ∃ f : Nat → Bool, (fun k : Nat => decide (hi - (k : Int) ∈ L)) = f := ⟨_, rfl⟩
  have hfk : ∀ k : Nat, decide (hi - (k : Int) ∈ L) = f k := fun k => congrFun hf k
  have CS := Lib.hid (fun (d : Nat) v (hv : v = hi - (d : Int)) w' (b : Below w.heap.size w w') => show Calls Try.prog 22 #[.agg #[.slice A n c], .int .i64 v] w' fun e w'' => e = .returned (.bool (f d)) ∧ Below w'.heap.size w' w'' from by
    subst hv; have := CS (hi - (d : Int)) w' b; rw [hfk] at this; exact this)
  rw [hf] at hms
  obtain ⟨M, hM⟩ : ∃ M, t.miss = M := ⟨_, rfl⟩
  rw [hM] at hms ⊢
  have HM := Lib.hid hms
  have h0' : (0 : Int) < (n : Int) := by omega
  have hz : ((n : Int) == 0) = false := by simp; omega
  clear hf hfk ht hR hhi hbs hM hms hr
  have W0 := Lib.hid (Whole.new w 29 #[.slice A n c])
  have B0 := Lib.hid ((Below.refl w.heap.size w).alloc (Nat.le_refl _) (.cells #[.slice A n c] 29))
  go_enter Try.func17, Try.ntmps17
  go_wp2_with fail
  refine CH.out.mono ?_
  rintro e w1 ⟨rfl, b1⟩
  have HW1 := Lib.hid (W0.out.below b1 W0.out.lt)
  have HB1 := Lib.hid (B0.out.trans (b1.mono B0.out.size))
  clear b1 W0 B0 CH
  go_wp2_with fail
  go_loopw [3, 5] (fun v i wr => ∃ (k N : Nat) (x : Int) (xs : List Int), k ≤ 64 ∧ i = .int .i64 x ∧ hi - 63 ≤ x ∧ x ≤ hi + 1 ∧ Hid (x = hi - 63 + k) ∧ N ≤ k ∧ wr.ownsRow (w.heap.size + 1) 2 1 v N (i64r xs) ∧ Hid (missG bs hi f k = xs ∧ xs.length = N) ∧ Hid (Whole wr w.heap.size 29 #[.slice A n c]) ∧ Below w.heap.size w wr) (fun _ i _ => (hi + 1 - intOf i).toNat)
  case atStart => exact ⟨0, 0, hi - 63, [], Nat.zero_le _, by go_num, by omega, by omega, Lib.hid (by omega), Nat.le_refl _, World.ownsRow_nil _ _ _ _, Lib.hid ⟨rfl, rfl⟩, HW1, HB1.out⟩
  case round =>
    clear HW1 HB1
    obtain ⟨k, N, x, xs, hk, rfl, hx1, hx2, HXK, hN, hown, HX, HW, hb⟩ := hrel
    obtain ⟨Av, cv, rfl⟩ := own_form hown
    have HO := Lib.hid hown
    have HB := Lib.hid hb
    have k0 := HW.out.cell 0
    have hxk := HXK.out
    by_cases hlt : x ≤ hi
    · obtain ⟨d, hd⟩ : ∃ d : Nat, 63 - k = d := ⟨_, rfl⟩
      have hk64 : k < 64 := by omega
      have hxd : x = hi - (d : Int) := by omega
      have hxd' : hi - (d : Int) = x := hxd.symm
      have HD := Lib.hid (And.intro hd hxd')
      have C2 := Lib.hid (CB.out wr hb)
      have C3 : Hid (∀ w', Below w.heap.size w w' → Calls Try.prog 22 #[.agg #[.slice A n c], .int .i64 x] w' fun e w'' => e = .returned (.bool (f d)) ∧ Below w'.heap.size w' w'') := Lib.hid (CS.out d x hxd)
      clear hown hb hd hxd hxd' hxk
      go_wp2_with fail
      refine C2.out.mono ?_
      rintro e w2 ⟨rfl, b2⟩
      have HW2 := Lib.hid (HW.out.below b2 HW.out.lt)
      have HO2 := Lib.hid (own_below HO.out b2 (Nat.le_refl _))
      have HB2 := Lib.hid (HB.out.trans (b2.mono HB.out.size))
      clear b2 HO HB HW k0 C2
      have k0 := HW2.out.cell 0
      by_cases c1 : bs ≤ x
      · obtain ⟨b, hfd⟩ : ∃ b, f d = b := ⟨_, rfl⟩
        rw [hfd] at C3
        have C3 := Lib.hid (C3.out w2 HB2.out)
        cases b
        case true =>
          have HX2 : Hid (missG bs hi f (k + 1) = xs ∧ xs.length = N) := Lib.hid (by
            refine ⟨?_, HX.out.2⟩
            obtain ⟨h1, h2⟩ := HD.out
            rw [missG, HX.out.1, missOne, h1, hfd, if_neg (by simp)]
            simp)
          clear hfd HX
          go_wp2_with fail
          refine C3.out.mono ?_
          rintro e w3 ⟨rfl, b3⟩
          have HW3 := Lib.hid (HW2.out.below b3 HW2.out.lt)
          have HO3 := Lib.hid (own_below HO2.out b3 (Nat.le_refl _))
          have HB3 := Lib.hid (HB2.out.trans (b3.mono HB2.out.size))
          clear b3 HO2 HB2 HW2 k0 C3
          go_wp2
          go_roundw
          case rel => exact ⟨k + 1, N, x + 1, xs, by omega, by go_num, by omega, by omega, Lib.hid (by have := HXK.out; omega), by omega, HO3.out, HX2, HW3, HB3.out⟩
          case measure => simp [intOf]; omega
        case false =>
          have HX2 : Hid (missG bs hi f (k + 1) = xs ++ [x] ∧ (xs ++ [x]).length = N + 1) := Lib.hid (by
            refine ⟨?_, by simp [HX.out.2]⟩
            obtain ⟨h1, h2⟩ := HD.out
            rw [missG, HX.out.1, missOne, h1, hfd, if_pos ⟨by omega, rfl⟩, h2])
          clear hfd HX
          go_wp2_with fail
          refine C3.out.mono ?_
          rintro e w3 ⟨rfl, b3⟩
          have HW3 := Lib.hid (HW2.out.below b3 HW2.out.lt)
          have HO3 := Lib.hid (own_below HO2.out b3 (Nat.le_refl _))
          have HB3 := Lib.hid (HB2.out.trans (b3.mono HB2.out.size))
          have hsz := HB3.out.size
          have hw0 := HW3.out.lt
          have hne : ∀ q, (Value.slice Av N cv).ownBlock = some q → w.heap.size + 1 ≤ q ∧ q < w3.heap.size := fun q hq => HO3.out.lt q hq
          have hrow : Row (w3.alloc (.cells #[.int .i64 x] 2)) (w3.heap.size + 1) 1 (some ⟨w3.heap.size, 0, none⟩) 1 [.int .i64 x] := Row.one _ _ _
          have HRW := Lib.hid hrow
          have HNE := Lib.hid hne
          clear b3 HO2 HB2 HW2 k0 C3 hrow hne
          go_wp2_with (at_builtin; refine wpl_append _ rfl (.tmp 30) (.tmp 32) 27 rfl (w.heap.size + 1) 2 (.int .i64 0) 1 8 Try.underlying27 info_i64 rfl (by decide) (.slice Av N cv) N (i64r xs) rfl (HO3.out.alloc _) (w3.heap.size + 1) (some ⟨w3.heap.size, 0, none⟩) 1 1 [.int .i64 x] rfl HRW.out (by simp [Value.oneCell']) ?c1 ?c2 ?c3 ?_)
          case c1 => unfold maxLen; omega
          case c2 => omega
          case c3 => simp; omega
          intro v4 w4 hown4 hg4 _
          have HB4 := Lib.hid ((HB3.out.alloc (by omega) _).grown hg4 (by simp; omega) (fun q hq => by have := (HNE.out q hq).1; omega))
          have HW4 := Lib.hid ((HW3.out.alloc _).grown hg4 (fun e => by have := (HNE.out _ e.symm).1; omega))
          have HO4 : Hid (w4.ownsRow (w.heap.size + 1) 2 1 v4 (N + 1) (i64r (xs ++ [x]))) := Lib.hid (by rw [i64r_append]; exact hown4)
          clear hown4 hg4 HO3 HB3 HW3 HRW HNE hsz hw0
          go_wp2
          go_roundw
          case rel => exact ⟨k + 1, N + 1, x + 1, xs ++ [x], by omega, by go_num, by omega, by omega, Lib.hid (by have := HXK.out; omega), by omega, HO4.out, HX2, HW4, HB4.out⟩
          case measure => simp [intOf]; omega
      · have HX2 : Hid (missG bs hi f (k + 1) = xs ∧ xs.length = N) := Lib.hid (by
          refine ⟨?_, HX.out.2⟩
          obtain ⟨h1, h2⟩ := HD.out
          rw [missG, HX.out.1, missOne, h1, if_neg (fun h => c1 (by omega))]
          simp)
        clear HX HD C3 CS CB
        go_wp2
        go_roundw
        case rel => exact ⟨k + 1, N, x + 1, xs, by omega, by go_num, by omega, by omega, Lib.hid (by have := HXK.out; omega), by omega, HO2.out, HX2, HW2, HB2.out⟩
        case measure => simp [intOf]; omega
    · have hk64 : k = 64 := by omega
      subst hk64
      have HF : Hid (NewI64 M w (.returned (.slice Av N cv)) wr) := Lib.hid (by
        obtain ⟨h1, rfl⟩ := HX.out
        rw [HM.out, h1]
        exact ⟨Av, cv, rfl, own_base hown (by omega), hb⟩)
      clear hown hb HX HW HO HB k0
      go_wp2
      go_ret
      exact HF.out
end Go.Proofs.Ytphhhfgenhbmlaa
