/-
  A table that is made, or none.
-/
import Derived.Test.YtgjhcnpegaemoaaTbCd
import Derived.Test.YtgjhcnpegaemoaaTbM
namespace Go.Proofs.Ytgjhcnpegaemoaa
open Go.RowKit Go.Maps
set_option linter.unusedSimpArgs false
set_option linter.unusedVariables false
set_option maxRecDepth 100000
theorem Rt.Fit.i {x : Rt} (h : x.Fit) : I64 x.track ∧ I64 x.layer := by
  obtain ⟨_, h1, _, h2, _⟩ := h
  unfold I64
  omega
theorem Dn.Fit.i {x : Dn} (h : x.Fit) : I64 x.slot ∧ I64 x.who ∧ I64 x.track := by
  obtain ⟨_, _, h1, h2, h3, _⟩ := h
  unfold I64
  omega
section
variable (g m1 m2 m3 m4 : Nat) (T : List (Int × Option Nat)) (p : Int) (R : List Rt) (D : List Dn) (w : World)
theorem radd_may (x : Rt) (hx : x.Fit) (h : TB w g m1 m2 m3 m4 T p R R D D) (hl : R.length < 1000) (ho : x.ssrc ≤ 2147483647) (hn : ∀ y ∈ R, ¬ badR x y) :
    Calls Try.prog 23 #[.pointer (some ⟨g, 0, none⟩), .agg x.cells.toArray] w fun e w' => e = .returned (.bool true) ∧ TB w' g m1 m2 m3 m4 T p (R ++ [x]) (R ++ [x]) D D ∧ But (fun k => k = m1 ∨ k = m2) w w' :=
  radd_yes g m1 m2 m3 m4 T p R D x w h hl hx.ssrc hx.i.1 hx.i.2 ho (fndG_none.2 fun y hy e => hn y hy (.inl e.symm)) (fndG_none.2 fun y hy e => hn y hy (.inr (by
    unfold Rt.strm at e
    injection e with e1 e2
    exact ⟨e1.symm, e2.symm⟩)))
theorem radd_not (x : Rt) (hx : x.Fit) (h : TB w g m1 m2 m3 m4 T p R R D D) (hl : R.length < 1000) (hn : ¬ (x.ssrc ≤ 2147483647 ∧ ∀ y ∈ R, ¬ badR x y)) :
    Calls Try.prog 23 #[.pointer (some ⟨g, 0, none⟩), .agg x.cells.toArray] w fun e w' => e = .returned (.bool false) ∧ But (fun k => k = m1 ∨ k = m2) w w' := by
  by_cases ho : x.ssrc ≤ 2147483647
  · by_cases f1 : fndG Rt.ssrc R x.ssrc = none
    · by_cases f2 : fndG Rt.strm R x.strm = none
      · refine absurd ⟨ho, fun y hy hb => ?_⟩ hn
        rcases hb with hb | hb
        · exact fndG_none.1 f1 y hy hb.symm
        · exact fndG_none.1 f2 y hy (by unfold Rt.strm; rw [hb.1, hb.2])
      · exact radd_two g m1 m2 m3 m4 T p R D x w h hl hx.ssrc hx.i.1 hx.i.2 ho f1 f2
    · exact radd_one g m1 m2 m3 m4 T p R D x w h hl hx.ssrc hx.i.1 hx.i.2 ho f1
  · exact radd_low g m1 m2 m3 m4 T p R D x w h hl hx.ssrc hx.i.1 hx.i.2 ho
/-- What addDown looks at: all but the Refs. -/
def badO (x y : Dn) : Prop := x.ssrc = y.ssrc ∨ x.who = y.who ∧ x.track = y.track
theorem oadd_may (x : Dn) (hx : x.Fit) (h : TB w g m1 m2 m3 m4 T p R R D D) (hl : D.length < 1000) (hT : T.length < 500) (ho : 2147483648 ≤ x.ssrc) (hn : ∀ y ∈ D, ¬ badO x y) :
    Calls Try.prog 25 #[.pointer (some ⟨g, 0, none⟩), .agg x.cells.toArray] w fun e w' => e = .returned (.bool true) ∧ But (fun k => TS g m1 m2 m3 m4 T k) w w' ∧ ∃ T', TB w' g m1 m2 m3 m4 T' p R R (D ++ [x]) (D ++ [x]) ∧ (∀ e ∈ T', e ∈ T ∨ ∃ k, e.2 = some k ∧ w.heap.size ≤ k) ∧ T'.length ≤ T.length + 1 :=
  oadd_yes g m1 m2 m3 m4 T p R D x w h hl hT hx.ssrc hx.i.2.2 hx.i.2.1 ho (fndG_none.2 fun y hy e => hn y hy (.inl e.symm)) (fndG_none.2 fun y hy e => by
    unfold trD at hy
    have hy := List.mem_filter.1 hy
    exact hn y hy.1 (.inr ⟨e.symm, (of_decide_eq_true hy.2).symm⟩))
theorem oadd_not (x : Dn) (hx : x.Fit) (h : TB w g m1 m2 m3 m4 T p R R D D) (hl : D.length < 1000) (hT : T.length < 500) (hn : ¬ (2147483648 ≤ x.ssrc ∧ ∀ y ∈ D, ¬ badO x y)) :
    Calls Try.prog 25 #[.pointer (some ⟨g, 0, none⟩), .agg x.cells.toArray] w fun e w' => e = .returned (.bool false) ∧ But (fun k => TS g m1 m2 m3 m4 T k) w w' := by
  by_cases ho : 2147483648 ≤ x.ssrc
  · by_cases f1 : fndG Dn.ssrc D x.ssrc = none
    · by_cases f2 : fndG Dn.who (trD x.track D) x.who = none
      · refine absurd ⟨ho, fun y hy hb => ?_⟩ hn
        rcases hb with hb | hb
        · exact fndG_none.1 f1 y hy hb.symm
        · exact fndG_none.1 f2 y (by unfold trD; exact List.mem_filter.2 ⟨hy, decide_eq_true hb.2.symm⟩) hb.1.symm
      · exact oadd_two g m1 m2 m3 m4 T p R D x w h hl hT hx.ssrc hx.i.2.2 hx.i.2.1 ho f1 f2
    · exact oadd_one g m1 m2 m3 m4 T p R D x w h hl hT hx.ssrc hx.i.2.2 hx.i.2.1 ho f1
  · exact oadd_low g m1 m2 m3 m4 T p R D x w h hl hT hx.ssrc hx.i.2.2 hx.i.2.1 ho
end
/-- A table in memory: its struct's block g, its blocks S. -/
def TAt (w : World) (g : Nat) (S : Nat → Prop) (p : Int) (R : List Rt) (D : List Dn) : Prop :=
  ∃ m1 m2 m3 m4 T, (∀ k, S k ↔ TS g m1 m2 m3 m4 T k) ∧ TB w g m1 m2 m3 m4 T p R R D D ∧ May R D ∧ D.length ≤ 60
theorem TAt.lt {w : World} {g : Nat} {S : Nat → Prop} {p : Int} {R : List Rt} {D : List Dn} (h : TAt w g S p R D) : ∀ k, S k → k < w.heap.size := by
  obtain ⟨m1, m2, m3, m4, T, hS, h, _⟩ := h
  exact fun k hk => h.lt k ((hS k).1 hk)
theorem TAt.may {w : World} {g : Nat} {S : Nat → Prop} {p : Int} {R : List Rt} {D : List Dn} (h : TAt w g S p R D) : May R D := by
  obtain ⟨m1, m2, m3, m4, T, hS, h, h2, _⟩ := h
  exact h2
theorem TAt.keep {w w' : World} {g : Nat} {S : Nat → Prop} {p : Int} {R : List Rt} {D : List Dn} (h : TAt w g S p R D) (hs : w.heap.size ≤ w'.heap.size) (hk : ∀ k, S k → w'.heap[k]? = w.heap[k]?) : TAt w' g S p R D := by
  obtain ⟨m1, m2, m3, m4, T, hS, h, h2⟩ := h
  exact ⟨m1, m2, m3, m4, T, hS, h.keep fun k hk' => hk k ((hS k).2 hk'), h2⟩
/-- What Make tells. -/
def TMade (p : Int) (R : List Rt) (D : List Dn) (w : World) (e : Ending) (w' : World) : Prop :=
  (May R D ∧ ∃ g S, e = .returned (.tuple #[.pointer (some ⟨g, 0, none⟩), .int .i64 0]) ∧ TAt w' g S p R D ∧ (∀ k, S k → w.heap.size ≤ k) ∧ Below w.heap.size w w') ∨
    (¬ May R D ∧ e = .returned (.tuple #[.pointer none, .int .i64 1]) ∧ Below w.heap.size w w')
/-- The empty one. -/
theorem tb_new (p : Int) (w : World) : TB (((((w.alloc (.map #[] 0)).alloc (.map #[] 0)).alloc (.map #[] 0)).alloc (.map #[] 0)).alloc (.cells #[.int .u64 p, .map (some w.heap.size), .map (some (w.heap.size + 1)), .map (some (w.heap.size + 1 + 1)), .map (some (w.heap.size + 1 + 1 + 1))] 68))
    (w.heap.size + 1 + 1 + 1 + 1) w.heap.size (w.heap.size + 1) (w.heap.size + 1 + 1) (w.heap.size + 1 + 1 + 1) [] p [] [] [] [] := by
  obtain ⟨wa, ha⟩ : ∃ z, z = w.alloc (.map #[] 0) := ⟨_, rfl⟩
  obtain ⟨wb, hb⟩ : ∃ z, z = wa.alloc (.map #[] 0) := ⟨_, rfl⟩
  obtain ⟨wc, hc⟩ : ∃ z, z = wb.alloc (.map #[] 0) := ⟨_, rfl⟩
  obtain ⟨wd, hd⟩ : ∃ z, z = wc.alloc (.map #[] 0) := ⟨_, rfl⟩
  have sa : wa.heap.size = w.heap.size + 1 := by rw [ha]; simp
  have sb : wb.heap.size = w.heap.size + 1 + 1 := by rw [hb]; simp [sa]
  have sc : wc.heap.size = w.heap.size + 1 + 1 + 1 := by rw [hc]; simp [sb]
  have sd : wd.heap.size = w.heap.size + 1 + 1 + 1 + 1 := by rw [hd]; simp [sc]
  have r1 : RMap wa w.heap.size [] := by rw [ha]; exact MapG.new _ _ _ _ _ _ _
  have r2 : SMap wb (w.heap.size + 1) [] := by rw [hb, ← sa]; exact MapG.new _ _ _ _ _ _ _
  have r3 : OMap wc (w.heap.size + 1 + 1) [] := by rw [hc, ← sb]; exact MapG.new _ _ _ _ _ _ _
  have r4 : TMap wd (w.heap.size + 1 + 1 + 1) [] := by rw [hd, ← sc]; exact MapG.new _ _ _ _ _ _ _
  rw [← ha, ← hb, ← hc, ← hd, ← sd]
  have B1 : ∀ o k, k < wd.heap.size → (wd.alloc o).heap[k]? = wd.heap[k]? := fun o k hk => Below.heap_alloc _ _ _ hk
  have B2 : ∀ k, k < wc.heap.size → wd.heap[k]? = wc.heap[k]? := fun k hk => by rw [hd]; exact Below.heap_alloc _ _ _ hk
  have B3 : ∀ k, k < wb.heap.size → wc.heap[k]? = wb.heap[k]? := fun k hk => by rw [hc]; exact Below.heap_alloc _ _ _ hk
  have B4 : ∀ k, k < wa.heap.size → wb.heap[k]? = wa.heap[k]? := fun k hk => by rw [hb]; exact Below.heap_alloc _ _ _ hk
  refine ⟨Whole.new wd _ _, MapG.same r1 ?_, MapG.same r2 ?_, MapG.same r3 ?_, MapG.same r4 ?_, fun e he => by simp at he, .nil, fun d hd => by simp at hd, by omega, by omega, by omega, by omega, by omega, by omega, fun e he => by simp at he⟩
  · rw [B1 _ _ (by omega), B2 _ (by omega), B3 _ (by omega), B4 _ (by omega)]
  · rw [B1 _ _ (by omega), B2 _ (by omega), B3 _ (by omega)]
  · rw [B1 _ _ (by omega), B2 _ (by omega)]
  · rw [B1 _ _ (by omega)]
theorem TB.base0 {w : World} (g m1 m2 m3 m4 : Nat) (h0 : w.heap.size ≤ g) (h1 : w.heap.size ≤ m1) (h2 : w.heap.size ≤ m2) (h3 : w.heap.size ≤ m3) (h4 : w.heap.size ≤ m4) : ∀ k, TS g m1 m2 m3 m4 [] k → w.heap.size ≤ k := by
  rintro k (rfl | rfl | rfl | rfl | rfl | ⟨e, he, hk⟩)
  all_goals first | assumption | simp at he
set_option maxHeartbeats 3200000 in
theorem tmake_any (p : Int) (A : Option Addr) (c : Nat) (R : List Rt) (B : Option Addr) (d : Nat) (D : List Dn) (w : World) (hA : Row w w.heap.size 5 A R.length (rtC R)) (hB : Row w w.heap.size 10 B D.length (dnC D)) (hl : R.length ≤ 60) (hm : D.length ≤ 60) (hR : ∀ x ∈ R, x.Fit) (hD : ∀ x ∈ D, x.Fit) :
    Calls Try.prog 8 #[.int .u64 p, .slice A R.length c, .slice B D.length d] w (TMade p R D w) := by
  have hmm := @run_makeMap Try.prog
  obtain ⟨w1, hw1⟩ : ∃ z, z = ((((w.alloc (.map #[] 0)).alloc (.map #[] 0)).alloc (.map #[] 0)).alloc (.map #[] 0)).alloc (.cells #[.int .u64 p, .map (some w.heap.size), .map (some (w.heap.size + 1)), .map (some (w.heap.size + 1 + 1)), .map (some (w.heap.size + 1 + 1 + 1))] 68) := ⟨_, rfl⟩
  have T1 := tb_new p w
  rw [← hw1] at T1
  have b1 : Below w.heap.size w w1 := by rw [hw1]; exact ((((((Below.refl _ _).alloc (Nat.le_refl _) _).alloc (by simp) _).alloc (by simp; omega) _).alloc (by simp; omega) _).alloc (by simp; omega) _)
  obtain ⟨g, hg⟩ : ∃ z, z = w.heap.size + 1 + 1 + 1 + 1 := ⟨_, rfl⟩
  obtain ⟨m1, hm1⟩ : ∃ z, z = w.heap.size := ⟨_, rfl⟩
  obtain ⟨m2, hm2⟩ : ∃ z, z = w.heap.size + 1 := ⟨_, rfl⟩
  obtain ⟨m3, hm3⟩ : ∃ z, z = w.heap.size + 1 + 1 := ⟨_, rfl⟩
  obtain ⟨m4, hm4⟩ : ∃ z, z = w.heap.size + 1 + 1 + 1 := ⟨_, rfl⟩
  have HS0 := Lib.hid (TB.base0 (w := w) g m1 m2 m3 m4 (by omega) (by omega) (by omega) (by omega) (by omega))
  have HT1 : Hid (TB w1 g m1 m2 m3 m4 [] p [] [] [] []) := by rw [hg, hm2, hm3, hm4, hm1]; exact Lib.hid T1
  have HB1 := Lib.hid b1
  clear T1 b1
  have HA := Lib.hid hA
  have HBB := Lib.hid hB
  have HFR := Lib.hid hR
  have HFD := Lib.hid hD
  obtain ⟨nR, hnR⟩ : ∃ n, R.length = n := ⟨_, rfl⟩
  obtain ⟨nD, hnD⟩ : ∃ n, D.length = n := ⟨_, rfl⟩
  have HNR := Lib.hid hnR
  have HND := Lib.hid hnD
  rw [hnR] at hl HA ⊢
  rw [hnD] at hm HBB ⊢
  clear hA hB hR hD hnR hnD
  go_enter Try.func8, Try.ntmps8
  go_upto_region 2 with fail
  rw [← hw1, ← hg]
  clear hw1 hg hm1 hm2 hm3 hm4
  go_wp2_with fail
  go_loopw [23] (fun v wr => ∃ k : Nat, k ≤ nR ∧ v = .int .i64 (k : Int) ∧ TB wr g m1 m2 m3 m4 [] p (R.take k) (R.take k) [] [] ∧ Below w.heap.size w wr ∧ OkR (R.take k)) (fun v _ => nR - (intOf v).toNat)
  case atStart => exact ⟨0, Nat.zero_le _, rfl, HT1.out, HB1.out, OkR.nil⟩
  case round =>
    obtain ⟨k, hk, rfl, ht, hb, hok⟩ := hrel
    clear HT1 HB1
    have HT := Lib.hid ht
    have HB := Lib.hid hb
    have HOK := Lib.hid hok
    clear ht hb hok
    by_cases hlt : k < nR
    · obtain ⟨x, hx⟩ : ∃ x, R[k]? = some x := ⟨_, List.getElem?_eq_getElem (by rw [HNR.out]; exact hlt)⟩
      obtain ⟨ga, oa, rfl, hga, hca⟩ := HA.out.2 (by omega)
      have c0 := (HB.out.cell (p := ⟨ga, oa + k * 5, none⟩) hga).trans (by have := hca _ _ ((rtC_get hx 0 (by decide)).trans rfl); simpa [Nat.add_assoc] using this)
      have c1 := (HB.out.cell (p := ⟨ga, oa + k * 5 + 1, none⟩) hga).trans (by have := hca _ _ ((rtC_get hx 1 (by decide)).trans rfl); simpa [Nat.add_assoc] using this)
      have c2 := (HB.out.cell (p := ⟨ga, oa + k * 5 + 2, none⟩) hga).trans (by have := hca _ _ ((rtC_get hx 2 (by decide)).trans rfl); simpa [Nat.add_assoc] using this)
      have c3 := (HB.out.cell (p := ⟨ga, oa + k * 5 + 3, none⟩) hga).trans (by have := hca _ _ ((rtC_get hx 3 (by decide)).trans rfl); simpa [Nat.add_assoc] using this)
      have c4 := (HB.out.cell (p := ⟨ga, oa + k * 5 + 4, none⟩) hga).trans (by have := hca _ _ ((rtC_get hx 4 (by decide)).trans rfl); simpa [Nat.add_assoc] using this)
      have hfit := HFR.out x (List.mem_of_getElem? hx)
      have htl : (R.take k).length = k := by rw [List.length_take, HNR.out]; omega
      have hta := take_add hx
      have i0 : (0 : Int) ≤ (k : Int) := by omega
      have i1 : (k : Int) < (nR : Int) := by omega
      have lg : ga < wr.heap.size := by have := HB.out.size; omega
      obtain ⟨wz, hwz⟩ : ∃ z, z = wr.alloc (.cells x.cells.toArray 37) := ⟨_, rfl⟩
      have TZ := Lib.hid (show TB wz g m1 m2 m3 m4 [] p (R.take k) (R.take k) [] [] from HT.out.next (by rw [hwz]; exact (But.refl _ _).alloc _))
      have BZ := Lib.hid (show Below w.heap.size w wz by rw [hwz]; exact HB.out.alloc HB.out.size _)
      have LZ := Lib.hid (show wz.heap.size = wr.heap.size + 1 by rw [hwz]; simp)
      have WZ := Lib.hid (show Whole wz wr.heap.size 37 x.cells.toArray by rw [hwz]; exact Whole.new _ _ _)
      have hzl : wr.heap.size < wz.heap.size := by rw [LZ.out]; omega
      by_cases hm : x.ssrc ≤ 2147483647 ∧ ∀ y ∈ R.take k, ¬ badR x y
      · have C := Lib.hid (radd_may g m1 m2 m3 m4 [] p (R.take k) [] wz x hfit TZ.out (by rw [htl]; omega) hm.1 hm.2)
        have HOK2 := Lib.hid (show OkR (R.take (k + 1)) from by rw [hta]; exact HOK.out.add hm.1 hm.2)
        rw [← hta] at C
        obtain ⟨x0, x1, x2, x3, x4⟩ := x
        unfold Rt.cells at *
        dsimp only at *
        have z0 := WZ.out.cell 0
        have z1 := WZ.out.cell 1
        have z2 := WZ.out.cell 2
        have z3 := WZ.out.cell 3
        have z4 := WZ.out.cell 4
        clear HT HB HOK hm hx hca hfit htl hta WZ
        go_upto_region 5 with fail
        rw [← hwz]
        clear hwz
        go_wp2_with fail
        refine C.out.mono ?_
        rintro e w2 ⟨rfl, ht2, b2⟩
        have HB2 := Lib.hid (BZ.out.trans (b2.below (by have := BZ.out.size; omega) (by have h1 := HS0.out m1 (.inr (.inl rfl)); have h2 := HS0.out m2 (.inr (.inr (.inl rfl))); intro q hq; omega)))
        have HT2 := Lib.hid ht2
        clear ht2 b2 z0 z1 z2 z3 z4 c0 c1 c2 c3 c4 C TZ BZ LZ hzl
        go_wp2_with fail
        go_roundw
        case rel => exact ⟨k + 1, by omega, rfl, HT2.out, HB2.out, HOK2.out⟩
        case measure => simp [intOf]; omega
      · have C := Lib.hid (radd_not g m1 m2 m3 m4 [] p (R.take k) [] wz x hfit TZ.out (by rw [htl]; omega) hm)
        have HNO := Lib.hid (show ¬ May R D from fun hM => hm ⟨hM.1.own x (List.mem_of_getElem? hx), fun y hy => by
          obtain ⟨j, hj⟩ := List.getElem?_of_mem hy
          rw [List.getElem?_take] at hj
          split at hj
          · exact two_at hM.1.two ‹j < k› hx hj
          · cases hj⟩)
        obtain ⟨x0, x1, x2, x3, x4⟩ := x
        unfold Rt.cells at *
        dsimp only at *
        have z0 := WZ.out.cell 0
        have z1 := WZ.out.cell 1
        have z2 := WZ.out.cell 2
        have z3 := WZ.out.cell 3
        have z4 := WZ.out.cell 4
        clear HT HB HOK hm hx hca hfit htl hta WZ
        go_upto_region 5 with fail
        rw [← hwz]
        clear hwz
        go_wp2_with fail
        refine C.out.mono ?_
        rintro e w2 ⟨rfl, b2⟩
        have HB2 := Lib.hid (BZ.out.trans (b2.below (by have := BZ.out.size; omega) (by have h1 := HS0.out m1 (.inr (.inl rfl)); have h2 := HS0.out m2 (.inr (.inr (.inl rfl))); intro q hq; omega)))
        clear b2 z0 z1 z2 z3 z4 c0 c1 c2 c3 c4 C TZ BZ LZ hzl
        go_wp2_with fail
        go_ret2
        exact .inr ⟨HNO.out, rfl, HB2.out⟩
    · obtain rfl : nR = k := by omega
      rw [List.take_of_length_le (by rw [HNR.out]; exact Nat.le_refl _)] at HT HOK
      obtain ⟨wz, hwz⟩ : ∃ z, z = wr.alloc (.map #[] 0) := ⟨_, rfl⟩
      have TZ := Lib.hid (show TB wz g m1 m2 m3 m4 [] p R R [] [] from HT.out.next (by rw [hwz]; exact (But.refl _ _).alloc _))
      have BZ := Lib.hid (show Below w.heap.size w wz by rw [hwz]; exact HB.out.alloc HB.out.size _)
      have FZ := Lib.hid (show FMap wz wr.heap.size [] by rw [hwz]; exact MapG.new _ _ _ _ _ _ _)
      have NZ := Lib.hid (show ¬ TS g m1 m2 m3 m4 [] wr.heap.size from fun h => by have := HT.out.lt _ h; omega)
      have NF := Lib.hid (show w.heap.size ≤ wr.heap.size from HB.out.size)
      obtain ⟨mf, hmf⟩ : ∃ z, z = wr.heap.size := ⟨_, rfl⟩
      go_upto_region 9 with fail
      rw [← hwz]
      rw [← hmf] at FZ NZ NF ⊢
      clear hwz hmf HT HB
      go_wp2_with fail
      go_loopw [35] (fun v wr => ∃ k T, k ≤ nD ∧ v = .int .i64 ((k : Nat) : Int) ∧ TB wr g m1 m2 m3 m4 T p R R (D.take k) (D.take k) ∧ FMap wr mf (D.take k) ∧ T.length ≤ k ∧ ¬ TS g m1 m2 m3 m4 T mf ∧ (∀ q, TS g m1 m2 m3 m4 T q → w.heap.size ≤ q) ∧ Below w.heap.size w wr ∧ OkD (D.take k)) (fun v _ => nD - (intOf v).toNat)
      case atStart => exact ⟨0, [], Nat.zero_le _, rfl, TZ.out, FZ.out, Nat.le_refl _, NZ.out, HS0.out, BZ.out, OkD.nil⟩
      case round =>
        obtain ⟨k, T, hk, rfl, ht, hfm, htl1, hns, hss, hb, hok⟩ := hrel
        clear TZ FZ NZ BZ
        have HT := Lib.hid ht
        have HFM := Lib.hid hfm
        have HTl := Lib.hid htl1
        have HNS := Lib.hid hns
        have HSS := Lib.hid hss
        have HB := Lib.hid hb
        have HOKD := Lib.hid hok
        clear ht hfm htl1 hns hss hb hok
        by_cases hlt : k < nD
        · obtain ⟨x, hx⟩ : ∃ x, D[k]? = some x := ⟨_, List.getElem?_eq_getElem (by rw [HND.out]; exact hlt)⟩
          obtain ⟨ga, oa, rfl, hga, hca⟩ := HBB.out.2 (by omega)
          have c0 := (HB.out.cell (p := ⟨ga, oa + k * 10, none⟩) hga).trans (by have := hca _ _ ((dnC_get hx 0 (by decide)).trans rfl); simpa [Nat.add_assoc] using this)
          have c1 := (HB.out.cell (p := ⟨ga, oa + k * 10 + 1, none⟩) hga).trans (by have := hca _ _ ((dnC_get hx 1 (by decide)).trans rfl); simpa [Nat.add_assoc] using this)
          have c2 := (HB.out.cell (p := ⟨ga, oa + k * 10 + 2, none⟩) hga).trans (by have := hca _ _ ((dnC_get hx 2 (by decide)).trans rfl); simpa [Nat.add_assoc] using this)
          have c3 := (HB.out.cell (p := ⟨ga, oa + k * 10 + 3, none⟩) hga).trans (by have := hca _ _ ((dnC_get hx 3 (by decide)).trans rfl); simpa [Nat.add_assoc] using this)
          have c4 := (HB.out.cell (p := ⟨ga, oa + k * 10 + 4, none⟩) hga).trans (by have := hca _ _ ((dnC_get hx 4 (by decide)).trans rfl); simpa [Nat.add_assoc] using this)
          have c5 := (HB.out.cell (p := ⟨ga, oa + k * 10 + 5, none⟩) hga).trans (by have := hca _ _ ((dnC_get hx 5 (by decide)).trans rfl); simpa [Nat.add_assoc] using this)
          have c6 := (HB.out.cell (p := ⟨ga, oa + k * 10 + 6, none⟩) hga).trans (by have := hca _ _ ((dnC_get hx 6 (by decide)).trans rfl); simpa [Nat.add_assoc] using this)
          have c7 := (HB.out.cell (p := ⟨ga, oa + k * 10 + 7, none⟩) hga).trans (by have := hca _ _ ((dnC_get hx 7 (by decide)).trans rfl); simpa [Nat.add_assoc] using this)
          have c8 := (HB.out.cell (p := ⟨ga, oa + k * 10 + 8, none⟩) hga).trans (by have := hca _ _ ((dnC_get hx 8 (by decide)).trans rfl); simpa [Nat.add_assoc] using this)
          have c9 := (HB.out.cell (p := ⟨ga, oa + k * 10 + 9, none⟩) hga).trans (by have := hca _ _ ((dnC_get hx 9 (by decide)).trans rfl); simpa [Nat.add_assoc] using this)
          have hfit := HFD.out x (List.mem_of_getElem? hx)
          have htl : (D.take k).length = k := by rw [List.length_take, HND.out]; omega
          have hta := take_add hx
          have i0 : (0 : Int) ≤ (k : Int) := by omega
          have i1 : (k : Int) < (nD : Int) := by omega
          have lg : ga < wr.heap.size := by have := HB.out.size; omega
          obtain ⟨wz, hwz⟩ : ∃ z, z = wr.alloc (.cells x.cells.toArray 41) := ⟨_, rfl⟩
          have TZ := Lib.hid (show TB wz g m1 m2 m3 m4 T p R R (D.take k) (D.take k) from HT.out.next (by rw [hwz]; exact (But.refl _ _).alloc _))
          have FZ := Lib.hid (show FMap wz mf (D.take k) from MapG.same HFM.out (by rw [hwz]; exact Below.heap_alloc _ _ _ (MapG.lt HFM.out)))
          have BZ := Lib.hid (show Below w.heap.size w wz by rw [hwz]; exact HB.out.alloc HB.out.size _)
          have LZ := Lib.hid (show wz.heap.size = wr.heap.size + 1 by rw [hwz]; simp)
          have WZ := Lib.hid (show Whole wz wr.heap.size 41 x.cells.toArray by rw [hwz]; exact Whole.new _ _ _)
          have hzl : wr.heap.size < wz.heap.size := by rw [LZ.out]; omega
          have MZ := Lib.hid (show wr.heap.size ≠ mf from fun e => by have := MapG.lt HFM.out; omega)
          have hkm : (D.take k).length < maxLen := by rw [htl]; exact Nat.lt_of_le_of_lt (Nat.le_trans hk hm) (by decide)
          by_cases hf : fndG Dn.ref (D.take k) x.ref = none
          · have C1 := Lib.hid (fput_new mf (D.take k) x wz FZ.out hfit.i.1 hfit.turn hkm hf)
            by_cases hm' : 2147483648 ≤ x.ssrc ∧ ∀ y ∈ D.take k, ¬ badO x y
            · have C2 := Lib.hid (fun w2 (ht : TB w2 g m1 m2 m3 m4 T p R R (D.take k) (D.take k)) => oadd_may g m1 m2 m3 m4 T p R (D.take k) w2 x hfit ht (by rw [htl]; omega) (by have := HTl.out; omega) hm'.1 hm'.2)
              have HOK2 := Lib.hid (show OkD (D.take (k + 1)) from by
                rw [hta]
                refine HOKD.out.add hm'.1 fun y hy hb => ?_
                rcases hb with hb | hb | hb
                · exact hm'.2 y hy (.inl hb)
                · exact fndG_none.1 hf y hy (by unfold Dn.ref; rw [hb.1, hb.2])
                · exact hm'.2 y hy (.inr hb))
              rw [← hta] at C1 C2
              clear hf hkm hm'
              obtain ⟨x0, x1, x2, x3, x4, x5, x6, x7, x8, x9⟩ := x
              unfold Dn.cells at *
              dsimp only at *
              have z0 := WZ.out.cell 0
              have z1 := WZ.out.cell 1
              have z2 := WZ.out.cell 2
              have z3 := WZ.out.cell 3
              have z4 := WZ.out.cell 4
              have z5 := WZ.out.cell 5
              have z6 := WZ.out.cell 6
              have z7 := WZ.out.cell 7
              have z8 := WZ.out.cell 8
              have z9 := WZ.out.cell 9
              clear HT HB HOKD HFM hx hca hfit htl hta
              go_upto_region 12 with fail
              rw [← hwz]
              clear hwz
              go_wp2_with fail
              refine C1.out.mono ?_
              rintro e w2 ⟨rfl, hf2, b2⟩
              have TZ2 := Lib.hid (show TB w2 g m1 m2 m3 m4 T p R R (D.take k) (D.take k) from TZ.out.keep fun q hq => b2.block q (TZ.out.lt q hq) fun e => HNS.out (by rw [← e]; exact hq))
              have HB2 := Lib.hid (BZ.out.trans (b2.below (by have := BZ.out.size; omega) (by have h1 := NF.out; intro q hq; omega)))
              have y0 := b2.cell hzl MZ.out z0
              have y1 := b2.cell hzl MZ.out z1
              have y2 := b2.cell hzl MZ.out z2
              have y3 := b2.cell hzl MZ.out z3
              have y4 := b2.cell hzl MZ.out z4
              have y5 := b2.cell hzl MZ.out z5
              have y6 := b2.cell hzl MZ.out z6
              have y7 := b2.cell hzl MZ.out z7
              have y8 := b2.cell hzl MZ.out z8
              have y9 := b2.cell hzl MZ.out z9
              have HF2 := Lib.hid hf2
              clear z0 z1 z2 z3 z4 z5 z6 z7 z8 z9 c0 c1 c2 c3 c4 c5 c6 c7 c8 c9 C1 TZ FZ BZ LZ b2 hf2 MZ WZ hzl
              go_wp2_with fail
              refine (C2.out w2 TZ2.out).mono ?_
              rintro e w3 ⟨rfl, b3, T', ht3, htt, htl3⟩
              have HB3 := Lib.hid (HB2.out.trans (b3.below (by have := HB2.out.size; omega) (by intro q hq hq2; have := HSS.out q hq2; omega)))
              have HF3 := Lib.hid (show FMap w3 mf (D.take (k + 1)) from MapG.same HF2.out (b3.block mf (MapG.lt HF2.out) HNS.out))
              have HNS3 := Lib.hid (show ¬ TS g m1 m2 m3 m4 T' mf from by
                rintro (h | h | h | h | h | ⟨e, he, h⟩)
                · exact HNS.out (.inl h)
                · exact HNS.out (.inr (.inl h))
                · exact HNS.out (.inr (.inr (.inl h)))
                · exact HNS.out (.inr (.inr (.inr (.inl h))))
                · exact HNS.out (.inr (.inr (.inr (.inr (.inl h)))))
                · rcases htt e he with h1 | ⟨q, h1, h2⟩
                  · exact HNS.out (.inr (.inr (.inr (.inr (.inr ⟨e, h1, h⟩)))))
                  · rw [h] at h1
                    injection h1 with h1
                    have := MapG.lt HF2.out
                    omega)
              have HSS3 := Lib.hid (show ∀ q, TS g m1 m2 m3 m4 T' q → w.heap.size ≤ q from by
                rintro q (h | h | h | h | h | ⟨e, he, h⟩)
                · exact HSS.out q (.inl h)
                · exact HSS.out q (.inr (.inl h))
                · exact HSS.out q (.inr (.inr (.inl h)))
                · exact HSS.out q (.inr (.inr (.inr (.inl h))))
                · exact HSS.out q (.inr (.inr (.inr (.inr (.inl h)))))
                · rcases htt e he with h1 | ⟨q', h1, h2⟩
                  · exact HSS.out q (.inr (.inr (.inr (.inr (.inr ⟨e, h1, h⟩)))))
                  · rw [h] at h1
                    injection h1 with h1
                    have := HB2.out.size
                    omega)
              have HT3 := Lib.hid ht3
              have HTl3 := Lib.hid (show T'.length ≤ k + 1 from by have := HTl.out; omega)
              clear b3 ht3 htt htl3 y0 y1 y2 y3 y4 y5 y6 y7 y8 y9 C2 TZ2 HB2 HF2 HNS HSS HTl
              go_wp2_with fail
              go_roundw
              case rel => exact ⟨k + 1, T', by omega, rfl, HT3.out, HF3.out, HTl3.out, HNS3.out, HSS3.out, HB3.out, HOK2.out⟩
              case measure => simp [intOf]; omega
            · have C2 := Lib.hid (fun w2 (ht : TB w2 g m1 m2 m3 m4 T p R R (D.take k) (D.take k)) => oadd_not g m1 m2 m3 m4 T p R (D.take k) w2 x hfit ht (by rw [htl]; omega) (by have := HTl.out; omega) hm')
              have HNO := Lib.hid (show ¬ May R D from fun hM => hm' ⟨hM.2.own x (List.mem_of_getElem? hx), fun y hy hb => by
                obtain ⟨j, hj⟩ := List.getElem?_of_mem hy
                rw [List.getElem?_take] at hj
                split at hj
                · refine two_at hM.2.two ‹j < k› hx hj ?_
                  rcases hb with hb | hb
                  · exact .inl hb
                  · exact .inr (.inr hb)
                · cases hj⟩)
              clear hf hkm hm'
              obtain ⟨x0, x1, x2, x3, x4, x5, x6, x7, x8, x9⟩ := x
              unfold Dn.cells at *
              dsimp only at *
              have z0 := WZ.out.cell 0
              have z1 := WZ.out.cell 1
              have z2 := WZ.out.cell 2
              have z3 := WZ.out.cell 3
              have z4 := WZ.out.cell 4
              have z5 := WZ.out.cell 5
              have z6 := WZ.out.cell 6
              have z7 := WZ.out.cell 7
              have z8 := WZ.out.cell 8
              have z9 := WZ.out.cell 9
              clear HT HB HOKD HFM hx hca hfit htl hta
              go_upto_region 12 with fail
              rw [← hwz]
              clear hwz
              go_wp2_with fail
              refine C1.out.mono ?_
              rintro e w2 ⟨rfl, hf2, b2⟩
              have TZ2 := Lib.hid (show TB w2 g m1 m2 m3 m4 T p R R (D.take k) (D.take k) from TZ.out.keep fun q hq => b2.block q (TZ.out.lt q hq) fun e => HNS.out (by rw [← e]; exact hq))
              have HB2 := Lib.hid (BZ.out.trans (b2.below (by have := BZ.out.size; omega) (by have h1 := NF.out; intro q hq; omega)))
              have y0 := b2.cell hzl MZ.out z0
              have y1 := b2.cell hzl MZ.out z1
              have y2 := b2.cell hzl MZ.out z2
              have y3 := b2.cell hzl MZ.out z3
              have y4 := b2.cell hzl MZ.out z4
              have y5 := b2.cell hzl MZ.out z5
              have y6 := b2.cell hzl MZ.out z6
              have y7 := b2.cell hzl MZ.out z7
              have y8 := b2.cell hzl MZ.out z8
              have y9 := b2.cell hzl MZ.out z9
              have HF2 := Lib.hid hf2
              clear z0 z1 z2 z3 z4 z5 z6 z7 z8 z9 c0 c1 c2 c3 c4 c5 c6 c7 c8 c9 C1 TZ FZ BZ LZ b2 hf2 MZ WZ hzl
              go_wp2_with fail
              refine (C2.out w2 TZ2.out).mono ?_
              rintro e w3 ⟨rfl, b3⟩
              have HB3 := Lib.hid (HB2.out.trans (b3.below (by have := HB2.out.size; omega) (by intro q hq hq2; have := HSS.out q hq2; omega)))
              clear b3 y0 y1 y2 y3 y4 y5 y6 y7 y8 y9 C2 TZ2 HB2 HF2 HNS HSS HTl
              go_wp2_with fail
              go_ret2
              exact .inr ⟨HNO.out, rfl, HB3.out⟩
          · have C1 := Lib.hid (fput_old mf (D.take k) x wz FZ.out hfit.i.1 hfit.turn hkm hf)
            have HNO := Lib.hid (show ¬ May R D from fun hM => by
              obtain ⟨y, hy⟩ := Option.ne_none_iff_exists'.1 hf
              obtain ⟨hy, he⟩ := fndG_some hy
              obtain ⟨j, hj⟩ := List.getElem?_of_mem hy
              rw [List.getElem?_take] at hj
              split at hj
              · refine two_at hM.2.two ‹j < k› hx hj (.inr (.inl ?_))
                unfold Dn.ref at he
                injection he with e1 e2
                exact ⟨e1.symm, e2.symm⟩
              · cases hj)
            clear hf hkm
            obtain ⟨x0, x1, x2, x3, x4, x5, x6, x7, x8, x9⟩ := x
            unfold Dn.cells at *
            dsimp only at *
            have z0 := WZ.out.cell 0
            have z1 := WZ.out.cell 1
            have z2 := WZ.out.cell 2
            clear HT HB HOKD HFM hx hca hfit htl hta WZ
            go_upto_region 12 with fail
            rw [← hwz]
            clear hwz
            go_wp2_with fail
            refine C1.out.mono ?_
            rintro e w2 ⟨rfl, b2⟩
            have HB2 := Lib.hid (BZ.out.trans (b2.below (by have := BZ.out.size; omega) (by have h1 := NF.out; intro q hq; omega)))
            clear b2 z0 z1 z2 c0 c1 c2 c3 c4 c5 c6 c7 c8 c9 C1 TZ BZ LZ hzl
            go_wp2_with fail
            go_ret2
            exact .inr ⟨HNO.out, rfl, HB2.out⟩
        · obtain rfl : nD = k := by omega
          rw [List.take_of_length_le (by rw [HND.out]; exact Nat.le_refl _)] at HT HFM HOKD
          go_wp2_with fail
          go_ret2
          exact .inl ⟨⟨HOK.out, HOKD.out⟩, g, TS g m1 m2 m3 m4 T, rfl, ⟨m1, m2, m3, m4, T, fun _ => Iff.rfl, HT.out, ⟨HOK.out, HOKD.out⟩, by rw [HND.out]; exact hm⟩, HSS.out, HB.out⟩
end Go.Proofs.Ytgjhcnpegaemoaa
