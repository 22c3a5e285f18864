/-
  Contract of package recv: Take.
-/
import Derived.Test.YtphhhfgenhbmlaaRvA
import Derived.Test.YtphhhfgenhbmlaaHang
namespace Go.Proofs.Ytphhhfgenhbmlaa
open Go.RowKit
set_option linter.unusedSimpArgs false

theorem d16_near (h s : Int) : h + d16 h s = nearS h s := rfl
theorem five {b : Nat} {w0 w : World} {r : Nat} (h : Below b w0 w) (hr : b ≤ r) (u0 u1 u2 u3 u4 : Value) : Below b w0 (((((w.setCell ⟨r, 0, none⟩ u0).setCell ⟨r, 1, none⟩ u1).setCell ⟨r, 2, none⟩ u2).setCell ⟨r, 3, none⟩ u3).setCell ⟨r, 4, none⟩ u4) :=
  ((((h.setCell (p := ⟨r, 0, none⟩) hr u0).setCell (p := ⟨r, 1, none⟩) hr u1).setCell (p := ⟨r, 2, none⟩) hr u2).setCell (p := ⟨r, 3, none⟩) hr u3).setCell (p := ⟨r, 4, none⟩) hr u4
theorem pow_big (s d : Nat) (h : 64 ≤ d) : s * 2 ^ d % 2 ^ 64 = 0 := by
  obtain ⟨e, rfl⟩ := Nat.exists_eq_add_of_le h
  rw [Nat.pow_add, Nat.mul_left_comm]
  exact Nat.mul_mod_right _ _
theorem shl_min (s d : Nat) : s * 2 ^ min d 64 % 2 ^ 64 = s * 2 ^ d % 2 ^ 64 := by
  by_cases hd : d ≤ 64
  · rw [Nat.min_eq_left hd]
  · rw [Nat.min_eq_right (by omega), pow_big s 64 (Nat.le_refl _), pow_big s d (by omega)]
theorem cast_mod (x : Nat) : ((x : Nat) : Int) % 18446744073709551616 = ((x % 18446744073709551616 : Nat) : Int) := by omega
theorem cast_pow (s d : Nat) : ((s : Int) * 2 ^ d) = ((s * 2 ^ d : Nat) : Int) := by rw [Int.natCast_mul, Int.natCast_pow]; rfl
theorem or_is (s d : Nat) (hs : s < 2 ^ 64) (hd : d < 64) : bits .or .u64 (s : Int) (IntKind.u64.wrap (2 ^ d)) = ((s ||| 2 ^ d : Nat) : Int) := by
  have h2 : (2 : Nat) ^ d < 18446744073709551616 := Nat.pow_lt_pow_right (a := 2) (m := d) (n := 64) (by decide) hd
  have e : IntKind.u64.wrap ((2 : Int) ^ d) = ((2 ^ d : Nat) : Int) := by
    rw [IntKind.wrap_u64, show ((2 : Int) ^ d) = ((2 ^ d : Nat) : Int) by simp, cast_mod, Nat.mod_eq_of_lt h2]
  rw [e]
  exact u64_or_nat s _ hs h2
theorem shl_is (s d : Nat) : bits .or .u64 (IntKind.u64.wrap ((s : Int) * 2 ^ min d 64)) 1 = ((shlS s d : Nat) : Int) := by
  have e : IntKind.u64.wrap ((s : Int) * 2 ^ min d 64) = ((s * 2 ^ d % 18446744073709551616 : Nat) : Int) := by
    rw [IntKind.wrap_u64, cast_pow, cast_mod]
    exact congrArg _ (shl_min s d)
  rw [e]
  exact u64_or_nat _ 1 (Nat.mod_lt _ (by decide)) (by decide)
/-- What a call of Take answers. -/
def TakeOut (u : Trk) (n k : Int) (w : World) (e : Ending) (w' : World) : Prop :=
  e = .returned (.tuple #[.agg u.cells, .int .i64 n, .int .i64 k]) ∧ Below w.heap.size w w'

set_option maxRecDepth 100000 in
theorem take_off (t : Trk) (s : Int) (ho : t.on = false) (h0 : 0 ≤ s) (h1 : s < 65536) (w : World) :
    Calls Try.prog 10 #[.agg t.cells, .int .u16 s] w (TakeOut ⟨true, s, s, 1, 1⟩ s 0 w) := by
  obtain ⟨on, base, high, got, seen⟩ := t
  dsimp only [Trk.cells] at *
  subst ho
  have hw : wrap64 s = s := IntWalk.wrap64_in _ (by omega)
  have B0 := Lib.hid ((Below.refl w.heap.size w).alloc (Nat.le_refl _) (.cells #[.bool false, .int .i64 base, .int .i64 high, .int .i64 got, .int .u64 (seen : Int)] 26))
  go_enter Try.func10, Try.ntmps10
  go_wp2
  exact bodyPost_ret (v := .tuple #[.agg #[.bool true, .int .i64 s, .int .i64 s, .int .i64 1, .int .u64 1], .int .i64 s, .int .i64 0]) (by simp [results, Try.results10, go_sem]) rfl ⟨rfl, B0.out.alloc (by simp) _⟩
set_option maxRecDepth 100000 in
theorem take_new (t : Trk) (s n : Int) (ho : t.on = true) (ht : t.Fit) (hn : nearS t.high s = n) (d : Nat) (hd : n - t.high = d) (hk : 1 ≤ d) (w : World) :
    Calls Try.prog 10 #[.agg t.cells, .int .u16 s] w (TakeOut ⟨true, t.base, n, t.got + 1, shlS t.seen d⟩ n 0 w) := by
  have g2 := ht.high0
  have g3 := ht.high1
  have g4 := ht.got0
  have g5 := ht.got1
  have hnb := nearS_bd t.high s
  rw [hn] at hnb
  have hd2 : d ≤ 32767 := by omega
  have hk' : t.high < n := by omega
  have HD := Lib.hid hd
  have hkd : t.kind n = 0 := by unfold Trk.kind; rw [if_pos ho, if_pos (by omega)]
  have CN := fun w => near16_any t.high s (by omega) (by omega) w
  rw [d16_near, hn] at CN
  have CK := Lib.hid (fun w => kind_any t n ho ht (by omega) (by omega) w)
  rw [hkd] at CK
  have CN := Lib.hid CN
  have HS := Lib.hid ht.seen
  obtain ⟨on, base, high, got, seen⟩ := t
  dsimp only [Trk.cells] at *
  subst ho
  clear hkd ht hn hd
  have W0 := Lib.hid ((Whole.new w 26 #[.bool true, .int .i64 base, .int .i64 high, .int .i64 got, .int .u64 (seen : Int)]).alloc (.cells #[.bool false, .int .i64 0, .int .i64 0, .int .i64 0, .int .u64 0] 26))
  have V0 := Lib.hid (Whole.new2 w (.cells #[.bool true, .int .i64 base, .int .i64 high, .int .i64 got, .int .u64 (seen : Int)] 26) 26 #[.bool false, .int .i64 0, .int .i64 0, .int .i64 0, .int .u64 0])
  have B0 := Lib.hid (((Below.refl w.heap.size w).alloc (Nat.le_refl _) (.cells #[.bool true, .int .i64 base, .int .i64 high, .int .i64 got, .int .u64 (seen : Int)] 26)).alloc (by simp) (.cells #[.bool false, .int .i64 0, .int .i64 0, .int .i64 0, .int .u64 0] 26))
  go_enter Try.func10, Try.ntmps10
  go_wp2_with fail
  refine (CN.out _).mono ?_
  rintro e w1 ⟨rfl, b1⟩
  have W1 := W0.out.below b1 (by simp; omega)
  have k0 := W1.cell 0
  have k1 := W1.cell 1
  have k2 := W1.cell 2
  have k3 := W1.cell 3
  have k4 := W1.cell 4
  have HW := Lib.hid W1
  have HV := Lib.hid (V0.out.below b1 (by simp))
  have HB := Lib.hid (B0.out.trans (b1.mono B0.out.size))
  clear b1 W1 W0 V0 B0
  go_wp2_with fail
  refine (CK.out _).mono ?_
  rintro e w2 ⟨rfl, b2⟩
  have HX := Lib.hid (shl_is seen d)
  have hd := HD.out
  have W1 := HW.out.below b2 (HW.out.lt)
  have k0 := W1.cell 0
  have k1 := W1.cell 1
  have k2 := W1.cell 2
  have k3 := W1.cell 3
  have k4 := W1.cell 4
  have V1 := HV.out.below b2 (HV.out.lt)
  have v0 := V1.cell 0
  have v1 := V1.cell 1
  have v2 := V1.cell 2
  have v3 := V1.cell 3
  have v4 := V1.cell 4
  have f1 := W1.free 1
  have f2 := W1.free 2
  have f3 := W1.free 3
  have f4 := W1.free 4
  have f5 := V1.free 0
  have f6 := V1.free 1
  have f7 := V1.free 2
  have f8 := V1.free 3
  have f9 := V1.free 4
  have HW2 := Lib.hid W1
  have HV2 := Lib.hid V1
  have HB2 := Lib.hid (HB.out.trans (b2.mono HB.out.size))
  clear b2 W1 V1 HW HV HB CK CN
  go_wp2
  rw [HX.out]
  exact bodyPost_ret (v := .tuple #[.agg #[.bool true, .int .i64 base, .int .i64 n, .int .i64 (got + 1), .int .u64 (shlS seen d : Nat)], .int .i64 n, .int .i64 0]) (by simp [results, Try.results10, go_sem, v0, v1, v2, v3, v4]) rfl
    ⟨rfl, five (((HB2.out.setCell (p := ⟨w.heap.size, 4, none⟩) (Nat.le_refl _) _).setCell (p := ⟨w.heap.size, 2, none⟩) (Nat.le_refl _) _).setCell (p := ⟨w.heap.size, 3, none⟩) (Nat.le_refl _) _) (Nat.le_succ _) _ _ _ _ _⟩
set_option maxRecDepth 100000 in
theorem take_stays (t : Trk) (s n k : Int) (ho : t.on = true) (ht : t.Fit) (hn : nearS t.high s = n) (hkd : t.kind n = k) (hk : k = 2 ∨ k = 3) (w : World) :
    Calls Try.prog 10 #[.agg t.cells, .int .u16 s] w (TakeOut t n k w) := by
  have g2 := ht.high0
  have g3 := ht.high1
  have g4 := ht.got0
  have g5 := ht.got1
  have hnb := nearS_bd t.high s
  rw [hn] at hnb
  have CN := fun w => near16_any t.high s (by omega) (by omega) w
  rw [d16_near, hn] at CN
  have CK := Lib.hid (fun w => kind_any t n ho ht (by omega) (by omega) w)
  rw [hkd] at CK
  have CN := Lib.hid CN
  have HS := Lib.hid ht.seen
  obtain ⟨on, base, high, got, seen⟩ := t
  dsimp only [Trk.cells] at *
  subst ho
  clear hkd ht hn
  have W0 := Lib.hid ((Whole.new w 26 #[.bool true, .int .i64 base, .int .i64 high, .int .i64 got, .int .u64 (seen : Int)]).alloc (.cells #[.bool false, .int .i64 0, .int .i64 0, .int .i64 0, .int .u64 0] 26))
  have V0 := Lib.hid (Whole.new2 w (.cells #[.bool true, .int .i64 base, .int .i64 high, .int .i64 got, .int .u64 (seen : Int)] 26) 26 #[.bool false, .int .i64 0, .int .i64 0, .int .i64 0, .int .u64 0])
  have B0 := Lib.hid (((Below.refl w.heap.size w).alloc (Nat.le_refl _) (.cells #[.bool true, .int .i64 base, .int .i64 high, .int .i64 got, .int .u64 (seen : Int)] 26)).alloc (by simp) (.cells #[.bool false, .int .i64 0, .int .i64 0, .int .i64 0, .int .u64 0] 26))
  go_enter Try.func10, Try.ntmps10
  go_wp2_with fail
  refine (CN.out _).mono ?_
  rintro e w1 ⟨rfl, b1⟩
  have W1 := W0.out.below b1 (by simp; omega)
  have k0 := W1.cell 0
  have k1 := W1.cell 1
  have k2 := W1.cell 2
  have k3 := W1.cell 3
  have k4 := W1.cell 4
  have HW := Lib.hid W1
  have HV := Lib.hid (V0.out.below b1 (by simp))
  have HB := Lib.hid (B0.out.trans (b1.mono B0.out.size))
  clear b1 W1 W0 V0 B0
  go_wp2_with fail
  refine (CK.out _).mono ?_
  rintro e w2 ⟨rfl, b2⟩
  have W1 := HW.out.below b2 (HW.out.lt)
  have k0 := W1.cell 0
  have k1 := W1.cell 1
  have k2 := W1.cell 2
  have k3 := W1.cell 3
  have k4 := W1.cell 4
  have V1 := HV.out.below b2 (HV.out.lt)
  have v0 := V1.cell 0
  have v1 := V1.cell 1
  have v2 := V1.cell 2
  have v3 := V1.cell 3
  have v4 := V1.cell 4
  have f5 := V1.free 0
  have f6 := V1.free 1
  have f7 := V1.free 2
  have f8 := V1.free 3
  have f9 := V1.free 4
  have HW2 := Lib.hid W1
  have HV2 := Lib.hid V1
  have HB2 := Lib.hid (HB.out.trans (b2.mono HB.out.size))
  clear b2 W1 V1 HW HV HB CK CN
  rcases hk with rfl | rfl
  all_goals
    go_wp2
    first
      | exact bodyPost_ret (v := .tuple #[.agg #[.bool true, .int .i64 base, .int .i64 high, .int .i64 got, .int .u64 (seen : Nat)], .int .i64 n, .int .i64 2]) (by simp [results, Try.results10, go_sem, v0, v1, v2, v3, v4]) rfl ⟨rfl, five HB2.out (Nat.le_succ _) _ _ _ _ _⟩
      | exact bodyPost_ret (v := .tuple #[.agg #[.bool true, .int .i64 base, .int .i64 high, .int .i64 got, .int .u64 (seen : Nat)], .int .i64 n, .int .i64 3]) (by simp [results, Try.results10, go_sem, v0, v1, v2, v3, v4]) rfl ⟨rfl, five HB2.out (Nat.le_succ _) _ _ _ _ _⟩
set_option maxRecDepth 100000 in
theorem take_late (t : Trk) (s n : Int) (ho : t.on = true) (ht : t.Fit) (hn : nearS t.high s = n) (d : Nat) (hd : t.high - n = d) (hd64 : d < 64) (hb : t.seen.testBit d = false) (w : World) :
    Calls Try.prog 10 #[.agg t.cells, .int .u16 s] w (TakeOut ⟨true, min t.base n, t.high, t.got + 1, t.seen ||| 2 ^ d⟩ n 1 w) := by
  have g2 := ht.high0
  have g3 := ht.high1
  have g4 := ht.got0
  have g5 := ht.got1
  have hnb := nearS_bd t.high s
  rw [hn] at hnb
  have hk' : ¬ t.high < n := by omega
  have HD := Lib.hid hd
  have hkd : t.kind n = 1 := by unfold Trk.kind; rw [if_pos ho, if_neg (by omega), if_neg (by omega), hd, if_neg (by rw [Int.toNat_natCast, hb]; decide)]
  have CB := Lib.hid (fun w => below_any t n d (by omega) (by omega) (by omega) (by omega) hd (by omega) w)
  have CN := fun w => near16_any t.high s (by omega) (by omega) w
  rw [d16_near, hn] at CN
  have CK := Lib.hid (fun w => kind_any t n ho ht (by omega) (by omega) w)
  rw [hkd] at CK
  have CN := Lib.hid CN
  have HS := Lib.hid ht.seen
  obtain ⟨on, base, high, got, seen⟩ := t
  dsimp only [Trk.cells] at *
  subst ho
  clear hkd ht hn hd
  have W0 := Lib.hid ((Whole.new w 26 #[.bool true, .int .i64 base, .int .i64 high, .int .i64 got, .int .u64 (seen : Int)]).alloc (.cells #[.bool false, .int .i64 0, .int .i64 0, .int .i64 0, .int .u64 0] 26))
  have V0 := Lib.hid (Whole.new2 w (.cells #[.bool true, .int .i64 base, .int .i64 high, .int .i64 got, .int .u64 (seen : Int)] 26) 26 #[.bool false, .int .i64 0, .int .i64 0, .int .i64 0, .int .u64 0])
  have B0 := Lib.hid (((Below.refl w.heap.size w).alloc (Nat.le_refl _) (.cells #[.bool true, .int .i64 base, .int .i64 high, .int .i64 got, .int .u64 (seen : Int)] 26)).alloc (by simp) (.cells #[.bool false, .int .i64 0, .int .i64 0, .int .i64 0, .int .u64 0] 26))
  go_enter Try.func10, Try.ntmps10
  go_wp2_with fail
  refine (CN.out _).mono ?_
  rintro e w1 ⟨rfl, b1⟩
  have W1 := W0.out.below b1 (by simp; omega)
  have k0 := W1.cell 0
  have k1 := W1.cell 1
  have k2 := W1.cell 2
  have k3 := W1.cell 3
  have k4 := W1.cell 4
  have HW := Lib.hid W1
  have HV := Lib.hid (V0.out.below b1 (by simp))
  have HB := Lib.hid (B0.out.trans (b1.mono B0.out.size))
  clear b1 W1 W0 V0 B0
  go_wp2_with fail
  refine (CK.out _).mono ?_
  rintro e w2 ⟨rfl, b2⟩
  have W1 := HW.out.below b2 (HW.out.lt)
  have k0 := W1.cell 0
  have k1 := W1.cell 1
  have k2 := W1.cell 2
  have k3 := W1.cell 3
  have k4 := W1.cell 4
  have HW2 := Lib.hid W1
  have HV2 := Lib.hid (HV.out.below b2 (HV.out.lt))
  have HB2 := Lib.hid (HB.out.trans (b2.mono HB.out.size))
  clear b2 W1 HW HV HB CK CN
  clear k0 k1 k2 k3 k4
  go_wp2_with fail
  refine wp_region_X (S := fun w' => w'.cell? ⟨w.heap.size, 0, none⟩ = some (.bool true) ∧ w'.cell? ⟨w.heap.size, 1, none⟩ = some (.int .i64 base) ∧ w'.cell? ⟨w.heap.size, 2, none⟩ = some (.int .i64 high) ∧ w'.cell? ⟨w.heap.size, 3, none⟩ = some (.int .i64 got) ∧ w'.cell? ⟨w.heap.size, 4, none⟩ = some (.int .u64 (seen : Int))) [8] (by kernel_rfl) ⟨HW2.out.cell 0, HW2.out.cell 1, HW2.out.cell 2, HW2.out.cell 3, HW2.out.cell 4⟩ (fun hHeld0 => ?_)
  refine wpAnyX_take (i := 0) [1, 6, 7, 8] (v := ?_) rfl (by kernel_rfl) (by kernel_rfl) (by kernel_rfl) (by kernel_rfl) (fun _ _ _ h => h) (Or.inl ⟨by kernel_rfl, ?_⟩) (by assumption) ?_
  rotate_left 1
  · (intro w hSw; obtain ⟨q0, q1, q2, q3, q4⟩ := hSw; go_simp; try (with_reducible rfl))
  (try simp only [Act.put, List.getElem_toArray, List.getElem_cons_succ, List.getElem_cons_zero, List.setIfInBounds_toArray, List.set_cons_zero, List.set_cons_succ])
  refine wpAnyX_take (i := 1) [6, 7, 8] (v := ?_) rfl (by kernel_rfl) (by kernel_rfl) (by kernel_rfl) (by kernel_rfl) (fun _ _ _ h => h) (Or.inl ⟨by kernel_rfl, ?_⟩) (by assumption) ?_
  rotate_left 1
  · (intro w hSw; obtain ⟨q0, q1, q2, q3, q4⟩ := hSw; go_simp; try (with_reducible rfl))
  (try simp only [Act.put, List.getElem_toArray, List.getElem_cons_succ, List.getElem_cons_zero, List.setIfInBounds_toArray, List.set_cons_zero, List.set_cons_succ])
  refine wpAnyX_take (i := 2) [4, 5, 6, 7, 8] (v := ?_) rfl (by kernel_rfl) (by kernel_rfl) (by kernel_rfl) (by kernel_rfl) (fun _ _ _ h => h) (Or.inl ⟨by kernel_rfl, ?_⟩) (by assumption) ?_
  rotate_left 1
  · (intro w hSw; obtain ⟨q0, q1, q2, q3, q4⟩ := hSw; go_simp; try (with_reducible rfl))
  (try simp only [Act.put, List.getElem_toArray, List.getElem_cons_succ, List.getElem_cons_zero, List.setIfInBounds_toArray, List.set_cons_zero, List.set_cons_succ])
  refine wpAnyX_take (i := 3) [4, 5, 6, 7, 8] (v := ?_) rfl (by kernel_rfl) (by kernel_rfl) (by kernel_rfl) (by kernel_rfl) (fun _ _ _ h => h) (Or.inl ⟨by kernel_rfl, ?_⟩) (by assumption) ?_
  rotate_left 1
  · (intro w hSw; obtain ⟨q0, q1, q2, q3, q4⟩ := hSw; go_simp; try (with_reducible rfl))
  (try simp only [Act.put, List.getElem_toArray, List.getElem_cons_succ, List.getElem_cons_zero, List.setIfInBounds_toArray, List.set_cons_zero, List.set_cons_succ])
  refine wpAnyX_one 4 (by kernel_rfl) rfl (fun K hK => ?_)
  go_simp
  go_wp2_with (refine (CB.out w2.drew).mono ?_; rintro e w3 ⟨rfl, b3⟩)
  have M3 := HW2.out.drew.below b3 HW2.out.lt
  have HB3 := Lib.hid (HB2.out.drew.trans (b3.mono HB2.out.size))
  have HW3 := Lib.hid M3
  have HV3 := Lib.hid (HV2.out.drew.below b3 HV2.out.lt)
  have k0 := M3.cell 0
  have k1 := M3.cell 1
  have k2 := M3.cell 2
  have k3 := M3.cell 3
  have k4 := M3.cell 4
  have f4 := M3.free 4
  clear b3
  refine hK.out _ _ (.inr ⟨k0, k1, k2, k3, k4⟩) ?_
  have hHeld3 : (fun w' => w'.cell? ⟨w.heap.size, 0, none⟩ = some (.bool true) ∧ w'.cell? ⟨w.heap.size, 1, none⟩ = some (.int .i64 base) ∧ w'.cell? ⟨w.heap.size, 2, none⟩ = some (.int .i64 high) ∧ w'.cell? ⟨w.heap.size, 3, none⟩ = some (.int .i64 got) ∧ w'.cell? ⟨w.heap.size, 4, none⟩ = some (.int .u64 (seen : Int))) w3 := ⟨k0, k1, k2, k3, k4⟩
  clear hK K
  (try simp only [Act.put, List.getElem_toArray, List.getElem_cons_succ, List.getElem_cons_zero, List.setIfInBounds_toArray, List.set_cons_zero, List.set_cons_succ])
  refine wpAnyX_take (i := 5) [6, 7, 8] (v := ?_) rfl (by kernel_rfl) (by kernel_rfl) (by kernel_rfl) (by kernel_rfl) (fun _ _ _ h => h) (Or.inl ⟨by kernel_rfl, ?_⟩) (by assumption) ?_
  rotate_left 1
  · (intro w hSw; obtain ⟨q0, q1, q2, q3, q4⟩ := hSw; go_simp; try (with_reducible rfl))
  (try simp only [Act.put, List.getElem_toArray, List.getElem_cons_succ, List.getElem_cons_zero, List.setIfInBounds_toArray, List.set_cons_zero, List.set_cons_succ])
  refine wpAnyX_take (i := 6) [7, 8] (v := ?_) rfl (by kernel_rfl) (by kernel_rfl) (by kernel_rfl) (by kernel_rfl) (fun _ _ _ h => h) (Or.inl ⟨by kernel_rfl, ?_⟩) (by assumption) ?_
  rotate_left 1
  · (intro w hSw; obtain ⟨q0, q1, q2, q3, q4⟩ := hSw; go_simp; try (with_reducible rfl))
  (try simp only [Act.put, List.getElem_toArray, List.getElem_cons_succ, List.getElem_cons_zero, List.setIfInBounds_toArray, List.set_cons_zero, List.set_cons_succ])
  refine wpAnyX_take (i := 7) [8] (v := ?_) rfl (by kernel_rfl) (by kernel_rfl) (by kernel_rfl) (by kernel_rfl) (fun _ _ _ h => h) (Or.inl ⟨by kernel_rfl, ?_⟩) (by assumption) ?_
  rotate_left 1
  · (intro w hSw; obtain ⟨q0, q1, q2, q3, q4⟩ := hSw; go_simp; try (with_reducible rfl))
  (try simp only [Act.put, List.getElem_toArray, List.getElem_cons_succ, List.getElem_cons_zero, List.setIfInBounds_toArray, List.set_cons_zero, List.set_cons_succ])
  refine wpAnyX_one 8 (by kernel_rfl) rfl (fun K hK => ?_)
  go_simp
  refine hK.out _ _ (.inl (by decide)) ?_
  clear hK K
  (try simp only [Act.put, List.getElem_toArray, List.getElem_cons_succ, List.getElem_cons_zero, List.setIfInBounds_toArray, List.set_cons_zero, List.set_cons_succ])
  refine wpAnyX_done (by kernel_rfl) ?_ _
  rw [or_is seen d HS.out hd64]
  have W4 := HW3.out.set 4 (.int .u64 ((seen ||| 2 ^ d : Nat) : Int))
  have V4 := HV3.out.far (p := ⟨w.heap.size, 4, none⟩) (show w.heap.size + 1 ≠ w.heap.size by omega) (.int .u64 ((seen ||| 2 ^ d : Nat) : Int))
  have B4 := HB3.out.setCell (p := ⟨w.heap.size, 4, none⟩) (Nat.le_refl _) (.int .u64 ((seen ||| 2 ^ d : Nat) : Int))
  obtain ⟨wf, hwf⟩ : ∃ wf, wf = w3.setCell ⟨w.heap.size, 4, none⟩ (.int .u64 ((seen ||| 2 ^ d : Nat) : Int)) := ⟨_, rfl⟩
  rw [← hwf] at W4 V4 B4 ⊢
  clear hwf k0 k1 k2 k3 k4 f4 hHeld0 hHeld3 M3
  have k0 := W4.cell 0
  have k1 := W4.cell 1
  have k2 := W4.cell 2
  have k3 := W4.cell 3
  have k4 := W4.cell 4
  have f1 := W4.free 1
  have f3 := W4.free 3
  have v0 := V4.cell 0
  have v1 := V4.cell 1
  have v2 := V4.cell 2
  have v3 := V4.cell 3
  have v4 := V4.cell 4
  have g5 := V4.free 0
  have g6 := V4.free 1
  have g7 := V4.free 2
  have g8 := V4.free 3
  have g9 := V4.free 4
  have HBW := Lib.hid B4
  clear B4 W4 V4 HB3 HW3 HV3 CB CN HB2 HW2 HV2
  by_cases hmn : base ≤ n
  · have hmm : min base n = base := Int.min_eq_left hmn
    go_wp2
    exact bodyPost_ret (v := .tuple #[.agg #[.bool true, .int .i64 base, .int .i64 high, .int .i64 (got + 1), .int .u64 (seen ||| 2 ^ d : Nat)], .int .i64 n, .int .i64 1]) (by simp [results, Try.results10, go_sem, v0, v1, v2, v3, v4]) rfl
      ⟨(by simp only [Trk.cells, hmm]), five ((HBW.out.setCell (p := ⟨w.heap.size, 1, none⟩) (Nat.le_refl _) _).setCell (p := ⟨w.heap.size, 3, none⟩) (Nat.le_refl _) _) (Nat.le_succ _) _ _ _ _ _⟩
  · have hmm : min base n = n := Int.min_eq_right (by omega)
    go_wp2
    exact bodyPost_ret (v := .tuple #[.agg #[.bool true, .int .i64 n, .int .i64 high, .int .i64 (got + 1), .int .u64 (seen ||| 2 ^ d : Nat)], .int .i64 n, .int .i64 1]) (by simp [results, Try.results10, go_sem, v0, v1, v2, v3, v4]) rfl
      ⟨(by simp only [Trk.cells, hmm]), five ((HBW.out.setCell (p := ⟨w.heap.size, 1, none⟩) (Nat.le_refl _) _).setCell (p := ⟨w.heap.size, 3, none⟩) (Nat.le_refl _) _) (Nat.le_succ _) _ _ _ _ _⟩
/-- Take, whatever the track is that it told. -/
theorem take_any (t : Trk) (s : Int) (ht : t.Fit) (h0 : 0 ≤ s) (h1 : s < 65536) (w : World) :
    Calls Try.prog 10 #[.agg t.cells, .int .u16 s] w (TakeOut (t.take (t.num s)) (t.num s) (t.kind (t.num s)) w) := by
  by_cases ho : t.on = true
  · have hn : t.num s = nearS t.high s := by unfold Trk.num; rw [if_pos ho]
    obtain ⟨n, hnn⟩ : ∃ n, nearS t.high s = n := ⟨_, rfl⟩
    rw [hn, hnn]
    by_cases h2 : t.high < n
    · have e1 : t.take n = ⟨true, t.base, n, t.got + 1, shlS t.seen (n - t.high).toNat⟩ := by unfold Trk.take; rw [if_pos ho, if_pos h2]
      have e2 : t.kind n = 0 := by unfold Trk.kind; rw [if_pos ho, if_pos h2]
      rw [e1, e2]
      exact take_new t s n ho ht hnn _ (by omega) (by omega) w
    · by_cases h3 : 64 ≤ t.high - n
      · have e2 : t.kind n = 3 := by unfold Trk.kind; rw [if_pos ho, if_neg h2, if_pos h3]
        rw [Trk.again_old t n (.inl e2)]
        exact take_stays t s n _ ho ht hnn rfl (.inr e2) w
      · by_cases h4 : t.seen.testBit (t.high - n).toNat = true
        · have e2 : t.kind n = 2 := by unfold Trk.kind; rw [if_pos ho, if_neg h2, if_neg h3, if_pos h4]
          rw [Trk.again_old t n (.inr e2)]
          exact take_stays t s n _ ho ht hnn rfl (.inl e2) w
        · have e1 : t.take n = ⟨true, min t.base n, t.high, t.got + 1, t.seen ||| 2 ^ (t.high - n).toNat⟩ := by unfold Trk.take; rw [if_pos ho, if_neg h2, if_neg h3, if_neg h4]
          have e2 : t.kind n = 1 := by unfold Trk.kind; rw [if_pos ho, if_neg h2, if_neg h3, if_neg h4]
          rw [e1, e2]
          exact take_late t s n ho ht hnn _ (by omega) (by omega) (by simpa using h4) w
  · have e0 : t.num s = s := by unfold Trk.num; rw [if_neg ho]
    have e1 : t.take s = ⟨true, s, s, 1, 1⟩ := by unfold Trk.take; rw [if_neg ho]
    have e2 : t.kind s = 0 := by unfold Trk.kind; rw [if_neg ho]
    rw [e0, e1, e2]
    exact take_off t s (by simpa using ho) h0 h1 w
end Go.Proofs.Ytphhhfgenhbmlaa
