/-
  Contracts of package pins: Install, Pin, Unpin, Waiting.
-/
import Derived.Test.YtgacejencnkpmaaPnCb
namespace Go.Proofs.Ytgacejencnkpmaa
open Go.RowKit
set_option linter.unusedSimpArgs false
set_option linter.unusedVariables false
set_option maxRecDepth 100000

section
variable (l : List Wk) (q : List Wt) (g : Nat) (S : Nat → Prop) (w : World)

set_option maxHeartbeats 1600000 in
theorem pinst_any (i e : Int) (h : PAt w g S l q) : Calls Try.prog 11 #[.pointer (some ⟨g, 0, none⟩), .int .i64 i, .int .u64 e] w (PDone g S (.int .i64 (instE l i e)) (instS l i e) q w) := by
  obtain ⟨r, A, c, hne, hS, hG, hR, hO, hL, hb⟩ := h
  have C := pfind_any l i g r (.slice A q.length c) w hG hL.2.1
  have hrl := hR.lt
  unfold instE instS
  unfold foundK at C
  cases hk : wkAt l i with
  | none =>
    have HF := Lib.hid (pdone_turn hne hS hG hR hO hL (.int .i64 1) rfl hb hR (But.refl _ w))
    rw [hk] at C
    simp only [Option.isSome_none, Bool.false_eq_true, if_false] at C
    replace C := Lib.hid C
    clear hG hR hO hS hk hrl
    go_enter Try.func11, Try.ntmps11
    go_wp2_with fail
    refine C.out.mono ?_
    rintro e1 w1 ⟨rfl, rfl⟩
    clear C
    go_wp2
    go_ret
    exact HF.out
  | some y =>
    have hi0 : ¬ i < 0 := fun h => by rw [wkAt_low h] at hk; cases hk
    obtain ⟨k, rfl⟩ : ∃ k : Nat, i = (k : Int) := ⟨i.toNat, by omega⟩
    rw [wkAt_nat] at hk
    rw [wkAt_nat, hk] at C
    simp only [Option.isSome_some, if_true, Int.toNat_natCast] at C
    replace C := Lib.hid C
    obtain ⟨e0, e1, e2⟩ := wkP_get hk
    have c0 := (hR.cell (k * 3)).trans e0
    have c1 := (hR.cell (k * 3 + 1)).trans e1
    have c2 := (hR.cell (k * 3 + 2)).trans e2
    have f0 := hR.free (k * 3)
    have f1 := hR.free (k * 3 + 1)
    have f2 := hR.free (k * 3 + 2)
    have HK := Lib.hid hk
    obtain ⟨ya, ys⟩ := y
    dsimp only at c0 c1 c2 ⊢
    rw [Int.toNat_natCast]
    by_cases he : e < ya
    ·
      rw [if_pos he, if_pos he]
      have HF := Lib.hid (pdone_turn hne hS hG hR hO hL (.int .i64 23) rfl hb hR (But.refl _ w))
      clear hG hR hO hS hk hrl HK e0 e1 e2 hi0 hb
      go_enter Try.func11, Try.ntmps11
      go_wp2_with fail
      refine C.out.mono ?_
      rintro e1 w1 ⟨rfl, rfl⟩
      clear C
      go_wp2
      go_ret
      exact HF.out
    ·
      rw [if_neg he, if_neg he]
      have HF := Lib.hid (show PDone g S (.int .i64 0) (l.set k ⟨e, ys⟩) q w (.returned (.int .i64 0)) (w.setCell ⟨r, k * 3, none⟩ (.int .u64 e)) from pdone_turn hne hS hG hR hO hL (.int .i64 0) (List.length_set ..) (hb.set k fun s hs => Int.le_trans (hb _ (List.mem_of_getElem? HK.out) s hs) (show ya ≤ e by omega)) (by rw [← wkP_at (y := ⟨ya, ys⟩) hk]; exact hR.set (k * 3) _) ((But.refl (fun k => k = r) w).set (p := ⟨r, k * 3, none⟩) (.inl rfl) _))
      clear hG hR hO hS hk hrl HK e0 e1 e2 hi0 hb
      go_enter Try.func11, Try.ntmps11
      go_wp2_with fail
      refine C.out.mono ?_
      rintro e1 w1 ⟨rfl, rfl⟩
      clear C
      go_wp2
      go_ret
      exact HF.out

set_option maxHeartbeats 1600000 in
theorem pinst_nil (i e : Int) : Calls Try.prog 11 #[.pointer none, .int .i64 i, .int .u64 e] w fun e w' => e = .returned (.int .i64 1) ∧ Below w.heap.size w w' := by
  have C := Lib.hid (fun wx => pfind_nil i wx)
  have HB := Lib.hid (Below.refl w.heap.size w)
  go_enter Try.func11, Try.ntmps11
  go_wp2_with fail
  refine (C.out _).mono ?_
  rintro e1 w1 ⟨rfl, rfl⟩
  go_wp2
  go_ret
  exact ⟨rfl, HB.out⟩

set_option maxHeartbeats 1600000 in
theorem ppin_any (i : Int) (h : PAt w g S l q) : Calls Try.prog 13 #[.pointer (some ⟨g, 0, none⟩), .int .i64 i] w (PDone g S (.tuple #[.int .u64 (pinX l i), .int .i64 (pinE l i)]) (pinS l i) q w) := by
  obtain ⟨r, A, c, hne, hS, hG, hR, hO, hL, hb⟩ := h
  have C := pfind_any l i g r (.slice A q.length c) w hG hL.2.1
  have hrl := hR.lt
  unfold pinX pinE pinS
  unfold foundK at C
  cases hk : wkAt l i with
  | none =>
    have HF := Lib.hid (pdone_turn hne hS hG hR hO hL (.tuple #[.int .u64 0, .int .i64 1]) rfl hb hR (But.refl _ w))
    rw [hk] at C
    simp only [Option.isSome_none, Bool.false_eq_true, if_false] at C
    replace C := Lib.hid C
    clear hG hR hO hS hk hrl
    go_enter Try.func13, Try.ntmps13
    go_wp2_with fail
    refine C.out.mono ?_
    rintro e1 w1 ⟨rfl, rfl⟩
    clear C
    go_wp2
    go_ret2
    exact HF.out
  | some y =>
    have hi0 : ¬ i < 0 := fun h => by rw [wkAt_low h] at hk; cases hk
    obtain ⟨k, rfl⟩ : ∃ k : Nat, i = (k : Int) := ⟨i.toNat, by omega⟩
    rw [wkAt_nat] at hk
    rw [wkAt_nat, hk] at C
    simp only [Option.isSome_some, if_true, Int.toNat_natCast] at C
    replace C := Lib.hid C
    obtain ⟨e0, e1, e2⟩ := wkP_get hk
    have c0 := (hR.cell (k * 3)).trans e0
    have c1 := (hR.cell (k * 3 + 1)).trans e1
    have c2 := (hR.cell (k * 3 + 2)).trans e2
    have f0 := hR.free (k * 3)
    have f1 := hR.free (k * 3 + 1)
    have f2 := hR.free (k * 3 + 2)
    have HK := Lib.hid hk
    obtain ⟨ya, ys⟩ := y
    dsimp only at c0 c1 c2 ⊢
    rw [Int.toNat_natCast]
    cases ys with
    | some s =>
      simp only [Option.isSome_some, if_true, Option.getD_some] at c1 c2 ⊢
      have HF := Lib.hid (pdone_turn hne hS hG hR hO hL (.tuple #[.int .u64 0, .int .i64 23]) rfl hb hR (But.refl _ w))
      clear hG hR hO hS hk hrl HK e0 e1 e2 hi0 hb
      go_enter Try.func13, Try.ntmps13
      go_wp2_with fail
      refine C.out.mono ?_
      rintro e1 w1 ⟨rfl, rfl⟩
      clear C
      go_wp2
      go_ret2
      exact HF.out
    | none =>
      simp only [Option.isSome_none, Bool.false_eq_true, if_false, Option.getD_none] at c1 c2 ⊢
      have HF := Lib.hid (show PDone g S (.tuple #[.int .u64 ya, .int .i64 0]) (l.set k ⟨ya, some ya⟩) q w (.returned (.tuple #[.int .u64 ya, .int .i64 0])) ((w.setCell ⟨r, k * 3 + 1, none⟩ (.int .u64 ya)).setCell ⟨r, k * 3 + 2, none⟩ (.bool true)) from pdone_turn hne hS hG hR hO hL (.tuple #[.int .u64 ya, .int .i64 0]) (List.length_set ..) (hb.set k fun s hs => by injection hs with hs; subst hs; exact Int.le_refl _) (by rw [← wkP_sees (y := ⟨ya, none⟩) hk (some ya)]; exact (hR.set (k * 3 + 1) _).set (k * 3 + 2) _) (((But.refl (fun k => k = r) w).set (p := ⟨r, k * 3 + 1, none⟩) (.inl rfl) (.int .u64 ya)).set (p := ⟨r, k * 3 + 2, none⟩) (.inl rfl) (.bool true)))
      clear hG hR hO hS hk hrl HK e0 e1 e2 hi0 hb
      go_enter Try.func13, Try.ntmps13
      go_wp2_with fail
      refine C.out.mono ?_
      rintro e1 w1 ⟨rfl, rfl⟩
      clear C
      go_wp2
      go_ret2
      exact HF.out

set_option maxHeartbeats 1600000 in
theorem ppin_nil (i : Int) : Calls Try.prog 13 #[.pointer none, .int .i64 i] w fun e w' => e = .returned (.tuple #[.int .u64 0, .int .i64 1]) ∧ Below w.heap.size w w' := by
  have C := Lib.hid (fun wx => pfind_nil i wx)
  have HB := Lib.hid (Below.refl w.heap.size w)
  go_enter Try.func13, Try.ntmps13
  go_wp2_with fail
  refine (C.out _).mono ?_
  rintro e1 w1 ⟨rfl, rfl⟩
  go_wp2
  go_ret2
  exact ⟨rfl, HB.out⟩

set_option maxHeartbeats 1600000 in
theorem punpin_any (i : Int) (h : PAt w g S l q) : Calls Try.prog 15 #[.pointer (some ⟨g, 0, none⟩), .int .i64 i] w (PDone g S (.int .i64 (unpE l i)) (unpS l i) q w) := by
  obtain ⟨r, A, c, hne, hS, hG, hR, hO, hL, hb⟩ := h
  have C := pfind_any l i g r (.slice A q.length c) w hG hL.2.1
  have hrl := hR.lt
  unfold unpE unpS
  unfold foundK at C
  cases hk : wkAt l i with
  | none =>
    have HF := Lib.hid (pdone_turn hne hS hG hR hO hL (.int .i64 1) rfl hb hR (But.refl _ w))
    rw [hk] at C
    simp only [Option.isSome_none, Bool.false_eq_true, if_false] at C
    replace C := Lib.hid C
    clear hG hR hO hS hk hrl
    go_enter Try.func15, Try.ntmps15
    go_wp2_with fail
    refine C.out.mono ?_
    rintro e1 w1 ⟨rfl, rfl⟩
    clear C
    go_wp2
    go_ret
    exact HF.out
  | some y =>
    have hi0 : ¬ i < 0 := fun h => by rw [wkAt_low h] at hk; cases hk
    obtain ⟨k, rfl⟩ : ∃ k : Nat, i = (k : Int) := ⟨i.toNat, by omega⟩
    rw [wkAt_nat] at hk
    rw [wkAt_nat, hk] at C
    simp only [Option.isSome_some, if_true, Int.toNat_natCast] at C
    replace C := Lib.hid C
    obtain ⟨e0, e1, e2⟩ := wkP_get hk
    have c0 := (hR.cell (k * 3)).trans e0
    have c1 := (hR.cell (k * 3 + 1)).trans e1
    have c2 := (hR.cell (k * 3 + 2)).trans e2
    have f0 := hR.free (k * 3)
    have f1 := hR.free (k * 3 + 1)
    have f2 := hR.free (k * 3 + 2)
    have HK := Lib.hid hk
    obtain ⟨ya, ys⟩ := y
    dsimp only at c0 c1 c2 ⊢
    rw [Int.toNat_natCast]
    cases ys with
    | none =>
      simp only [Option.isSome_none, Bool.false_eq_true, if_false, Option.getD_none] at c1 c2 ⊢
      have HF := Lib.hid (pdone_turn hne hS hG hR hO hL (.int .i64 23) rfl hb hR (But.refl _ w))
      clear hG hR hO hS hk hrl HK e0 e1 e2 hi0 hb
      go_enter Try.func15, Try.ntmps15
      go_wp2_with fail
      refine C.out.mono ?_
      rintro e1 w1 ⟨rfl, rfl⟩
      clear C
      go_wp2
      go_ret
      exact HF.out
    | some s =>
      simp only [Option.isSome_some, if_true, Option.getD_some] at c1 c2 ⊢
      have HF := Lib.hid (show PDone g S (.int .i64 0) (l.set k ⟨ya, none⟩) q w (.returned (.int .i64 0)) ((w.setCell ⟨r, k * 3 + 1, none⟩ (.int .u64 0)).setCell ⟨r, k * 3 + 2, none⟩ (.bool false)) from pdone_turn hne hS hG hR hO hL (.int .i64 0) (List.length_set ..) (hb.set k fun s hs => by cases hs) (by rw [← wkP_sees (y := ⟨ya, some s⟩) hk none]; exact (hR.set (k * 3 + 1) _).set (k * 3 + 2) _) (((But.refl (fun k => k = r) w).set (p := ⟨r, k * 3 + 1, none⟩) (.inl rfl) (.int .u64 0)).set (p := ⟨r, k * 3 + 2, none⟩) (.inl rfl) (.bool false)))
      clear hG hR hO hS hk hrl HK e0 e1 e2 hi0 hb
      go_enter Try.func15, Try.ntmps15
      go_wp2_with fail
      refine C.out.mono ?_
      rintro e1 w1 ⟨rfl, rfl⟩
      clear C
      go_wp2
      go_ret
      exact HF.out

set_option maxHeartbeats 1600000 in
theorem punpin_nil (i : Int) : Calls Try.prog 15 #[.pointer none, .int .i64 i] w fun e w' => e = .returned (.int .i64 1) ∧ Below w.heap.size w w' := by
  have C := Lib.hid (fun wx => pfind_nil i wx)
  have HB := Lib.hid (Below.refl w.heap.size w)
  go_enter Try.func15, Try.ntmps15
  go_wp2_with fail
  refine (C.out _).mono ?_
  rintro e1 w1 ⟨rfl, rfl⟩
  go_wp2
  go_ret
  exact ⟨rfl, HB.out⟩

theorem pwait_any (h : PAt w g S l q) : Calls Try.prog 22 #[.pointer (some ⟨g, 0, none⟩)] w fun e w' => e = .returned (.int .i64 (q.length : Int)) ∧ Below w.heap.size w w' := by
  obtain ⟨r, A, c, hne, hS, hG, hR, hO, hL, hb⟩ := h
  have g1 := hG.cell 1
  have HB := Lib.hid (Below.refl w.heap.size w)
  clear hG hR hO hS hb
  go_enter Try.func22, Try.ntmps22
  go_wp2
  go_ret
  exact ⟨rfl, HB.out⟩
theorem pwait_nil : Calls Try.prog 22 #[.pointer none] w fun e w' => e = .returned (.int .i64 0) ∧ Below w.heap.size w w' := by
  have HB := Lib.hid (Below.refl w.heap.size w)
  go_enter Try.func22, Try.ntmps22
  go_wp2
  go_ret
  exact ⟨rfl, HB.out⟩
end
end Go.Proofs.Ytgacejencnkpmaa
