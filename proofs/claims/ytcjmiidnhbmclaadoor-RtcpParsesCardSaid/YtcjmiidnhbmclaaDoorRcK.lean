/-
  Package rtcp's kindOf, isHead, paddingOf.
-/
import Derived.Test.YtcjmiidnhbmclaaDoorRcJ
namespace Go.Proofs.YtcjmiidnhbmclaaDoor
open Go.RowKit
set_option maxRecDepth 100000

/-- The kind of a type and a count. -/
def kf (t c : Nat) : Int := if t = 200 then 0 else if t = 201 then 1 else if t = 203 then 2 else if t = 205 ∧ c = 1 then 3 else if t = 206 ∧ c = 1 then 4 else if t = 206 ∧ c = 4 then 5 else 6
theorem ret_intK {a b : Int} (h : a = b) : Ending.returned (.int .i64 a) = .returned (.int .i64 b) := by rw [h]
theorem belowA {w w' : World} (h : Below w.heap.size w w') (o : Obj) : Below w.heap.size w (w'.alloc o) := h.alloc h.size o
theorem formAt0 (w : World) : (Instr.index 93 (.agg #[.int .u8 200, .int .u8 0, .int .u8 201, .int .u8 0, .int .u8 203, .int .u8 0, .int .u8 205, .int .u8 1, .int .u8 206, .int .u8 1, .int .u8 206, .int .u8 4]) (.int .i64 0)).run Tryd.prog w = .ok (.agg #[.int .u8 200, .int .u8 0]) w := by kernel_rfl
theorem formAt1 (w : World) : (Instr.index 93 (.agg #[.int .u8 200, .int .u8 0, .int .u8 201, .int .u8 0, .int .u8 203, .int .u8 0, .int .u8 205, .int .u8 1, .int .u8 206, .int .u8 1, .int .u8 206, .int .u8 4]) (.int .i64 1)).run Tryd.prog w = .ok (.agg #[.int .u8 201, .int .u8 0]) w := by kernel_rfl
theorem formAt2 (w : World) : (Instr.index 93 (.agg #[.int .u8 200, .int .u8 0, .int .u8 201, .int .u8 0, .int .u8 203, .int .u8 0, .int .u8 205, .int .u8 1, .int .u8 206, .int .u8 1, .int .u8 206, .int .u8 4]) (.int .i64 2)).run Tryd.prog w = .ok (.agg #[.int .u8 203, .int .u8 0]) w := by kernel_rfl
theorem formAt3 (w : World) : (Instr.index 93 (.agg #[.int .u8 200, .int .u8 0, .int .u8 201, .int .u8 0, .int .u8 203, .int .u8 0, .int .u8 205, .int .u8 1, .int .u8 206, .int .u8 1, .int .u8 206, .int .u8 4]) (.int .i64 3)).run Tryd.prog w = .ok (.agg #[.int .u8 205, .int .u8 1]) w := by kernel_rfl
theorem formAt4 (w : World) : (Instr.index 93 (.agg #[.int .u8 200, .int .u8 0, .int .u8 201, .int .u8 0, .int .u8 203, .int .u8 0, .int .u8 205, .int .u8 1, .int .u8 206, .int .u8 1, .int .u8 206, .int .u8 4]) (.int .i64 4)).run Tryd.prog w = .ok (.agg #[.int .u8 206, .int .u8 1]) w := by kernel_rfl
theorem formAt5 (w : World) : (Instr.index 93 (.agg #[.int .u8 200, .int .u8 0, .int .u8 201, .int .u8 0, .int .u8 203, .int .u8 0, .int .u8 205, .int .u8 1, .int .u8 206, .int .u8 1, .int .u8 206, .int .u8 4]) (.int .i64 5)).run Tryd.prog w = .ok (.agg #[.int .u8 206, .int .u8 4]) w := by kernel_rfl
set_option maxHeartbeats 3200000 in
theorem kindOf_any (t c : Nat) (w : World) (hF : Forms w) :
    Calls Tryd.prog 56 #[.int .u8 (t : Int), .int .u8 (c : Int)] w fun e w' => e = .returned (.int .i64 (kf t c)) ∧ Below w.heap.size w w' := by
  have c0 : w.cell? ⟨0, 0, none⟩ = some (.int .u8 200) := hF.cells 0 _ rfl
  have c1 : w.cell? ⟨0, 1, none⟩ = some (.int .u8 0) := hF.cells 1 _ rfl
  have c2 : w.cell? ⟨0, 2, none⟩ = some (.int .u8 201) := hF.cells 2 _ rfl
  have c3 : w.cell? ⟨0, 3, none⟩ = some (.int .u8 0) := hF.cells 3 _ rfl
  have c4 : w.cell? ⟨0, 4, none⟩ = some (.int .u8 203) := hF.cells 4 _ rfl
  have c5 : w.cell? ⟨0, 5, none⟩ = some (.int .u8 0) := hF.cells 5 _ rfl
  have c6 : w.cell? ⟨0, 6, none⟩ = some (.int .u8 205) := hF.cells 6 _ rfl
  have c7 : w.cell? ⟨0, 7, none⟩ = some (.int .u8 1) := hF.cells 7 _ rfl
  have c8 : w.cell? ⟨0, 8, none⟩ = some (.int .u8 206) := hF.cells 8 _ rfl
  have c9 : w.cell? ⟨0, 9, none⟩ = some (.int .u8 1) := hF.cells 9 _ rfl
  have c10 : w.cell? ⟨0, 10, none⟩ = some (.int .u8 206) := hF.cells 10 _ rfl
  have c11 : w.cell? ⟨0, 11, none⟩ = some (.int .u8 4) := hF.cells 11 _ rfl
  clear hF
  obtain ⟨ty, hty⟩ : ∃ ty : Int, (t : Int) = ty := ⟨_, rfl⟩
  obtain ⟨cy, hcy⟩ : ∃ cy : Int, (c : Int) = cy := ⟨_, rfl⟩
  rw [hty, hcy]
  have I0 := formAt0
  have I1 := formAt1
  have I2 := formAt2
  have I3 := formAt3
  have I4 := formAt4
  have I5 := formAt5
  by_cases t0 : t = 200
  · have HK : Hid ((0 : Int) = kf t c) := Lib.hid (by unfold kf; simp [t0])
    obtain rfl : ty = 200 := by omega
    clear hty hcy t0 
    go_enter Tryd.func56, Tryd.ntmps56
    go_wp2_with fail
    refine wp_loop_rounds 1 ?_
    rw [rounds_succ]
    go_wp2_with fail
    go_ret
    refine ⟨ret_intK HK.out, ?_⟩
    repeat (refine belowA ?_ _)
    exact Below.refl _ _
  by_cases t1 : t = 201
  · have HK : Hid ((1 : Int) = kf t c) := Lib.hid (by unfold kf; simp [t1])
    obtain rfl : ty = 201 := by omega
    clear hty hcy t1 t0
    go_enter Tryd.func56, Tryd.ntmps56
    go_wp2_with fail
    refine wp_loop_rounds 2 ?_
    rw [rounds_succ]
    go_wp2_with fail
    rw [rounds_succ]
    go_wp2_with fail
    go_ret
    refine ⟨ret_intK HK.out, ?_⟩
    repeat (refine belowA ?_ _)
    exact Below.refl _ _
  by_cases t2 : t = 203
  · have HK : Hid ((2 : Int) = kf t c) := Lib.hid (by unfold kf; simp [t2])
    obtain rfl : ty = 203 := by omega
    clear hty hcy t2 t0 t1
    go_enter Tryd.func56, Tryd.ntmps56
    go_wp2_with fail
    refine wp_loop_rounds 3 ?_
    rw [rounds_succ]
    go_wp2_with fail
    rw [rounds_succ]
    go_wp2_with fail
    rw [rounds_succ]
    go_wp2_with fail
    go_ret
    refine ⟨ret_intK HK.out, ?_⟩
    repeat (refine belowA ?_ _)
    exact Below.refl _ _
  by_cases t3 : t = 205
  · by_cases k1 : c = 1
    · have HK : Hid ((3 : Int) = kf t c) := Lib.hid (by unfold kf; simp [t3, k1])
      obtain rfl : ty = 205 := by omega
      obtain rfl : cy = 1 := by omega
      clear hty hcy t3 k1 t0 t1 t2
      go_enter Tryd.func56, Tryd.ntmps56
      go_wp2_with fail
      refine wp_loop_rounds 4 ?_
      rw [rounds_succ]
      go_wp2_with fail
      rw [rounds_succ]
      go_wp2_with fail
      rw [rounds_succ]
      go_wp2_with fail
      rw [rounds_succ]
      go_wp2_with fail
      go_ret
      refine ⟨ret_intK HK.out, ?_⟩
      repeat (refine belowA ?_ _)
      exact Below.refl _ _
    · have HK : Hid ((6 : Int) = kf t c) := Lib.hid (by unfold kf; simp [t3, k1])
      obtain rfl : ty = 205 := by omega
      have n0a : ¬ (1 : Int) = cy := by omega
      have n0b : ¬ cy = (1 : Int) := by omega
      clear hty hcy t3 k1 t0 t1 t2
      go_enter Tryd.func56, Tryd.ntmps56
      go_wp2_with fail
      refine wp_loop_rounds 7 ?_
      rw [rounds_succ]
      go_wp2_with fail
      rw [rounds_succ]
      go_wp2_with fail
      rw [rounds_succ]
      go_wp2_with fail
      rw [rounds_succ]
      go_wp2_with fail
      rw [rounds_succ]
      go_wp2_with fail
      rw [rounds_succ]
      go_wp2_with fail
      rw [rounds_succ]
      go_wp2_with fail
      go_ret
      refine ⟨ret_intK HK.out, ?_⟩
      repeat (refine belowA ?_ _)
      exact Below.refl _ _
  by_cases t4 : t = 206
  · by_cases k1 : c = 1
    · have HK : Hid ((4 : Int) = kf t c) := Lib.hid (by unfold kf; simp [t4, k1])
      obtain rfl : ty = 206 := by omega
      obtain rfl : cy = 1 := by omega
      clear hty hcy t4 k1 t3 t0 t1 t2
      go_enter Tryd.func56, Tryd.ntmps56
      go_wp2_with fail
      refine wp_loop_rounds 5 ?_
      rw [rounds_succ]
      go_wp2_with fail
      rw [rounds_succ]
      go_wp2_with fail
      rw [rounds_succ]
      go_wp2_with fail
      rw [rounds_succ]
      go_wp2_with fail
      rw [rounds_succ]
      go_wp2_with fail
      go_ret
      refine ⟨ret_intK HK.out, ?_⟩
      repeat (refine belowA ?_ _)
      exact Below.refl _ _
    by_cases k4 : c = 4
    · have HK : Hid ((5 : Int) = kf t c) := Lib.hid (by unfold kf; simp [t4, k4])
      obtain rfl : ty = 206 := by omega
      obtain rfl : cy = 4 := by omega
      clear hty hcy t4 k1 k4 t3 t0 t1 t2
      go_enter Tryd.func56, Tryd.ntmps56
      go_wp2_with fail
      refine wp_loop_rounds 6 ?_
      rw [rounds_succ]
      go_wp2_with fail
      rw [rounds_succ]
      go_wp2_with fail
      rw [rounds_succ]
      go_wp2_with fail
      rw [rounds_succ]
      go_wp2_with fail
      rw [rounds_succ]
      go_wp2_with fail
      rw [rounds_succ]
      go_wp2_with fail
      go_ret
      refine ⟨ret_intK HK.out, ?_⟩
      repeat (refine belowA ?_ _)
      exact Below.refl _ _
    · have HK : Hid ((6 : Int) = kf t c) := Lib.hid (by unfold kf; simp [t4, k1, k4])
      obtain rfl : ty = 206 := by omega
      have n0a : ¬ (1 : Int) = cy := by omega
      have n0b : ¬ cy = (1 : Int) := by omega
      have n1a : ¬ (4 : Int) = cy := by omega
      have n1b : ¬ cy = (4 : Int) := by omega
      clear hty hcy t4 k1 k4 t3 t0 t1 t2
      go_enter Tryd.func56, Tryd.ntmps56
      go_wp2_with fail
      refine wp_loop_rounds 7 ?_
      rw [rounds_succ]
      go_wp2_with fail
      rw [rounds_succ]
      go_wp2_with fail
      rw [rounds_succ]
      go_wp2_with fail
      rw [rounds_succ]
      go_wp2_with fail
      rw [rounds_succ]
      go_wp2_with fail
      rw [rounds_succ]
      go_wp2_with fail
      rw [rounds_succ]
      go_wp2_with fail
      go_ret
      refine ⟨ret_intK HK.out, ?_⟩
      repeat (refine belowA ?_ _)
      exact Below.refl _ _
  have HK : Hid ((6 : Int) = kf t c) := Lib.hid (by unfold kf; simp [t0, t1, t2, t3, t4])
  have n0a : ¬ (200 : Int) = ty := by omega
  have n0b : ¬ ty = (200 : Int) := by omega
  have n1a : ¬ (201 : Int) = ty := by omega
  have n1b : ¬ ty = (201 : Int) := by omega
  have n2a : ¬ (203 : Int) = ty := by omega
  have n2b : ¬ ty = (203 : Int) := by omega
  have n3a : ¬ (205 : Int) = ty := by omega
  have n3b : ¬ ty = (205 : Int) := by omega
  have n4a : ¬ (206 : Int) = ty := by omega
  have n4b : ¬ ty = (206 : Int) := by omega
  clear hty hcy t0 t1 t2 t3 t4
  go_enter Tryd.func56, Tryd.ntmps56
  go_wp2_with fail
  refine wp_loop_rounds 7 ?_
  rw [rounds_succ]
  go_wp2_with fail
  rw [rounds_succ]
  go_wp2_with fail
  rw [rounds_succ]
  go_wp2_with fail
  rw [rounds_succ]
  go_wp2_with fail
  rw [rounds_succ]
  go_wp2_with fail
  rw [rounds_succ]
  go_wp2_with fail
  rw [rounds_succ]
  go_wp2_with fail
  go_ret
  refine ⟨ret_intK HK.out, ?_⟩
  repeat (refine belowA ?_ _)
  exact Below.refl _ _

def headB (a b : Nat) : Bool := decide (128 ≤ a ∧ a < 192 ∧ 192 ≤ b ∧ b < 224)
set_option maxHeartbeats 1600000 in
theorem isHead_any (a b : Nat) (w : World) : Calls Tryd.prog 30 #[.int .u8 (a : Int), .int .u8 (b : Int)] w fun e w' => e = .returned (.bool (headB a b)) ∧ w = w' := by
  have HK : Hid (∀ q : Bool, (q = true ↔ (128 ≤ a ∧ a < 192 ∧ 192 ≤ b ∧ b < 224)) → q = headB a b) := Lib.hid (fun q hq => by unfold headB; rw [Bool.eq_iff_iff, hq]; simp)
  by_cases h1 : (128 : Int) ≤ (a : Int)
  · by_cases h2 : (a : Int) ≤ 191
    · by_cases h3 : (192 : Int) ≤ (b : Int)
      · by_cases h4 : (b : Int) ≤ 223
        · have HR := Lib.hid (HK.out true (by simp; omega))
          go_enter Tryd.func30, Tryd.ntmps30
          go_wp2
          go_ret
          exact ⟨ret_boolR HR.out, rfl⟩
        · have HR := Lib.hid (HK.out false (by simp; omega))
          go_enter Tryd.func30, Tryd.ntmps30
          go_wp2
          go_ret
          exact ⟨ret_boolR HR.out, rfl⟩
      · have HR := Lib.hid (HK.out false (by simp; omega))
        go_enter Tryd.func30, Tryd.ntmps30
        go_wp2
        go_ret
        exact ⟨ret_boolR HR.out, rfl⟩
    · have HR := Lib.hid (HK.out false (by simp; omega))
      go_enter Tryd.func30, Tryd.ntmps30
      go_wp2
      go_ret
      exact ⟨ret_boolR HR.out, rfl⟩
  · have HR := Lib.hid (HK.out false (by simp; omega))
    go_enter Tryd.func30, Tryd.ntmps30
    go_wp2
    go_ret
    exact ⟨ret_boolR HR.out, rfl⟩

/-- How much padding a body ends with; 0 if it may not be. -/
def padOf (s : List UInt8) : Nat := if s = [] then 0 else if (s.getLastD 0).toNat % 4 ≠ 0 ∨ s.length < (s.getLastD 0).toNat then 0 else (s.getLastD 0).toNat
set_option maxHeartbeats 1600000 in
theorem paddingOf_any (A : Option Addr) (c n : Nat) (s : List UInt8) (w : World) (h : Row w w.heap.size 1 A n (u8s s)) (hn : s.length = n) (hl : n ≤ 65536) :
    Calls Tryd.prog 41 #[.slice A n c] w fun e w' => e = .returned (.int .i64 (padOf s : Int)) ∧ w = w' := by
  by_cases h0 : n = 0
  · subst h0
    have : s = [] := List.eq_nil_of_length_eq_zero hn
    have HR : Hid ((0 : Int) = (padOf s : Int)) := Lib.hid (by rw [this]; rfl)
    clear h hn this
    go_enter Tryd.func41, Tryd.ntmps41
    go_wp2
    go_ret
    exact ⟨ret_intK HR.out, rfl⟩
  · obtain ⟨p, rfl⟩ : ∃ p, n = p + 1 := ⟨n - 1, by omega⟩
    obtain ⟨g, o, hA, hg, hcs⟩ := h.2 (by omega)
    subst hA
    obtain ⟨u, hu⟩ : ∃ u, s[p]? = some u := ⟨s[p]'(by omega), by simp⟩
    have hcell : w.cell? ⟨g, o + p, none⟩ = some (.int .u8 (u.toNat : Int)) := hcs p _ (by simp [u8s, hu])
    have hlast : s.getLastD 0 = u := by
      rw [List.getLastD_eq_getLast?, List.getLast?_eq_getElem?, hn, Nat.add_sub_cancel, hu]; rfl
    have hne : s ≠ [] := by intro e; rw [e] at hn; simp at hn
    have HP : Hid (padOf s = if u.toNat % 4 ≠ 0 ∨ p + 1 < u.toNat then 0 else u.toNat) := Lib.hid (by unfold padOf; rw [if_neg hne, hlast, hn])
    have hub := u.toNat_lt
    generalize u.toNat = v at hcell HP hub
    have hi : ((p + 1 : Nat) : Int) - 1 = (p : Int) := by omega
    have hpp : ¬ ((p + 1 : Nat) : Int) = 0 := by omega
    clear hcs hu hlast hne hn h h0
    by_cases h1 : (v : Int) % 4 = 0
    · by_cases h2 : ((p + 1 : Nat) : Int) < (v : Int)
      · have HR : Hid ((0 : Int) = (padOf s : Int)) := Lib.hid (by rw [HP.out, if_pos (by omega)]; rfl)
        clear HP
        go_enter Tryd.func41, Tryd.ntmps41
        go_wp2
        go_ret
        exact ⟨ret_intK HR.out, rfl⟩
      · have HR : Hid ((v : Int) = (padOf s : Int)) := Lib.hid (by rw [HP.out, if_neg (by omega)])
        clear HP
        go_enter Tryd.func41, Tryd.ntmps41
        go_wp2
        go_ret
        exact ⟨ret_intK HR.out, rfl⟩
    · have HR : Hid ((0 : Int) = (padOf s : Int)) := Lib.hid (by rw [HP.out, if_pos (by omega)]; rfl)
      clear HP
      go_enter Tryd.func41, Tryd.ntmps41
      go_wp2
      go_ret
      exact ⟨ret_intK HR.out, rfl⟩
end Go.Proofs.YtcjmiidnhbmclaaDoor
