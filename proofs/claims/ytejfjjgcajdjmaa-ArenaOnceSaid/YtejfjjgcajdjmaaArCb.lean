/-
  Contracts of package arena: New, find.
-/
import Derived.Test.YtejfjjgcajdjmaaArCa
import Derived.Deep.CutBlock
import Derived.Deep.DeepCutAuto
import Derived.Deep.QuietTactic
import Derived.Deep.RegionHeld3
import Derived.RegionTactic
import Derived.Laws.OwnMore
import Derived.BigQuiet
import Derived.IntWalk
namespace Go.Proofs.Ytejfjjgcajdjmaa
open Go.RowKit
set_option linter.unusedSimpArgs false
set_option linter.unusedVariables false
set_option maxRecDepth 100000

theorem info_slI : (Try.prog.info? 66).map (fun i => (i.zero, i.size, i.bytes)) = some (some (.agg #[.int .u32 0, .bool false, (.int .i64 0)]), 3, 16) := by kernel_rfl
theorem make_slI (n : Nat) (h2 : n ≤ 4096) (w : World) : ∃ cs : Array Value, cs = slC (freshA (.int .i64 0) n) ∧ (Instr.makeSlice 60 (.int .i64 n) (.int .i64 n)).run Try.prog w = .ok (.slice (some ⟨w.heap.size, 0, none⟩) n n) (w.alloc (.cells cs 66)) := by
  obtain ⟨i, hi0, hi1, hi2, hi3⟩ := info_parts info_slI
  have h := run_make (P := Try.prog) w 60 66 i (.agg #[.int .u32 0, .bool false, (.int .i64 0)]) Try.underlying60 hi0 hi1 .i64 .i64 n n (by omega) (Int.le_refl _) (by rw [hi3]; omega) (by omega)
  rw [Int.toNat_natCast, hi2] at h
  exact ⟨_, made_sl (.int .i64 0) n, h⟩
set_option maxHeartbeats 1600000 in
theorem anewI_any (n : Nat) (h1 : 1 ≤ n) (h2 : n ≤ 64) (w : World) : Calls Try.prog 8 #[.int .i64 (n : Int)] w (ArMade true zI n w) := by
  obtain ⟨cs, hcs, mk⟩ := make_slI n (by omega) w
  have d1 : ¬ (n : Int) < 1 := by omega
  have d2 : ¬ 64 < (n : Int) := by omega
  have hz : (w.alloc (.cells cs 66)).heap.size = w.heap.size + 1 := by simp
  have HF := Lib.hid (show ∃ g S, (Value.pointer (some ⟨w.heap.size + 1, 0, none⟩)) = (.pointer (some ⟨g, 0, none⟩)) ∧ ArAt true ((w.alloc (.cells cs 66)).alloc (.cells #[.slice (some ⟨w.heap.size, 0, none⟩) n n] 62)) g S (freshA zI n) ∧ (∀ k, S k → w.heap.size ≤ k) ∧ Below w.heap.size w ((w.alloc (.cells cs 66)).alloc (.cells #[.slice (some ⟨w.heap.size, 0, none⟩) n n] 62)) from
    ⟨w.heap.size + 1, fun k => k = w.heap.size + 1 ∨ k = w.heap.size, rfl, ⟨w.heap.size, by omega, fun k => Iff.rfl, by rw [freshA_length]; exact Whole.new2 w _ _ _, by rw [hcs]; exact (Whole.new w _ _).alloc _, by intro y hy; unfold freshA at hy; rw [List.eq_of_mem_replicate hy]; exact ⟨_, rfl⟩⟩, fun k hk => by omega,
      ((Below.refl _ _).alloc (Nat.le_refl _) _).alloc (by simp) _⟩)
  clear hz hcs h1 h2
  go_enter Try.func8, Try.ntmps8
  go_wp2
  go_ret
  obtain ⟨g, S, e, h⟩ := HF.out
  exact ⟨g, S, congrArg Ending.returned e, h⟩
set_option maxHeartbeats 1600000 in
theorem anewI_none (n : Int) (h : n < 1 ∨ 64 < n) (w : World) : Calls Try.prog 8 #[.int .i64 n] w fun e w' => e = .returned (.pointer none) ∧ Below w.heap.size w w' := by
  have hd : n < 1 ∨ (¬ n < 1 ∧ 64 < n) := by omega
  clear h
  have HB := Lib.hid (Below.refl w.heap.size w)
  rcases hd with hd | ⟨hd1, hd⟩
  all_goals
    go_enter Try.func8, Try.ntmps8
    go_wp2
    go_ret
    exact ⟨rfl, HB.out⟩

theorem info_slS : (Try.prog.info? 74).map (fun i => (i.zero, i.size, i.bytes)) = some (some (.agg #[.int .u32 0, .bool false, (.string { data := #[] })]), 3, 24) := by kernel_rfl
theorem make_slS (n : Nat) (h2 : n ≤ 4096) (w : World) : ∃ cs : Array Value, cs = slC (freshA (.string { data := #[] }) n) ∧ (Instr.makeSlice 69 (.int .i64 n) (.int .i64 n)).run Try.prog w = .ok (.slice (some ⟨w.heap.size, 0, none⟩) n n) (w.alloc (.cells cs 74)) := by
  obtain ⟨i, hi0, hi1, hi2, hi3⟩ := info_parts info_slS
  have h := run_make (P := Try.prog) w 69 74 i (.agg #[.int .u32 0, .bool false, (.string { data := #[] })]) Try.underlying69 hi0 hi1 .i64 .i64 n n (by omega) (Int.le_refl _) (by rw [hi3]; omega) (by omega)
  rw [Int.toNat_natCast, hi2] at h
  exact ⟨_, made_sl (.string { data := #[] }) n, h⟩
set_option maxHeartbeats 1600000 in
theorem anewS_any (n : Nat) (h1 : 1 ≤ n) (h2 : n ≤ 64) (w : World) : Calls Try.prog 17 #[.int .i64 (n : Int)] w (ArMade false zS n w) := by
  obtain ⟨cs, hcs, mk⟩ := make_slS n (by omega) w
  have d1 : ¬ (n : Int) < 1 := by omega
  have d2 : ¬ 64 < (n : Int) := by omega
  have hz : (w.alloc (.cells cs 74)).heap.size = w.heap.size + 1 := by simp
  have HF := Lib.hid (show ∃ g S, (Value.pointer (some ⟨w.heap.size + 1, 0, none⟩)) = (.pointer (some ⟨g, 0, none⟩)) ∧ ArAt false ((w.alloc (.cells cs 74)).alloc (.cells #[.slice (some ⟨w.heap.size, 0, none⟩) n n] 71)) g S (freshA zS n) ∧ (∀ k, S k → w.heap.size ≤ k) ∧ Below w.heap.size w ((w.alloc (.cells cs 74)).alloc (.cells #[.slice (some ⟨w.heap.size, 0, none⟩) n n] 71)) from
    ⟨w.heap.size + 1, fun k => k = w.heap.size + 1 ∨ k = w.heap.size, rfl, ⟨w.heap.size, by omega, fun k => Iff.rfl, by rw [freshA_length]; exact Whole.new2 w _ _ _, by rw [hcs]; exact (Whole.new w _ _).alloc _, by intro y hy; unfold freshA at hy; rw [List.eq_of_mem_replicate hy]; exact ⟨_, rfl⟩⟩, fun k hk => by omega,
      ((Below.refl _ _).alloc (Nat.le_refl _) _).alloc (by simp) _⟩)
  clear hz hcs h1 h2
  go_enter Try.func17, Try.ntmps17
  go_wp2
  go_ret
  obtain ⟨g, S, e, h⟩ := HF.out
  exact ⟨g, S, congrArg Ending.returned e, h⟩
set_option maxHeartbeats 1600000 in
theorem anewS_none (n : Int) (h : n < 1 ∨ 64 < n) (w : World) : Calls Try.prog 17 #[.int .i64 n] w fun e w' => e = .returned (.pointer none) ∧ Below w.heap.size w w' := by
  have hd : n < 1 ∨ (¬ n < 1 ∧ 64 < n) := by omega
  clear h
  have HB := Lib.hid (Below.refl w.heap.size w)
  rcases hd with hd | ⟨hd1, hd⟩
  all_goals
    go_enter Try.func17, Try.ntmps17
    go_wp2
    go_ret
    exact ⟨rfl, HB.out⟩

/-- What find tells: the slot, if it is used by that turn. -/
def foundI (l : List Sl) (r : Nat) (s t : Int) : Value := .tuple #[.pointer (if (getA l s t).isSome = true then some ⟨r, s.toNat * 3, none⟩ else none), .int .i64 (if (getA l s t).isSome = true then 0 else 26)]
set_option maxHeartbeats 1600000 in
theorem findI_nil (s t : Int) (w : World) : Calls Try.prog 24 #[.pointer none, .agg #[.int .i64 s, .int .u32 t]] w fun e w' => e = .returned (.tuple #[.pointer none, .int .i64 1]) ∧ Below w.heap.size w w' := by
  have HB := Lib.hid ((Below.refl w.heap.size w).alloc (Nat.le_refl _) (.cells #[.int .i64 s, .int .u32 t] 30))
  go_enter Try.func24, Try.ntmps24
  go_wp2
  go_ret2
  exact ⟨rfl, HB.out⟩
set_option maxHeartbeats 1600000 in
theorem findI_any (l : List Sl) (s t : Int) (g r : Nat) (w : World) (hG : Whole w g 62 #[.slice (some ⟨r, 0, none⟩) l.length l.length]) (hS : Whole w r 66 (slC l)) (hl : l.length ≤ 64) :
    Calls Try.prog 24 #[.pointer (some ⟨g, 0, none⟩), .agg #[.int .i64 s, .int .u32 t]] w fun e w' => e = .returned (foundI l r s t) ∧ Below w.heap.size w w' := by
  have HB := Lib.hid ((Below.refl w.heap.size w).alloc (Nat.le_refl _) (.cells #[.int .i64 s, .int .u32 t] 30))
  have hG1 := hG.alloc (.cells #[.int .i64 s, .int .u32 t] 30)
  have hS1 := hS.alloc (.cells #[.int .i64 s, .int .u32 t] 30)
  have g0 := hG1.cell 0
  have hgl := hG.lt
  have hrl := hS.lt
  have hgn : g ≠ w.heap.size := by omega
  have hrn : r ≠ w.heap.size := by omega
  obtain ⟨n, hn⟩ : ∃ n, l.length = n := ⟨_, rfl⟩
  by_cases h1 : s < 0
  · have HG := Lib.hid (show foundI l r s t = .tuple #[.pointer none, .int .i64 26] by unfold foundI; rw [getA_low h1]; rfl)
    rw [hn] at hl g0
    rw [HG.out]
    have d1 : decide (s < 0) = true := decide_eq_true h1
    clear hG hS hG1 hS1 hn HG
    go_enter Try.func24, Try.ntmps24
    go_wp2_with fail
    go_quiet (fail)
    go_wp2
    go_ret2
    exact ⟨rfl, bdrewN HB.out _⟩
  obtain ⟨k, rfl⟩ : ∃ k : Nat, s = (k : Int) := ⟨s.toNat, by omega⟩
  by_cases h2 : n ≤ k
  · have HG := Lib.hid (show foundI l r k t = .tuple #[.pointer none, .int .i64 26] by unfold foundI; rw [getA_high (by omega)]; rfl)
    rw [hn] at hl g0
    rw [HG.out]
    have d2 : decide ((n : Int) ≤ (k : Int)) = true := decide_eq_true (by omega)
    have d1 : decide ((k : Int) < 0) = false := decide_eq_false h1
    have d2' : decide (n ≤ k) = true := decide_eq_true h2
    clear hG hS hG1 hS1 hn HG h1
    go_enter Try.func24, Try.ntmps24
    go_wp2_with fail
    go_quiet (fail)
    go_wp2
    go_ret2
    exact ⟨rfl, bdrewN HB.out _⟩
  obtain ⟨y, hy⟩ : ∃ y, l[k]? = some y := ⟨_, List.getElem?_eq_getElem (by omega)⟩
  obtain ⟨e0, e1, e2⟩ := slC_get hy
  have c0 := (hS1.cell (k * 3)).trans e0
  have c1 := (hS1.cell (k * 3 + 1)).trans e1
  have i0 : (0 : Int) ≤ (k : Int) := by omega
  have i1 : (k : Int) < (n : Int) := by omega
  rw [hn] at hl g0
  obtain ⟨yx, yt, yu⟩ := y
  dsimp only at c0 c1
  have d1 : decide ((k : Int) < 0) = false := decide_eq_false h1
  have d2 : decide ((n : Int) ≤ (k : Int)) = false := decide_eq_false (by omega)
  have d2' : decide (n ≤ k) = false := decide_eq_false h2
  clear hG hS hG1 hS1 hn e0 e1 e2 h1
  cases yu with
  | false =>
    have HG := Lib.hid (show foundI l r k t = .tuple #[.pointer none, .int .i64 26] by unfold foundI; rw [getA_in hy]; simp)
    rw [HG.out]
    clear HG hy
    go_enter Try.func24, Try.ntmps24
    go_wp2_with fail
    go_quiet (fail)
    go_wp2_with fail
    go_quiet (fail)
    go_wp2_with fail
    go_quiet (fail)
    go_wp2
    go_ret2
    exact ⟨rfl, bdrewN (bdrewN (bdrewN HB.out _) _) _⟩
  | true =>
    by_cases h3 : (yt : Int) = t
    · have HG := Lib.hid (show foundI l r k t = .tuple #[.pointer (some ⟨r, k * 3, none⟩), .int .i64 0] by unfold foundI; rw [getA_in hy]; simp [h3])
      rw [HG.out]
      subst h3
      clear HG hy
      go_enter Try.func24, Try.ntmps24
      go_wp2_with fail
      go_quiet (fail)
      go_wp2_with fail
      go_quiet (fail)
      go_wp2_with fail
      go_quiet (fail)
      go_wp2
      go_ret2
      exact ⟨rfl, bdrewN (bdrewN (bdrewN HB.out _) _) _⟩
    · have HG := Lib.hid (show foundI l r k t = .tuple #[.pointer none, .int .i64 26] by unfold foundI; rw [getA_in hy]; simp [h3])
      rw [HG.out]
      clear HG hy
      have d3 : ((yt : Int) != t) = true := by simp [h3]
      go_enter Try.func24, Try.ntmps24
      go_wp2_with fail
      go_quiet (fail)
      go_wp2_with fail
      go_quiet (fail)
      go_wp2_with fail
      go_quiet (fail)
      go_wp2
      go_ret2
      exact ⟨rfl, bdrewN (bdrewN (bdrewN HB.out _) _) _⟩

/-- What find tells: the slot, if it is used by that turn. -/
def foundS (l : List Sl) (r : Nat) (s t : Int) : Value := .tuple #[.pointer (if (getA l s t).isSome = true then some ⟨r, s.toNat * 3, none⟩ else none), .int .i64 (if (getA l s t).isSome = true then 0 else 26)]
set_option maxHeartbeats 1600000 in
theorem findS_nil (s t : Int) (w : World) : Calls Try.prog 25 #[.pointer none, .agg #[.int .i64 s, .int .u32 t]] w fun e w' => e = .returned (.tuple #[.pointer none, .int .i64 1]) ∧ Below w.heap.size w w' := by
  have HB := Lib.hid ((Below.refl w.heap.size w).alloc (Nat.le_refl _) (.cells #[.int .i64 s, .int .u32 t] 30))
  go_enter Try.func25, Try.ntmps25
  go_wp2
  go_ret2
  exact ⟨rfl, HB.out⟩
set_option maxHeartbeats 1600000 in
theorem findS_any (l : List Sl) (s t : Int) (g r : Nat) (w : World) (hG : Whole w g 71 #[.slice (some ⟨r, 0, none⟩) l.length l.length]) (hS : Whole w r 74 (slC l)) (hl : l.length ≤ 64) :
    Calls Try.prog 25 #[.pointer (some ⟨g, 0, none⟩), .agg #[.int .i64 s, .int .u32 t]] w fun e w' => e = .returned (foundS l r s t) ∧ Below w.heap.size w w' := by
  have HB := Lib.hid ((Below.refl w.heap.size w).alloc (Nat.le_refl _) (.cells #[.int .i64 s, .int .u32 t] 30))
  have hG1 := hG.alloc (.cells #[.int .i64 s, .int .u32 t] 30)
  have hS1 := hS.alloc (.cells #[.int .i64 s, .int .u32 t] 30)
  have g0 := hG1.cell 0
  have hgl := hG.lt
  have hrl := hS.lt
  have hgn : g ≠ w.heap.size := by omega
  have hrn : r ≠ w.heap.size := by omega
  obtain ⟨n, hn⟩ : ∃ n, l.length = n := ⟨_, rfl⟩
  by_cases h1 : s < 0
  · have HG := Lib.hid (show foundS l r s t = .tuple #[.pointer none, .int .i64 26] by unfold foundS; rw [getA_low h1]; rfl)
    rw [hn] at hl g0
    rw [HG.out]
    have d1 : decide (s < 0) = true := decide_eq_true h1
    clear hG hS hG1 hS1 hn HG
    go_enter Try.func25, Try.ntmps25
    go_wp2_with fail
    go_quiet (fail)
    go_wp2
    go_ret2
    exact ⟨rfl, bdrewN HB.out _⟩
  obtain ⟨k, rfl⟩ : ∃ k : Nat, s = (k : Int) := ⟨s.toNat, by omega⟩
  by_cases h2 : n ≤ k
  · have HG := Lib.hid (show foundS l r k t = .tuple #[.pointer none, .int .i64 26] by unfold foundS; rw [getA_high (by omega)]; rfl)
    rw [hn] at hl g0
    rw [HG.out]
    have d2 : decide ((n : Int) ≤ (k : Int)) = true := decide_eq_true (by omega)
    have d1 : decide ((k : Int) < 0) = false := decide_eq_false h1
    have d2' : decide (n ≤ k) = true := decide_eq_true h2
    clear hG hS hG1 hS1 hn HG h1
    go_enter Try.func25, Try.ntmps25
    go_wp2_with fail
    go_quiet (fail)
    go_wp2
    go_ret2
    exact ⟨rfl, bdrewN HB.out _⟩
  obtain ⟨y, hy⟩ : ∃ y, l[k]? = some y := ⟨_, List.getElem?_eq_getElem (by omega)⟩
  obtain ⟨e0, e1, e2⟩ := slC_get hy
  have c0 := (hS1.cell (k * 3)).trans e0
  have c1 := (hS1.cell (k * 3 + 1)).trans e1
  have i0 : (0 : Int) ≤ (k : Int) := by omega
  have i1 : (k : Int) < (n : Int) := by omega
  rw [hn] at hl g0
  obtain ⟨yx, yt, yu⟩ := y
  dsimp only at c0 c1
  have d1 : decide ((k : Int) < 0) = false := decide_eq_false h1
  have d2 : decide ((n : Int) ≤ (k : Int)) = false := decide_eq_false (by omega)
  have d2' : decide (n ≤ k) = false := decide_eq_false h2
  clear hG hS hG1 hS1 hn e0 e1 e2 h1
  cases yu with
  | false =>
    have HG := Lib.hid (show foundS l r k t = .tuple #[.pointer none, .int .i64 26] by unfold foundS; rw [getA_in hy]; simp)
    rw [HG.out]
    clear HG hy
    go_enter Try.func25, Try.ntmps25
    go_wp2_with fail
    go_quiet (fail)
    go_wp2_with fail
    go_quiet (fail)
    go_wp2_with fail
    go_quiet (fail)
    go_wp2
    go_ret2
    exact ⟨rfl, bdrewN (bdrewN (bdrewN HB.out _) _) _⟩
  | true =>
    by_cases h3 : (yt : Int) = t
    · have HG := Lib.hid (show foundS l r k t = .tuple #[.pointer (some ⟨r, k * 3, none⟩), .int .i64 0] by unfold foundS; rw [getA_in hy]; simp [h3])
      rw [HG.out]
      subst h3
      clear HG hy
      go_enter Try.func25, Try.ntmps25
      go_wp2_with fail
      go_quiet (fail)
      go_wp2_with fail
      go_quiet (fail)
      go_wp2_with fail
      go_quiet (fail)
      go_wp2
      go_ret2
      exact ⟨rfl, bdrewN (bdrewN (bdrewN HB.out _) _) _⟩
    · have HG := Lib.hid (show foundS l r k t = .tuple #[.pointer none, .int .i64 26] by unfold foundS; rw [getA_in hy]; simp [h3])
      rw [HG.out]
      clear HG hy
      have d3 : ((yt : Int) != t) = true := by simp [h3]
      go_enter Try.func25, Try.ntmps25
      go_wp2_with fail
      go_quiet (fail)
      go_wp2_with fail
      go_quiet (fail)
      go_wp2_with fail
      go_quiet (fail)
      go_wp2
      go_ret2
      exact ⟨rfl, bdrewN (bdrewN (bdrewN HB.out _) _) _⟩

end Go.Proofs.Ytejfjjgcajdjmaa
