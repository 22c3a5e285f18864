/-
  Contracts of the document's answers of layer 16 (louverref16): Oldest, Retire, Sweep.
-/
import Derived.Test.YtgacejencnkpmaaPnD
namespace Go.Proofs.Ytgacejencnkpmaa
open Go.RowKit
set_option linter.unusedSimpArgs false
set_option linter.unusedVariables false
set_option maxRecDepth 100000

theorem fold_take {l : List Wk} {k : Nat} {y : Wk} (h : l[k]? = some y) (a : Int) : (l.take (k + 1)).foldl lowK a = lowK ((l.take k).foldl lowK a) y := by
  have e : l.take (k + 1) = l.take k ++ [y] := by rw [List.take_add_one, h]; rfl
  rw [e, List.foldl_append]
  rfl
theorem oldS_fold {l : List Wk} {y : Wk} (h : l[0]? = some y) : oldS l = l.foldl lowK y.at' := by
  cases l with
  | nil => simp at h
  | cons a m => simp at h; subst h; rfl

set_option maxHeartbeats 3200000 in
theorem rold_any (A : Option Addr) (c : Nat) (l : List Wk) (Bx : Option Addr) (bn bc : Nat) (w : World) (hr : Row w w.heap.size 3 A l.length (wdC l)) (hl : l.length ≤ 64) (h1 : 1 ≤ l.length) :
    Calls Try.prog 21 #[.agg #[.slice A l.length c, .slice Bx bn bc]] w fun e w' => e = .returned (.int .u64 (oldS l)) ∧ Below w.heap.size w w' := by
  obtain ⟨w1, hw1⟩ : ∃ z, z = w.alloc (.cells #[.slice A l.length c, .slice Bx bn bc] 29) := ⟨_, rfl⟩
  have hb0 : Below w.heap.size w w1 := by rw [hw1]; exact (Below.refl w.heap.size w).alloc (Nat.le_refl _) _
  have hz : w1.heap.size = w.heap.size + 1 := by rw [hw1]; simp
  have WP := Lib.hid (show Whole w1 w.heap.size 29 #[.slice A l.length c, .slice Bx bn bc] by rw [hw1]; exact Whole.new w _ _)
  have HB0 := Lib.hid hb0
  obtain ⟨y0, hy0⟩ : ∃ y, l[0]? = some y := ⟨_, List.getElem?_eq_getElem (by omega)⟩
  have HO := Lib.hid (oldS_fold hy0)
  have HR0 := hr.below hb0 (Nat.le_refl _)
  obtain ⟨n, hn⟩ : ∃ n, l.length = n := ⟨_, rfl⟩
  have HN := Lib.hid hn
  rw [hn] at WP hw1 HR0 hl h1 ⊢
  obtain ⟨g, o, rfl, hg, hc⟩ := HR0.2 (by omega)
  have HC := Lib.hid hc
  obtain ⟨e0, _, _⟩ := wdC_get hy0
  have c0 := hc _ _ e0
  rw [Nat.zero_mul, Nat.add_zero] at c0
  obtain ⟨a0, ha0⟩ : ∃ z, y0.at' = z := ⟨_, rfl⟩
  rw [ha0] at c0 HO
  have p0 := WP.out.cell 0
  have p1 := WP.out.cell 1
  have lP := WP.out.lt
  have lg : g < w1.heap.size := by omega
  have n0 : (0 : Int) < (n : Int) := by omega
  have n0' : 0 < n := by omega
  clear hr hb0 hn HR0 hc e0 hy0 ha0
  go_enter Try.func21, Try.ntmps21
  go_upto_region 1 with fail
  rw [← hw1]
  clear hw1
  go_wp2_with fail
  go_loopw [3, 4] (fun x i wr => ∃ k : Nat, k ≤ n ∧ i = .int .i64 (k : Int) ∧ wr = w1 ∧ x = .int .u64 ((l.take k).foldl lowK a0)) (fun _ i _ => n - (intOf i).toNat)
  case atStart => exact ⟨0, Nat.zero_le _, rfl, rfl, rfl⟩
  case round =>
    obtain ⟨k, hk, rfl, rfl, rfl⟩ := hrel
    clear c0
    by_cases hlt : k < n
    · obtain ⟨y, hy⟩ : ∃ y, l[k]? = some y := ⟨_, List.getElem?_eq_getElem (by rw [HN.out]; exact hlt)⟩
      have HX := Lib.hid (fold_take hy a0)
      obtain ⟨e0, e1, e2⟩ := wdC_get hy
      have c0 := HC.out _ _ e0
      have c1 := HC.out _ _ e1
      have c2 := HC.out _ _ e2
      rw [← Nat.add_assoc] at c1 c2
      have i0 : (0 : Int) ≤ (k : Int) := by omega
      have i1 : (k : Int) < (n : Int) := by omega
      obtain ⟨x, hx⟩ : ∃ z, (l.take k).foldl lowK a0 = z := ⟨_, rfl⟩
      rw [hx] at HX ⊢
      obtain ⟨ya, ys⟩ := y
      clear hy e0 e1 e2 hx
      cases ys with
      | none =>
        dsimp only [Option.getD, Option.isSome] at c0 c1 c2
        by_cases h1 : ya < x
        · have HX2 := Lib.hid (show (l.take (k + 1)).foldl lowK a0 = ya by rw [HX.out]; unfold lowK; dsimp only; rw [if_pos h1])
          clear HX
          go_wp2_with fail
          go_roundw
          case rel => exact ⟨k + 1, by omega, by go_num, (by first | exact True.intro | rfl), by rw [HX2.out]⟩
          case measure => simp [intOf]; omega
        · have HX2 := Lib.hid (show (l.take (k + 1)).foldl lowK a0 = x by rw [HX.out]; unfold lowK; dsimp only; rw [if_neg h1])
          clear HX
          go_wp2_with fail
          go_roundw
          case rel => exact ⟨k + 1, by omega, by go_num, (by first | exact True.intro | rfl), by rw [HX2.out]⟩
          case measure => simp [intOf]; omega
      | some s =>
        dsimp only [Option.getD, Option.isSome] at c0 c1 c2
        by_cases h1 : ya < x
        · by_cases h2 : s < ya
          · have HX2 := Lib.hid (show (l.take (k + 1)).foldl lowK a0 = s by rw [HX.out]; unfold lowK; dsimp only; rw [if_pos h1, if_pos h2])
            clear HX
            go_wp2_with fail
            go_roundw
            case rel => exact ⟨k + 1, by omega, by go_num, (by first | exact True.intro | rfl), by rw [HX2.out]⟩
            case measure => simp [intOf]; omega
          · have HX2 := Lib.hid (show (l.take (k + 1)).foldl lowK a0 = ya by rw [HX.out]; unfold lowK; dsimp only; rw [if_pos h1, if_neg h2])
            clear HX
            go_wp2_with fail
            go_roundw
            case rel => exact ⟨k + 1, by omega, by go_num, (by first | exact True.intro | rfl), by rw [HX2.out]⟩
            case measure => simp [intOf]; omega
        · by_cases h2 : s < x
          · have HX2 := Lib.hid (show (l.take (k + 1)).foldl lowK a0 = s by rw [HX.out]; unfold lowK; dsimp only; rw [if_neg h1, if_pos h2])
            clear HX
            go_wp2_with fail
            go_roundw
            case rel => exact ⟨k + 1, by omega, by go_num, (by first | exact True.intro | rfl), by rw [HX2.out]⟩
            case measure => simp [intOf]; omega
          · have HX2 := Lib.hid (show (l.take (k + 1)).foldl lowK a0 = x by rw [HX.out]; unfold lowK; dsimp only; rw [if_neg h1, if_neg h2])
            clear HX
            go_wp2_with fail
            go_roundw
            case rel => exact ⟨k + 1, by omega, by go_num, (by first | exact True.intro | rfl), by rw [HX2.out]⟩
            case measure => simp [intOf]; omega
    · obtain rfl : k = n := by omega
      have HX := Lib.hid (show (l.take k).foldl lowK a0 = oldS l by rw [← HN.out, List.take_length, HO.out])
      rw [HX.out]
      clear HC HO
      go_wp2_with fail
      go_ret
      exact ⟨by first | rfl | rw [HX.out], HB0.out⟩
end Go.Proofs.Ytgacejencnkpmaa
