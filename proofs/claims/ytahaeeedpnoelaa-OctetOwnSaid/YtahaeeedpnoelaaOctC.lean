/-
  The document's example, as the laws of layer 1 run it first.
-/
import Derived.Test.YtahaeeedpnoelaaOctB
namespace Go.Proofs.Ytahaeeedpnoelaa
open Go.RowKit

theorem awake_any (w : World) : Calls Try.prog 10 #[] w fun e w' => e = .returned (.bool true) ∧ Below w.heap.size w w' := by
  go_enter Try.func10, Try.ntmps10
  go_wp2_with fail
  refine (put_any _ 2 2 [(258, 2), (5, 1)] _ ?_ (by omega) (by simp)).mono ?_
  · refine ⟨rfl, fun _ => ⟨w.heap.size, 0, rfl, by simp, ?_⟩⟩
    intro j u hu
    rw [Nat.zero_add]
    match j, hu with
    | 0, hu => simpa [partC] using hu
    | 1, hu => simpa [partC] using hu
    | 2, hu => simpa [partC] using hu
    | 3, hu => simpa [partC] using hu
  rintro e w1 ⟨A, c, rfl, hown1, hb1⟩
  have e1 : putS [(258, 2), (5, 1)] = [1, 2, 5] := by decide
  rw [e1] at hown1 ⊢
  have b1 : Below w.heap.size w w1 := ((Below.refl _ w).alloc (Nat.le_refl _) _).trans (hb1.mono (by simp))
  have r1 := Row.of_own hown1
  have z1 := b1.size
  clear hb1 hown1 e1
  go_wp2_with fail
  refine (new_any A _ c [1, 2, 5] w1 r1 (by simp)).mono ?_
  rintro e w2 ⟨g, rfl, hg, hc2, b2⟩
  have r2 := r1.below b2 (Nat.le_refl _)
  have B2 := b1.trans (b2.mono b1.size)
  clear b1 b2 r1
  go_wp2_with fail
  refine (num_any g _ 0 2 w2 hc2).mono ?_
  rw [show headS [1, 2, 5] 0 2 (sizeB 2) = [1, 2] by decide, show restS [1, 2, 5] 0 2 (sizeB 2) = [5] by decide, show errS [1, 2, 5] 0 2 (sizeB 2) = 0 by decide]
  rintro e w3 ⟨rfl, hc3, g3⟩
  have r3 := r2.grown g3 (by have := hc2.lt; omega) (fun k hk => by injection hk with hk; omega)
  have B3 := B2.grown g3 B2.size (fun k hk => by injection hk with hk; omega)
  have z3 := g3.size
  clear r2 B2 g3 hc2
  go_wp2_with fail
  refine (bytes_any g _ 0 1 w3 hc3 (by simp)).mono ?_
  rw [show headS [5] 0 1 (decide (0 ≤ (1 : Int))) = [5] by decide, show restS [5] 0 1 (decide (0 ≤ (1 : Int))) = [] by decide, show errS [5] 0 1 (decide (0 ≤ (1 : Int))) = 0 by decide]
  rintro e w4 ⟨A4, c4, rfl, hown4, hc4, g4⟩
  have r4 := r3.grown g4 (by have := hc3.lt; omega) (fun k hk => by injection hk with hk; omega)
  have B4 := B3.grown g4 B3.size (fun k hk => by injection hk with hk; omega)
  have z4 := g4.size
  clear r3 B3 g4 hc3 hown4
  go_wp2_with fail
  refine (num_any g _ 0 1 w4 hc4).mono ?_
  rw [show headS [] 0 1 (sizeB 1) = [] by decide, show restS [] 0 1 (sizeB 1) = [] by decide, show errS [] 0 1 (sizeB 1) = 10 by decide]
  rintro e w5 ⟨rfl, hc5, g5⟩
  have r5 := r4.grown g5 (by have := hc4.lt; omega) (fun k hk => by injection hk with hk; omega)
  have B5 := Lib.hid (B4.grown g5 B4.size (fun k hk => by injection hk with hk; omega))
  clear r4 B4 g5 hc4
  have ht : (convert 24 9 (.slice A 3 c)).run Try.prog w5 = .ok (.string { data := #[1, 2, 5] }) w5 := run_text (P := Try.prog) w5 24 5 9 Try.underlying24 Try.underlying5 Try.underlying9 _ _ _ c [1, 2, 5] r5
  rw [show ((be [1, 2] : Nat) : Int) = 258 by decide, show ((be [] : Nat) : Int) = 0 by decide]
  clear r5
  go_wp2_with (go_at_call 19; refine (err_any _ _ _ _ hc5).mono ?_; rintro e w' ⟨rfl, rfl⟩)
  go_ret
  exact ⟨rfl, B5.out⟩
end Go.Proofs.Ytahaeeedpnoelaa
