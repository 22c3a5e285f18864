/-
  Layer 17's law: awake.
-/
import Derived.Test.YtgjhcnpegaemoaaTbP
import Derived.Deep.CutBlock
import Derived.Deep.DeepCutAuto
import Derived.Deep.QuietTactic
import Derived.Deep.RegionHeld3
import Derived.RegionTactic
import Derived.BigQuiet
namespace Go.Proofs.Ytgjhcnpegaemoaa
open Go.RowKit
set_option linter.unusedSimpArgs false
set_option linter.unusedVariables false
set_option maxRecDepth 100000
set_option maxHeartbeats 3200000 in
theorem awake17 (w : World) : Calls Try.prog 7 #[] w fun e w' => e = .returned (.bool true) ∧ Below w.heap.size w w' := by
  have HMay : May [⟨5, 1, 0, 0, 0⟩] [⟨2147483648, 0, 0, 9, 1, 0, 0, 0, 0, false⟩, ⟨2147483649, 1, 0, 4, 1, 0, 0, 0, 0, false⟩] := by decide
  have CM := Lib.hid (show Calls Try.prog 8 #[.int .u64 3, .slice (some ⟨w.heap.size, 0, none⟩) 1 1, .slice (some ⟨w.heap.size + 1, 0, none⟩) 2 2] ((w.alloc (.cells #[.int .u32 5, .int .i64 1, .int .i64 0, .int .i64 0, .int .i64 0] 37)).alloc (.cells #[.int .u32 2147483648, .int .i64 0, .int .u32 0, .int .i64 9, .int .i64 1, .int .i64 0, .int .i64 0, .int .i64 0, .int .i64 0, .bool false, .int .u32 2147483649, .int .i64 1, .int .u32 0, .int .i64 4, .int .i64 1, .int .i64 0, .int .i64 0, .int .i64 0, .int .i64 0, .bool false] 41)) (TMade 3 [⟨5, 1, 0, 0, 0⟩] [⟨2147483648, 0, 0, 9, 1, 0, 0, 0, 0, false⟩, ⟨2147483649, 1, 0, 4, 1, 0, 0, 0, 0, false⟩] ((w.alloc (.cells #[.int .u32 5, .int .i64 1, .int .i64 0, .int .i64 0, .int .i64 0] 37)).alloc (.cells #[.int .u32 2147483648, .int .i64 0, .int .u32 0, .int .i64 9, .int .i64 1, .int .i64 0, .int .i64 0, .int .i64 0, .int .i64 0, .bool false, .int .u32 2147483649, .int .i64 1, .int .u32 0, .int .i64 4, .int .i64 1, .int .i64 0, .int .i64 0, .int .i64 0, .int .i64 0, .bool false] 41))) from tmake_any 3 (some ⟨w.heap.size, 0, none⟩) 1 [⟨5, 1, 0, 0, 0⟩] (some ⟨w.heap.size + 1, 0, none⟩) 2 [⟨2147483648, 0, 0, 9, 1, 0, 0, 0, 0, false⟩, ⟨2147483649, 1, 0, 4, 1, 0, 0, 0, 0, false⟩] _ ((Row.fresh w 37 #[.int .u32 5, .int .i64 1, .int .i64 0, .int .i64 0, .int .i64 0] 5 1 _ rfl rfl).alloc (Nat.le_refl _) _ |>.more (by simp)) (Row.fresh2 w (.cells #[.int .u32 5, .int .i64 1, .int .i64 0, .int .i64 0, .int .i64 0] 37) 41 #[.int .u32 2147483648, .int .i64 0, .int .u32 0, .int .i64 9, .int .i64 1, .int .i64 0, .int .i64 0, .int .i64 0, .int .i64 0, .bool false, .int .u32 2147483649, .int .i64 1, .int .u32 0, .int .i64 4, .int .i64 1, .int .i64 0, .int .i64 0, .int .i64 0, .int .i64 0, .bool false] 10 2 _ rfl rfl) (by decide) (by decide) (by intro x hx; simp at hx; subst hx; exact ⟨by decide, by decide⟩) (by intro x hx; simp at hx; rcases hx with rfl | rfl <;> exact ⟨by decide, by decide, by decide⟩))
  have CD := Lib.hid (fun (g : Nat) (S : Nat → Prop) (w : World) (h : TAt w g S 3 [⟨5, 1, 0, 0, 0⟩] [⟨2147483648, 0, 0, 9, 1, 0, 0, 0, 0, false⟩, ⟨2147483649, 1, 0, 4, 1, 0, 0, 0, 0, false⟩]) => (show Calls Try.prog 18 #[.pointer (some ⟨g, 0, none⟩), .int .i64 1] w (NewRow 41 10 2 [.int .u32 2147483649, .int .i64 1, .int .u32 0, .int .i64 4, .int .i64 1, .int .i64 0, .int .i64 0, .int .i64 0, .int .i64 0, .bool false, .int .u32 2147483648, .int .i64 0, .int .u32 0, .int .i64 9, .int .i64 1, .int .i64 0, .int .i64 0, .int .i64 0, .int .i64 0, .bool false] w) from tdowns_any g S 3 [⟨5, 1, 0, 0, 0⟩] [⟨2147483648, 0, 0, 9, 1, 0, 0, 0, 0, false⟩, ⟨2147483649, 1, 0, 4, 1, 0, 0, 0, 0, false⟩] w 1 (by unfold I64; decide) h))
  have CR := Lib.hid (fun (g : Nat) (S : Nat → Prop) (w : World) (h : TAt w g S 3 [⟨5, 1, 0, 0, 0⟩] [⟨2147483648, 0, 0, 9, 1, 0, 0, 0, 0, false⟩, ⟨2147483649, 1, 0, 4, 1, 0, 0, 0, 0, false⟩]) => (show Calls Try.prog 12 #[.pointer (some ⟨g, 0, none⟩), .int .u32 5] w (fun e w' => e = .returned (.tuple #[.agg #[.int .u32 5, .int .i64 1, .int .i64 0, .int .i64 0, .int .i64 0], .bool true]) ∧ Below w.heap.size w w') from troute_any g S 3 [⟨5, 1, 0, 0, 0⟩] [⟨2147483648, 0, 0, 9, 1, 0, 0, 0, 0, false⟩, ⟨2147483649, 1, 0, 4, 1, 0, 0, 0, 0, false⟩] w 5 (by decide) h))
  have CS := Lib.hid (fun (g : Nat) (S : Nat → Prop) (w : World) (h : TAt w g S 3 [⟨5, 1, 0, 0, 0⟩] [⟨2147483648, 0, 0, 9, 1, 0, 0, 0, 0, false⟩, ⟨2147483649, 1, 0, 4, 1, 0, 0, 0, 0, false⟩]) => (show Calls Try.prog 16 #[.pointer (some ⟨g, 0, none⟩), .int .i64 1, .int .i64 0] w (fun e w' => e = .returned (.tuple #[.int .u32 5, .bool true]) ∧ Below w.heap.size w w') from tsource_any g S 3 [⟨5, 1, 0, 0, 0⟩] [⟨2147483648, 0, 0, 9, 1, 0, 0, 0, 0, false⟩, ⟨2147483649, 1, 0, 4, 1, 0, 0, 0, 0, false⟩] w 1 0 (by unfold I64; decide) (by unfold I64; decide) h))
  have CO := Lib.hid (fun (g : Nat) (S : Nat → Prop) (w : World) (h : TAt w g S 3 [⟨5, 1, 0, 0, 0⟩] [⟨2147483648, 0, 0, 9, 1, 0, 0, 0, 0, false⟩, ⟨2147483649, 1, 0, 4, 1, 0, 0, 0, 0, false⟩]) => (show Calls Try.prog 14 #[.pointer (some ⟨g, 0, none⟩), .int .u32 5] w (fun e w' => e = .returned (.tuple #[.agg #[.int .u32 0, .int .i64 0, .int .u32 0, .int .i64 0, .int .i64 0, .int .i64 0, .int .i64 0, .int .i64 0, .int .i64 0, .bool false], .bool false]) ∧ Below w.heap.size w w') from town_any g S 3 [⟨5, 1, 0, 0, 0⟩] [⟨2147483648, 0, 0, 9, 1, 0, 0, 0, 0, false⟩, ⟨2147483649, 1, 0, 4, 1, 0, 0, 0, 0, false⟩] w 5 (by decide) h))
  have CE := Lib.hid (fun (g : Nat) (S : Nat → Prop) (w : World) (h : TAt w g S 3 [⟨5, 1, 0, 0, 0⟩] [⟨2147483648, 0, 0, 9, 1, 0, 0, 0, 0, false⟩, ⟨2147483649, 1, 0, 4, 1, 0, 0, 0, 0, false⟩]) => (show Calls Try.prog 21 #[.pointer (some ⟨g, 0, none⟩)] w (fun e w' => e = .returned (.int .u64 3) ∧ Below w.heap.size w w') from tepoch_any g S 3 [⟨5, 1, 0, 0, 0⟩] [⟨2147483648, 0, 0, 9, 1, 0, 0, 0, 0, false⟩, ⟨2147483649, 1, 0, 4, 1, 0, 0, 0, 0, false⟩] w h))
  have CL := Lib.hid (fun (g : Nat) (S : Nat → Prop) (w : World) (h : TAt w g S 3 [⟨5, 1, 0, 0, 0⟩] [⟨2147483648, 0, 0, 9, 1, 0, 0, 0, 0, false⟩, ⟨2147483649, 1, 0, 4, 1, 0, 0, 0, 0, false⟩]) => (show Calls Try.prog 22 #[.pointer (some ⟨g, 0, none⟩)] w (fun e w' => e = .returned (.int .i64 2) ∧ Below w.heap.size w w') from tlen_any g S 3 [⟨5, 1, 0, 0, 0⟩] [⟨2147483648, 0, 0, 9, 1, 0, 0, 0, 0, false⟩, ⟨2147483649, 1, 0, 4, 1, 0, 0, 0, 0, false⟩] w h))
  have hba := ((Below.refl w.heap.size w).alloc (Nat.le_refl _) (.cells #[.int .u32 5, .int .i64 1, .int .i64 0, .int .i64 0, .int .i64 0] 37)).alloc (by simp) (.cells #[.int .u32 2147483648, .int .i64 0, .int .u32 0, .int .i64 9, .int .i64 1, .int .i64 0, .int .i64 0, .int .i64 0, .int .i64 0, .bool false, .int .u32 2147483649, .int .i64 1, .int .u32 0, .int .i64 4, .int .i64 1, .int .i64 0, .int .i64 0, .int .i64 0, .int .i64 0, .bool false] 41)
  have HBA := Lib.hid hba
  have HM := Lib.hid HMay
  clear hba HMay
  go_enter Try.func7, Try.ntmps7
  go_wp2_with fail
  refine CM.out.mono ?_
  rintro e w1 (⟨_, g, S, rfl, T1, m1, b1⟩ | ⟨h, _⟩)
  rotate_left 1
  · exact absurd HM.out h
  have HT1 := Lib.hid T1
  have HB1 := Lib.hid (HBA.out.trans (b1.mono HBA.out.size))
  clear T1 m1 b1 CM HM HBA
  go_wp2_with fail
  refine (CD.out g S _ HT1.out).mono ?_
  rintro e w2 ⟨A, c, rfl, o2, b2⟩
  have HT2 := Lib.hid (HT1.out.keep b2.size fun k hk => b2.block k (HT1.out.lt k hk))
  have HB2 := Lib.hid (bnext HB1.out b2)
  have HO := Lib.hid (Row.of_own o2)
  clear o2 b2 HT1 HB1 CD
  go_wp2_with fail
  refine (CR.out g S _ HT2.out).mono ?_
  rintro e w3 ⟨rfl, b3⟩
  have HT3 := Lib.hid (HT2.out.keep b3.size fun k hk => b3.block k (HT2.out.lt k hk))
  have HB3 := Lib.hid (bnext HB2.out b3)
  have HO3 := Lib.hid ((HO.out.below b3 (Nat.le_refl _)).more b3.size)
  clear b3 HT2 HB2 CR HO
  have b4 := ((Below.refl w3.heap.size w3).alloc (Nat.le_refl _) (.cells #[.int .u32 5, .int .i64 1, .int .i64 0, .int .i64 0, .int .i64 0] 37))
  have HT4 := Lib.hid (HT3.out.keep b4.size fun k hk => b4.block k (HT3.out.lt k hk))
  have HB4 := Lib.hid (bnext HB3.out b4)
  have HO4 := Lib.hid ((HO3.out.below b4 (Nat.le_refl _)).more b4.size)
  have HW4 := Lib.hid (Whole.new w3 37 #[.int .u32 5, .int .i64 1, .int .i64 0, .int .i64 0, .int .i64 0])
  clear b4 HT3 HB3 HO3
  go_wp2_with fail
  refine (CS.out g S _ HT4.out).mono ?_
  rintro e w5 ⟨rfl, b5⟩
  have HT5 := Lib.hid (HT4.out.keep b5.size fun k hk => b5.block k (HT4.out.lt k hk))
  have HB5 := Lib.hid (bnext HB4.out b5)
  have HO5 := Lib.hid ((HO4.out.below b5 (Nat.le_refl _)).more b5.size)
  have HW5 := Lib.hid (HW4.out.below b5 HW4.out.lt)
  clear b5 HT4 HB4 HO4 HW4 CS
  go_wp2_with fail
  refine (CO.out g S _ HT5.out).mono ?_
  rintro e w6 ⟨rfl, b6⟩
  have HT6 := Lib.hid (HT5.out.keep b6.size fun k hk => b6.block k (HT5.out.lt k hk))
  have HB6 := Lib.hid (bnext HB5.out b6)
  have HO6 := Lib.hid ((HO5.out.below b6 (Nat.le_refl _)).more b6.size)
  have HW6 := Lib.hid (HW5.out.below b6 HW5.out.lt)
  clear b6 HT5 HB5 HO5 HW5 CO
  have b7 := ((Below.refl w6.heap.size w6).alloc (Nat.le_refl _) (.cells #[.int .u32 0, .int .i64 0, .int .u32 0, .int .i64 0, .int .i64 0, .int .i64 0, .int .i64 0, .int .i64 0, .int .i64 0, .bool false] 41))
  have HT7 := Lib.hid (HT6.out.keep b7.size fun k hk => b7.block k (HT6.out.lt k hk))
  have HB7 := Lib.hid (bnext HB6.out b7)
  have HO7 := Lib.hid ((HO6.out.below b7 (Nat.le_refl _)).more b7.size)
  have HW7 := Lib.hid (HW6.out.below b7 HW6.out.lt)
  clear b7 HT6 HB6 HO6 HW6
  go_wp2_with fail
  refine (CE.out g S _ HT7.out).mono ?_
  rintro e w8 ⟨rfl, b8⟩
  have HT8 := Lib.hid (HT7.out.keep b8.size fun k hk => b8.block k (HT7.out.lt k hk))
  have HB8 := Lib.hid (bnext HB7.out b8)
  have O8 := ((HO7.out.below b8 (Nat.le_refl _)).more b8.size)
  have W8 := (HW7.out.below b8 HW7.out.lt)
  clear b8 HT7 HB7 HO7 HW7 CE
  obtain ⟨ga, oa, rfl, la, ca⟩ := O8.2 (by decide)
  have c3 := ca 3 _ rfl
  have c13 := ca 13 _ rfl
  have x1 := W8.cell 1
  clear ca O8 W8
  go_wp2_with fail
  refine (CL.out g S _ HT8.out).mono ?_
  rintro e w9 ⟨rfl, b9⟩
  have HB9 := Lib.hid (bnext HB8.out b9)
  clear b9 HT8 HB8 CL
  go_wp2_with fail
  go_ret
  exact ⟨rfl, HB9.out⟩
end Go.Proofs.Ytgjhcnpegaemoaa
