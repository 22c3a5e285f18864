/-
  Layer 15's law: awake.
-/
import Derived.Test.YtejfjjgcajdjmaaArC
import Derived.Test.YtejfjjgcajdjmaaArE
import Derived.Deep.CutBlock
import Derived.Deep.DeepCutAuto
import Derived.Deep.QuietTactic
import Derived.BigQuiet
namespace Go.Proofs.Ytejfjjgcajdjmaa
open Go.RowKit
set_option linter.unusedSimpArgs false
set_option linter.unusedVariables false
set_option maxRecDepth 100000

set_option maxHeartbeats 3200000 in
theorem awake_any (w : World) : Calls Try.prog 7 #[] w fun e w' => e = .returned (.bool true) ∧ Below w.heap.size w w' := by
  have N0 := fun w => (show Calls Try.prog 8 #[.int .i64 1] w (ArMade true zI 1 w) from anewI_any 1 (by decide) (by decide) w)
  have T5 := fun (g : Nat) (S : Nat → Prop) (w : World) (h : ArAt true w g S [⟨.int .i64 0, 0, false⟩]) => (show Calls Try.prog 10 #[.pointer (some ⟨g, 0, none⟩), .int .i64 5] w (ArDone true g S (.tuple #[.agg #[.int .i64 0, .int .u32 1], .int .i64 0]) [⟨.int .i64 5, 1, true⟩] w) from atakeI_any [⟨.int .i64 0, 0, false⟩] 5 g S w h (by intro y hy; simp at hy; subst hy; decide) (by decide))
  have T6 := fun (g : Nat) (S : Nat → Prop) (w : World) (h : ArAt true w g S [⟨.int .i64 5, 1, true⟩]) => (show Calls Try.prog 10 #[.pointer (some ⟨g, 0, none⟩), .int .i64 6] w (ArDone true g S (.tuple #[.agg #[.int .i64 0, .int .u32 0], .int .i64 20]) [⟨.int .i64 5, 1, true⟩] w) from atakeI_any [⟨.int .i64 5, 1, true⟩] 6 g S w h (by intro y hy; simp at hy; subst hy; decide) (by decide))
  have T7 := fun (g : Nat) (S : Nat → Prop) (w : World) (h : ArAt true w g S [⟨.int .i64 0, 1, false⟩]) => (show Calls Try.prog 10 #[.pointer (some ⟨g, 0, none⟩), .int .i64 7] w (ArDone true g S (.tuple #[.agg #[.int .i64 0, .int .u32 2], .int .i64 0]) [⟨.int .i64 7, 2, true⟩] w) from atakeI_any [⟨.int .i64 0, 1, false⟩] 7 g S w h (by intro y hy; simp at hy; subst hy; decide) (by decide))
  have F0 := fun (g : Nat) (S : Nat → Prop) (w : World) (h : ArAt true w g S [⟨.int .i64 5, 1, true⟩]) => (show Calls Try.prog 12 #[.pointer (some ⟨g, 0, none⟩), .agg #[.int .i64 0, .int .u32 1]] w (ArDone true g S (.int .i64 0) [⟨.int .i64 0, 1, false⟩] w) from afreeI_any [⟨.int .i64 5, 1, true⟩] 0 1 g S w h (by decide))
  have G1 := fun (g : Nat) (S : Nat → Prop) (w : World) (h : ArAt true w g S [⟨.int .i64 7, 2, true⟩]) => (show Calls Try.prog 13 #[.pointer (some ⟨g, 0, none⟩), .agg #[.int .i64 0, .int .u32 1]] w (fun e w' => e = .returned (.tuple #[.int .i64 0, .int .i64 26]) ∧ Below w.heap.size w w') from agetI_any [⟨.int .i64 7, 2, true⟩] 0 1 g S w h (by decide))
  have G2 := fun (g : Nat) (S : Nat → Prop) (w : World) (h : ArAt true w g S [⟨.int .i64 7, 2, true⟩]) => (show Calls Try.prog 13 #[.pointer (some ⟨g, 0, none⟩), .agg #[.int .i64 0, .int .u32 2]] w (fun e w' => e = .returned (.tuple #[.int .i64 7, .int .i64 0]) ∧ Below w.heap.size w w') from agetI_any [⟨.int .i64 7, 2, true⟩] 0 2 g S w h (by decide))
  have V1 := fun (g : Nat) (S : Nat → Prop) (w : World) (h : ArAt true w g S [⟨.int .i64 7, 2, true⟩]) => (show Calls Try.prog 16 #[.pointer (some ⟨g, 0, none⟩)] w (fun e w' => e = .returned (.int .i64 1) ∧ Below w.heap.size w w') from aliveI_any [⟨.int .i64 7, 2, true⟩] g S w h (by decide))
  have E1 := fun w : World => eql_ref w 0 1 0 1 true rfl
  replace N0 := Lib.hid N0
  replace T5 := Lib.hid T5
  replace T6 := Lib.hid T6
  replace T7 := Lib.hid T7
  replace F0 := Lib.hid F0
  replace G1 := Lib.hid G1
  replace G2 := Lib.hid G2
  replace V1 := Lib.hid V1
  go_enter Try.func7, Try.ntmps7
  go_wp2_with fail
  refine (N0.out w).mono ?_
  rintro e w1 ⟨g, S1, rfl, d1, s1, b1⟩
  have HB1 := Lib.hid b1
  have HS1 := Lib.hid s1
  have HD1 := Lib.hid d1
  clear d1 s1 b1
  go_wp2_with fail
  refine (T5.out g S1 _ HD1.out).mono ?_
  rintro e w2 ⟨S2, rfl, d2, k2, m2⟩
  have hlt2 := HD1.out.lt
  have HB2 := Lib.hid (HB1.out.trans (k2.below HB1.out.size (fun k hk h => Nat.not_le_of_lt hk (HS1.out k h))))
  have HS2 : Hid (∀ k, S2 k → w.heap.size ≤ k) := Lib.hid (fun k h => (Nat.lt_or_ge k w1.heap.size).elim (fun hk => HS1.out k (m2 k hk h)) (fun hk => Nat.le_trans HB1.out.size hk))
  have HD2 := Lib.hid d2
  clear d2 k2 m2 hlt2 HB1 HS1 HD1  
  go_wp2_with fail
  obtain ⟨w3, hw3⟩ : ∃ z, z = (w2.alloc (.cells #[.int .i64 0, .int .u32 1] 30)) := ⟨_, rfl⟩
  have HB3 := Lib.hid (show Below w.heap.size w w3 by rw [hw3]; exact ((HB2.out).alloc (HB2.out).size (.cells #[.int .i64 0, .int .u32 1] 30)))
  have bl3 : Below w2.heap.size w2 w3 := by rw [hw3]; exact (((Below.refl w2.heap.size w2)).alloc ((Below.refl w2.heap.size w2)).size (.cells #[.int .i64 0, .int .u32 1] 30))
  have HD3 := Lib.hid (HD2.out.next bl3)
  have hz3 := HD2.out.lt
  have Hra3 := Lib.hid (show Whole w3 (w2.heap.size) 30 #[.int .i64 0, .int .u32 1] by rw [hw3]; first | exact Whole.new w2 30 #[.int .i64 0, .int .u32 1] | simpa using Whole.new w2 30 #[.int .i64 0, .int .u32 1])
  have nra : ¬ S2 (w2.heap.size) := fun h => by have := hz3 _ h; omega
  rw [← hw3]
  clear hw3 bl3 hz3 HB2 HD2 
  refine (T6.out g S2 _ HD3.out).mono ?_
  rintro e w4 ⟨S4, rfl, d4, k4, m4⟩
  have hlt4 := HD3.out.lt
  have Hra4 := Lib.hid (Hra3.out.but k4 nra)
  have qra : ¬ S4 (w2.heap.size) := fun h => nra (m4 _ Hra3.out.lt h)
  have HB4 := Lib.hid (HB3.out.trans (k4.below HB3.out.size (fun k hk h => Nat.not_le_of_lt hk (HS2.out k h))))
  have HS4 : Hid (∀ k, S4 k → w.heap.size ≤ k) := Lib.hid (fun k h => (Nat.lt_or_ge k w3.heap.size).elim (fun hk => HS2.out k (m4 k hk h)) (fun hk => Nat.le_trans HB3.out.size hk))
  have HD4 := Lib.hid d4
  clear d4 k4 m4 hlt4 HB3 HS2 HD3 Hra3 nra 
  have nra := qra
  clear qra
  have ra_0 := Hra4.out.cell 0
  have ra_1 := Hra4.out.cell 1
  have lra := Hra4.out.lt
  go_wp2_with fail
  clear ra_0 ra_1
  clear lra
  obtain ⟨w5, hw5⟩ : ∃ z, z = (w4.alloc (.cells #[.int .i64 0, .int .u32 0] 30)) := ⟨_, rfl⟩
  have HB5 := Lib.hid (show Below w.heap.size w w5 by rw [hw5]; exact ((HB4.out).alloc (HB4.out).size (.cells #[.int .i64 0, .int .u32 0] 30)))
  have bl5 : Below w4.heap.size w4 w5 := by rw [hw5]; exact (((Below.refl w4.heap.size w4)).alloc ((Below.refl w4.heap.size w4)).size (.cells #[.int .i64 0, .int .u32 0] 30))
  have HD5 := Lib.hid (HD4.out.next bl5)
  have hz5 := HD4.out.lt
  have Hra5 := Lib.hid (Hra4.out.below bl5 Hra4.out.lt)
  have Hrb5 := Lib.hid (show Whole w5 (w4.heap.size) 30 #[.int .i64 0, .int .u32 0] by rw [hw5]; first | exact Whole.new w4 30 #[.int .i64 0, .int .u32 0] | simpa using Whole.new w4 30 #[.int .i64 0, .int .u32 0])
  have nrb : ¬ S4 (w4.heap.size) := fun h => by have := hz5 _ h; omega
  rw [← hw5]
  clear hw5 bl5 hz5 HB4 HD4 Hra4
  refine (F0.out g S4 _ HD5.out).mono ?_
  rintro e w6 ⟨S6, rfl, d6, k6, m6⟩
  have hlt6 := HD5.out.lt
  have Hra6 := Lib.hid (Hra5.out.but k6 nra)
  have qra : ¬ S6 (w2.heap.size) := fun h => nra (m6 _ Hra5.out.lt h)
  have Hrb6 := Lib.hid (Hrb5.out.but k6 nrb)
  have qrb : ¬ S6 (w4.heap.size) := fun h => nrb (m6 _ Hrb5.out.lt h)
  have HB6 := Lib.hid (HB5.out.trans (k6.below HB5.out.size (fun k hk h => Nat.not_le_of_lt hk (HS4.out k h))))
  have HS6 : Hid (∀ k, S6 k → w.heap.size ≤ k) := Lib.hid (fun k h => (Nat.lt_or_ge k w5.heap.size).elim (fun hk => HS4.out k (m6 k hk h)) (fun hk => Nat.le_trans HB5.out.size hk))
  have HD6 := Lib.hid d6
  clear d6 k6 m6 hlt6 HB5 HS4 HD5 Hra5 nra Hrb5 nrb 
  have nra := qra
  clear qra
  have nrb := qrb
  clear qrb
  go_wp2_with fail
  refine (T7.out g S6 _ HD6.out).mono ?_
  rintro e w7 ⟨S7, rfl, d7, k7, m7⟩
  have hlt7 := HD6.out.lt
  have Hra7 := Lib.hid (Hra6.out.but k7 nra)
  have qra : ¬ S7 (w2.heap.size) := fun h => nra (m7 _ Hra6.out.lt h)
  have Hrb7 := Lib.hid (Hrb6.out.but k7 nrb)
  have qrb : ¬ S7 (w4.heap.size) := fun h => nrb (m7 _ Hrb6.out.lt h)
  have HB7 := Lib.hid (HB6.out.trans (k7.below HB6.out.size (fun k hk h => Nat.not_le_of_lt hk (HS6.out k h))))
  have HS7 : Hid (∀ k, S7 k → w.heap.size ≤ k) := Lib.hid (fun k h => (Nat.lt_or_ge k w6.heap.size).elim (fun hk => HS6.out k (m7 k hk h)) (fun hk => Nat.le_trans HB6.out.size hk))
  have HD7 := Lib.hid d7
  clear d7 k7 m7 hlt7 HB6 HS6 HD6 Hra6 nra Hrb6 nrb 
  have nra := qra
  clear qra
  have nrb := qrb
  clear qrb
  have ra_0 := Hra7.out.cell 0
  have ra_1 := Hra7.out.cell 1
  have lra := Hra7.out.lt
  go_wp2_with fail
  clear ra_0 ra_1
  clear lra
  obtain ⟨w8, hw8⟩ : ∃ z, z = (w7.alloc (.cells #[.int .i64 0, .int .u32 2] 30)) := ⟨_, rfl⟩
  have HB8 := Lib.hid (show Below w.heap.size w w8 by rw [hw8]; exact ((HB7.out).alloc (HB7.out).size (.cells #[.int .i64 0, .int .u32 2] 30)))
  have bl8 : Below w7.heap.size w7 w8 := by rw [hw8]; exact (((Below.refl w7.heap.size w7)).alloc ((Below.refl w7.heap.size w7)).size (.cells #[.int .i64 0, .int .u32 2] 30))
  have HD8 := Lib.hid (HD7.out.next bl8)
  have hz8 := HD7.out.lt
  have Hra8 := Lib.hid (Hra7.out.below bl8 Hra7.out.lt)
  have Hrb8 := Lib.hid (Hrb7.out.below bl8 Hrb7.out.lt)
  have Hrc8 := Lib.hid (show Whole w8 (w7.heap.size) 30 #[.int .i64 0, .int .u32 2] by rw [hw8]; first | exact Whole.new w7 30 #[.int .i64 0, .int .u32 2] | simpa using Whole.new w7 30 #[.int .i64 0, .int .u32 2])
  have nrc : ¬ S7 (w7.heap.size) := fun h => by have := hz8 _ h; omega
  rw [← hw8]
  clear hw8 bl8 hz8 HB7 HD7 Hra7 Hrb7
  refine (G1.out g S7 _ HD8.out).mono ?_
  rintro e w9 ⟨rfl, b9⟩
  have Hra9 := Lib.hid (Hra8.out.below b9 Hra8.out.lt)
  have Hrb9 := Lib.hid (Hrb8.out.below b9 Hrb8.out.lt)
  have Hrc9 := Lib.hid (Hrc8.out.below b9 Hrc8.out.lt)
  have HB9 := Lib.hid (HB8.out.trans (b9.mono HB8.out.size))
  have HD9 := Lib.hid (HD8.out.next b9)
  clear b9 HB8 HD8 Hra8 Hrb8 Hrc8 
  have rc_0 := Hrc9.out.cell 0
  have rc_1 := Hrc9.out.cell 1
  go_wp2_with fail
  clear rc_0 rc_1
  refine (G2.out g S7 _ HD9.out).mono ?_
  rintro e w10 ⟨rfl, b10⟩
  have Hra10 := Lib.hid (Hra9.out.below b10 Hra9.out.lt)
  have Hrb10 := Lib.hid (Hrb9.out.below b10 Hrb9.out.lt)
  have Hrc10 := Lib.hid (Hrc9.out.below b10 Hrc9.out.lt)
  have HB10 := Lib.hid (HB9.out.trans (b10.mono HB9.out.size))
  have HD10 := Lib.hid (HD9.out.next b10)
  clear b10 HB9 HD9 Hra9 Hrb9 Hrc9 
  have ra_0 := Hra10.out.cell 0
  have ra_1 := Hra10.out.cell 1
  have rc_0 := Hrc10.out.cell 0
  have rc_1 := Hrc10.out.cell 1
  go_wp2_with fail
  clear ra_0 ra_1
  clear rc_0 rc_1
  refine (V1.out g S7 _ HD10.out).mono ?_
  rintro e w11 ⟨rfl, b11⟩
  have Hra11 := Lib.hid (Hra10.out.below b11 Hra10.out.lt)
  have Hrb11 := Lib.hid (Hrb10.out.below b11 Hrb10.out.lt)
  have Hrc11 := Lib.hid (Hrc10.out.below b11 Hrc10.out.lt)
  have HB11 := Lib.hid (HB10.out.trans (b11.mono HB10.out.size))
  have HD11 := Lib.hid (HD10.out.next b11)
  clear b11 HB10 HD10 Hra10 Hrb10 Hrc10 
  go_wp2
  go_ret
  exact ⟨rfl, HB11.out⟩
end Go.Proofs.Ytejfjjgcajdjmaa
