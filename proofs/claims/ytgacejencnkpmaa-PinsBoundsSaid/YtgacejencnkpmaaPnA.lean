/-
  Layer 16's law: awake; '==' of Refs.
-/
import Derived.Test.YtgacejencnkpmaaPnC
import Derived.Test.YtgacejencnkpmaaEqS
import Derived.Deep.CutBlock
import Derived.Deep.DeepCutAuto
import Derived.Deep.QuietTactic
import Derived.Deep.RegionHeld3
import Derived.RegionTactic
import Derived.BigQuiet
namespace Go.Proofs.Ytgacejencnkpmaa
open Go.RowKit
set_option linter.unusedSimpArgs false
set_option linter.unusedVariables false
set_option maxRecDepth 100000
theorem eqs_ref16 (w : World) (a b c d : Int) : (Op.equalIn 10000 33 (.agg #[.int .i64 a, .int .u32 b]) (.agg #[.int .i64 c, .int .u32 d])).run Try.prog w = .ok (a == c && (b == d && true)) w := by
  exact eqs_struct Try.underlying33 (by kernel_rfl) (eqs_cons (by decide) (by kernel_rfl) rfl rfl (run_equalIn_int w 9998 3 .i64 .i64 a c Try.underlying3)
    (eqs_cons (by decide) (by kernel_rfl) rfl rfl (run_equalIn_int w 9998 31 .u32 .u32 b d Try.underlying31)
    (eqs_nil)))
theorem eql_ref16 (w : World) (a b c d : Int) (r : Bool) (h : (a == c && b == d) = r) : (binOp .eql 33 (.agg #[.int .i64 a, .int .u32 b]) (.agg #[.int .i64 c, .int .u32 d])).run Try.prog w = .ok (.bool r) w := by
  rw [run_eql_struct, eqs_ref16, ← h]
  simp
theorem neq_ref16 (w : World) (a b c d : Int) (r : Bool) (h : (!(a == c && b == d)) = r) : (binOp .neq 33 (.agg #[.int .i64 a, .int .u32 b]) (.agg #[.int .i64 c, .int .u32 d])).run Try.prog w = .ok (.bool r) w := by
  rw [run_neq_struct, eqs_ref16, ← h]
  simp

set_option maxHeartbeats 3200000 in
theorem awake16 (w : World) : Calls Try.prog 8 #[] w fun e w' => e = .returned (.bool true) ∧ Below w.heap.size w w' := by
  have N0 := Lib.hid (fun w => (show Calls Try.prog 9 #[.int .i64 1] w (PMade 1 w) from pnew_any w 1 (by decide) (by decide)))
  have CP := Lib.hid (fun (g : Nat) (S : Nat → Prop) (w : World) (h : PAt w g S [⟨0, none⟩] []) => (show Calls Try.prog 13 #[.pointer (some ⟨g, 0, none⟩), .int .i64 0] w (PDone g S (.tuple #[.int .u64 0, .int .i64 0]) [⟨0, some 0⟩] [] w) from ppin_any [⟨0, none⟩] [] g S w 0 h))
  have CI := Lib.hid (fun (g : Nat) (S : Nat → Prop) (w : World) (h : PAt w g S [⟨0, some 0⟩] []) => (show Calls Try.prog 11 #[.pointer (some ⟨g, 0, none⟩), .int .i64 0, .int .u64 1] w (PDone g S (.int .i64 0) [⟨1, some 0⟩] [] w) from pinst_any [⟨0, some 0⟩] [] g S w 0 1 h))
  have CR := Lib.hid (fun (g : Nat) (S : Nat → Prop) (w : World) (h : PAt w g S [⟨1, some 0⟩] []) => (show Calls Try.prog 17 #[.pointer (some ⟨g, 0, none⟩), .agg #[.int .i64 3, .int .u32 2], .int .u64 1] w (PDone g S (.int .i64 0) [⟨1, some 0⟩] [⟨3, 2, 1⟩] w) from pret_any [⟨1, some 0⟩] [] g S w 3 2 1 h))
  have CS := Lib.hid (fun (g : Nat) (S : Nat → Prop) (w : World) (h : PAt w g S [⟨1, some 0⟩] [⟨3, 2, 1⟩]) => (show Calls Try.prog 19 #[.pointer (some ⟨g, 0, none⟩)] w (fun e w' => ∃ A c S', e = .returned (.slice A 0 c) ∧ Row w' w'.heap.size 2 A 0 [] ∧ PAt w' g S' [⟨1, some 0⟩] [⟨3, 2, 1⟩] ∧ But S w w' ∧ ∀ k, k < w.heap.size → S' k → S k) from psweep_any [⟨1, some 0⟩] [⟨3, 2, 1⟩] g S w h))
  have CU := Lib.hid (fun (g : Nat) (S : Nat → Prop) (w : World) (h : PAt w g S [⟨1, some 0⟩] [⟨3, 2, 1⟩]) => (show Calls Try.prog 15 #[.pointer (some ⟨g, 0, none⟩), .int .i64 0] w (PDone g S (.int .i64 0) [⟨1, none⟩] [⟨3, 2, 1⟩] w) from punpin_any [⟨1, some 0⟩] [⟨3, 2, 1⟩] g S w 0 h))
  have CT := Lib.hid (fun (g : Nat) (S : Nat → Prop) (w : World) (h : PAt w g S [⟨1, none⟩] [⟨3, 2, 1⟩]) => (show Calls Try.prog 19 #[.pointer (some ⟨g, 0, none⟩)] w (fun e w' => ∃ A c S', e = .returned (.slice A 1 c) ∧ Row w' w'.heap.size 2 A 1 [.int .i64 3, .int .u32 2] ∧ PAt w' g S' [⟨1, none⟩] [] ∧ But S w w' ∧ ∀ k, k < w.heap.size → S' k → S k) from psweep_any [⟨1, none⟩] [⟨3, 2, 1⟩] g S w h))
  have CW := Lib.hid (fun (g : Nat) (S : Nat → Prop) (w : World) (h : PAt w g S [⟨1, none⟩] []) => (show Calls Try.prog 22 #[.pointer (some ⟨g, 0, none⟩)] w (fun e w' => e = .returned (.int .i64 0) ∧ Below w.heap.size w w') from pwait_any [⟨1, none⟩] [] g S w h))
  have CO := Lib.hid (fun (g : Nat) (S : Nat → Prop) (w : World) (h : PAt w g S [⟨1, none⟩] []) => (show Calls Try.prog 20 #[.pointer (some ⟨g, 0, none⟩)] w (fun e w' => e = .returned (.int .u64 1) ∧ Below w.heap.size w w') from pold_any [⟨1, none⟩] [] g S w h))
  have E1 := fun w : World => eql_ref16 w 3 2 3 2 true rfl
  go_enter Try.func8, Try.ntmps8
  go_wp2_with fail
  refine (N0.out w).mono ?_
  rintro e w1 ⟨g, S1, rfl, d1, s1, b1⟩
  have HB1 := Lib.hid b1
  have HS1 := Lib.hid s1
  have HD1 := Lib.hid d1
  clear d1 s1 b1
  go_wp2_with fail
  obtain ⟨w2, hw2⟩ : ∃ z, z = (w1.alloc (.cells #[.int .i64 3, .int .u32 2] 33)) := ⟨_, rfl⟩
  have HB2 := Lib.hid (show Below w.heap.size w w2 by rw [hw2]; exact ((HB1.out).alloc (HB1.out).size (.cells #[.int .i64 3, .int .u32 2] 33)))
  have bl2 : Below w1.heap.size w1 w2 := by rw [hw2]; exact (((Below.refl w1.heap.size w1)).alloc ((Below.refl w1.heap.size w1)).size (.cells #[.int .i64 3, .int .u32 2] 33))
  have HD2 := Lib.hid (HD1.out.next bl2)
  have hz2 := HD1.out.lt
  have Hra2 := Lib.hid (show Whole w2 (w1.heap.size) 33 #[.int .i64 3, .int .u32 2] by rw [hw2]; first | exact Whole.new w1 33 #[.int .i64 3, .int .u32 2] | simpa using Whole.new w1 33 #[.int .i64 3, .int .u32 2])
  have nra : ¬ S1 (w1.heap.size) := fun h => by have := hz2 _ h; omega
  rw [← hw2]
  clear hw2 bl2 hz2 HB1 HD1 
  refine (CP.out g S1 _ HD2.out).mono ?_
  rintro e w3 ⟨S3, rfl, d3, k3, m3⟩
  have hlt3 := HD2.out.lt
  have Hra3 := Lib.hid (Hra2.out.but k3 nra)
  have qra : ¬ S3 (w1.heap.size) := fun h => nra (m3 _ Hra2.out.lt h)
  have HB3 := Lib.hid (HB2.out.trans (k3.below HB2.out.size (fun k hk h => Nat.not_le_of_lt hk (HS1.out k h))))
  have HS3 : Hid (∀ k, S3 k → w.heap.size ≤ k) := Lib.hid (fun k h => (Nat.lt_or_ge k w2.heap.size).elim (fun hk => HS1.out k (m3 k hk h)) (fun hk => Nat.le_trans HB2.out.size hk))
  have HD3 := Lib.hid d3
  clear d3 k3 m3 hlt3 HB2 HS1 HD2 Hra2 nra 
  have nra := qra
  clear qra
  go_wp2_with fail
  refine (CI.out g S3 _ HD3.out).mono ?_
  rintro e w4 ⟨S4, rfl, d4, k4, m4⟩
  have hlt4 := HD3.out.lt
  have Hra4 := Lib.hid (Hra3.out.but k4 nra)
  have qra : ¬ S4 (w1.heap.size) := fun h => nra (m4 _ Hra3.out.lt h)
  have HB4 := Lib.hid (HB3.out.trans (k4.below HB3.out.size (fun k hk h => Nat.not_le_of_lt hk (HS3.out k h))))
  have HS4 : Hid (∀ k, S4 k → w.heap.size ≤ k) := Lib.hid (fun k h => (Nat.lt_or_ge k w3.heap.size).elim (fun hk => HS3.out k (m4 k hk h)) (fun hk => Nat.le_trans HB3.out.size hk))
  have HD4 := Lib.hid d4
  clear d4 k4 m4 hlt4 HB3 HS3 HD3 Hra3 nra 
  have nra := qra
  clear qra
  have ra_0 := Hra4.out.cell 0
  have ra_1 := Hra4.out.cell 1
  go_wp2_with fail
  clear ra_0 ra_1
  refine (CR.out g S4 _ HD4.out).mono ?_
  rintro e w5 ⟨S5, rfl, d5, k5, m5⟩
  have hlt5 := HD4.out.lt
  have Hra5 := Lib.hid (Hra4.out.but k5 nra)
  have qra : ¬ S5 (w1.heap.size) := fun h => nra (m5 _ Hra4.out.lt h)
  have HB5 := Lib.hid (HB4.out.trans (k5.below HB4.out.size (fun k hk h => Nat.not_le_of_lt hk (HS4.out k h))))
  have HS5 : Hid (∀ k, S5 k → w.heap.size ≤ k) := Lib.hid (fun k h => (Nat.lt_or_ge k w4.heap.size).elim (fun hk => HS4.out k (m5 k hk h)) (fun hk => Nat.le_trans HB4.out.size hk))
  have HD5 := Lib.hid d5
  clear d5 k5 m5 hlt5 HB4 HS4 HD4 Hra4 nra 
  have nra := qra
  clear qra
  go_wp2_with fail
  refine (CS.out g S5 _ HD5.out).mono ?_
  rintro e w6 ⟨A6, c6, S6, rfl, row6, d6, k6, m6⟩
  have hlt6 := HD5.out.lt
  have Hra6 := Lib.hid (Hra5.out.but k6 nra)
  have qra : ¬ S6 (w1.heap.size) := fun h => nra (m6 _ Hra5.out.lt h)
  have HB6 := Lib.hid (HB5.out.trans (k6.below HB5.out.size (fun k hk h => Nat.not_le_of_lt hk (HS5.out k h))))
  have HS6 : Hid (∀ k, S6 k → w.heap.size ≤ k) := Lib.hid (fun k h => (Nat.lt_or_ge k w5.heap.size).elim (fun hk => HS5.out k (m6 k hk h)) (fun hk => Nat.le_trans HB5.out.size hk))
  have HD6 := Lib.hid d6
  clear d6 k6 m6 hlt6 HB5 HS5 HD5 Hra5 nra 
  have nra := qra
  clear qra
  clear row6
  go_wp2_with fail
  refine (CU.out g S6 _ HD6.out).mono ?_
  rintro e w7 ⟨S7, rfl, d7, k7, m7⟩
  have hlt7 := HD6.out.lt
  have Hra7 := Lib.hid (Hra6.out.but k7 nra)
  have qra : ¬ S7 (w1.heap.size) := fun h => nra (m7 _ Hra6.out.lt h)
  have HB7 := Lib.hid (HB6.out.trans (k7.below HB6.out.size (fun k hk h => Nat.not_le_of_lt hk (HS6.out k h))))
  have HS7 : Hid (∀ k, S7 k → w.heap.size ≤ k) := Lib.hid (fun k h => (Nat.lt_or_ge k w6.heap.size).elim (fun hk => HS6.out k (m7 k hk h)) (fun hk => Nat.le_trans HB6.out.size hk))
  have HD7 := Lib.hid d7
  clear d7 k7 m7 hlt7 HB6 HS6 HD6 Hra6 nra 
  have nra := qra
  clear qra
  go_wp2_with fail
  refine (CT.out g S7 _ HD7.out).mono ?_
  rintro e w8 ⟨A8, c8, S8, rfl, row8, d8, k8, m8⟩
  have hlt8 := HD7.out.lt
  have Hra8 := Lib.hid (Hra7.out.but k8 nra)
  have qra : ¬ S8 (w1.heap.size) := fun h => nra (m8 _ Hra7.out.lt h)
  have HB8 := Lib.hid (HB7.out.trans (k8.below HB7.out.size (fun k hk h => Nat.not_le_of_lt hk (HS7.out k h))))
  have HS8 : Hid (∀ k, S8 k → w.heap.size ≤ k) := Lib.hid (fun k h => (Nat.lt_or_ge k w7.heap.size).elim (fun hk => HS7.out k (m8 k hk h)) (fun hk => Nat.le_trans HB7.out.size hk))
  have HD8 := Lib.hid d8
  clear d8 k8 m8 hlt8 HB7 HS7 HD7 Hra7 nra 
  have nra := qra
  clear qra
  obtain ⟨gm, om, rfl, hgm, hcm⟩ := row8.2 (by decide)
  have z0 := hcm 0 _ rfl
  have z1 := hcm 1 _ rfl
  rw [Nat.add_zero] at z0
  clear hcm row8
  have ra_0 := Hra8.out.cell 0
  have ra_1 := Hra8.out.cell 1
  have KEEP := Lib.hid (fun w' (b : Below w8.heap.size w8 w') => show (fun w' => w'.cell? ⟨gm, om, none⟩ = some (.int .i64 3) ∧ w'.cell? ⟨gm, om + 1, none⟩ = some (.int .u32 2) ∧ w'.cell? ⟨(w1.heap.size), 0, none⟩ = some (.int .i64 3) ∧ w'.cell? ⟨(w1.heap.size), 1, none⟩ = some (.int .u32 2) ∧ Below w8.heap.size w8 w') w' from ⟨(b.cell (p := ⟨gm, om, none⟩) hgm).trans z0, (b.cell (p := ⟨gm, om + 1, none⟩) hgm).trans z1, (Hra8.out.below b Hra8.out.lt).cell 0, (Hra8.out.below b Hra8.out.lt).cell 1, b⟩)
  have H1 := Lib.hid (fun w' (b : Below w8.heap.size w8 w') => (CW.out g S8 w' (HD8.out.next b)).mono (R' := fun e w'' => e = .returned (.int .i64 0) ∧ Below w8.heap.size w8 w'') (fun _ _ h => ⟨h.1, b.trans (h.2.mono b.size)⟩))
  have H2 := Lib.hid (fun w' (b : Below w8.heap.size w8 w') => (CO.out g S8 w' (HD8.out.next b)).mono (R' := fun e w'' => e = .returned (.int .u64 1) ∧ Below w8.heap.size w8 w'') (fun _ _ h => ⟨h.1, b.trans (h.2.mono b.size)⟩))
  have HF := Lib.hid (fun w' (b : Below w8.heap.size w8 w') => HB8.out.trans (b.mono HB8.out.size))
  have hK0 := KEEP.out w8 (Below.refl _ _)
  have lra := Hra8.out.lt
  clear z0 z1 ra_0 ra_1 HD8 HB8 HS8 Hra8 CW CO
  go_upto_region 9 with fail
  go_region_held3 (fun w' => w'.cell? ⟨gm, om, none⟩ = some (.int .i64 3) ∧ w'.cell? ⟨gm, om + 1, none⟩ = some (.int .u32 2) ∧ w'.cell? ⟨(w1.heap.size), 0, none⟩ = some (.int .i64 3) ∧ w'.cell? ⟨(w1.heap.size), 1, none⟩ = some (.int .u32 2) ∧ Below w8.heap.size w8 w')
    (first | exact hK0 | exact KEEP.out _ (Below.refl _ _).drew | exact KEEP.out _ ‹Below w8.heap.size w8 _› | exact ‹_ ∧ _ ∧ _ ∧ _ ∧ Below _ _ _› | go_keep)
    (first
      | (go_at_call 22; refine (H1.out _ ?_).mono ?_; (first | exact (Below.refl _ _).drew | exact (‹_ ∧ _ ∧ _ ∧ _ ∧ Below _ _ _›).2.2.2.2); rintro e v1 ⟨rfl, b1⟩)
      | (go_at_call 20; refine (H2.out _ ?_).mono ?_; (first | exact (Below.refl _ _).drew | exact (‹_ ∧ _ ∧ _ ∧ _ ∧ Below _ _ _›).2.2.2.2); rintro e v2 ⟨rfl, b2⟩))
  have HE := Lib.hid (HF.out _ b2)
  go_wp2_with fail
  go_ret
  exact ⟨rfl, HE.out⟩
end Go.Proofs.Ytgacejencnkpmaa
