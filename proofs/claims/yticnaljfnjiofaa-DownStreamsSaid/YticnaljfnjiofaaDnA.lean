/-
  Layer 14's law: the document's example.
-/
import Derived.Test.YticnaljfnjiofaaDnC
import Derived.Test.YticnaljfnjiofaaRpH
import Derived.Test.YticnaljfnjiofaaEqS
import Derived.Test.YticnaljfnjiofaaGse
import Derived.Deep.CutBlock
import Derived.Deep.DeepCutAuto
import Derived.Deep.QuietTactic
import Derived.BigQuiet
namespace Go.Proofs.Yticnaljfnjiofaa
open Go.RowKit
set_option linter.unusedSimpArgs false
set_option linter.unusedVariables false
set_option maxRecDepth 100000

/-- The packet that comes; what is sent; the downtrack behind it. -/
def axA (h : Nat) : Sa := ⟨⟨⟨false, 0, 9, 0, 5, [], none, 0, [], none, 0⟩, [16, 0], some ⟨h, 0, none⟩, 2, 0⟩, 0, 1, ⟨0, 1, 3⟩, false⟩
def axB : List UInt8 := [128, 0, 0, 9, 0, 0, 0, 0, 0, 0, 0, 77, 16, 0]
def axN : Mst := ⟨true, 9, 9, ⟨0, 0, 0, 0⟩, ⟨9, 0, 0, 0⟩⟩
def axD : Dn := ⟨77, 4, [⟨9, axB⟩], ⟨true, 0, 1, 3⟩, axN, 1, 0, 0, 0, 0⟩
def axP : Mp := ⟨false, 0, 9, 0, 77, [], [], [16, 0], 0⟩
theorem ax_take (h : Nat) : (Dn.new 77 4).take (axA h).x = (axD, some axB) := by kernel_rfl
theorem ax_next (h : Nat) : (Dn.new 77 4).next (axA h).x = axD := by unfold Dn.next; rw [ax_take]
theorem ax_told (h : Nat) : (Dn.new 77 4).told (axA h).x = axB := by unfold Dn.told; rw [ax_take]; rfl
theorem ax_is (h : Nat) : (Dn.new 77 4).is (axA h).x = true := by unfold Dn.is; rw [ax_take]; rfl
theorem ax_asks (h : Nat) : (Dn.new 77 4).asks (axA h).x = false := by unfold Dn.asks; rw [ax_next]; rfl
theorem ax_parse : parseP axB = (axP, 0) := by kernel_rfl
theorem ax_get : getL axD.kept 9 = some axB := by kernel_rfl
theorem eqs_count (w : World) (a b c d e a' b' c' d' e' : Int) : (binOp .eql 63 (.agg #[.int .i64 a, .int .i64 b, .int .i64 c, .int .i64 d, .int .i64 e]) (.agg #[.int .i64 a', .int .i64 b', .int .i64 c', .int .i64 d', .int .i64 e'])).run Try.prog w = .ok (.bool (a == a' && (b == b' && (c == c' && (d == d' && (e == e' && true)))))) w := by
  rw [run_eql_struct, show (Op.equalIn 10000 63 (.agg #[.int .i64 a, .int .i64 b, .int .i64 c, .int .i64 d, .int .i64 e]) (.agg #[.int .i64 a', .int .i64 b', .int .i64 c', .int .i64 d', .int .i64 e'])).run Try.prog w = .ok (a == a' && (b == b' && (c == c' && (d == d' && (e == e' && true))))) w from
    eqs_struct Try.underlying63 (by kernel_rfl) (eqs_cons (by decide) (by kernel_rfl) rfl rfl (run_equalIn_int w 9998 3 .i64 .i64 a a' Try.underlying3)
    (eqs_cons (by decide) (by kernel_rfl) rfl rfl (run_equalIn_int w 9998 3 .i64 .i64 b b' Try.underlying3)
    (eqs_cons (by decide) (by kernel_rfl) rfl rfl (run_equalIn_int w 9998 3 .i64 .i64 c c' Try.underlying3)
    (eqs_cons (by decide) (by kernel_rfl) rfl rfl (run_equalIn_int w 9998 3 .i64 .i64 d d' Try.underlying3)
    (eqs_cons (by decide) (by kernel_rfl) rfl rfl (run_equalIn_int w 9998 3 .i64 .i64 e e' Try.underlying3)
    (eqs_nil))))))]
  rfl

set_option maxHeartbeats 1600000 in
theorem awake_any (w : World) : Calls Try.prog 9 #[] w fun e w' => e = .returned (.bool true) ∧ Below w.heap.size w w' := by
  have C1 := Lib.hid (fun w => dnew_any 77 4 (by decide) (by decide) (by decide) w)
  go_enter Try.func9, Try.ntmps9
  go_wp2_with fail
  refine (C1.out w).mono ?_
  rintro e w1 ⟨g, S, rfl, d1, hS, b1⟩
  have HD1 := Lib.hid d1
  have HS := Lib.hid hS
  have HB1 := Lib.hid b1
  have hs1 := b1.size
  clear d1 hS b1 C1
  obtain ⟨w2, hw2⟩ : ∃ z, z = (w1.alloc (.cells #[.int .u8 16, .int .u8 0] 5)).alloc (.cells #[.bool false, .int .u8 0, .int .u16 9, .int .u32 0, .int .u32 5, .slice none 0 0, .slice none 0 0, .slice (some ⟨w1.heap.size, 0, none⟩) 2 2, .int .i64 0] 35) := ⟨_, rfl⟩
  have b2 : Below w1.heap.size w1 w2 := by rw [hw2]; exact ((Below.refl w1.heap.size w1).alloc (Nat.le_refl _) _).alloc (by simp) _
  have hrow : Row w2 w2.heap.size 1 (some ⟨w1.heap.size, 0, none⟩) 2 (u8s [16, 0]) := by
    have h := ((Row.fresh w1 5 #[.int .u8 16, .int .u8 0] 1 2 (u8s [16, 0]) rfl rfl).alloc (Nat.le_refl _) (.cells #[.bool false, .int .u8 0, .int .u16 9, .int .u32 0, .int .u32 5, .slice none 0 0, .slice none 0 0, .slice (some ⟨w1.heap.size, 0, none⟩) 2 2, .int .i64 0] 35)).more (Nat.le_succ _)
    rw [hw2]
    simpa using h
  have HD2 := Lib.hid (HD1.out.next b2)
  have HLT := Lib.hid (fun k hk => HD1.out.lt k hk)
  have HA : Hid ((axA w1.heap.size).q.At w2 S) := Lib.hid ⟨⟨show 0 < 256 by decide, show 9 < 65536 by decide, show 0 < 4294967296 by decide, show 5 < 4294967296 by decide, by intro x hx; cases hx⟩, Nat.zero_le _, Row.nil, fun h => absurd h (Nat.lt_irrefl 0), Nat.zero_le _, ⟨Row.nil, by intro p hp; cases hp⟩, fun h => absurd h (Nat.lt_irrefl 0), (by intro p hp; cases hp), show 2 ≤ 100000 by decide, hrow, fun _ a ha hs => by
    cases ha
    exact Nat.lt_irrefl _ (HLT.out _ hs)⟩
  have HF : Hid (Dn.new 77 4).few := Lib.hid ⟨by decide, by decide, ⟨by decide, Mn.zero_fit, Mn.zero_fit⟩⟩
  have CT := dtake_any (Dn.new 77 4) (axA w1.heap.size) g S w2 HD2.out HF.out HA.out
  unfold DTold at CT
  rw [ax_next, ax_told, ax_is, ax_asks] at CT
  have HB2 := Lib.hid (HB1.out.trans (b2.mono hs1))
  have HSB := Lib.hid (fun k (hk : k < w.heap.size) => show ¬ S k from fun h => Nat.not_lt_of_le (HS.out k h) hk)
  have CT := Lib.hid CT
  clear HD1 HD2 HLT HA HF hrow b2 HB1 HS
  go_wp2_with fail
  rw [← hw2]
  clear hw2
  refine CT.out.mono ?_
  rintro e w3 ⟨A3, c3, S3, rfl, d3, r3, q3, q3', k3, _⟩
  have HD3 := Lib.hid d3
  have HR3 := Lib.hid r3
  have HB3 := Lib.hid (HB2.out.trans (k3.below HB2.out.size HSB.out))
  have CP := Lib.hid (rparse_any A3 c3 axB w3 r3 q3 q3' (by decide))
  clear d3 r3 k3 q3 q3' CT HB2 HSB
  rw [ax_parse] at CP
  rw [show axB.length = 14 from rfl] at *
  go_wp2_with fail
  refine CP.out.mono ?_
  rintro e w4 ⟨A1, c1, A2, c2, A4, c4, ps, rfl, _, _, hps, r4, b4⟩
  obtain rfl : ps = [] := List.map_eq_nil_iff.1 hps
  have HD4 := Lib.hid (HD3.out.next b4)
  have HR4 := Lib.hid r4
  have HR34 := Lib.hid ((HR3.out.below b4 (Nat.le_refl _)).more b4.size)
  have HB4 := Lib.hid (HB3.out.trans (b4.mono HB3.out.size))
  clear hps r4 b4 HD3 HR3 HB3 CP
  dsimp only [Mp.cells, axP, List.length_nil, List.length_cons, Nat.zero_add]
  obtain ⟨w5, hw5⟩ : ∃ z, z = w4.alloc (.cells #[.bool false, .int .u8 0, .int .u16 9, .int .u32 0, .int .u32 77, .slice A1 0 c1, .slice A2 0 c2, .slice A4 2 c4, .int .i64 0] 35) := ⟨_, rfl⟩
  have b5 : Below w4.heap.size w4 w5 := by rw [hw5]; exact (Below.refl _ _).alloc (Nat.le_refl _) _
  have HQ5 := Lib.hid (show Whole w5 w4.heap.size 35 #[.bool false, .int .u8 0, .int .u16 9, .int .u32 0, .int .u32 77, .slice A1 0 c1, .slice A2 0 c2, .slice A4 2 c4, .int .i64 0] from by rw [hw5]; exact Whole.new _ _ _)
  have HD5 := Lib.hid (HD4.out.next b5)
  have HR5 := Lib.hid ((HR4.out.below b5 (Nat.le_refl _)).more b5.size)
  have HR35 := Lib.hid ((HR34.out.below b5 (Nat.le_refl _)).more b5.size)
  have HB5 := Lib.hid (HB4.out.trans (b5.mono HB4.out.size))
  clear b5 HD4 HR4 HR34 HB4
  have HF : Hid axD.few := Lib.hid ⟨by decide, by decide, ⟨by decide, by constructor <;> decide, by constructor <;> decide⟩⟩
  have CA := dagain_any axD g S3 9 (by decide) w5 HD5.out HF.out
  rw [ax_get, show ((some axB).getD []).length = 14 from rfl, show (some axB).getD [] = axB from rfl, show (some axB).isSome = true from rfl] at CA
  have CA := Lib.hid CA
  go_wp2_with fail
  rw [← hw5]
  clear hw5
  refine CA.out.mono ?_
  rintro e w6 ⟨A6, c6, rfl, r6, b6⟩
  have HD6 := Lib.hid (HD5.out.next b6)
  have HR6 := Lib.hid ((HR5.out.below b6 (Nat.le_refl _)).more b6.size)
  have HR36 := Lib.hid ((HR35.out.below b6 (Nat.le_refl _)).more b6.size)
  have HQ6 := Lib.hid (HQ5.out.below b6 HQ5.out.lt)
  have HB6 := Lib.hid (HB5.out.trans (b6.mono HB5.out.size))
  have t1 := run_text (P := Try.prog) w6 33 5 9 Try.underlying33 Try.underlying5 Try.underlying9 _ A4 2 c4 _ HR6.out
  have t2 := run_text (P := Try.prog) w6 33 5 9 Try.underlying33 Try.underlying5 Try.underlying9 _ A6 14 c6 _ r6
  have t3 := run_text (P := Try.prog) w6 33 5 9 Try.underlying33 Try.underlying5 Try.underlying9 _ A3 14 c3 _ HR36.out
  rw [show str axP.pay = ⟨#[16, 0]⟩ from rfl] at t1
  obtain ⟨TB, hTB⟩ : ∃ t, str axB = t := ⟨_, rfl⟩
  rw [hTB] at t2 t3
  have CS := Lib.hid (dssrc_any axD g S3 w6 HD6.out)
  have CC := Lib.hid (fun w' (b : Below w6.heap.size w6 w') => dcount_any axD g S3 w' (HD6.out.next b))
  have hcnt := fun w => eqs_count w 1 0 0 0 0 1 0 0 0 0
  rw [show ((1 : Int) == 1 && ((0 : Int) == 0 && ((0 : Int) == 0 && ((0 : Int) == 0 && ((0 : Int) == 0 && true))))) = true from rfl] at hcnt
  have q2 := HQ6.out.cell 2
  have q4 := HQ6.out.cell 4
  have q7 := HQ6.out.cell 7
  clear hTB r6 b6 HD5 HR5 HR35 HB5 HQ5 CA HF HR6 HR36
  go_wp2_with fail
  refine CS.out.mono ?_
  rintro e w7 ⟨rfl, b7⟩
  go_wp2_with fail
  refine (CC.out w7 b7).mono ?_
  rintro e w8 ⟨rfl, b8⟩
  have HEND := Lib.hid (HB6.out.trans ((b7.trans (b8.mono b7.size)).mono HB6.out.size))
  have HCN := hcnt w8
  clear b7 b8 hcnt t1 t2 t3
  dsimp only [Dn.countV, axD]
  go_wp2_with fail
  go_ret
  exact ⟨rfl, HEND.out⟩
end Go.Proofs.Yticnaljfnjiofaa
