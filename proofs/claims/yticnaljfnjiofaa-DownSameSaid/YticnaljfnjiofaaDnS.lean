/-
  The document's answers of layer 6: Same, of two packets that are the same.
-/
import Derived.Test.YticnaljfnjiofaaExtHs
import Derived.Test.YticnaljfnjiofaaRpB
import Derived.Deep.CutBlock
import Derived.Deep.DeepCutAuto
namespace Go.Proofs.Yticnaljfnjiofaa
open Go.RowKit
set_option linter.unusedSimpArgs false
set_option linter.unusedVariables false
set_option maxRecDepth 100000

set_option maxHeartbeats 3200000 in
theorem same06_yes (mk : Bool) (ty sq tm sr pd : Int) (TX : ByteArray) (A1 A2 B1 B2 : Option Addr) (c1 c2 d1 d2 : Nat) (cs : List Nat) (it : List It) (w : World) (hc : cs.length ≤ 100) (hi : it.length ≤ 20) (h1 : Row w w.heap.size 1 A1 cs.length (u32s cs)) (h2 : Row w w.heap.size 1 B1 cs.length (u32s cs)) (h3 : Row w w.heap.size 2 A2 it.length (itC it)) (h4 : Row w w.heap.size 2 B2 it.length (itC it)) :
    Calls Try.prog 16 #[.agg #[.bool mk, .int .u8 ty, .int .u16 sq, .int .u32 tm, .int .u32 sr, .slice A1 cs.length c1, .slice A2 it.length c2, .string TX, .int .i64 pd], .agg #[.bool mk, .int .u8 ty, .int .u16 sq, .int .u32 tm, .int .u32 sr, .slice B1 cs.length d1, .slice B2 it.length d2, .string TX, .int .i64 pd]] w fun e w' => e = .returned (.bool true) ∧ Below w.heap.size w w' := by
  have CS := fun w' (hb : Below w.heap.size w w') => same_yes A2 B2 c2 d2 it w' ((h3.below hb (Nat.le_refl _)).more hb.size) ((h4.below hb (Nat.le_refl _)).more hb.size) hi
  obtain ⟨n1, hn1⟩ : ∃ n, cs.length = n := ⟨_, rfl⟩
  obtain ⟨n2, hn2⟩ : ∃ n, it.length = n := ⟨_, rfl⟩
  rw [hn2] at CS
  rw [hn1] at h1 h2 hc
  rw [hn1, hn2]
  have H1 := Lib.hid h1
  have H2 := Lib.hid h2
  have HN := Lib.hid hn1
  have CS := Lib.hid CS
  clear h1 h2 h3 h4 hn1 hn2 hi
  have HA := Lib.hid ((Whole.new w 51 #[.bool mk, .int .u8 ty, .int .u16 sq, .int .u32 tm, .int .u32 sr, .slice A1 n1 c1, .slice A2 n2 c2, .string TX, .int .i64 pd]).alloc (.cells #[.bool mk, .int .u8 ty, .int .u16 sq, .int .u32 tm, .int .u32 sr, .slice B1 n1 d1, .slice B2 n2 d2, .string TX, .int .i64 pd] 51))
  have HB := Lib.hid (Whole.new2 w (.cells #[.bool mk, .int .u8 ty, .int .u16 sq, .int .u32 tm, .int .u32 sr, .slice A1 n1 c1, .slice A2 n2 c2, .string TX, .int .i64 pd] 51) 51 #[.bool mk, .int .u8 ty, .int .u16 sq, .int .u32 tm, .int .u32 sr, .slice B1 n1 d1, .slice B2 n2 d2, .string TX, .int .i64 pd])
  have HW := Lib.hid (((Below.refl w.heap.size w).alloc (Nat.le_refl _) (.cells #[.bool mk, .int .u8 ty, .int .u16 sq, .int .u32 tm, .int .u32 sr, .slice A1 n1 c1, .slice A2 n2 c2, .string TX, .int .i64 pd] 51)).alloc (by simp) (.cells #[.bool mk, .int .u8 ty, .int .u16 sq, .int .u32 tm, .int .u32 sr, .slice B1 n1 d1, .slice B2 n2 d2, .string TX, .int .i64 pd] 51))
  go_enter Try.func16, Try.ntmps16
  go_wp2_with fail
  refine (CS.out _ HW.out).mono ?_
  rintro e w1 ⟨rfl, m, hm⟩
  obtain ⟨w2, hw2⟩ : ∃ z, z = w1 := ⟨_, rfl⟩
  have HA2 := Lib.hid (show Whole w2 w.heap.size 51 #[.bool mk, .int .u8 ty, .int .u16 sq, .int .u32 tm, .int .u32 sr, .slice A1 n1 c1, .slice A2 n2 c2, .string TX, .int .i64 pd] from by rw [hw2, hm]; exact HA.out)
  have HB2 := Lib.hid (show Whole w2 (w.heap.size + 1) 51 #[.bool mk, .int .u8 ty, .int .u16 sq, .int .u32 tm, .int .u32 sr, .slice B1 n1 d1, .slice B2 n2 d2, .string TX, .int .i64 pd] from by rw [hw2, hm]; exact HB.out)
  have HW2 := Lib.hid (show Below w.heap.size w w2 from by rw [hw2, hm]; exact ⟨HW.out.os, HW.out.tape, HW.out.output, HW.out.size, HW.out.block⟩)
  rw [← hw2]
  clear hm hw2 HA HB HW CS
  have a5 := HA2.out.cell 5
  go_wp2_with fail
  go_loopw [5] (fun i wr => ∃ k : Nat, k ≤ n1 ∧ i = .int .i64 (k : Int) ∧ ∃ q, wr = w2.drewN q) (fun i _ => n1 - (intOf i).toNat)
  case atStart => exact ⟨0, Nat.zero_le _, rfl, 0, rfl⟩
  case round =>
    obtain ⟨k, hk, rfl, q, rfl⟩ := hrel
    have a0 : (w2.drewN q).cell? ⟨w.heap.size, 0, none⟩ = _ := HA2.out.cell 0
    have a1 : (w2.drewN q).cell? ⟨w.heap.size, 1, none⟩ = _ := HA2.out.cell 1
    have a2 : (w2.drewN q).cell? ⟨w.heap.size, 2, none⟩ = _ := HA2.out.cell 2
    have a3 : (w2.drewN q).cell? ⟨w.heap.size, 3, none⟩ = _ := HA2.out.cell 3
    have a4 : (w2.drewN q).cell? ⟨w.heap.size, 4, none⟩ = _ := HA2.out.cell 4
    have a5 : (w2.drewN q).cell? ⟨w.heap.size, 5, none⟩ = _ := HA2.out.cell 5
    have a6 : (w2.drewN q).cell? ⟨w.heap.size, 6, none⟩ = _ := HA2.out.cell 6
    have a7 : (w2.drewN q).cell? ⟨w.heap.size, 7, none⟩ = _ := HA2.out.cell 7
    have a8 : (w2.drewN q).cell? ⟨w.heap.size, 8, none⟩ = _ := HA2.out.cell 8
    have b0 : (w2.drewN q).cell? ⟨(w.heap.size + 1), 0, none⟩ = _ := HB2.out.cell 0
    have b1 : (w2.drewN q).cell? ⟨(w.heap.size + 1), 1, none⟩ = _ := HB2.out.cell 1
    have b2 : (w2.drewN q).cell? ⟨(w.heap.size + 1), 2, none⟩ = _ := HB2.out.cell 2
    have b3 : (w2.drewN q).cell? ⟨(w.heap.size + 1), 3, none⟩ = _ := HB2.out.cell 3
    have b4 : (w2.drewN q).cell? ⟨(w.heap.size + 1), 4, none⟩ = _ := HB2.out.cell 4
    have b5 : (w2.drewN q).cell? ⟨(w.heap.size + 1), 5, none⟩ = _ := HB2.out.cell 5
    have b6 : (w2.drewN q).cell? ⟨(w.heap.size + 1), 6, none⟩ = _ := HB2.out.cell 6
    have b7 : (w2.drewN q).cell? ⟨(w.heap.size + 1), 7, none⟩ = _ := HB2.out.cell 7
    have b8 : (w2.drewN q).cell? ⟨(w.heap.size + 1), 8, none⟩ = _ := HB2.out.cell 8
    by_cases hlt : k < n1
    · obtain ⟨x, hx⟩ : ∃ x, cs[k]? = some x := ⟨cs[k]'(by rw [HN.out]; exact hlt), by simp⟩
      obtain ⟨g1, o1, rfl, hg1, hc1⟩ := H1.out.2 (by omega)
      obtain ⟨g2, o2, rfl, hg2, hc2⟩ := H2.out.2 (by omega)
      have r1 : (w2.drewN q).cell? ⟨g1, o1 + k, none⟩ = some (.int .u32 (x : Int)) := (HW2.out.cell (p := ⟨g1, o1 + k, none⟩) hg1).trans (hc1 k _ (u32s_get hx))
      have r2 : (w2.drewN q).cell? ⟨g2, o2 + k, none⟩ = some (.int .u32 (x : Int)) := (HW2.out.cell (p := ⟨g2, o2 + k, none⟩) hg2).trans (hc2 k _ (u32s_get hx))
      have i1 : (0 : Int) ≤ (k : Int) := by omega
      have i2 : (k : Int) < (n1 : Int) := by omega
      obtain ⟨xx, hxx⟩ : ∃ z, (x : Int) = z := ⟨_, rfl⟩
      rw [hxx] at r1 r2
      clear hc1 hc2 hx hxx
      obtain ⟨wq, hwq⟩ : ∃ z, z = w2.drewN q := ⟨_, rfl⟩
      have HQ := Lib.hid (show ∃ p, wq = w2.drewN p from ⟨q, hwq⟩)
      rw [← hwq] at a0 b0 a1 b1 a2 b2 a3 b3 a4 b4 a5 b5 a6 b6 a7 b7 a8 b8 r1 r2 ⊢
      clear hwq
      go_wp2_with fail
      go_quiet (fail)
      go_wp2_with fail
      go_roundw
      case rel => exact ⟨k + 1, by omega, by go_num, by obtain ⟨p, rfl⟩ := HQ.out; exact ⟨_, World.drewN_drewN ..⟩⟩
      case measure => simp [intOf]; omega
    · obtain rfl : k = n1 := by omega
      have HEND := Lib.hid (show Below w.heap.size w (w2.drewN q) from ⟨HW2.out.os, HW2.out.tape, HW2.out.output, HW2.out.size, HW2.out.block⟩)
      go_wp2_with fail
      go_ret
      exact ⟨ret_bool (by simp), HEND.out⟩
end Go.Proofs.Yticnaljfnjiofaa
