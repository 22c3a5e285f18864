/-
  The code's small parts of rtp (layer 6): padding, Size.
-/
import Derived.Test.YticnaljfnjiofaaGpl
import Derived.Test.YticnaljfnjiofaaGex
import Derived.Test.YticnaljfnjiofaaExtN
import Derived.Deep.CutBlock
namespace Go.Proofs.Yticnaljfnjiofaa
open Go.RowKit
set_option linter.unusedSimpArgs false
set_option linter.unusedVariables false

/-- What is put is short. -/
theorem putB_small_len (l : List It) : (putB l).length ≤ 6100 := by
  by_cases he : putE l = 0
  · have h1 : l.length ≤ 14 ∧ ∀ i ∈ l, i.d.length ≤ 255 := by
      unfold putE at he
      split at he
      · cases he
      · split at he
        · cases he
        · rename_i h2 h3
          refine ⟨by omega, fun i hi => ?_⟩
          have h4 : i.wrong = false := by
            have := h3
            simp only [List.any_eq_true, not_exists, not_and, Bool.not_eq_true] at this
            exact this i hi
          unfold It.wrong at h4
          simp at h4
          omega
    exact putB_le (fun i hi => by have := h1.2 i hi; omega) (by omega)
  · rw [putB_no he]
    simp
theorem padB_zero : padB 0 = [] := rfl
set_option maxRecDepth 100000 in
theorem rpad_any (n : Nat) (hn : n ≤ 255) (w : World) : Calls Try.prog 76 #[.int .i64 n] w fun e w' => ∃ A c, e = .returned (.slice A n c) ∧ Row w' w'.heap.size 1 A n (u8s (padB n)) ∧ Below w.heap.size w w' := by
  obtain ⟨cs, hc1, hc2, hmk⟩ := make_noughts n (by omega) w
  have HR := Lib.hid (noughts_row w n cs hc1 hc2)
  have HW := Lib.hid (Whole.new w 5 cs)
  have HB := Lib.hid ((Below.refl w.heap.size w).alloc (Nat.le_refl _) (.cells cs 5))
  by_cases h0 : n = 0
  · have hz : ¬ (0 : Int) < (n : Int) := by omega
    have HP := Lib.hid (show padB n = List.replicate n 0 by rw [h0]; rfl)
    have HL := Lib.hid (show (List.replicate n (0 : UInt8)).length = n by simp)
    clear h0 hc1 hc2 HW
    go_enter Try.func76, Try.ntmps76
    go_wp2
    go_ret
    have hr : Row (w.alloc (.cells cs 5)) (w.alloc (.cells cs 5)).heap.size 1 (some ⟨w.heap.size, 0, none⟩) n (u8s (padB n)) := by rw [HP.out]; have := HR.out; rwa [HL.out] at this
    exact ⟨_, ⟨_, rfl⟩, hr, HB.out⟩
  have hpos : (0 : Int) < (n : Int) := by omega
  have hi1 : (0 : Int) ≤ (n : Int) - 1 := by omega
  have hi2 : (n : Int) - 1 < (n : Int) := by omega
  go_enter Try.func76, Try.ntmps76
  have hcs : cs[n - 1]? = some (.int .u8 0) := by
    have : cs.toList[n - 1]? = some (.int .u8 0) := by
      rw [hc1]
      unfold u8s
      rw [List.getElem?_map, List.getElem?_replicate, if_pos (by omega)]
      rfl
    simpa using this
  have HT : Hid ((cs.setIfInBounds (n - 1) (.int .u8 (n : Int))).toList = u8s (padB n)) := Lib.hid (by
    rw [Array.toList_setIfInBounds, hc1]
    unfold u8s padB
    rw [List.map_set]
    congr 2
    have : (UInt8.ofNat n).toNat = n := by simp; omega
    rw [this])
  have HS := Lib.hid (show (cs.setIfInBounds (n - 1) (.int .u8 (n : Int))).size = n * 1 by simp [hc2])
  clear hc1 hc2 HR HW
  go_wp2_with fail
  go_ret
  exact ⟨_, _, rfl, Row.fresh w _ _ 1 n _ HS.out HT.out, (Below.refl w.heap.size w).alloc (Nat.le_refl _) _⟩

set_option maxRecDepth 100000 in
theorem rsize_any (mk : Bool) (ty sq tm sr : Int) (A1 A2 : Option Addr) (n1 c1 c2 : Nat) (ps : List Ip) (w : World) (h1 : n1 ≤ 15) (hI : Its w A2 ps) (hl : ps.length ≤ maxLen) :
    Calls Try.prog 73 #[.agg #[.bool mk, .int .u8 ty, .int .u16 sq, .int .u32 tm, .int .u32 sr, .slice A1 n1 c1, .slice A2 ps.length c2]] w fun e w' => e = .returned (.int .i64 (headN n1 (ps.map Ip.it))) ∧ Below w.heap.size w w' := by
  have B0 := Lib.hid ((Below.refl w.heap.size w).alloc (Nat.le_refl _) (.cells #[.bool mk, .int .u8 ty, .int .u16 sq, .int .u32 tm, .int .u32 sr, .slice A1 n1 c1, .slice A2 ps.length c2] 32))
  have C := Lib.hid (extPut_any A2 c2 ps (w.alloc (.cells #[.bool mk, .int .u8 ty, .int .u16 sq, .int .u32 tm, .int .u32 sr, .slice A1 n1 c1, .slice A2 ps.length c2] 32)) (hI.next B0.out) hl)
  obtain ⟨bs, hbs⟩ : ∃ b, ps.map Ip.it = b := ⟨_, rfl⟩
  have he : bs = [] ↔ ps.length = 0 := by rw [← hbs]; cases ps <;> simp
  rw [hbs] at C ⊢
  obtain ⟨n2, hn2⟩ : ∃ n, ps.length = n := ⟨_, rfl⟩
  rw [hn2] at C he B0 ⊢
  clear hI hl hn2 hbs
  by_cases h0 : n2 = 0
  · have hz : headN n1 bs = 12 + 4 * n1 := by unfold headN; rw [if_pos (he.2 h0)]; rfl
    have HZ := Lib.hid hz
    subst h0
    clear C he hz
    go_enter Try.func73, Try.ntmps73
    go_wp2
    go_ret
    refine ⟨?_, B0.out⟩
    rw [HZ.out]
    first | rfl | exact ret_i64 (by omega)
  have HZ := Lib.hid (show headN n1 bs = 12 + 4 * n1 + (4 + (putB bs).length) by unfold headN; rw [if_neg (fun h => h0 (he.1 h))])
  clear he
  go_enter Try.func73, Try.ntmps73
  go_wp2_with fail
  refine C.out.mono ?_
  rintro e w1 ⟨A3, c3, rfl, hr3, b1⟩
  have HB := Lib.hid (B0.out.trans (b1.mono B0.out.size))
  have hpb := putB_small_len bs
  obtain ⟨L, hL⟩ : ∃ L, (putB bs).length = L := ⟨_, rfl⟩
  rw [hL] at HZ hpb ⊢
  clear hL hr3 b1 B0 C
  go_wp2
  go_ret
  exact ⟨by rw [HZ.out]; exact ret_i64 (by omega), HB.out⟩
end Go.Proofs.Yticnaljfnjiofaa
