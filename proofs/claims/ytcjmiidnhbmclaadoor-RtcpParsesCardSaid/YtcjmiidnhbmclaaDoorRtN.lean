/-
  Contracts of the document's answers of layer 9: a number at a place, Is.
-/
import Derived.Test.YtcjmiidnhbmclaaDoorRtM
import Derived.Test.YtcjmiidnhbmclaaDoorOctS
import Derived.Test.YtcjmiidnhbmclaaDoorQueL
import Derived.Deep.DeepCutAuto
namespace Go.Proofs.YtcjmiidnhbmclaaDoor
set_option maxRecDepth 100000
open Go.RowKit

set_option maxRecDepth 100000 in
theorem num_any (l : List UInt8) (i n : Nat) (w : World) (hl : l.length ≤ maxLen) (h1 : 1 ≤ n) (h8 : n ≤ 8) (hin : i + n ≤ l.length) :
    Calls Tryd.prog 28 #[.string (str l), .int .i64 i, .int .i64 n] w fun e w' => e = .returned (.int .u64 (numAt l i n : Nat)) ∧ Below w.heap.size w w' := by
  have hdl : (l.drop i).length ≤ maxLen := by rw [List.length_drop]; omega
  have C := reftake_any (l.drop i) 0 (n : Int) w hdl
  have e1 : headS (l.drop i) 0 (n : Int) (sizeB (n : Int)) = (l.drop i).take n := by
    unfold headS
    rw [if_pos ⟨rfl, sizeB_yes h1 h8, by rw [List.length_drop]; omega⟩, Int.toNat_natCast]
  unfold Somed at C
  rw [e1] at C
  obtain ⟨rs, hrs⟩ : ∃ r, restS (l.drop i) 0 (n : Int) (sizeB (n : Int)) = r := ⟨_, rfl⟩
  obtain ⟨er, her⟩ : ∃ r, errS (l.drop i) 0 (n : Int) (sizeB (n : Int)) = r := ⟨_, rfl⟩
  rw [hrs, her] at C
  have HC := Lib.hid C
  unfold maxLen at hl
  have hi1 : (0 : Int) ≤ (i : Int) := by omega
  have hi2 : (i : Int) ≤ (l.length : Int) := by omega
  obtain ⟨x, hx⟩ : ∃ x, x = be ((l.drop i).take n) := ⟨_, rfl⟩
  have HX := Lib.hid hx
  rw [← hx] at HC
  unfold numAt
  rw [← hx]
  clear hdl C e1 hrs her hx
  go_enter Tryd.func28, Tryd.ntmps28
  go_wp2_with fail
  refine HC.out.mono ?_
  rintro e w1 ⟨rfl, b1⟩
  have HB := Lib.hid (b1.alloc b1.size (.cells #[.string (str rs), .int .i64 er] 106))
  clear HC b1
  go_wp2
  go_ret
  exact ⟨rfl, HB.out⟩

theorem ret_bool9 {a b : Bool} (h : a = b) : Ending.returned (.bool a) = .returned (.bool b) := by rw [h]
set_option maxRecDepth 100000 in
theorem refIs_any (l : List UInt8) (w : World) (hl : l.length ≤ maxLen) :
    Calls Tryd.prog 18 #[.string (str l)] w fun e w' => e = .returned (.bool (isB l)) ∧ w = w' := by
  unfold maxLen at hl
  match l, hl with
  | [], _ =>
    go_enter Tryd.func18, Tryd.ntmps18
    go_wp2
    go_ret
    exact ⟨by simp [isB], rfl⟩
  | [a], _ =>
    go_enter Tryd.func18, Tryd.ntmps18
    go_wp2
    go_ret
    exact ⟨by simp [isB], rfl⟩
  | a :: b :: r, hl =>
    have e1 : isB (a :: b :: r) = decide (128 ≤ a.toNat ∧ a.toNat < 192 ∧ 192 ≤ b.toNat ∧ b.toNat < 224) := rfl
    rw [e1]
    have h2 : (1 : Int) < ((a :: b :: r).length : Int) := by simp; omega
    have h0 : (0 : Int) < ((a :: b :: r).length : Int) := by simp; omega
    have g0 : (a :: b :: r)[0]? = some a := rfl
    have g1 : (a :: b :: r)[1]? = some b := rfl
    obtain ⟨x, hx⟩ : ∃ x, a.toNat = x := ⟨_, rfl⟩
    obtain ⟨y, hy⟩ : ∃ x, b.toNat = x := ⟨_, rfl⟩
    rw [hx, hy]
    clear e1
    go_enter Tryd.func18, Tryd.ntmps18
    go_wp2
    all_goals
      go_ret
      refine ⟨ret_bool9 ?_, rfl⟩
      rw [Bool.eq_iff_iff]
      simp
      omega
end Go.Proofs.YtcjmiidnhbmclaaDoor
