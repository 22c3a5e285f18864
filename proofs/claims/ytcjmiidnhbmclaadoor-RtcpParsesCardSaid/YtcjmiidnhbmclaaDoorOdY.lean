/-
  The contract of octet's Bytes.
-/
import Derived.Test.YtcjmiidnhbmclaaDoorOdA
namespace Go.Proofs.YtcjmiidnhbmclaaDoor
open Go.RowKit
variable {lo : Nat}

/-- Bytes's outcome: a copy of the head, in memory that is newer than the call. -/
def Byted (w : World) (lo g : Nat) (hd rs : List UInt8) (e' : Int) (en : Ending) (w' : World) : Prop :=
  ∃ A c, en = .returned (.slice A hd.length c) ∧ w'.ownsRow w.heap.size 5 1 (.slice A hd.length c) hd.length (u8s hd) ∧ CutAt w' lo g rs e' ∧ w.grownBy w' (some g)

theorem bytes_nil (n : Int) (w : World) : Calls Tryd.prog 40 #[.pointer none, .int .i64 n] w fun e w' => e = .returned (.slice none 0 0) ∧ w = w' := by
  have hnil : ∀ w, (binOp .eql 25 (.slice none 0 0) (.slice none 0 0)).run Tryd.prog w = .ok (.bool true) w := fun w => Lib.run_eql_slice_nil (P := Tryd.prog) w 25 5 none 0 0 0 0 Tryd.underlying25
  by_cases hn : 0 ≤ n
  all_goals
    go_enter Tryd.func40, Tryd.ntmps40
    go_wp2
    go_ret
    exact ⟨rfl, rfl⟩

theorem bytes_any (g : Nat) (l : List UInt8) (e n : Int) (w : World) (h : CutAt w lo g l e) (hl : l.length ≤ 140737488355328) :
    Calls Tryd.prog 40 #[.pointer (some ⟨g, 0, none⟩), .int .i64 n] w (Byted w lo g (headS l e n (decide (0 ≤ n))) (restS l e n (decide (0 ≤ n))) (errS l e n (decide (0 ≤ n)))) := by
  go_enter Tryd.func40, Tryd.ntmps40
  go_wp2_with fail
  refine (take_any g l e n (decide (0 ≤ n)) w h (by simp)).mono ?_
  rintro e' w1 ⟨A, k, c, rfl, hr, hc, hg⟩
  have hk : k = (headS l e n (decide (0 ≤ n))).length := by have := hr.1; rw [u8s_length] at this; omega
  have hle := head_le l e n (decide (0 ≤ n))
  subst hk
  go_wp2_with fail
  refine (clone_any A _ c _ w1 (hr.more (Nat.le_of_lt hc.lt)) (by omega)).mono ?_
  rintro e' w2 ⟨A', c', rfl, hown, hb⟩
  have hfin : Byted w lo g (headS l e n (decide (0 ≤ n))) (restS l e n (decide (0 ≤ n))) (errS l e n (decide (0 ≤ n))) (.returned (.slice A' (headS l e n (decide (0 ≤ n))).length c')) w2 :=
    ⟨A', c', rfl, oown_base hown hg.size, hc.below hb hc.lt, only_trans hg (only_below hb _)⟩
  have H := Lib.hid hfin
  clear hfin hown hb hc hg hr
  go_wp2_with fail
  go_ret
  exact H.out
end Go.Proofs.YtcjmiidnhbmclaaDoor
