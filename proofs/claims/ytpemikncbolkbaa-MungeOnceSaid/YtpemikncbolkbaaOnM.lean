/-
  Rows of numbers that go round (MungeOnce): what is built in memory of the call's own.
-/
import Derived.Test.YtpemikncbolkbaaMuT
import Derived.Test.YtpemikncbolkbaaQueL
import Derived.Laws.OwnMore
import Derived.Deep.AppendLies
namespace Go.Proofs.Ytpemikncbolkbaa
open Go.RowKit
theorem info_u16o : (Try.prog.info? 22).map (fun i => (i.zero, i.size, i.bytes)) = some (some (.int .u16 0), 1, 2) := by kernel_rfl
theorem own_eleven {w : World} {base : Nat} {e : TypeId} {z n r : Nat} {v : Value} {xs : List Value} (h : w.ownsRow base e z v n xs) (hr : r < base) (u0 u1 u2 u3 u4 u5 u6 u7 u8 u9 u10 : Value) :
    (((((((((((w.setCell ⟨r, 0, none⟩ u0).setCell ⟨r, 1, none⟩ u1).setCell ⟨r, 2, none⟩ u2).setCell ⟨r, 3, none⟩ u3).setCell ⟨r, 4, none⟩ u4).setCell ⟨r, 5, none⟩ u5).setCell ⟨r, 6, none⟩ u6).setCell ⟨r, 7, none⟩ u7).setCell ⟨r, 8, none⟩ u8).setCell ⟨r, 9, none⟩ u9).setCell ⟨r, 10, none⟩ u10).ownsRow base e z v n xs := by
  have h := ownsRow_setCell_below h (a := ⟨r, 0, none⟩) hr u0
  have h := ownsRow_setCell_below h (a := ⟨r, 1, none⟩) hr u1
  have h := ownsRow_setCell_below h (a := ⟨r, 2, none⟩) hr u2
  have h := ownsRow_setCell_below h (a := ⟨r, 3, none⟩) hr u3
  have h := ownsRow_setCell_below h (a := ⟨r, 4, none⟩) hr u4
  have h := ownsRow_setCell_below h (a := ⟨r, 5, none⟩) hr u5
  have h := ownsRow_setCell_below h (a := ⟨r, 6, none⟩) hr u6
  have h := ownsRow_setCell_below h (a := ⟨r, 7, none⟩) hr u7
  have h := ownsRow_setCell_below h (a := ⟨r, 8, none⟩) hr u8
  have h := ownsRow_setCell_below h (a := ⟨r, 9, none⟩) hr u9
  have h := ownsRow_setCell_below h (a := ⟨r, 10, none⟩) hr u10
  exact h
/-- The cells of numbers, f on. -/
def lowF (f : Int) (cs : List Int) : List Value := cs.map fun c => Value.int .u16 ((f + c) % 65536)
theorem lowF_append (f : Int) (cs : List Int) (c : Int) : lowF f (cs ++ [c]) = lowF f cs ++ [.int .u16 ((f + c) % 65536)] := by simp [lowF]
theorem lowF_get {f : Int} {cs : List Int} {m : Nat} {c : Int} (h : cs[m]? = some c) : (lowF f cs)[m]? = some (.int .u16 ((f + c) % 65536)) := by simp [lowF, h]
theorem lowF_length (f : Int) (cs : List Int) : (lowF f cs).length = cs.length := by simp [lowF]
/-- Is a number among the first m ones? -/
def among (f : Int) (cs : List Int) (m : Nat) (y : Int) : Bool := (cs.take m).any fun c => decide ((f + c) % 65536 = y)
theorem among_zero (f : Int) (cs : List Int) (y : Int) : among f cs 0 y = false := by simp [among]
theorem among_next {f : Int} {cs : List Int} {m : Nat} {c y : Int} (h : cs[m]? = some c) : among f cs (m + 1) y = (among f cs m y || decide ((f + c) % 65536 = y)) := by
  unfold among
  rw [List.take_add_one, h]
  simp
theorem among_all {f : Int} {cs : List Int} {y : Int} : among f cs cs.length y = cs.any fun c => decide ((f + c) % 65536 = y) := by
  unfold among
  rw [List.take_length]
theorem own_at0 {w : World} {base : Nat} {e : TypeId} {n : Nat} {A : Option Addr} {c : Nat} {xs : List Value} (h : w.ownsRow base e 1 (.slice A n c) n xs) (hn : 0 < n) :
    ∃ g, A = some ⟨g, 0, none⟩ ∧ base ≤ g ∧ g < w.heap.size ∧ ∀ j, j < n → w.cell? ⟨g, j, none⟩ = xs[j]? := by
  obtain ⟨g, cap, hv, hb, hg⟩ := h.form hn
  have hA : A = some ⟨g, 0, none⟩ := by injection hv
  subst hA
  exact ⟨g, rfl, hb, hg, fun j hj => h.cellAt j (by omega)⟩
end Go.Proofs.Ytpemikncbolkbaa
