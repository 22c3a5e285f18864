/-
  From the row's condition on the package's table to its cells; what Put, Parse, Is say; small laws for the laws of layer 9.
-/
import Derived.Test.YtcjmiidnhbmclaaDoorRcT
import Derived.Test.YtcjmiidnhbmclaaDoorRows
import Derived.Test.YtcjmiidnhbmclaaDoorTie
import Derived.Test.YtcjmiidnhbmclaaDoorCards
import Derived.LaidMore
import Derived.Lib.LaidU8
import Derived.ProofKit
import Derived.OpenShut
import Derived.Stop.Joined
import Derived.SevenTiedAt
namespace Go.Proofs.YtcjmiidnhbmclaaDoor
open Go.RowKit
set_option maxRecDepth 100000

def laid9 : List (String × DataW Unit) := [("louver/rtcp.forms", Rows.laid_louver_rtcp_forms)]
theorem gForms : Tryd.prog.globalNamed "louver/rtcp.forms" = some 0 := by kernel_rfl
theorem tForms : (Tryd.prog.globals[0]?).map (·.type) = some 93 := by kernel_rfl
theorem c92 : Tryd.prog.cellsOf 92 = 2 := by kernel_rfl
theorem c5 : Tryd.prog.cellsOf 5 = 1 := by kernel_rfl
theorem door_met (os : Os) (args : Array Value) : laidMetH Tryd.prog laid9 ((World.doorLaid Tryd.prog 400 os).forCall (fun _ _ => 0) ⟨#[], args, []⟩).memory :=
  laidMetH_of_parts3 (fuel := 8) (laidMet_of_run' 8 (by kernel_rfl) (by kernel_rfl)) (by kernel_rfl) (by kernel_rfl)
theorem forms_of_laid {W : World} (h : laidMetH Tryd.prog laid9 W) : Forms W := by
  rw [MakeChecks.laidMetH_plain _ _ _ (by kernel_rfl)] at h
  obtain ⟨g, t, cs, fuel, p, hg, hty, hvar, hd⟩ := Lib.laidMet.reads h (n := "louver/rtcp.forms") (d := Rows.laid_louver_rtcp_forms) (by simp [laid9])
  obtain rfl := Option.some.inj (gForms.symm.trans hg)
  obtain rfl := Option.some.inj (tForms.symm.trans hty)
  have key : ∀ i (hi : i < 6) (a b : Int), ([DataW.agg [.lit (.int .u8 200), .lit (.int .u8 0)], .agg [.lit (.int .u8 201), .lit (.int .u8 0)], .agg [.lit (.int .u8 203), .lit (.int .u8 0)], .agg [.lit (.int .u8 205), .lit (.int .u8 1)], .agg [.lit (.int .u8 206), .lit (.int .u8 1)], .agg [.lit (.int .u8 206), .lit (.int .u8 4)]] : List (DataW Unit))[i]? = some (.agg ([a, b].map fun z => .lit (.int .u8 z))) →
      W.cell? ⟨0, 2 * i, none⟩ = some (.int .u8 a) ∧ W.cell? ⟨0, 2 * i + 1, none⟩ = some (.int .u8 b) := by
    intro i hi a b hab
    obtain ⟨fuel', d, q, hdi, he⟩ := Lib.array_elem Tryd.underlying93 hd i hi
    rw [hab] at hdi
    obtain rfl := Option.some.inj hdi
    rw [c92] at he
    have hcs := Lib.ints_of_struct Tryd.underlying92 (fun j f hj => by
      match j, hj with
      | 0, hj => simp at hj; subst hj; exact ⟨Tryd.underlying5, rfl, c5⟩
      | 1, hj => simp at hj; subst hj; exact ⟨Tryd.underlying5, rfl, c5⟩
      | j + 2, hj => simp at hj) (by rw [c92]; rfl) he
    have e0 := congrArg (·[0]?) hcs
    have e1 := congrArg (·[1]?) hcs
    simp only [List.getElem?_take, List.getElem?_drop] at e0 e1
    constructor
    · rw [World.var?_cell hg hvar (2 * i), ← Array.getElem?_toList]
      simpa [Nat.mul_comm] using e0
    · rw [World.var?_cell hg hvar (2 * i + 1), ← Array.getElem?_toList]
      simpa [Nat.mul_comm] using e1
  have k0 := key 0 (by decide) 200 0 rfl
  have k1 := key 1 (by decide) 201 0 rfl
  have k2 := key 2 (by decide) 203 0 rfl
  have k3 := key 3 (by decide) 205 1 rfl
  have k4 := key 4 (by decide) 206 1 rfl
  have k5 := key 5 (by decide) 206 4 rfl
  have hpos : 0 < W.heap.size := by
    rcases Nat.eq_zero_or_pos W.heap.size with h0 | h0
    · have hn : W.heap[0]? = none := by simp [h0]
      have := k0.1
      simp [World.cell?, hn] at this
    · exact h0
  refine ⟨hpos, fun j u hu => ?_⟩
  have hj : j < 12 := (List.getElem?_eq_some_iff.1 hu).1
  match j, hj, hu with
  | 0, _, hu => obtain rfl := Option.some.inj hu; exact k0.1
  | 1, _, hu => obtain rfl := Option.some.inj hu; exact k0.2
  | 2, _, hu => obtain rfl := Option.some.inj hu; exact k1.1
  | 3, _, hu => obtain rfl := Option.some.inj hu; exact k1.2
  | 4, _, hu => obtain rfl := Option.some.inj hu; exact k2.1
  | 5, _, hu => obtain rfl := Option.some.inj hu; exact k2.2
  | 6, _, hu => obtain rfl := Option.some.inj hu; exact k3.1
  | 7, _, hu => obtain rfl := Option.some.inj hu; exact k3.2
  | 8, _, hu => obtain rfl := Option.some.inj hu; exact k4.1
  | 9, _, hu => obtain rfl := Option.some.inj hu; exact k4.2
  | 10, _, hu => obtain rfl := Option.some.inj hu; exact k5.1
  | 11, _, hu => obtain rfl := Option.some.inj hu; exact k5.2
theorem own9 : ownKnob Tryd.prog.godebug = none := by kernel_rfl
end Go.Proofs.YtcjmiidnhbmclaaDoor
