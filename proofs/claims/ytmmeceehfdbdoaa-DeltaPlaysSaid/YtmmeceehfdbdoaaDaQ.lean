/-
  '!=' of how many there may be, of somebody, of subs, the program's and the document's (layer 18).
-/
import Derived.Test.YtmmeceehfdbdoaaDeL
import Derived.Test.YtmmeceehfdbdoaaDeR
import Derived.Test.YtmmeceehfdbdoaaEqS
import Derived.Test.YtmmeceehfdbdoaaProg
namespace Go.Proofs.Ytmmeceehfdbdoaa
open Go.RowKit
open Dl
set_option linter.unusedSimpArgs false
set_option linter.unusedVariables false
set_option maxRecDepth 100000
namespace Dl
def Cf.eqb (a b : Cf) : Bool := a.ps == b.ps && (a.ts == b.ts && (a.bs == b.bs && (a.sl == b.sl && (true))))
theorem Cf.eqb_iff (a b : Cf) : a.eqb b = true ↔ a = b := by
  cases a; cases b
  simp [Cf.eqb]
instance : DecidableEq Cf := fun a b => decidable_of_iff (a.eqb b = true) (Cf.eqb_iff a b)
theorem Cf.eqb_eq (a b : Cf) : a.eqb b = decide (a = b) := by rw [Bool.eq_iff_iff, Cf.eqb_iff, decide_eq_true_iff]
def Pn.eqb (a b : Pn) : Bool := a.who == b.who && (a.room == b.room && (a.rights == b.rights && (true)))
theorem Pn.eqb_iff (a b : Pn) : a.eqb b = true ↔ a = b := by
  cases a; cases b
  simp [Pn.eqb]
instance : DecidableEq Pn := fun a b => decidable_of_iff (a.eqb b = true) (Pn.eqb_iff a b)
theorem Pn.eqb_eq (a b : Pn) : a.eqb b = decide (a = b) := by rw [Bool.eq_iff_iff, Pn.eqb_iff, decide_eq_true_iff]
def Sb.eqb (a b : Sb) : Bool := a.who == b.who && (a.track == b.track && (a.layer == b.layer && (a.tid == b.tid && (a.muted == b.muted && (true)))))
theorem Sb.eqb_iff (a b : Sb) : a.eqb b = true ↔ a = b := by
  cases a; cases b
  simp [Sb.eqb]
instance : DecidableEq Sb := fun a b => decidable_of_iff (a.eqb b = true) (Sb.eqb_iff a b)
theorem Sb.eqb_eq (a b : Sb) : a.eqb b = decide (a = b) := by rw [Bool.eq_iff_iff, Sb.eqb_iff, decide_eq_true_iff]
end Dl
theorem eqs18_conf (w : World) (a b : Cf) : (Op.equalIn 10000 23 (.agg #[.int .i64 a.ps, .int .i64 a.ts, .int .i64 a.bs, .int .i64 a.sl]) (.agg #[.int .i64 b.ps, .int .i64 b.ts, .int .i64 b.bs, .int .i64 b.sl])).run Try.prog w = .ok (decide (a = b)) w := by
  rw [← Cf.eqb_eq]
  exact eqs_struct Try.underlying23 (by kernel_rfl) (eqs_cons (by decide) (by kernel_rfl) rfl rfl (run_equalIn_int w 9998 3 .i64 .i64 a.ps b.ps Try.underlying3)
    (eqs_cons (by decide) (by kernel_rfl) rfl rfl (run_equalIn_int w 9998 3 .i64 .i64 a.ts b.ts Try.underlying3)
    (eqs_cons (by decide) (by kernel_rfl) rfl rfl (run_equalIn_int w 9998 3 .i64 .i64 a.bs b.bs Try.underlying3)
    (eqs_cons (by decide) (by kernel_rfl) rfl rfl (run_equalIn_int w 9998 3 .i64 .i64 a.sl b.sl Try.underlying3)
    (eqs_nil)))))
theorem neq18_conf (w : World) (a b : Cf) : (binOp .neq 23 (.agg #[.int .i64 a.ps, .int .i64 a.ts, .int .i64 a.bs, .int .i64 a.sl]) (.agg #[.int .i64 b.ps, .int .i64 b.ts, .int .i64 b.bs, .int .i64 b.sl])).run Try.prog w = .ok (.bool (!decide (a = b))) w := by
  rw [run_neq_struct, eqs18_conf]
  rfl
theorem same18_conf (w : World) (a : Cf) : (binOp .neq 23 (.agg #[.int .i64 a.ps, .int .i64 a.ts, .int .i64 a.bs, .int .i64 a.sl]) (.agg #[.int .i64 a.ps, .int .i64 a.ts, .int .i64 a.bs, .int .i64 a.sl])).run Try.prog w = .ok (.bool false) w := by
  rw [neq18_conf, decide_eq_true rfl]
  rfl
theorem eqs18_sub (w : World) (a b : Sb) : (Op.equalIn 10000 55 (.agg #[.int .i64 a.who, .int .i64 a.track, .int .i64 a.layer, .int .i64 a.tid, .bool a.muted]) (.agg #[.int .i64 b.who, .int .i64 b.track, .int .i64 b.layer, .int .i64 b.tid, .bool b.muted])).run Try.prog w = .ok (decide (a = b)) w := by
  rw [← Sb.eqb_eq]
  exact eqs_struct Try.underlying55 (by kernel_rfl) (eqs_cons (by decide) (by kernel_rfl) rfl rfl (run_equalIn_int w 9998 3 .i64 .i64 a.who b.who Try.underlying3)
    (eqs_cons (by decide) (by kernel_rfl) rfl rfl (run_equalIn_int w 9998 3 .i64 .i64 a.track b.track Try.underlying3)
    (eqs_cons (by decide) (by kernel_rfl) rfl rfl (run_equalIn_int w 9998 3 .i64 .i64 a.layer b.layer Try.underlying3)
    (eqs_cons (by decide) (by kernel_rfl) rfl rfl (run_equalIn_int w 9998 3 .i64 .i64 a.tid b.tid Try.underlying3)
    (eqs_cons (by decide) (by kernel_rfl) rfl rfl (run_equalIn_bool' w 9998 4 a.muted b.muted Try.underlying4)
    (eqs_nil))))))
theorem neq18_sub (w : World) (a b : Sb) : (binOp .neq 55 (.agg #[.int .i64 a.who, .int .i64 a.track, .int .i64 a.layer, .int .i64 a.tid, .bool a.muted]) (.agg #[.int .i64 b.who, .int .i64 b.track, .int .i64 b.layer, .int .i64 b.tid, .bool b.muted])).run Try.prog w = .ok (.bool (!decide (a = b))) w := by
  rw [run_neq_struct, eqs18_sub]
  rfl
theorem same18_sub (w : World) (a : Sb) : (binOp .neq 55 (.agg #[.int .i64 a.who, .int .i64 a.track, .int .i64 a.layer, .int .i64 a.tid, .bool a.muted]) (.agg #[.int .i64 a.who, .int .i64 a.track, .int .i64 a.layer, .int .i64 a.tid, .bool a.muted])).run Try.prog w = .ok (.bool false) w := by
  rw [neq18_sub, decide_eq_true rfl]
  rfl
theorem eqs18_rp (w : World) (a b : Pn) : (Op.equalIn 10000 70 (.agg #[.int .i64 a.who, .int .i64 a.room, .int .i64 a.rights]) (.agg #[.int .i64 b.who, .int .i64 b.room, .int .i64 b.rights])).run Try.prog w = .ok (decide (a = b)) w := by
  rw [← Pn.eqb_eq]
  exact eqs_struct Try.underlying70 (by kernel_rfl) (eqs_cons (by decide) (by kernel_rfl) rfl rfl (run_equalIn_int w 9998 3 .i64 .i64 a.who b.who Try.underlying3)
    (eqs_cons (by decide) (by kernel_rfl) rfl rfl (run_equalIn_int w 9998 3 .i64 .i64 a.room b.room Try.underlying3)
    (eqs_cons (by decide) (by kernel_rfl) rfl rfl (run_equalIn_int w 9998 3 .i64 .i64 a.rights b.rights Try.underlying3)
    (eqs_nil))))
theorem neq18_rp (w : World) (a b : Pn) : (binOp .neq 70 (.agg #[.int .i64 a.who, .int .i64 a.room, .int .i64 a.rights]) (.agg #[.int .i64 b.who, .int .i64 b.room, .int .i64 b.rights])).run Try.prog w = .ok (.bool (!decide (a = b))) w := by
  rw [run_neq_struct, eqs18_rp]
  rfl
theorem same18_rp (w : World) (a : Pn) : (binOp .neq 70 (.agg #[.int .i64 a.who, .int .i64 a.room, .int .i64 a.rights]) (.agg #[.int .i64 a.who, .int .i64 a.room, .int .i64 a.rights])).run Try.prog w = .ok (.bool false) w := by
  rw [neq18_rp, decide_eq_true rfl]
  rfl
theorem eqs18_rb (w : World) (a b : Sb) : (Op.equalIn 10000 56 (.agg #[.int .i64 a.who, .int .i64 a.track, .int .i64 a.layer, .int .i64 a.tid, .bool a.muted]) (.agg #[.int .i64 b.who, .int .i64 b.track, .int .i64 b.layer, .int .i64 b.tid, .bool b.muted])).run Try.prog w = .ok (decide (a = b)) w := by
  rw [← Sb.eqb_eq]
  exact eqs_struct Try.underlying56 (by kernel_rfl) (eqs_cons (by decide) (by kernel_rfl) rfl rfl (run_equalIn_int w 9998 3 .i64 .i64 a.who b.who Try.underlying3)
    (eqs_cons (by decide) (by kernel_rfl) rfl rfl (run_equalIn_int w 9998 3 .i64 .i64 a.track b.track Try.underlying3)
    (eqs_cons (by decide) (by kernel_rfl) rfl rfl (run_equalIn_int w 9998 3 .i64 .i64 a.layer b.layer Try.underlying3)
    (eqs_cons (by decide) (by kernel_rfl) rfl rfl (run_equalIn_int w 9998 3 .i64 .i64 a.tid b.tid Try.underlying3)
    (eqs_cons (by decide) (by kernel_rfl) rfl rfl (run_equalIn_bool' w 9998 4 a.muted b.muted Try.underlying4)
    (eqs_nil))))))
theorem neq18_rb (w : World) (a b : Sb) : (binOp .neq 56 (.agg #[.int .i64 a.who, .int .i64 a.track, .int .i64 a.layer, .int .i64 a.tid, .bool a.muted]) (.agg #[.int .i64 b.who, .int .i64 b.track, .int .i64 b.layer, .int .i64 b.tid, .bool b.muted])).run Try.prog w = .ok (.bool (!decide (a = b))) w := by
  rw [run_neq_struct, eqs18_rb]
  rfl
theorem same18_rb (w : World) (a : Sb) : (binOp .neq 56 (.agg #[.int .i64 a.who, .int .i64 a.track, .int .i64 a.layer, .int .i64 a.tid, .bool a.muted]) (.agg #[.int .i64 a.who, .int .i64 a.track, .int .i64 a.layer, .int .i64 a.tid, .bool a.muted])).run Try.prog w = .ok (.bool false) w := by
  rw [neq18_rb, decide_eq_true rfl]
  rfl
theorem neq18_most (w : World) (a : Cf) : (binOp .neq 32 (.agg #[.int .i64 a.ps, .int .i64 a.ts, .int .i64 a.bs, .int .i64 a.sl]) (.agg #[.int .i64 a.ps, .int .i64 a.ts, .int .i64 a.bs, .int .i64 a.sl])).run Try.prog w = .ok (.bool false) w := by
  obtain ⟨i, hi⟩ : ∃ i, Try.prog.info? 3 = some i := Option.isSome_iff_exists.mp (by kernel_rfl)
  rw [run_neq_struct, show (10000 : Nat) = 9999 + 1 from rfl, run_equalIn_array w 9999 _ _ Try.underlying32 hi]
  have hc : Try.prog.cellsOf 3 = 1 := by kernel_rfl
  have hp : Try.prog.plainKey 3 = true := by kernel_rfl
  rw [hc, show List.range 4 = [0, 1, 2, 3] from rfl]
  have one : ∀ (x : Int), (Op.equalIn 9999 3 (.int .i64 x) (.int .i64 x)).run Try.prog w = .ok true w := by
    intro x
    rw [run_equalIn_int w 9998 3 .i64 .i64 x x Try.underlying3]
    simp
  have p0 := run_part_plain (xs := #[.int .i64 a.ps, .int .i64 a.ts, .int .i64 a.bs, .int .i64 a.sl]) (off := 0 * 1) w hp (v := .int .i64 a.ps) rfl
  have p1 := run_part_plain (xs := #[.int .i64 a.ps, .int .i64 a.ts, .int .i64 a.bs, .int .i64 a.sl]) (off := 1 * 1) w hp (v := .int .i64 a.ts) rfl
  have p2 := run_part_plain (xs := #[.int .i64 a.ps, .int .i64 a.ts, .int .i64 a.bs, .int .i64 a.sl]) (off := 2 * 1) w hp (v := .int .i64 a.bs) rfl
  have p3 := run_part_plain (xs := #[.int .i64 a.ps, .int .i64 a.ts, .int .i64 a.bs, .int .i64 a.sl]) (off := 3 * 1) w hp (v := .int .i64 a.sl) rfl
  simp only [Op.eqItems, Sem.run_bind, p0, p1, p2, p3, one, Result.andThen_ok, Bool.not_true, Bool.false_eq_true, if_false, Sem.run_pure]
end Go.Proofs.Ytmmeceehfdbdoaa
