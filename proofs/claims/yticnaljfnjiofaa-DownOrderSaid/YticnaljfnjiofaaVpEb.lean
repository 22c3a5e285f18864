/-
  '==' and '!=' of two descriptors, of the program's and of the document's.
-/
import Derived.Test.YticnaljfnjiofaaEqS
import Derived.Test.YticnaljfnjiofaaGoc
import Derived.Test.YticnaljfnjiofaaGvl
import Derived.ChangeKeysEq
namespace Go.Proofs.Yticnaljfnjiofaa
open Go.RowKit

/-- Are they alike? -/
def Dsc.eqb (d e : Dsc) : Bool :=
  d.more == e.more && (d.lone == e.lone && (d.start == e.start && ((d.part : Int) == (e.part : Int) && (d.hasPic == e.hasPic && (d.wide == e.wide && ((d.pic : Int) == (e.pic : Int) && (d.hasTl0 == e.hasTl0 && ((d.tl0 : Int) == (e.tl0 : Int) && (d.hasTid == e.hasTid && ((d.tid : Int) == (e.tid : Int) && (d.sync == e.sync && (d.hasKey == e.hasKey && ((d.key : Int) == (e.key : Int) && true)))))))))))))
theorem Dsc.eqb_iff (d e : Dsc) : d.eqb e = true ↔ d = e := by
  cases d
  cases e
  simp only [Dsc.eqb, Bool.and_eq_true, beq_iff_eq, Int.natCast_inj, Dsc.mk.injEq, and_true]
theorem Dsc.eqb_self (d : Dsc) : d.eqb d = true := (Dsc.eqb_iff d d).2 rfl
theorem Dsc.eqb_not {d e : Dsc} (h : d ≠ e) : d.eqb e = false := by
  cases hh : d.eqb e
  · rfl
  · exact absurd ((Dsc.eqb_iff d e).1 hh) h

theorem eqs_desc (w : World) (d e : Dsc) : (Op.equalIn 10000 46 (.agg d.cells) (.agg e.cells)).run Try.prog w = .ok (d.eqb e) w := by
  exact eqs_struct Try.underlying46 (by kernel_rfl) (eqs_cons (by decide) (by kernel_rfl) rfl rfl (run_equalIn_bool' w 9998 4 d.more e.more Try.underlying4)
    (eqs_cons (by decide) (by kernel_rfl) rfl rfl (run_equalIn_bool' w 9998 4 d.lone e.lone Try.underlying4)
    (eqs_cons (by decide) (by kernel_rfl) rfl rfl (run_equalIn_bool' w 9998 4 d.start e.start Try.underlying4)
    (eqs_cons (by decide) (by kernel_rfl) rfl rfl (run_equalIn_int w 9998 5 .u8 .u8 (d.part : Int) (e.part : Int) Try.underlying5)
    (eqs_cons (by decide) (by kernel_rfl) rfl rfl (run_equalIn_bool' w 9998 4 d.hasPic e.hasPic Try.underlying4)
    (eqs_cons (by decide) (by kernel_rfl) rfl rfl (run_equalIn_bool' w 9998 4 d.wide e.wide Try.underlying4)
    (eqs_cons (by decide) (by kernel_rfl) rfl rfl (run_equalIn_int w 9998 28 .u16 .u16 (d.pic : Int) (e.pic : Int) Try.underlying28)
    (eqs_cons (by decide) (by kernel_rfl) rfl rfl (run_equalIn_bool' w 9998 4 d.hasTl0 e.hasTl0 Try.underlying4)
    (eqs_cons (by decide) (by kernel_rfl) rfl rfl (run_equalIn_int w 9998 5 .u8 .u8 (d.tl0 : Int) (e.tl0 : Int) Try.underlying5)
    (eqs_cons (by decide) (by kernel_rfl) rfl rfl (run_equalIn_bool' w 9998 4 d.hasTid e.hasTid Try.underlying4)
    (eqs_cons (by decide) (by kernel_rfl) rfl rfl (run_equalIn_int w 9998 5 .u8 .u8 (d.tid : Int) (e.tid : Int) Try.underlying5)
    (eqs_cons (by decide) (by kernel_rfl) rfl rfl (run_equalIn_bool' w 9998 4 d.sync e.sync Try.underlying4)
    (eqs_cons (by decide) (by kernel_rfl) rfl rfl (run_equalIn_bool' w 9998 4 d.hasKey e.hasKey Try.underlying4)
    (eqs_cons (by decide) (by kernel_rfl) rfl rfl (run_equalIn_int w 9998 5 .u8 .u8 (d.key : Int) (e.key : Int) Try.underlying5)
    (eqs_nil)))))))))))))))
theorem eql_desc (w : World) (d e : Dsc) : (binOp .eql 46 (.agg d.cells) (.agg e.cells)).run Try.prog w = .ok (.bool (d.eqb e)) w := by
  rw [run_eql_struct, eqs_desc]
  rfl
theorem neq_desc (w : World) (d e : Dsc) : (binOp .neq 46 (.agg d.cells) (.agg e.cells)).run Try.prog w = .ok (.bool (!d.eqb e)) w := by
  rw [run_neq_struct, eqs_desc]
  rfl

end Go.Proofs.Yticnaljfnjiofaa
