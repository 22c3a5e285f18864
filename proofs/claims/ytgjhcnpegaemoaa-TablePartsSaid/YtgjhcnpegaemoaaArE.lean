/-
  '==' and '!=' of Refs.
-/
import Derived.Test.YtgjhcnpegaemoaaEqS
import Derived.Test.YtgjhcnpegaemoaaProg
namespace Go.Proofs.Ytgjhcnpegaemoaa
open Go.RowKit
theorem eqs_ref (w : World) (a b c d : Int) : (Op.equalIn 10000 39 (.agg #[.int .i64 a, .int .u32 b]) (.agg #[.int .i64 c, .int .u32 d])).run Try.prog w = .ok (a == c && (b == d && true)) w := by
  exact eqs_struct Try.underlying39 (by kernel_rfl) (eqs_cons (by decide) (by kernel_rfl) rfl rfl (run_equalIn_int w 9998 3 .i64 .i64 a c Try.underlying3)
    (eqs_cons (by decide) (by kernel_rfl) rfl rfl (run_equalIn_int w 9998 25 .u32 .u32 b d Try.underlying25)
    (eqs_nil)))
theorem eql_ref (w : World) (a b c d : Int) (r : Bool) (h : (a == c && b == d) = r) : (binOp .eql 39 (.agg #[.int .i64 a, .int .u32 b]) (.agg #[.int .i64 c, .int .u32 d])).run Try.prog w = .ok (.bool r) w := by
  rw [run_eql_struct, eqs_ref, ← h]
  simp
theorem neq_ref (w : World) (a b c d : Int) (r : Bool) (h : (!(a == c && b == d)) = r) : (binOp .neq 39 (.agg #[.int .i64 a, .int .u32 b]) (.agg #[.int .i64 c, .int .u32 d])).run Try.prog w = .ok (.bool r) w := by
  rw [run_neq_struct, eqs_ref, ← h]
  simp
end Go.Proofs.Ytgjhcnpegaemoaa
