/-
  '!=' of the document's reports, pairs and asks.
-/
import Derived.Test.YtcjmiidnhbmclaaDoorRtG
import Derived.ChangeKeysEq
namespace Go.Proofs.YtcjmiidnhbmclaaDoor
set_option maxRecDepth 100000
open Go.RowKit

deriving instance DecidableEq for Rp
deriving instance DecidableEq for Ms

theorem eqs_nil {P : Program} {w : World} {d : Nat} {xs ys : Array Value} : (Op.eqFields d xs ys []).run P w = .ok true w := by
  rw [Op.eqFields.eq_1]
  rfl
theorem eqs_cons {P : Program} {w : World} {d : Nat} {xs ys : Array Value} {f : Field} {fs : List Field} {a b : Value} {r s : Bool} (hn : f.name ≠ "_") (hp : P.plainKey f.type = true) (hx : xs[f.offset]? = some a) (hy : ys[f.offset]? = some b)
    (hr : (Op.equalIn d f.type a b).run P w = .ok r w) (hs : (Op.eqFields d xs ys fs).run P w = .ok s w) : (Op.eqFields d xs ys (f :: fs)).run P w = .ok (r && s) w := by
  rw [Op.eqFields.eq_2, if_pos hn]
  have e1 := run_part_plain w hp hx
  have e2 := run_part_plain w hp hy
  rw [Sem.run_bind, e1, Result.andThen, Sem.run_bind, e2, Result.andThen, Sem.run_bind, hr, Result.andThen]
  cases r
  · rfl
  · simpa using hs

theorem fields_of {P : Program} {t : TypeId} {fs : Array Field} (h : P.underlying t = some (.struct fs)) : P.fieldsOf t = fs := by rw [Program.fieldsOf.eq_1, h]
theorem eqs_struct {P : Program} {t : TypeId} {fs : Array Field} (h : P.underlying t = some (.struct fs)) (hp : P.stoodInHeld t = false) {w : World} {xs ys : Array Value} {r : Bool} (hr : (Op.eqFields 9999 xs ys fs.toList).run P w = .ok r w) :
    (Op.equalIn 10000 t (.agg xs) (.agg ys)).run P w = .ok r w := by
  rw [run_equalIn_struct w 9999 t xs ys (by rw [fields_of h, h]) hp, fields_of h, hr]

theorem eqs_R9 (w : World) (a0 a1 a2 a3 a4 a5 a6 b0 b1 b2 b3 b4 b5 b6 : Nat) : (Op.equalIn 10000 61 (.agg #[.int .u32 (a0 : Int), .int .u8 (a1 : Int), .int .u32 (a2 : Int), .int .u32 (a3 : Int), .int .u32 (a4 : Int), .int .u32 (a5 : Int), .int .u32 (a6 : Int)]) (.agg #[.int .u32 (b0 : Int), .int .u8 (b1 : Int), .int .u32 (b2 : Int), .int .u32 (b3 : Int), .int .u32 (b4 : Int), .int .u32 (b5 : Int), .int .u32 (b6 : Int)])).run Tryd.prog w = .ok ((a0 : Int) == (b0 : Int) && ((a1 : Int) == (b1 : Int) && ((a2 : Int) == (b2 : Int) && ((a3 : Int) == (b3 : Int) && ((a4 : Int) == (b4 : Int) && ((a5 : Int) == (b5 : Int) && ((a6 : Int) == (b6 : Int) && true))))))) w := by
  exact eqs_struct Tryd.underlying61 (by kernel_rfl) (eqs_cons (by decide) (by kernel_rfl) rfl rfl (run_equalIn_int w 9998 43 .u32 .u32 (a0 : Int) (b0 : Int) Tryd.underlying43)
    (eqs_cons (by decide) (by kernel_rfl) rfl rfl (run_equalIn_int w 9998 5 .u8 .u8 (a1 : Int) (b1 : Int) Tryd.underlying5)
    (eqs_cons (by decide) (by kernel_rfl) rfl rfl (run_equalIn_int w 9998 43 .u32 .u32 (a2 : Int) (b2 : Int) Tryd.underlying43)
    (eqs_cons (by decide) (by kernel_rfl) rfl rfl (run_equalIn_int w 9998 43 .u32 .u32 (a3 : Int) (b3 : Int) Tryd.underlying43)
    (eqs_cons (by decide) (by kernel_rfl) rfl rfl (run_equalIn_int w 9998 43 .u32 .u32 (a4 : Int) (b4 : Int) Tryd.underlying43)
    (eqs_cons (by decide) (by kernel_rfl) rfl rfl (run_equalIn_int w 9998 43 .u32 .u32 (a5 : Int) (b5 : Int) Tryd.underlying43)
    (eqs_cons (by decide) (by kernel_rfl) rfl rfl (run_equalIn_int w 9998 43 .u32 .u32 (a6 : Int) (b6 : Int) Tryd.underlying43)
    (eqs_nil))))))))
theorem neq_R9 (w : World) (a0 a1 a2 a3 a4 a5 a6 b0 b1 b2 b3 b4 b5 b6 : Nat) : (binOp .neq 61 (.agg #[.int .u32 (a0 : Int), .int .u8 (a1 : Int), .int .u32 (a2 : Int), .int .u32 (a3 : Int), .int .u32 (a4 : Int), .int .u32 (a5 : Int), .int .u32 (a6 : Int)]) (.agg #[.int .u32 (b0 : Int), .int .u8 (b1 : Int), .int .u32 (b2 : Int), .int .u32 (b3 : Int), .int .u32 (b4 : Int), .int .u32 (b5 : Int), .int .u32 (b6 : Int)])).run Tryd.prog w = .ok (.bool (!((a0 : Int) == (b0 : Int) && ((a1 : Int) == (b1 : Int) && ((a2 : Int) == (b2 : Int) && ((a3 : Int) == (b3 : Int) && ((a4 : Int) == (b4 : Int) && ((a5 : Int) == (b5 : Int) && ((a6 : Int) == (b6 : Int) && true))))))))) w := by
  rw [run_neq_struct, eqs_R9]
  rfl
theorem eqs_P9 (w : World) (a0 a1 b0 b1 : Nat) : (Op.equalIn 10000 84 (.agg #[.int .i64 (a0 : Int), .int .i64 (a1 : Int)]) (.agg #[.int .i64 (b0 : Int), .int .i64 (b1 : Int)])).run Tryd.prog w = .ok ((a0 : Int) == (b0 : Int) && ((a1 : Int) == (b1 : Int) && true)) w := by
  exact eqs_struct Tryd.underlying84 (by kernel_rfl) (eqs_cons (by decide) (by kernel_rfl) rfl rfl (run_equalIn_int w 9998 3 .i64 .i64 (a0 : Int) (b0 : Int) Tryd.underlying3)
    (eqs_cons (by decide) (by kernel_rfl) rfl rfl (run_equalIn_int w 9998 3 .i64 .i64 (a1 : Int) (b1 : Int) Tryd.underlying3)
    (eqs_nil)))
theorem neq_P9 (w : World) (a0 a1 b0 b1 : Nat) : (binOp .neq 84 (.agg #[.int .i64 (a0 : Int), .int .i64 (a1 : Int)]) (.agg #[.int .i64 (b0 : Int), .int .i64 (b1 : Int)])).run Tryd.prog w = .ok (.bool (!((a0 : Int) == (b0 : Int) && ((a1 : Int) == (b1 : Int) && true)))) w := by
  rw [run_neq_struct, eqs_P9]
  rfl
theorem eqs_A9 (w : World) (a0 a1 b0 b1 : Nat) : (Op.equalIn 10000 87 (.agg #[.int .u32 (a0 : Int), .int .u8 (a1 : Int)]) (.agg #[.int .u32 (b0 : Int), .int .u8 (b1 : Int)])).run Tryd.prog w = .ok ((a0 : Int) == (b0 : Int) && ((a1 : Int) == (b1 : Int) && true)) w := by
  exact eqs_struct Tryd.underlying87 (by kernel_rfl) (eqs_cons (by decide) (by kernel_rfl) rfl rfl (run_equalIn_int w 9998 43 .u32 .u32 (a0 : Int) (b0 : Int) Tryd.underlying43)
    (eqs_cons (by decide) (by kernel_rfl) rfl rfl (run_equalIn_int w 9998 5 .u8 .u8 (a1 : Int) (b1 : Int) Tryd.underlying5)
    (eqs_nil)))
theorem neq_A9 (w : World) (a0 a1 b0 b1 : Nat) : (binOp .neq 87 (.agg #[.int .u32 (a0 : Int), .int .u8 (a1 : Int)]) (.agg #[.int .u32 (b0 : Int), .int .u8 (b1 : Int)])).run Tryd.prog w = .ok (.bool (!((a0 : Int) == (b0 : Int) && ((a1 : Int) == (b1 : Int) && true)))) w := by
  rw [run_neq_struct, eqs_A9]
  rfl
end Go.Proofs.YtcjmiidnhbmclaaDoor
