/-
  '==' and '!=' of two descriptors, of the program's and of the document's.
-/
import Derived.Test.YtliiodjcpkabmaaMem
import Derived.Test.YtliiodjcpkabmaaVpL
import Derived.ChangeKeysEq
namespace Go.Proofs.Ytliiodjcpkabmaa
open Go.RowKit

theorem eqs_nil {P : Program} {w : World} {d : Nat} {xs ys : Array Value} : (Op.eqFields d xs ys []).run P w = .ok true w := by
  rw [Op.eqFields.eq_1]
  rfl
theorem eqs_cons {P : Program} {w : World} {d : Nat} {xs ys : Array Value} {f : Field} {fs : List Field} {a b : Value} {r s : Bool} (hn : f.name ≠ "_") (hp : P.plainKey f.type = true) (hx : xs[f.offset]? = some a) (hy : ys[f.offset]? = some b)
    (hr : (Op.equalIn d f.type a b).run P w = .ok r w) (hs : (Op.eqFields d xs ys fs).run P w = .ok s w) : (Op.eqFields d xs ys (f :: fs)).run P w = .ok (r && s) w := by
  rw [Op.eqFields.eq_2, if_pos hn]
  have e1 := run_part_plain w hp hx
  have e2 := run_part_plain w hp hy
  rw [Sem.run_bind, e1, Result.andThen, Sem.run_bind, e2, Result.andThen, Sem.run_bind, hr, Result.andThen]
  cases r
  · rfl
  · simpa using hs

theorem fields_of {P : Program} {t : TypeId} {fs : Array Field} (h : P.underlying t = some (.struct fs)) : P.fieldsOf t = fs := by rw [Program.fieldsOf.eq_1, h]
theorem eqs_struct {P : Program} {t : TypeId} {fs : Array Field} (h : P.underlying t = some (.struct fs)) (hp : P.stoodInHeld t = false) {w : World} {xs ys : Array Value} {r : Bool} (hr : (Op.eqFields 9999 xs ys fs.toList).run P w = .ok r w) :
    (Op.equalIn 10000 t (.agg xs) (.agg ys)).run P w = .ok r w := by
  rw [run_equalIn_struct w 9999 t xs ys (by rw [fields_of h, h]) hp, fields_of h, hr]

/-- Are they alike? -/
def Dsc.eqb (d e : Dsc) : Bool :=
  d.more == e.more && (d.lone == e.lone && (d.start == e.start && ((d.part : Int) == (e.part : Int) && (d.hasPic == e.hasPic && (d.wide == e.wide && ((d.pic : Int) == (e.pic : Int) && (d.hasTl0 == e.hasTl0 && ((d.tl0 : Int) == (e.tl0 : Int) && (d.hasTid == e.hasTid && ((d.tid : Int) == (e.tid : Int) && (d.sync == e.sync && (d.hasKey == e.hasKey && ((d.key : Int) == (e.key : Int) && true)))))))))))))
theorem Dsc.eqb_iff (d e : Dsc) : d.eqb e = true ↔ d = e := by
  cases d
  cases e
  simp only [Dsc.eqb, Bool.and_eq_true, beq_iff_eq, Int.natCast_inj, Dsc.mk.injEq, and_true]
theorem Dsc.eqb_self (d : Dsc) : d.eqb d = true := (Dsc.eqb_iff d d).2 rfl
theorem Dsc.eqb_not {d e : Dsc} (h : d ≠ e) : d.eqb e = false := by
  cases hh : d.eqb e
  · rfl
  · exact absurd ((Dsc.eqb_iff d e).1 hh) h

theorem eqs_desc (w : World) (d e : Dsc) : (Op.equalIn 10000 26 (.agg d.cells) (.agg e.cells)).run Try.prog w = .ok (d.eqb e) w := by
  exact eqs_struct Try.underlying26 (by kernel_rfl) (eqs_cons (by decide) (by kernel_rfl) rfl rfl (run_equalIn_bool' w 9998 4 d.more e.more Try.underlying4)
    (eqs_cons (by decide) (by kernel_rfl) rfl rfl (run_equalIn_bool' w 9998 4 d.lone e.lone Try.underlying4)
    (eqs_cons (by decide) (by kernel_rfl) rfl rfl (run_equalIn_bool' w 9998 4 d.start e.start Try.underlying4)
    (eqs_cons (by decide) (by kernel_rfl) rfl rfl (run_equalIn_int w 9998 5 .u8 .u8 (d.part : Int) (e.part : Int) Try.underlying5)
    (eqs_cons (by decide) (by kernel_rfl) rfl rfl (run_equalIn_bool' w 9998 4 d.hasPic e.hasPic Try.underlying4)
    (eqs_cons (by decide) (by kernel_rfl) rfl rfl (run_equalIn_bool' w 9998 4 d.wide e.wide Try.underlying4)
    (eqs_cons (by decide) (by kernel_rfl) rfl rfl (run_equalIn_int w 9998 24 .u16 .u16 (d.pic : Int) (e.pic : Int) Try.underlying24)
    (eqs_cons (by decide) (by kernel_rfl) rfl rfl (run_equalIn_bool' w 9998 4 d.hasTl0 e.hasTl0 Try.underlying4)
    (eqs_cons (by decide) (by kernel_rfl) rfl rfl (run_equalIn_int w 9998 5 .u8 .u8 (d.tl0 : Int) (e.tl0 : Int) Try.underlying5)
    (eqs_cons (by decide) (by kernel_rfl) rfl rfl (run_equalIn_bool' w 9998 4 d.hasTid e.hasTid Try.underlying4)
    (eqs_cons (by decide) (by kernel_rfl) rfl rfl (run_equalIn_int w 9998 5 .u8 .u8 (d.tid : Int) (e.tid : Int) Try.underlying5)
    (eqs_cons (by decide) (by kernel_rfl) rfl rfl (run_equalIn_bool' w 9998 4 d.sync e.sync Try.underlying4)
    (eqs_cons (by decide) (by kernel_rfl) rfl rfl (run_equalIn_bool' w 9998 4 d.hasKey e.hasKey Try.underlying4)
    (eqs_cons (by decide) (by kernel_rfl) rfl rfl (run_equalIn_int w 9998 5 .u8 .u8 (d.key : Int) (e.key : Int) Try.underlying5)
    (eqs_nil)))))))))))))))
theorem eql_desc (w : World) (d e : Dsc) : (binOp .eql 26 (.agg d.cells) (.agg e.cells)).run Try.prog w = .ok (.bool (d.eqb e)) w := by
  rw [run_eql_struct, eqs_desc]
  rfl
theorem neq_desc (w : World) (d e : Dsc) : (binOp .neq 26 (.agg d.cells) (.agg e.cells)).run Try.prog w = .ok (.bool (!d.eqb e)) w := by
  rw [run_neq_struct, eqs_desc]
  rfl

theorem eqs_plain (w : World) (d e : Dsc) : (Op.equalIn 10000 31 (.agg d.plain) (.agg e.plain)).run Try.prog w = .ok (d.eqb e) w := by
  exact eqs_struct Try.underlying31 (by kernel_rfl) (eqs_cons (by decide) (by kernel_rfl) rfl rfl (run_equalIn_bool' w 9998 4 d.more e.more Try.underlying4)
    (eqs_cons (by decide) (by kernel_rfl) rfl rfl (run_equalIn_bool' w 9998 4 d.lone e.lone Try.underlying4)
    (eqs_cons (by decide) (by kernel_rfl) rfl rfl (run_equalIn_bool' w 9998 4 d.start e.start Try.underlying4)
    (eqs_cons (by decide) (by kernel_rfl) rfl rfl (run_equalIn_int w 9998 3 .i64 .i64 (d.part : Int) (e.part : Int) Try.underlying3)
    (eqs_cons (by decide) (by kernel_rfl) rfl rfl (run_equalIn_bool' w 9998 4 d.hasPic e.hasPic Try.underlying4)
    (eqs_cons (by decide) (by kernel_rfl) rfl rfl (run_equalIn_bool' w 9998 4 d.wide e.wide Try.underlying4)
    (eqs_cons (by decide) (by kernel_rfl) rfl rfl (run_equalIn_int w 9998 3 .i64 .i64 (d.pic : Int) (e.pic : Int) Try.underlying3)
    (eqs_cons (by decide) (by kernel_rfl) rfl rfl (run_equalIn_bool' w 9998 4 d.hasTl0 e.hasTl0 Try.underlying4)
    (eqs_cons (by decide) (by kernel_rfl) rfl rfl (run_equalIn_int w 9998 3 .i64 .i64 (d.tl0 : Int) (e.tl0 : Int) Try.underlying3)
    (eqs_cons (by decide) (by kernel_rfl) rfl rfl (run_equalIn_bool' w 9998 4 d.hasTid e.hasTid Try.underlying4)
    (eqs_cons (by decide) (by kernel_rfl) rfl rfl (run_equalIn_int w 9998 3 .i64 .i64 (d.tid : Int) (e.tid : Int) Try.underlying3)
    (eqs_cons (by decide) (by kernel_rfl) rfl rfl (run_equalIn_bool' w 9998 4 d.sync e.sync Try.underlying4)
    (eqs_cons (by decide) (by kernel_rfl) rfl rfl (run_equalIn_bool' w 9998 4 d.hasKey e.hasKey Try.underlying4)
    (eqs_cons (by decide) (by kernel_rfl) rfl rfl (run_equalIn_int w 9998 3 .i64 .i64 (d.key : Int) (e.key : Int) Try.underlying3)
    (eqs_nil)))))))))))))))
theorem eql_plain (w : World) (d e : Dsc) : (binOp .eql 31 (.agg d.plain) (.agg e.plain)).run Try.prog w = .ok (.bool (d.eqb e)) w := by
  rw [run_eql_struct, eqs_plain]
  rfl
theorem neq_plain (w : World) (d e : Dsc) : (binOp .neq 31 (.agg d.plain) (.agg e.plain)).run Try.prog w = .ok (.bool (!d.eqb e)) w := by
  rw [run_neq_struct, eqs_plain]
  rfl

end Go.Proofs.Ytliiodjcpkabmaa
