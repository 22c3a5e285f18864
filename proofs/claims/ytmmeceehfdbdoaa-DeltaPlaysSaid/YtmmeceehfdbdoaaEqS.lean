/-
  == of structs, field by field.
-/
import Derived.Test.YtmmeceehfdbdoaaWords
import Derived.ChangeKeysEq
namespace Go.Proofs.Ytmmeceehfdbdoaa
open Go.RowKit

theorem eqs_nil {P : Program} {w : World} {d : Nat} {xs ys : Array Value} : (Op.eqFields d xs ys []).run P w = .ok true w := by
  rw [Op.eqFields.eq_1]
  rfl
theorem eqs_cons {P : Program} {w : World} {d : Nat} {xs ys : Array Value} {f : Field} {fs : List Field} {a b : Value} {r s : Bool} (hn : f.name ≠ "_") (hp : P.plainKey f.type = true) (hx : xs[f.offset]? = some a) (hy : ys[f.offset]? = some b)
    (hr : (Op.equalIn d f.type a b).run P w = .ok r w) (hs : (Op.eqFields d xs ys fs).run P w = .ok s w) : (Op.eqFields d xs ys (f :: fs)).run P w = .ok (r && s) w := by
  rw [Op.eqFields.eq_2, if_pos hn]
  have e1 := run_part_plain w hp hx
  have e2 := run_part_plain w hp hy
  rw [Sem.run_bind, e1, Result.andThen, Sem.run_bind, e2, Result.andThen, Sem.run_bind, hr, Result.andThen]
  cases r
  · rfl
  · simpa using hs

theorem fields_of {P : Program} {t : TypeId} {fs : Array Field} (h : P.underlying t = some (.struct fs)) : P.fieldsOf t = fs := by rw [Program.fieldsOf.eq_1, h]
theorem eqs_struct {P : Program} {t : TypeId} {fs : Array Field} (h : P.underlying t = some (.struct fs)) (hp : P.stoodInHeld t = false) {w : World} {xs ys : Array Value} {r : Bool} (hr : (Op.eqFields 9999 xs ys fs.toList).run P w = .ok r w) :
    (Op.equalIn 10000 t (.agg xs) (.agg ys)).run P w = .ok r w := by
  rw [run_equalIn_struct w 9999 t xs ys (by rw [fields_of h, h]) hp, fields_of h, hr]

end Go.Proofs.Ytmmeceehfdbdoaa
