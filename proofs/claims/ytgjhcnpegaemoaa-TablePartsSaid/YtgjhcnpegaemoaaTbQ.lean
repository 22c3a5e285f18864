/-
  '==' and '!=' of routes and of downtracks (layer 17), the program's and the document's.
-/
import Derived.Test.YtgjhcnpegaemoaaTbL
import Derived.Test.YtgjhcnpegaemoaaArE
namespace Go.Proofs.Ytgjhcnpegaemoaa
open Go.RowKit
set_option maxRecDepth 100000
theorem run_part_agg {P : Program} (w : World) {e : TypeId} {fs : Array Field} {z : Nat} (hu : P.underlying e = some (.struct fs)) (hz : P.cellsOf e = z) {xs : Array Value} {off : Nat} {xa : Array Value} (hx : xs.extract off (off + z) = xa) : (part e xs off).run P w = .ok (.agg xa) w := by
  obtain ⟨i, hi⟩ := info_of_underlying hu
  unfold part isAgg
  simp [run_underlying hu, run_sizeOf w hi, hz, hx]
/-- A field that is a struct. -/
theorem eqs_consA {P : Program} {w : World} {d : Nat} {xs ys : Array Value} {f : Field} {fs : List Field} {fs' : Array Field} {xa ya : Array Value} {r s : Bool} {e : TypeId} {z : Nat} (hn : f.name ≠ "_") (hu : P.underlying e = some (.struct fs')) (he : f.type = e) (hz : P.cellsOf e = z)
    (hx : xs.extract f.offset (f.offset + z) = xa) (hy : ys.extract f.offset (f.offset + z) = ya)
    (hr : (Op.equalIn d e (.agg xa) (.agg ya)).run P w = .ok r w) (hs : (Op.eqFields d xs ys fs).run P w = .ok s w) : (Op.eqFields d xs ys (f :: fs)).run P w = .ok (r && s) w := by
  subst he
  rw [Op.eqFields.eq_2, if_pos hn]
  have e1 := run_part_agg w hu hz hx
  have e2 := run_part_agg w hu hz hy
  rw [Sem.run_bind, e1, Result.andThen, Sem.run_bind, e2, Result.andThen, Sem.run_bind, hr, Result.andThen]
  cases r
  · rfl
  · simpa using hs
theorem eqs_structd {P : Program} {t : TypeId} {fs : Array Field} (h : P.underlying t = some (.struct fs)) (hp : P.stoodInHeld t = false) {w : World} {d : Nat} {xs ys : Array Value} {r : Bool} (hr : (Op.eqFields (d + 1) xs ys fs.toList).run P w = .ok r w) :
    (Op.equalIn (d + 2) t (.agg xs) (.agg ys)).run P w = .ok r w := by
  rw [run_equalIn_struct w (d + 1) t xs ys (by rw [fields_of h, h]) hp, fields_of h, hr]

theorem eqs_refd (w : World) (d : Nat) (a b c e : Int) : (Op.equalIn (d + 2) 39 (.agg #[.int .i64 a, .int .u32 b]) (.agg #[.int .i64 c, .int .u32 e])).run Try.prog w = .ok (a == c && (b == e && true)) w := by
  exact eqs_structd Try.underlying39 (by kernel_rfl) (eqs_cons (by decide) (by kernel_rfl) rfl rfl (run_equalIn_int w d 3 .i64 .i64 a c Try.underlying3)
    (eqs_cons (by decide) (by kernel_rfl) rfl rfl (run_equalIn_int w d 25 .u32 .u32 b e Try.underlying25)
    (eqs_nil)))
def Rt.eqb (a b : Rt) : Bool := a.ssrc == b.ssrc && (a.track == b.track && (a.src == b.src && (a.layer == b.layer && (a.shard == b.shard && (true)))))
def Dn.eqb (a b : Dn) : Bool := a.ssrc == b.ssrc && ((a.slot == b.slot && (a.turn == b.turn && true)) && (a.who == b.who && (a.track == b.track && (a.shard == b.shard && (a.src == b.src && (a.layer == b.layer && (a.tid == b.tid && (a.muted == b.muted && (true)))))))))
theorem Rt.eqb_iff (a b : Rt) : a.eqb b = true ↔ a = b := by
  cases a; cases b
  simp [Rt.eqb]
theorem Dn.eqb_iff (a b : Dn) : a.eqb b = true ↔ a = b := by
  cases a; cases b
  simp [Dn.eqb, and_assoc]
instance : DecidableEq Rt := fun a b => decidable_of_iff (a.eqb b = true) (Rt.eqb_iff a b)
instance : DecidableEq Dn := fun a b => decidable_of_iff (a.eqb b = true) (Dn.eqb_iff a b)
theorem Rt.eqb_eq (a b : Rt) : a.eqb b = decide (a = b) := by rw [Bool.eq_iff_iff, Rt.eqb_iff, decide_eq_true_iff]
theorem Dn.eqb_eq (a b : Dn) : a.eqb b = decide (a = b) := by rw [Bool.eq_iff_iff, Dn.eqb_iff, decide_eq_true_iff]
theorem eqs_rt (w : World) (a b : Rt) : (Op.equalIn 10000 37 (.agg a.cells.toArray) (.agg b.cells.toArray)).run Try.prog w = .ok (decide (a = b)) w := by
  rw [← Rt.eqb_eq]
  exact eqs_structd (d := 9998) Try.underlying37 (by kernel_rfl) (eqs_cons (by decide) (by kernel_rfl) rfl rfl (run_equalIn_int w 9998 25 .u32 .u32 a.ssrc b.ssrc Try.underlying25)
    (eqs_cons (by decide) (by kernel_rfl) rfl rfl (run_equalIn_int w 9998 3 .i64 .i64 a.track b.track Try.underlying3)
    (eqs_cons (by decide) (by kernel_rfl) rfl rfl (run_equalIn_int w 9998 3 .i64 .i64 a.src b.src Try.underlying3)
    (eqs_cons (by decide) (by kernel_rfl) rfl rfl (run_equalIn_int w 9998 3 .i64 .i64 a.layer b.layer Try.underlying3)
    (eqs_cons (by decide) (by kernel_rfl) rfl rfl (run_equalIn_int w 9998 3 .i64 .i64 a.shard b.shard Try.underlying3)
    (eqs_nil))))))
theorem eql_rt (w : World) (a b : Rt) : (binOp .eql 37 (.agg a.cells.toArray) (.agg b.cells.toArray)).run Try.prog w = .ok (.bool (decide (a = b))) w := by
  rw [run_eql_struct, eqs_rt]
  rfl
theorem neq_rt (w : World) (a b : Rt) : (binOp .neq 37 (.agg a.cells.toArray) (.agg b.cells.toArray)).run Try.prog w = .ok (.bool (!decide (a = b))) w := by
  rw [run_neq_struct, eqs_rt]
  rfl
theorem eqs_dn (w : World) (a b : Dn) : (Op.equalIn 10000 41 (.agg a.cells.toArray) (.agg b.cells.toArray)).run Try.prog w = .ok (decide (a = b)) w := by
  rw [← Dn.eqb_eq]
  exact eqs_structd (d := 9998) Try.underlying41 (by kernel_rfl) (eqs_cons (by decide) (by kernel_rfl) rfl rfl (run_equalIn_int w 9998 25 .u32 .u32 a.ssrc b.ssrc Try.underlying25)
    (eqs_consA (by decide) Try.underlying39 rfl (show Try.prog.cellsOf 39 = 2 from by kernel_rfl) (xa := #[.int .i64 a.slot, .int .u32 a.turn]) (ya := #[.int .i64 b.slot, .int .u32 b.turn]) rfl rfl (eqs_refd w 9997 a.slot a.turn b.slot b.turn)
    (eqs_cons (by decide) (by kernel_rfl) rfl rfl (run_equalIn_int w 9998 3 .i64 .i64 a.who b.who Try.underlying3)
    (eqs_cons (by decide) (by kernel_rfl) rfl rfl (run_equalIn_int w 9998 3 .i64 .i64 a.track b.track Try.underlying3)
    (eqs_cons (by decide) (by kernel_rfl) rfl rfl (run_equalIn_int w 9998 3 .i64 .i64 a.shard b.shard Try.underlying3)
    (eqs_cons (by decide) (by kernel_rfl) rfl rfl (run_equalIn_int w 9998 3 .i64 .i64 a.src b.src Try.underlying3)
    (eqs_cons (by decide) (by kernel_rfl) rfl rfl (run_equalIn_int w 9998 3 .i64 .i64 a.layer b.layer Try.underlying3)
    (eqs_cons (by decide) (by kernel_rfl) rfl rfl (run_equalIn_int w 9998 3 .i64 .i64 a.tid b.tid Try.underlying3)
    (eqs_cons (by decide) (by kernel_rfl) rfl rfl (run_equalIn_bool' w 9998 4 a.muted b.muted Try.underlying4)
    (eqs_nil))))))))))
theorem eql_dn (w : World) (a b : Dn) : (binOp .eql 41 (.agg a.cells.toArray) (.agg b.cells.toArray)).run Try.prog w = .ok (.bool (decide (a = b))) w := by
  rw [run_eql_struct, eqs_dn]
  rfl
theorem neq_dn (w : World) (a b : Dn) : (binOp .neq 41 (.agg a.cells.toArray) (.agg b.cells.toArray)).run Try.prog w = .ok (.bool (!decide (a = b))) w := by
  rw [run_neq_struct, eqs_dn]
  rfl
theorem eqs_dd (w : World) (a b : Dn) : (Op.equalIn 10000 49 (.agg a.cells.toArray) (.agg b.cells.toArray)).run Try.prog w = .ok (decide (a = b)) w := by
  rw [← Dn.eqb_eq]
  exact eqs_structd (d := 9998) Try.underlying49 (by kernel_rfl) (eqs_cons (by decide) (by kernel_rfl) rfl rfl (run_equalIn_int w 9998 25 .u32 .u32 a.ssrc b.ssrc Try.underlying25)
    (eqs_consA (by decide) Try.underlying39 rfl (show Try.prog.cellsOf 39 = 2 from by kernel_rfl) (xa := #[.int .i64 a.slot, .int .u32 a.turn]) (ya := #[.int .i64 b.slot, .int .u32 b.turn]) rfl rfl (eqs_refd w 9997 a.slot a.turn b.slot b.turn)
    (eqs_cons (by decide) (by kernel_rfl) rfl rfl (run_equalIn_int w 9998 3 .i64 .i64 a.who b.who Try.underlying3)
    (eqs_cons (by decide) (by kernel_rfl) rfl rfl (run_equalIn_int w 9998 3 .i64 .i64 a.track b.track Try.underlying3)
    (eqs_cons (by decide) (by kernel_rfl) rfl rfl (run_equalIn_int w 9998 3 .i64 .i64 a.shard b.shard Try.underlying3)
    (eqs_cons (by decide) (by kernel_rfl) rfl rfl (run_equalIn_int w 9998 3 .i64 .i64 a.src b.src Try.underlying3)
    (eqs_cons (by decide) (by kernel_rfl) rfl rfl (run_equalIn_int w 9998 3 .i64 .i64 a.layer b.layer Try.underlying3)
    (eqs_cons (by decide) (by kernel_rfl) rfl rfl (run_equalIn_int w 9998 3 .i64 .i64 a.tid b.tid Try.underlying3)
    (eqs_cons (by decide) (by kernel_rfl) rfl rfl (run_equalIn_bool' w 9998 4 a.muted b.muted Try.underlying4)
    (eqs_nil))))))))))
theorem eql_dd (w : World) (a b : Dn) : (binOp .eql 49 (.agg a.cells.toArray) (.agg b.cells.toArray)).run Try.prog w = .ok (.bool (decide (a = b))) w := by
  rw [run_eql_struct, eqs_dd]
  rfl
theorem neq_dd (w : World) (a b : Dn) : (binOp .neq 49 (.agg a.cells.toArray) (.agg b.cells.toArray)).run Try.prog w = .ok (.bool (!decide (a = b))) w := by
  rw [run_neq_struct, eqs_dd]
  rfl
end Go.Proofs.Ytgjhcnpegaemoaa
