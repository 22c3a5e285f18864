/-
  '==' and '!=' of numbers and of states (layer 13), the program's and the document's.
-/
import Derived.Test.YtpemikncbolkbaaMuT
import Derived.ChangeKeysEq
namespace Go.Proofs.Ytpemikncbolkbaa
open Go.RowKit
set_option maxRecDepth 100000

theorem eqs_nil {P : Program} {w : World} {d : Nat} {xs ys : Array Value} : (Op.eqFields d xs ys []).run P w = .ok true w := by
  rw [Op.eqFields.eq_1]
  rfl
theorem eqs_cons {P : Program} {w : World} {d : Nat} {xs ys : Array Value} {f : Field} {fs : List Field} {a b : Value} {r s : Bool} (hn : f.name ≠ "_") (hp : P.plainKey f.type = true) (hx : xs[f.offset]? = some a) (hy : ys[f.offset]? = some b)
    (hr : (Op.equalIn d f.type a b).run P w = .ok r w) (hs : (Op.eqFields d xs ys fs).run P w = .ok s w) : (Op.eqFields d xs ys (f :: fs)).run P w = .ok (r && s) w := by
  rw [Op.eqFields.eq_2, if_pos hn]
  have e1 := run_part_plain w hp hx
  have e2 := run_part_plain w hp hy
  rw [Sem.run_bind, e1, Result.andThen, Sem.run_bind, e2, Result.andThen, Sem.run_bind, hr, Result.andThen]
  cases r
  · rfl
  · simpa using hs
theorem run_part_agg {P : Program} (w : World) {e : TypeId} {fs : Array Field} {z : Nat} (hu : P.underlying e = some (.struct fs)) (hz : P.cellsOf e = z) {xs : Array Value} {off : Nat} {xa : Array Value} (hx : xs.extract off (off + z) = xa) : (part e xs off).run P w = .ok (.agg xa) w := by
  obtain ⟨i, hi⟩ := info_of_underlying hu
  unfold part isAgg
  simp [run_underlying hu, run_sizeOf w hi, hz, hx]
/-- A field that is a struct. -/
theorem eqs_consA {P : Program} {w : World} {d : Nat} {xs ys : Array Value} {f : Field} {fs : List Field} {fs' : Array Field} {xa ya : Array Value} {r s : Bool} {e : TypeId} {z : Nat} (hn : f.name ≠ "_") (hu : P.underlying e = some (.struct fs')) (he : f.type = e) (hz : P.cellsOf e = z)
    (hx : xs.extract f.offset (f.offset + z) = xa) (hy : ys.extract f.offset (f.offset + z) = ya)
    (hr : (Op.equalIn d e (.agg xa) (.agg ya)).run P w = .ok r w) (hs : (Op.eqFields d xs ys fs).run P w = .ok s w) : (Op.eqFields d xs ys (f :: fs)).run P w = .ok (r && s) w := by
  subst he
  rw [Op.eqFields.eq_2, if_pos hn]
  have e1 := run_part_agg w hu hz hx
  have e2 := run_part_agg w hu hz hy
  rw [Sem.run_bind, e1, Result.andThen, Sem.run_bind, e2, Result.andThen, Sem.run_bind, hr, Result.andThen]
  cases r
  · rfl
  · simpa using hs
theorem fields_of {P : Program} {t : TypeId} {fs : Array Field} (h : P.underlying t = some (.struct fs)) : P.fieldsOf t = fs := by rw [Program.fieldsOf.eq_1, h]
theorem eqs_structd {P : Program} {t : TypeId} {fs : Array Field} (h : P.underlying t = some (.struct fs)) (hp : P.stoodInHeld t = false) {w : World} {d : Nat} {xs ys : Array Value} {r : Bool} (hr : (Op.eqFields (d + 1) xs ys fs.toList).run P w = .ok r w) :
    (Op.equalIn (d + 2) t (.agg xs) (.agg ys)).run P w = .ok r w := by
  rw [run_equalIn_struct w (d + 1) t xs ys (by rw [fields_of h, h]) hp, fields_of h, hr]
theorem Whole.four_far {w : World} {g r : Nat} {t : TypeId} {cs : Array Value} (h : Whole w g t cs) (hg : g ≠ r) (u0 u1 u2 u3 : Value) :
    Whole ((((w.setCell ⟨r, 0, none⟩ u0).setCell ⟨r, 1, none⟩ u1).setCell ⟨r, 2, none⟩ u2).setCell ⟨r, 3, none⟩ u3) g t cs :=
  (((h.far (p := ⟨r, 0, none⟩) hg u0).far (p := ⟨r, 1, none⟩) hg u1).far (p := ⟨r, 2, none⟩) hg u2).far (p := ⟨r, 3, none⟩) hg u3
def Mn.eqb (a b : Mn) : Bool := a.seq == b.seq && (a.time == b.time && (a.pic == b.pic && (a.tl0 == b.tl0 && true)))
def Mst.eqb (a b : Mst) : Bool := a.on == b.on && (a.high == b.high && (a.since == b.since && (a.off.eqb b.off && (a.out.eqb b.out && true))))
theorem Mn.eqb_self (a : Mn) : a.eqb a = true := by simp [Mn.eqb]
theorem Mst.eqb_self (a : Mst) : a.eqb a = true := by simp [Mst.eqb, Mn.eqb_self]
theorem eqs_nums (w : World) (d : Nat) (a b : Mn) : (Op.equalIn (d + 2) 25 (.agg a.cells) (.agg b.cells)).run Try.prog w = .ok (a.eqb b) w := by
  exact eqs_structd Try.underlying25 (by kernel_rfl) (eqs_cons (by decide) (by kernel_rfl) rfl rfl (run_equalIn_int w d 22 .u16 .u16 a.seq b.seq Try.underlying22)
    (eqs_cons (by decide) (by kernel_rfl) rfl rfl (run_equalIn_int w d 23 .u32 .u32 a.time b.time Try.underlying23)
    (eqs_cons (by decide) (by kernel_rfl) rfl rfl (run_equalIn_int w d 22 .u16 .u16 a.pic b.pic Try.underlying22)
    (eqs_cons (by decide) (by kernel_rfl) rfl rfl (run_equalIn_int w d 5 .u8 .u8 a.tl0 b.tl0 Try.underlying5)
    (eqs_nil)))))
theorem eqs_numsp (w : World) (d : Nat) (a b : Mn) : (Op.equalIn (d + 2) 34 (.agg a.plain) (.agg b.plain)).run Try.prog w = .ok (a.eqb b) w := by
  exact eqs_structd Try.underlying34 (by kernel_rfl) (eqs_cons (by decide) (by kernel_rfl) rfl rfl (run_equalIn_int w d 2 .i64 .i64 a.seq b.seq Try.underlying2)
    (eqs_cons (by decide) (by kernel_rfl) rfl rfl (run_equalIn_int w d 2 .i64 .i64 a.time b.time Try.underlying2)
    (eqs_cons (by decide) (by kernel_rfl) rfl rfl (run_equalIn_int w d 2 .i64 .i64 a.pic b.pic Try.underlying2)
    (eqs_cons (by decide) (by kernel_rfl) rfl rfl (run_equalIn_int w d 2 .i64 .i64 a.tl0 b.tl0 Try.underlying2)
    (eqs_nil)))))
theorem eqs_mst (w : World) (a b : Mst) : (Op.equalIn 10000 27 (.agg a.cells) (.agg b.cells)).run Try.prog w = .ok (a.eqb b) w := by
  exact eqs_structd (d := 9998) Try.underlying27 (by kernel_rfl) (eqs_cons (by decide) (by kernel_rfl) rfl rfl (run_equalIn_bool' w 9998 4 a.on b.on Try.underlying4)
    (eqs_cons (by decide) (by kernel_rfl) rfl rfl (run_equalIn_int w 9998 2 .i64 .i64 a.high b.high Try.underlying2)
    (eqs_cons (by decide) (by kernel_rfl) rfl rfl (run_equalIn_int w 9998 2 .i64 .i64 a.since b.since Try.underlying2)
    (eqs_consA (by decide) Try.underlying25 rfl (show Try.prog.cellsOf 25 = 4 from by kernel_rfl) (xa := a.off.cells) (ya := b.off.cells) rfl rfl (eqs_nums w 9997 a.off b.off)
    (eqs_consA (by decide) Try.underlying25 rfl (show Try.prog.cellsOf 25 = 4 from by kernel_rfl) (xa := a.out.cells) (ya := b.out.cells) rfl rfl (eqs_nums w 9997 a.out b.out)
    (eqs_nil))))))
theorem eqs_mstp (w : World) (a b : Mst) : (Op.equalIn 10000 36 (.agg a.plain) (.agg b.plain)).run Try.prog w = .ok (a.eqb b) w := by
  exact eqs_structd (d := 9998) Try.underlying36 (by kernel_rfl) (eqs_cons (by decide) (by kernel_rfl) rfl rfl (run_equalIn_bool' w 9998 4 a.on b.on Try.underlying4)
    (eqs_cons (by decide) (by kernel_rfl) rfl rfl (run_equalIn_int w 9998 2 .i64 .i64 a.high b.high Try.underlying2)
    (eqs_cons (by decide) (by kernel_rfl) rfl rfl (run_equalIn_int w 9998 2 .i64 .i64 a.since b.since Try.underlying2)
    (eqs_consA (by decide) Try.underlying34 rfl (show Try.prog.cellsOf 34 = 4 from by kernel_rfl) (xa := a.off.plain) (ya := b.off.plain) rfl rfl (eqs_numsp w 9997 a.off b.off)
    (eqs_consA (by decide) Try.underlying34 rfl (show Try.prog.cellsOf 34 = 4 from by kernel_rfl) (xa := a.out.plain) (ya := b.out.plain) rfl rfl (eqs_numsp w 9997 a.out b.out)
    (eqs_nil))))))
theorem eql_nums (w : World) (d : Mn) : (binOp .eql 25 (.agg d.cells) (.agg d.cells)).run Try.prog w = .ok (.bool true) w := by
  rw [run_eql_struct, eqs_nums w 9998 d d, Mn.eqb_self]
  rfl
theorem neq_nums (w : World) (d : Mn) : (binOp .neq 25 (.agg d.cells) (.agg d.cells)).run Try.prog w = .ok (.bool false) w := by
  rw [run_neq_struct, eqs_nums w 9998 d d, Mn.eqb_self]
  rfl
theorem eql_numsp (w : World) (d : Mn) : (binOp .eql 34 (.agg d.plain) (.agg d.plain)).run Try.prog w = .ok (.bool true) w := by
  rw [run_eql_struct, eqs_numsp w 9998 d d, Mn.eqb_self]
  rfl
theorem neq_numsp (w : World) (d : Mn) : (binOp .neq 34 (.agg d.plain) (.agg d.plain)).run Try.prog w = .ok (.bool false) w := by
  rw [run_neq_struct, eqs_numsp w 9998 d d, Mn.eqb_self]
  rfl
theorem eql_mst (w : World) (d : Mst) : (binOp .eql 27 (.agg d.cells) (.agg d.cells)).run Try.prog w = .ok (.bool true) w := by
  rw [run_eql_struct, eqs_mst w d d, Mst.eqb_self]
  rfl
theorem neq_mst (w : World) (d : Mst) : (binOp .neq 27 (.agg d.cells) (.agg d.cells)).run Try.prog w = .ok (.bool false) w := by
  rw [run_neq_struct, eqs_mst w d d, Mst.eqb_self]
  rfl
theorem eql_mstp (w : World) (d : Mst) : (binOp .eql 36 (.agg d.plain) (.agg d.plain)).run Try.prog w = .ok (.bool true) w := by
  rw [run_eql_struct, eqs_mstp w d d, Mst.eqb_self]
  rfl
theorem neq_mstp (w : World) (d : Mst) : (binOp .neq 36 (.agg d.plain) (.agg d.plain)).run Try.prog w = .ok (.bool false) w := by
  rw [run_neq_struct, eqs_mstp w d d, Mst.eqb_self]
  rfl
end Go.Proofs.Ytpemikncbolkbaa
