/-
  The example of layer 11; '==' of tracks.
-/
import Derived.Test.YtphhhfgenhbmlaaRvB
import Derived.Test.YtphhhfgenhbmlaaRvC
import Derived.ChangeKeysEq
namespace Go.Proofs.Ytphhhfgenhbmlaa
open Go.RowKit

theorem ret_bool {a b : Bool} (h : a = b) : Ending.returned (.bool a) = .returned (.bool b) := by rw [h]

/-! ### '==' of tracks -/
theorem eqs_nil {P : Program} {w : World} {d : Nat} {xs ys : Array Value} : (Op.eqFields d xs ys []).run P w = .ok true w := by
  rw [Op.eqFields.eq_1]
  rfl
theorem eqs_cons {P : Program} {w : World} {d : Nat} {xs ys : Array Value} {f : Field} {fs : List Field} {a b : Value} {r s : Bool} (hn : f.name ≠ "_") (hp : P.plainKey f.type = true) (hx : xs[f.offset]? = some a) (hy : ys[f.offset]? = some b)
    (hr : (Op.equalIn d f.type a b).run P w = .ok r w) (hs : (Op.eqFields d xs ys fs).run P w = .ok s w) : (Op.eqFields d xs ys (f :: fs)).run P w = .ok (r && s) w := by
  rw [Op.eqFields.eq_2, if_pos hn]
  have e1 := run_part_plain w hp hx
  have e2 := run_part_plain w hp hy
  rw [Sem.run_bind, e1, Result.andThen, Sem.run_bind, e2, Result.andThen, Sem.run_bind, hr, Result.andThen]
  cases r
  · rfl
  · simpa using hs
theorem fields_of {P : Program} {t : TypeId} {fs : Array Field} (h : P.underlying t = some (.struct fs)) : P.fieldsOf t = fs := by rw [Program.fieldsOf.eq_1, h]
theorem eqs_struct {P : Program} {t : TypeId} {fs : Array Field} (h : P.underlying t = some (.struct fs)) (hp : P.stoodInHeld t = false) {w : World} {xs ys : Array Value} {r : Bool} (hr : (Op.eqFields 9999 xs ys fs.toList).run P w = .ok r w) :
    (Op.equalIn 10000 t (.agg xs) (.agg ys)).run P w = .ok r w := by
  rw [run_equalIn_struct w 9999 t xs ys (by rw [fields_of h, h]) hp, fields_of h, hr]
def Trk.eqb (d e : Trk) : Bool := d.on == e.on && (d.base == e.base && (d.high == e.high && (d.got == e.got && ((d.seen : Int) == (e.seen : Int) && true))))
theorem Trk.eqb_self (d : Trk) : d.eqb d = true := by simp [Trk.eqb]
theorem eqs_trk (w : World) (d e : Trk) : (Op.equalIn 10000 26 (.agg d.cells) (.agg e.cells)).run Try.prog w = .ok (d.eqb e) w := by
  exact eqs_struct Try.underlying26 (by kernel_rfl) (eqs_cons (by decide) (by kernel_rfl) rfl rfl (run_equalIn_bool' w 9998 4 d.on e.on Try.underlying4)
    (eqs_cons (by decide) (by kernel_rfl) rfl rfl (run_equalIn_int w 9998 2 .i64 .i64 d.base e.base Try.underlying2)
    (eqs_cons (by decide) (by kernel_rfl) rfl rfl (run_equalIn_int w 9998 2 .i64 .i64 d.high e.high Try.underlying2)
    (eqs_cons (by decide) (by kernel_rfl) rfl rfl (run_equalIn_int w 9998 2 .i64 .i64 d.got e.got Try.underlying2)
    (eqs_cons (by decide) (by kernel_rfl) rfl rfl (run_equalIn_int w 9998 24 .u64 .u64 (d.seen : Int) (e.seen : Int) Try.underlying24)
    (eqs_nil))))))
/-- The same track. -/
theorem eql_trk (w : World) (d : Trk) : (binOp .eql 26 (.agg d.cells) (.agg d.cells)).run Try.prog w = .ok (.bool true) w := by
  rw [run_eql_struct, eqs_trk, Trk.eqb_self]
  rfl
theorem neq_trk (w : World) (d : Trk) : (binOp .neq 26 (.agg d.cells) (.agg d.cells)).run Try.prog w = .ok (.bool false) w := by
  rw [run_neq_struct, eqs_trk, Trk.eqb_self]
  rfl

/-- A track is written over. -/
theorem Whole.five {w : World} {g : Nat} {t : TypeId} {x0 x1 x2 x3 x4 : Value} (h : Whole w g t #[x0, x1, x2, x3, x4]) (u0 u1 u2 u3 u4 : Value) :
    Whole (((((w.setCell ⟨g, 0, none⟩ u0).setCell ⟨g, 1, none⟩ u1).setCell ⟨g, 2, none⟩ u2).setCell ⟨g, 3, none⟩ u3).setCell ⟨g, 4, none⟩ u4) g t #[u0, u1, u2, u3, u4] := by
  have h : Whole _ g t #[u0, x1, x2, x3, x4] := h.set 0 u0
  have h : Whole _ g t #[u0, u1, x2, x3, x4] := h.set 1 u1
  have h : Whole _ g t #[u0, u1, u2, x3, x4] := h.set 2 u2
  have h : Whole _ g t #[u0, u1, u2, u3, x4] := h.set 3 u3
  have h : Whole _ g t #[u0, u1, u2, u3, u4] := h.set 4 u4
  exact h
theorem Whole.five_far {w : World} {g r : Nat} {t : TypeId} {cs : Array Value} (h : Whole w g t cs) (hg : g ≠ r) (u0 u1 u2 u3 u4 : Value) :
    Whole (((((w.setCell ⟨r, 0, none⟩ u0).setCell ⟨r, 1, none⟩ u1).setCell ⟨r, 2, none⟩ u2).setCell ⟨r, 3, none⟩ u3).setCell ⟨r, 4, none⟩ u4) g t cs :=
  ((((h.far (p := ⟨r, 0, none⟩) hg u0).far (p := ⟨r, 1, none⟩) hg u1).far (p := ⟨r, 2, none⟩) hg u2).far (p := ⟨r, 3, none⟩) hg u3).far (p := ⟨r, 4, none⟩) hg u4
theorem Row.five {w : World} {B z n r : Nat} {A : Option Addr} {xs : List Value} (h : Row w B z A n xs) (hB : B ≤ r) (u0 u1 u2 u3 u4 : Value) :
    Row (((((w.setCell ⟨r, 0, none⟩ u0).setCell ⟨r, 1, none⟩ u1).setCell ⟨r, 2, none⟩ u2).setCell ⟨r, 3, none⟩ u3).setCell ⟨r, 4, none⟩ u4) B z A n xs :=
  ((((h.set (p := ⟨r, 0, none⟩) hB u0).set (p := ⟨r, 1, none⟩) hB u1).set (p := ⟨r, 2, none⟩) hB u2).set (p := ⟨r, 3, none⟩) hB u3).set (p := ⟨r, 4, none⟩) hB u4
/-! ### The example -/
def Tk (t : Trk) (s : Int) (u : Trk) (n k : Int) : Prop := t.num s = n ∧ t.kind n = k ∧ t.take n = u
theorem tk_any (t : Trk) (s : Int) (u : Trk) (n k : Int) (h : Tk t s u n k) (ht : t.Fit) (h0 : 0 ≤ s) (h1 : s < 65536) (w : World) :
    Calls Try.prog 10 #[.agg t.cells, .int .u16 s] w (TakeOut u n k w) := by
  have := take_any t s ht h0 h1 w
  rw [h.1, h.2.1, h.2.2] at this
  exact this
theorem tk_lit (t : Trk) (s : Int) (on : Bool) (base high got : Int) (seen : Nat) (n k : Int) (h : Tk t s ⟨on, base, high, got, seen⟩ n k) (ht : t.Fit) (h0 : 0 ≤ s) (h1 : s < 65536) (w : World) :
    Calls Try.prog 10 #[.agg t.cells, .int .u16 s] w fun e w' => e = .returned (.tuple #[.agg #[.bool on, .int .i64 base, .int .i64 high, .int .i64 got, .int .u64 (seen : Int)], .int .i64 n, .int .i64 k]) ∧ Below w.heap.size w w' :=
  tk_any t s _ n k h ht h0 h1 w
def t1 : Trk := ⟨true, 65535, 65535, 1, 1⟩
def t2 : Trk := ⟨true, 65535, 65537, 2, 5⟩
theorem tk1 : Tk Trk.zero 65535 t1 65535 0 := ⟨by decide, by decide, by decide⟩
theorem tk2 : Tk t1 1 t2 65537 0 := ⟨by decide, by decide, by decide +kernel⟩
theorem ok1 : t1.Fit := by constructor <;> decide
theorem ok2 : t2.Fit := by constructor <;> decide
set_option maxRecDepth 100000 in
theorem awake_any (w : World) : Calls Try.prog 9 #[] w fun e w' => e = .returned (.bool true) ∧ Below w.heap.size w w' := by
  have C1 := fun w => tk_any _ _ _ _ _ tk1 (Trk.Ok.zero.more (by decide)) (by decide) (by decide) w
  have C2 := fun w => tk_any _ _ _ _ _ tk2 ok1 (by decide) (by decide) w
  have C3 := fun w => missing_any t2 ok2 w
  have C4 := fun w => lost_any t2 ok2 w
  rw [show t2.missing = [65536] from by decide] at C3
  rw [show t2.lost = 1 from by decide] at C4
  simp only [Trk.cells, Trk.zero, t1, t2, Int.cast_ofNat_Int] at C1 C2 C3 C4
  have HB := Lib.hid ((Below.refl w.heap.size w).alloc (Nat.le_refl _) (.cells #[.bool false, .int .i64 0, .int .i64 0, .int .i64 0, .int .u64 0] 26))
  have HW := Lib.hid (Whole.new w 26 #[.bool false, .int .i64 0, .int .i64 0, .int .i64 0, .int .u64 0])
  have C1 := Lib.hid C1
  have C2 := Lib.hid C2
  have C3 := Lib.hid C3
  have C4 := Lib.hid C4
  go_enter Try.func9, Try.ntmps9
  go_wp2_with fail
  refine (C1.out _).mono ?_
  rintro e w1 ⟨rfl, b1⟩
  simp only [Trk.cells, Int.cast_ofNat_Int]
  have W1 := HW.out.below b1 (by simp)
  have k0 := W1.cell 0
  have k1 := W1.cell 1
  have k2 := W1.cell 2
  have k3 := W1.cell 3
  have k4 := W1.cell 4
  have f0 := W1.free 0
  have f1 := W1.free 1
  have f2 := W1.free 2
  have f3 := W1.free 3
  have f4 := W1.free 4
  have HW1 := Lib.hid W1
  have HB1 := Lib.hid (HB.out.trans (b1.mono HB.out.size))
  clear b1 W1 HB HW C1
  go_wp2_with fail
  refine (C2.out _).mono ?_
  rintro e w2 ⟨rfl, b2⟩
  simp only [Trk.cells, Int.cast_ofNat_Int]
  have W2 := (HW1.out.five (.bool true) (.int .i64 65535) (.int .i64 65535) (.int .i64 1) (.int .u64 1)).below b2 (by have := HW1.out.lt; simpa using this)
  have HB2 := Lib.hid ((five HB1.out (Nat.le_refl _) (.bool true) (.int .i64 65535) (.int .i64 65535) (.int .i64 1) (.int .u64 1)).trans (b2.mono (five HB1.out (Nat.le_refl _) (.bool true) (.int .i64 65535) (.int .i64 65535) (.int .i64 1) (.int .u64 1)).size))
  clear k0 k1 k2 k3 k4 f0 f1 f2 f3 f4
  have k0 := W2.cell 0
  have k1 := W2.cell 1
  have k2 := W2.cell 2
  have k3 := W2.cell 3
  have k4 := W2.cell 4
  have f0 := W2.free 0
  have f1 := W2.free 1
  have f2 := W2.free 2
  have f3 := W2.free 3
  have f4 := W2.free 4
  have HW2 := Lib.hid W2
  clear b2 W2 HB1 HW1 C2
  go_wp2_with fail
  refine (C3.out _).mono ?_
  rintro e w3 ⟨A, c, rfl, hown, b3⟩
  rw [show ([65536] : List Int).length = 1 from rfl] at hown ⊢
  have W3 := (HW2.out.five (.bool true) (.int .i64 65535) (.int .i64 65537) (.int .i64 2) (.int .u64 5)).below b3 (by have := HW2.out.lt; simpa using this)
  have HB3 := Lib.hid ((five HB2.out (Nat.le_refl _) (.bool true) (.int .i64 65535) (.int .i64 65537) (.int .i64 2) (.int .u64 5)).trans (b3.mono (five HB2.out (Nat.le_refl _) (.bool true) (.int .i64 65535) (.int .i64 65537) (.int .i64 2) (.int .u64 5)).size))
  obtain ⟨g, rfl, hg1, hg2, hrc⟩ := own_cell hown (by decide)
  have r0 : w3.cell? ⟨g, 0, none⟩ = some (.int .u16 0) := hrc 0 (by decide)
  clear k0 k1 k2 k3 k4 f0 f1 f2 f3 f4 hrc hown
  have k0 := W3.cell 0
  have k1 := W3.cell 1
  have k2 := W3.cell 2
  have k3 := W3.cell 3
  have k4 := W3.cell 4
  have f0 := W3.free 0
  have f1 := W3.free 1
  have f2 := W3.free 2
  have f3 := W3.free 3
  have f4 := W3.free 4
  have HW3 := Lib.hid W3
  clear b3 W3 HB2 HW2 C3
  go_wp2_with fail
  refine (C4.out _).mono ?_
  rintro e w4 ⟨rfl, b4⟩
  go_wp2
  go_ret
  exact ⟨ret_bool rfl, HB3.out.trans (b4.mono HB3.out.size)⟩
end Go.Proofs.Ytphhhfgenhbmlaa
