/-
  '==' of states; the example of layer 12.
-/
import Derived.Test.YtoajbaimjkhegaaChC
import Derived.ChangeKeysEq
import Derived.Deep.QuietTactic
import Derived.BigQuiet
import Derived.Deep.RegionHeld3
namespace Go.Proofs.Ytoajbaimjkhegaa
open Go.RowKit
set_option linter.unusedSimpArgs false

theorem ret_bool {a b : Bool} (h : a = b) : Ending.returned (.bool a) = .returned (.bool b) := by rw [h]
/-! ### '==' of states -/
def Cs.eqb (d e : Cs) : Bool := d.on == e.on && (d.src == e.src && (d.lay == e.lay && (d.tid == e.tid && true)))
theorem Cs.eqb_self (d : Cs) : d.eqb d = true := by simp [Cs.eqb]
theorem eqs_state (w : World) (d e : Cs) : (Op.equalIn 10000 23 (.agg d.cells) (.agg e.cells)).run Try.prog w = .ok (d.eqb e) w := by
  exact eqs_struct Try.underlying23 (by kernel_rfl) (eqs_cons (by decide) (by kernel_rfl) rfl rfl (run_equalIn_bool' w 9998 4 d.on e.on Try.underlying4)
    (eqs_cons (by decide) (by kernel_rfl) rfl rfl (run_equalIn_int w 9998 3 .i64 .i64 d.src e.src Try.underlying3)
    (eqs_cons (by decide) (by kernel_rfl) rfl rfl (run_equalIn_int w 9998 3 .i64 .i64 d.lay e.lay Try.underlying3)
    (eqs_cons (by decide) (by kernel_rfl) rfl rfl (run_equalIn_int w 9998 3 .i64 .i64 d.tid e.tid Try.underlying3)
    (eqs_nil)))))
theorem eqs_plain (w : World) (d e : Cs) : (Op.equalIn 10000 31 (.agg d.cells) (.agg e.cells)).run Try.prog w = .ok (d.eqb e) w := by
  exact eqs_struct Try.underlying31 (by kernel_rfl) (eqs_cons (by decide) (by kernel_rfl) rfl rfl (run_equalIn_bool' w 9998 4 d.on e.on Try.underlying4)
    (eqs_cons (by decide) (by kernel_rfl) rfl rfl (run_equalIn_int w 9998 3 .i64 .i64 d.src e.src Try.underlying3)
    (eqs_cons (by decide) (by kernel_rfl) rfl rfl (run_equalIn_int w 9998 3 .i64 .i64 d.lay e.lay Try.underlying3)
    (eqs_cons (by decide) (by kernel_rfl) rfl rfl (run_equalIn_int w 9998 3 .i64 .i64 d.tid e.tid Try.underlying3)
    (eqs_nil)))))
theorem eql_state (w : World) (d : Cs) : (binOp .eql 23 (.agg d.cells) (.agg d.cells)).run Try.prog w = .ok (.bool true) w := by
  rw [run_eql_struct, eqs_state, Cs.eqb_self]
  rfl
theorem neq_state (w : World) (d : Cs) : (binOp .neq 23 (.agg d.cells) (.agg d.cells)).run Try.prog w = .ok (.bool false) w := by
  rw [run_neq_struct, eqs_state, Cs.eqb_self]
  rfl
theorem eql_plain (w : World) (d : Cs) : (binOp .eql 31 (.agg d.cells) (.agg d.cells)).run Try.prog w = .ok (.bool true) w := by
  rw [run_eql_struct, eqs_plain, Cs.eqb_self]
  rfl

/-- Take with a literal answer. -/
theorem ct_lit (s : Cs) (x : Cx) (u : Cw) (on : Bool) (ss sl st kd : Int) (hn : s.next x u = ⟨on, ss, sl, st⟩) (hk : s.kind x u = kd) (w : World) :
    Calls Try.prog 10 #[.agg s.cells, .agg x.cells, .agg u.cells] w fun e w' => e = .returned (.tuple #[.agg #[.bool on, .int .i64 ss, .int .i64 sl, .int .i64 st], .int .i64 kd]) ∧ Below w.heap.size w w' := by
  have h := ctake_any s x u w
  unfold ChOut at h
  rw [hn, hk] at h
  exact h
theorem Whole.four {w : World} {g : Nat} {t : TypeId} {x0 x1 x2 x3 : Value} (h : Whole w g t #[x0, x1, x2, x3]) (u0 u1 u2 u3 : Value) :
    Whole ((((w.setCell ⟨g, 0, none⟩ u0).setCell ⟨g, 1, none⟩ u1).setCell ⟨g, 2, none⟩ u2).setCell ⟨g, 3, none⟩ u3) g t #[u0, u1, u2, u3] := by
  have h : Whole _ g t #[u0, x1, x2, x3] := h.set 0 u0
  have h : Whole _ g t #[u0, u1, x2, x3] := h.set 1 u1
  have h : Whole _ g t #[u0, u1, u2, x3] := h.set 2 u2
  have h : Whole _ g t #[u0, u1, u2, u3] := h.set 3 u3
  exact h
theorem Whole.four_far {w : World} {g r : Nat} {t : TypeId} {cs : Array Value} (h : Whole w g t cs) (hg : g ≠ r) (u0 u1 u2 u3 : Value) :
    Whole ((((w.setCell ⟨r, 0, none⟩ u0).setCell ⟨r, 1, none⟩ u1).setCell ⟨r, 2, none⟩ u2).setCell ⟨r, 3, none⟩ u3) g t cs :=
  (((h.far (p := ⟨r, 0, none⟩) hg u0).far (p := ⟨r, 1, none⟩) hg u1).far (p := ⟨r, 2, none⟩) hg u2).far (p := ⟨r, 3, none⟩) hg u3

set_option maxRecDepth 100000 in
theorem awake_any (w : World) : Calls Try.prog 9 #[] w fun e w' => e = .returned (.bool true) ∧ Below w.heap.size w w' := by
  have A1 := fun w => casks_any ⟨false, 0, 0, 0⟩ ⟨0, 1, 2⟩ w
  have A2 := fun w => casks_any ⟨true, 0, 1, 2⟩ ⟨0, 1, 2⟩ w
  rw [show Cs.asks ⟨false, 0, 0, 0⟩ ⟨0, 1, 2⟩ = true from by decide] at A1
  rw [show Cs.asks ⟨true, 0, 1, 2⟩ ⟨0, 1, 2⟩ = false from by decide] at A2
  have C1 := fun w => ct_lit ⟨false, 0, 0, 0⟩ ⟨0, 1, true, true, false, 0, false⟩ ⟨0, 1, 2⟩ true 0 1 2 3 rfl rfl w
  have C2 := fun w => ct_lit ⟨true, 0, 1, 2⟩ ⟨0, 1, false, false, true, 3, false⟩ ⟨0, 1, 2⟩ true 0 1 2 2 rfl rfl w
  have C3 := fun w => ct_lit ⟨true, 0, 1, 2⟩ ⟨0, 0, false, false, false, 0, false⟩ ⟨0, 1, 2⟩ true 0 1 2 0 rfl rfl w
  dsimp only [Cs.cells, Cx.cells, Cw.cells] at A1 A2 C1 C2 C3
  have A1 := Lib.hid A1
  have A2 := Lib.hid A2
  have C1 := Lib.hid C1
  have C2 := Lib.hid C2
  have C3 := Lib.hid C3
  go_enter Try.func9, Try.ntmps9
  have HS := Lib.hid ((Whole.new w 23 #[.bool false, .int .i64 0, .int .i64 0, .int .i64 0]).alloc (.cells #[.int .i64 0, .int .i64 1, .int .i64 2] 27))
  have HU := Lib.hid (Whole.new2 w (.cells #[.bool false, .int .i64 0, .int .i64 0, .int .i64 0] 23) 27 #[.int .i64 0, .int .i64 1, .int .i64 2])
  have HB := Lib.hid (((Below.refl w.heap.size w).alloc (Nat.le_refl _) (.cells #[.bool false, .int .i64 0, .int .i64 0, .int .i64 0] 23)).alloc (by simp) (.cells #[.int .i64 0, .int .i64 1, .int .i64 2] 27))
  go_wp2_with fail
  refine (A1.out _).mono ?_
  rintro e w1 ⟨rfl, b1⟩
  have S1 := HS.out.below b1 (by simp; omega)
  have U1 := HU.out.below b1 HU.out.lt
  have HB1 := Lib.hid (HB.out.trans (b1.mono HB.out.size))
  clear b1 HS HU HB A1
  have k0 := S1.cell 0
  have k1 := S1.cell 1
  have k2 := S1.cell 2
  have k3 := S1.cell 3
  have u0 := U1.cell 0
  have u1 := U1.cell 1
  have u2 := U1.cell 2
  have HS := Lib.hid S1
  have HU := Lib.hid U1
  clear S1 U1
  go_wp2_with fail
  refine (C1.out _).mono ?_
  rintro e w2 ⟨rfl, b2⟩
  have S2 := HS.out.below b2 HS.out.lt
  have U2 := HU.out.below b2 HU.out.lt
  have HB2 := Lib.hid (HB1.out.trans (b2.mono HB1.out.size))
  clear b2 HS HU HB1 C1 k0 k1 k2 k3 u0 u1 u2
  have k0 := S2.cell 0
  have k1 := S2.cell 1
  have k2 := S2.cell 2
  have k3 := S2.cell 3
  have u0 := U2.cell 0
  have u1 := U2.cell 1
  have u2 := U2.cell 2
  have f0 := S2.free 0
  have f1 := S2.free 1
  have f2 := S2.free 2
  have f3 := S2.free 3
  have HS := Lib.hid S2
  have HU := Lib.hid U2
  clear S2 U2
  go_wp2_with fail
  refine (C2.out _).mono ?_
  rintro e w3 ⟨rfl, b3⟩
  have S3 := (HS.out.four (.bool true) (.int .i64 0) (.int .i64 1) (.int .i64 2)).below b3 (by have := HS.out.lt; simpa using this)
  have U3 := (HU.out.four_far (show w.heap.size + 1 ≠ w.heap.size by omega) (.bool true) (.int .i64 0) (.int .i64 1) (.int .i64 2)).below b3 (by have := HU.out.lt; simpa using this)
  have HB3 := Lib.hid ((four_set HB2.out (Nat.le_refl _) (.bool true) (.int .i64 0) (.int .i64 1) (.int .i64 2)).trans (b3.mono (four_set HB2.out (Nat.le_refl _) (.bool true) (.int .i64 0) (.int .i64 1) (.int .i64 2)).size))
  clear b3 HS HU HB2 C2 k0 k1 k2 k3 u0 u1 u2 f0 f1 f2 f3
  have k0 := S3.cell 0
  have k1 := S3.cell 1
  have k2 := S3.cell 2
  have k3 := S3.cell 3
  have u0 := U3.cell 0
  have u1 := U3.cell 1
  have u2 := U3.cell 2
  have hl3 := S3.lt
  have hl4 := U3.lt
  have HS := Lib.hid S3
  have HU := Lib.hid U3
  clear S3 U3
  go_wp2_with fail
  refine (C3.out _).mono ?_
  rintro e w4 ⟨rfl, b4⟩
  have S4 := (HS.out.alloc (.cells #[.bool true, .int .i64 0, .int .i64 1, .int .i64 2] 23)).below b4 (HS.out.alloc _).lt
  have U4 := (HU.out.alloc (.cells #[.bool true, .int .i64 0, .int .i64 1, .int .i64 2] 23)).below b4 (HU.out.alloc _).lt
  have HB4 := Lib.hid ((HB3.out.alloc HB3.out.size (.cells #[.bool true, .int .i64 0, .int .i64 1, .int .i64 2] 23)).trans (b4.mono (HB3.out.alloc HB3.out.size (.cells #[.bool true, .int .i64 0, .int .i64 1, .int .i64 2] 23)).size))
  clear b4 HS HU HB3 C3 k0 k1 k2 k3 u0 u1 u2
  have k0 := S4.cell 0
  have k1 := S4.cell 1
  have k2 := S4.cell 2
  have k3 := S4.cell 3
  have u0 := U4.cell 0
  have u1 := U4.cell 1
  have u2 := U4.cell 2
  have HS := Lib.hid S4
  have HU := Lib.hid U4
  have hl := U4.lt
  have hl5 := S4.lt
  clear hl3 hl4
  clear S4 U4
  go_wp2_with fail
  refine (A2.out _).mono ?_
  rintro e w5 ⟨rfl, b5⟩
  have HB5 := Lib.hid ((HB4.out.alloc HB4.out.size (.cells #[.bool true, .int .i64 0, .int .i64 1, .int .i64 2] 23)).trans (b5.mono (HB4.out.alloc HB4.out.size (.cells #[.bool true, .int .i64 0, .int .i64 1, .int .i64 2] 23)).size))
  clear b5
  go_wp2
  go_ret
  exact ⟨ret_bool rfl, HB5.out⟩
end Go.Proofs.Ytoajbaimjkhegaa
