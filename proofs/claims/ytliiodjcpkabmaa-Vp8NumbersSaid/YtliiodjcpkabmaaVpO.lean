/-
  The arguments of layer 7's laws that are descriptors.
-/
import Derived.Test.YtliiodjcpkabmaaLiftB
import Derived.Test.YtliiodjcpkabmaaVpL
import Derived.Lib.SmallJoins
namespace Go.Proofs.Ytliiodjcpkabmaa
open Go.Joins Go.ChangeShapes Go.WideShapes Go.ChangeAt Go.RowKit Go.Deep

section
variable {H : Type} {enc : TypeId × Value → H} {W : World}
/-- A struct of fourteen fields of a cell each, come in by value: its cells, and each field's reading. -/
theorem open_agg14 {r : Reach} {b0 : Nat} {t : TypeId} {f0 f1 f2 f3 f4 f5 f6 f7 f8 f9 f10 f11 f12 f13 : Field} {v : Value} {d : DataW H} {p : List MemPlace} (hs : Try.prog.underlying t = some (.struct #[f0, f1, f2, f3, f4, f5, f6, f7, f8, f9, f10, f11, f12, f13]))
    (hone : oneCellFields Try.prog #[f0, f1, f2, f3, f4, f5, f6, f7, f8, f9, f10, f11, f12, f13] = true) (hC : Try.prog.cellsOf t = 14) (hv : Value.okWide Try.prog W r b0 t v) (h : DataW.Trod enc Try.prog W 0 (fun _ => true) true t v d p) :
    ∃ (v0 v1 v2 v3 v4 v5 v6 v7 v8 v9 v10 v11 v12 v13 : Value) (n : Nat), v = .agg #[v0, v1, v2, v3, v4, v5, v6, v7, v8, v9, v10, v11, v12, v13] ∧
      (∃ y, DataW.trod enc Try.prog W 0 (fun _ => true) true n f0.type [v0] = some y) ∧ (∃ y, DataW.trod enc Try.prog W 0 (fun _ => true) true n f1.type [v1] = some y) ∧ (∃ y, DataW.trod enc Try.prog W 0 (fun _ => true) true n f2.type [v2] = some y) ∧ (∃ y, DataW.trod enc Try.prog W 0 (fun _ => true) true n f3.type [v3] = some y) ∧ (∃ y, DataW.trod enc Try.prog W 0 (fun _ => true) true n f4.type [v4] = some y) ∧ (∃ y, DataW.trod enc Try.prog W 0 (fun _ => true) true n f5.type [v5] = some y) ∧ (∃ y, DataW.trod enc Try.prog W 0 (fun _ => true) true n f6.type [v6] = some y) ∧ (∃ y, DataW.trod enc Try.prog W 0 (fun _ => true) true n f7.type [v7] = some y) ∧ (∃ y, DataW.trod enc Try.prog W 0 (fun _ => true) true n f8.type [v8] = some y) ∧ (∃ y, DataW.trod enc Try.prog W 0 (fun _ => true) true n f9.type [v9] = some y) ∧ (∃ y, DataW.trod enc Try.prog W 0 (fun _ => true) true n f10.type [v10] = some y) ∧ (∃ y, DataW.trod enc Try.prog W 0 (fun _ => true) true n f11.type [v11] = some y) ∧ (∃ y, DataW.trod enc Try.prog W 0 (fun _ => true) true n f12.type [v12] = some y) ∧ (∃ y, DataW.trod enc Try.prog W 0 (fun _ => true) true n f13.type [v13] = some y) := by
  obtain ⟨cs, rfl, hsz⟩ := okWide_struct hs hv
  obtain ⟨l⟩ := cs
  match l, hsz.trans hC with
  | [c0, c1, c2, c3, c4, c5, c6, c7, c8, c9, c10, c11, c12, c13], _ =>
    obtain ⟨fuel, hf⟩ := h
    obtain ⟨xs, n, _, hx, _, hlen, hg⟩ := DataW.trod_struct hs hf
    obtain ⟨o0, k0⟩ := hone_of hone 0 f0 rfl
    obtain ⟨o1, k1⟩ := hone_of hone 1 f1 rfl
    obtain ⟨o2, k2⟩ := hone_of hone 2 f2 rfl
    obtain ⟨o3, k3⟩ := hone_of hone 3 f3 rfl
    obtain ⟨o4, k4⟩ := hone_of hone 4 f4 rfl
    obtain ⟨o5, k5⟩ := hone_of hone 5 f5 rfl
    obtain ⟨o6, k6⟩ := hone_of hone 6 f6 rfl
    obtain ⟨o7, k7⟩ := hone_of hone 7 f7 rfl
    obtain ⟨o8, k8⟩ := hone_of hone 8 f8 rfl
    obtain ⟨o9, k9⟩ := hone_of hone 9 f9 rfl
    obtain ⟨o10, k10⟩ := hone_of hone 10 f10 rfl
    obtain ⟨o11, k11⟩ := hone_of hone 11 f11 rfl
    obtain ⟨o12, k12⟩ := hone_of hone 12 f12 rfl
    obtain ⟨o13, k13⟩ := hone_of hone 13 f13 rfl
    match xs, hlen with
    | [y0, y1, y2, y3, y4, y5, y6, y7, y8, y9, y10, y11, y12, y13], _ =>
      exact ⟨c0, c1, c2, c3, c4, c5, c6, c7, c8, c9, c10, c11, c12, c13, n, rfl, ⟨y0, by simpa [Value.cells, o0, k0] using hg 0 f0 rfl⟩, ⟨y1, by simpa [Value.cells, o1, k1] using hg 1 f1 rfl⟩, ⟨y2, by simpa [Value.cells, o2, k2] using hg 2 f2 rfl⟩, ⟨y3, by simpa [Value.cells, o3, k3] using hg 3 f3 rfl⟩, ⟨y4, by simpa [Value.cells, o4, k4] using hg 4 f4 rfl⟩, ⟨y5, by simpa [Value.cells, o5, k5] using hg 5 f5 rfl⟩, ⟨y6, by simpa [Value.cells, o6, k6] using hg 6 f6 rfl⟩, ⟨y7, by simpa [Value.cells, o7, k7] using hg 7 f7 rfl⟩, ⟨y8, by simpa [Value.cells, o8, k8] using hg 8 f8 rfl⟩, ⟨y9, by simpa [Value.cells, o9, k9] using hg 9 f9 rfl⟩, ⟨y10, by simpa [Value.cells, o10, k10] using hg 10 f10 rfl⟩, ⟨y11, by simpa [Value.cells, o11, k11] using hg 11 f11 rfl⟩, ⟨y12, by simpa [Value.cells, o12, k12] using hg 12 f12 rfl⟩, ⟨y13, by simpa [Value.cells, o13, k13] using hg 13 f13 rfl⟩⟩

theorem open_desc {r : Reach} {b0 : Nat} {v : Value} {d : DataW H} {p : List MemPlace} (hok : Value.okWide Try.prog W r b0 26 v) (h : DataW.Trod enc Try.prog W 0 (fun _ => true) true 26 v d p) :
    ∃ D : Dsc, v = .agg D.cells ∧ D.Fits := by
  obtain ⟨v0, v1, v2, v3, v4, v5, v6, v7, v8, v9, v10, v11, v12, v13, n, rfl, ⟨_, h0⟩, ⟨_, h1⟩, ⟨_, h2⟩, ⟨_, h3⟩, ⟨_, h4⟩, ⟨_, h5⟩, ⟨_, h6⟩, ⟨_, h7⟩, ⟨_, h8⟩, ⟨_, h9⟩, ⟨_, h10⟩, ⟨_, h11⟩, ⟨_, h12⟩, ⟨_, h13⟩⟩ := open_agg14 Try.underlying26 (by kernel_rfl) (by kernel_rfl) hok h
  obtain ⟨x0, e0, _⟩ := DataW.trod_bool Try.underlying4 h0
  obtain ⟨x1, e1, _⟩ := DataW.trod_bool Try.underlying4 h1
  obtain ⟨x2, e2, _⟩ := DataW.trod_bool Try.underlying4 h2
  obtain ⟨x3, e3, _, w3⟩ := DataW.trod_int Try.underlying5 h3
  have w3 := wf_u8 w3
  obtain ⟨x4, e4, _⟩ := DataW.trod_bool Try.underlying4 h4
  obtain ⟨x5, e5, _⟩ := DataW.trod_bool Try.underlying4 h5
  obtain ⟨x6, e6, _, w6⟩ := DataW.trod_int Try.underlying24 h6
  have w6 := wf_u16 w6
  obtain ⟨x7, e7, _⟩ := DataW.trod_bool Try.underlying4 h7
  obtain ⟨x8, e8, _, w8⟩ := DataW.trod_int Try.underlying5 h8
  have w8 := wf_u8 w8
  obtain ⟨x9, e9, _⟩ := DataW.trod_bool Try.underlying4 h9
  obtain ⟨x10, e10, _, w10⟩ := DataW.trod_int Try.underlying5 h10
  have w10 := wf_u8 w10
  obtain ⟨x11, e11, _⟩ := DataW.trod_bool Try.underlying4 h11
  obtain ⟨x12, e12, _⟩ := DataW.trod_bool Try.underlying4 h12
  obtain ⟨x13, e13, _, w13⟩ := DataW.trod_int Try.underlying5 h13
  have w13 := wf_u8 w13
  simp only [List.cons.injEq, and_true] at e0 e1 e2 e3 e4 e5 e6 e7 e8 e9 e10 e11 e12 e13
  subst e0 e1 e2 e3 e4 e5 e6 e7 e8 e9 e10 e11 e12 e13
  refine ⟨⟨x0, x1, x2, x3.toNat, x4, x5, x6.toNat, x7, x8.toNat, x9, x10.toNat, x11, x12, x13.toNat⟩, ?_, ⟨by dsimp only; omega, by dsimp only; omega, by dsimp only; omega, by dsimp only; omega, by dsimp only; omega⟩⟩
  unfold Dsc.cells
  dsimp only
  rw [show ((x3.toNat : Nat) : Int) = x3 by omega, show ((x6.toNat : Nat) : Int) = x6 by omega, show ((x8.toNat : Nat) : Int) = x8 by omega, show ((x10.toNat : Nat) : Int) = x10 by omega, show ((x13.toNat : Nat) : Int) = x13 by omega]
end
end Go.Proofs.Ytliiodjcpkabmaa
