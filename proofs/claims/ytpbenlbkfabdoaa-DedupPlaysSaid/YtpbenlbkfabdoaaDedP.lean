/-
  The arguments of layer 4's laws that are slices of acts; what an act comes to.
-/
import Derived.Test.YtpbenlbkfabdoaaDedC
import Derived.Test.YtpbenlbkfabdoaaLift
namespace Go.Proofs.Ytpbenlbkfabdoaa
open Go.ChangeShapes Go.WideShapes Go.ChangeAt Go.RowKit

/-- Something that is done to a request: it is answered (fin), or started. -/
structure Deed where
  fin : Bool
  id : Int
  ans : ByteArray
def Deed.cells (a : Deed) : List Value := [.bool a.fin, .int .u64 a.id, .string a.ans]
/-- Acts as cells. -/
def deedC (l : List Deed) : List Value := l.flatMap Deed.cells
theorem deedC_get (l : List Deed) (k : Nat) (hk : k < l.length) : (deedC l)[k * 3]? = some (.bool l[k].fin) ∧ (deedC l)[k * 3 + 1]? = some (.int .u64 l[k].id) ∧ (deedC l)[k * 3 + 2]? = some (.string l[k].ans) := by
  induction l generalizing k with
  | nil => simp at hk
  | cons p l ih =>
    cases k with
    | zero => simp [deedC, Deed.cells]
    | succ k =>
      have h := ih k (by simpa using hk)
      have e : (k + 1) * 3 = k * 3 + 1 + 1 + 1 := by omega
      simpa [deedC, Deed.cells, e] using h

/-- What an act comes to: the error, and the row. -/
def deedL (N : Nat) (l : List Ent) (a : Deed) : Int × List Ent := if a.fin then endL l a.id a.ans else startL N l a.id

section
variable {N : Nat} {l : List Ent} {a : Deed}
theorem deed_no (h : (deedL N l a).1 ≠ 0) : (deedL N l a).2 = l := by
  unfold deedL endL startL at *
  repeat' split at h
  all_goals first | (simp_all; done) | (simp_all; rw [if_neg (by omega)])
theorem deed_end (hap : IdsApart l) (ha : a.fin = true) (h : (deedL N l a).1 = 0) : waits (deedL N l a).2 + 1 = waits l ∧ (deedL N l a).2.length = l.length := by
  unfold deedL endL at *
  rw [if_pos ha] at *
  cases hf : fnd l a.id with
  | none => rw [hf] at h; simp at h
  | some x =>
    rw [hf] at h
    cases hd : x.done with
    | true => simp [hd] at h
    | false =>
      simp only [hd, Bool.false_eq_true, if_false]
      exact ⟨waits_upd hap hf hd, upd_length _ _ _⟩
theorem deed_start (ha : a.fin = false) (h : (deedL N l a).1 = 0) : waits (deedL N l a).2 = waits l + 1 := by
  unfold deedL startL at *
  rw [if_neg (by simp [ha])] at *
  cases hf : fnd l a.id with
  | some x => rw [hf] at h; simp at h
  | none =>
    rw [hf] at h
    dsimp only at h ⊢
    by_cases hl : l.length < N
    · rw [if_pos hl]
      exact waits_snoc _ _
    · rw [if_neg hl] at h ⊢
      cases l with
      | nil => simp at h
      | cons x t =>
        cases hd : x.done with
        | false => simp [hd] at h
        | true =>
          simp only [hd, if_true]
          rw [waits_snoc, waits_cons, hd]
          simp
end

section
variable {H : Type} {enc : TypeId × Value → H} {W : World}
/-- A struct of three fields, a cell each. -/
theorem trod_three {e : TypeId} {f0 f1 f2 : Field} (he : Try.prog.underlying e = some (.struct #[f0, f1, f2])) (h0 : f0.offset = 0) (h1 : f1.offset = 1) (h2 : f2.offset = 2) (c0 : Try.prog.cellsOf f0.type = 1) (c1 : Try.prog.cellsOf f1.type = 1) (c2 : Try.prog.cellsOf f2.type = 1) {cs : List Value} (hl : cs.length = 3)
    {k : Nat} {y : DataW H × List MemPlace} (h : DataW.trod enc Try.prog W 0 (fun _ => true) true k e cs = some y) :
    ∃ v0 v1 v2 n y0 y1 y2, cs = [v0, v1, v2] ∧ DataW.trod enc Try.prog W 0 (fun _ => true) true n f0.type [v0] = some y0 ∧ DataW.trod enc Try.prog W 0 (fun _ => true) true n f1.type [v1] = some y1 ∧ DataW.trod enc Try.prog W 0 (fun _ => true) true n f2.type [v2] = some y2 := by
  obtain ⟨xs, n, rfl, rfl, _, hxl, hf⟩ := DataW.trod_struct he h
  match cs, hl with
  | [v0, v1, v2], _ =>
    have g0 := hf 0 f0 rfl
    have g1 := hf 1 f1 rfl
    have g2 := hf 2 f2 rfl
    rw [h0, c0] at g0
    rw [h1, c1] at g1
    rw [h2, c2] at g2
    simp at hxl
    match xs, hxl with
    | [x0, x1, x2], _ => exact ⟨v0, v1, v2, n, x0, x1, x2, rfl, by simpa using g0, by simpa using g1, by simpa using g2⟩

theorem open_deeds {r : Reach} {b0 : Nat} {v : Value} {d : DataW H} {p : List MemPlace} (hok : Value.okWide Try.prog W r b0 22 v) (h : DataW.Trod enc Try.prog W 0 (fun _ => true) true 22 v d p) :
    ∃ A c, ∃ l : List Deed, v = .slice A l.length c ∧ l.length ≤ maxLen ∧ Row W W.heap.size 3 A l.length (deedC l) ∧ ∀ a ∈ l, (Lit.int .u64 a.id).wf = true := by
  obtain ⟨A, n, c, xss, rfl, hn, hm, hl, hr, hx⟩ := open_rows (z := 3) Try.underlying22 (by kernel_rfl) (by decide) hok h
  obtain ⟨l, rfl, hQ⟩ := typed_list (conv := Deed.cells) (Q := fun a => (Lit.int .u64 a.id).wf = true) (xss := xss) (fun cs hcs => by
    obtain ⟨h1, k, y, h2⟩ := hx cs hcs
    obtain ⟨v0, v1, v2, n', y0, y1, y2, rfl, t0, t1, t2⟩ := trod_three Try.underlying31 rfl rfl rfl (by kernel_rfl) (by kernel_rfl) (by kernel_rfl) h1 h2
    obtain ⟨x, e0, _⟩ := DataW.trod_bool Try.underlying4 t0
    obtain ⟨i, e1, _, hw⟩ := DataW.trod_int Try.underlying29 t1
    obtain ⟨s, e2, _⟩ := DataW.trod_string Try.underlying9 t2
    simp only [List.cons.injEq, and_true] at e0 e1 e2
    subst e0
    subst e1
    subst e2
    exact ⟨⟨x, i, s⟩, rfl, hw⟩)
  simp only [List.length_map] at hl
  subst hl
  exact ⟨A, c, l, rfl, by omega, hr, hQ⟩
end

/-- What the cells of an act hold, in a later world. -/
theorem deed_cells {w wr : World} {A : Option Addr} {l : List Deed} (hr : Row w w.heap.size 3 A l.length (deedC l)) (hb : Below w.heap.size w wr) (k : Nat) (hk : k < l.length) :
    ∃ gs o, A = some ⟨gs, o, none⟩ ∧ gs < w.heap.size ∧ wr.cell? ⟨gs, o + k * 3, none⟩ = some (.bool l[k].fin) ∧ wr.cell? ⟨gs, o + k * 3 + 1, none⟩ = some (.int .u64 l[k].id) ∧ wr.cell? ⟨gs, o + k * 3 + 2, none⟩ = some (.string l[k].ans) := by
  obtain ⟨gs, o, hA, hgs, hcell⟩ := hr.2 (by omega)
  exact ⟨gs, o, hA, hgs, (hb.cell (p := ⟨gs, o + k * 3, none⟩) hgs).trans (hcell _ _ (deedC_get l k hk).1), (hb.cell (p := ⟨gs, o + k * 3 + 1, none⟩) hgs).trans (hcell _ _ (deedC_get l k hk).2.1), (hb.cell (p := ⟨gs, o + k * 3 + 2, none⟩) hgs).trans (hcell _ _ (deedC_get l k hk).2.2)⟩
theorem keep2 {w w' : World} {a b : Addr} {u v : Value} (h1 : w.cell? a = some u) (h2 : w.cell? b = some v) (hb : Below (a.block + 1) w w') (hab : b.block = a.block) : w'.cell? a = some u ∧ w'.cell? b = some v :=
  ⟨(hb.cell (by omega)).trans h1, (hb.cell (by omega)).trans h2⟩
end Go.Proofs.Ytpbenlbkfabdoaa
