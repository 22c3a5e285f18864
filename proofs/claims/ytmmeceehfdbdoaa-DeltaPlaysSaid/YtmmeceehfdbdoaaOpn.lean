/-
  Arguments opened: the parts of a struct, a slice in a cell, rows of structs.
-/
import Derived.Test.YtmmeceehfdbdoaaLift
namespace Go.Proofs.Ytmmeceehfdbdoaa
set_option maxRecDepth 100000
open Go.ChangeShapes Go.WideShapes Go.ChangeAt Go.RowKit

section
variable {H : Type} {enc : TypeId × Value → H} {W : World}

theorem struct_parts {e : TypeId} {fs : Array Field} (he : Try.prog.underlying e = some (.struct fs)) {cs : List Value} {k : Nat} {y : DataW H × List MemPlace} (h : DataW.trod enc Try.prog W 0 (fun _ => true) true k e cs = some y) :
    ∃ n, ∀ (i : Nat) (f : Field), fs[i]? = some f → ∃ z, DataW.trod enc Try.prog W 0 (fun _ => true) true n f.type ((cs.drop f.offset).take (Try.prog.cellsOf f.type)) = some z := by
  obtain ⟨xs, n, rfl, rfl, _, hxl, hf⟩ := DataW.trod_struct he h
  refine ⟨n, fun i f hi => ?_⟩
  have hlt : i < xs.length := by have := (Array.getElem?_eq_some_iff.1 hi).1; omega
  exact ⟨xs[i], by rw [hf i f hi]; simp [hlt]⟩
/-- A slice in a cell. -/
theorem rows_cell {t e : TypeId} {z : Nat} (ht : Try.prog.underlying t = some (.slice e)) (hz : Try.prog.cellsOf e = z) (hz0 : 0 < z) {v : Value} {k : Nat} {y : DataW H × List MemPlace}
    (h : DataW.trod enc Try.prog W 0 (fun _ => true) true k t [v] = some y) :
    ∃ A n c, ∃ xss : List (List Value), v = .slice A n c ∧ n ≤ c ∧ c ≤ maxLen ∧ xss.length = n ∧ Row W W.heap.size z A n xss.flatten ∧
      ∀ cs ∈ xss, cs.length = z ∧ ∃ k y, DataW.trod enc Try.prog W 0 (fun _ => true) true k e cs = some y := by
  rcases Go.Deep.open_slice ht h with ⟨hcs, _⟩ | ⟨a, n, c, m, k, D, Pl, hcs, _, hl, hm, hmm, _, hi⟩
  · simp at hcs
    subst hcs
    exact ⟨none, 0, 0, [], rfl, Nat.le_refl _, Nat.zero_le _, rfl, Row.nil, by simp⟩
  · simp at hcs
    subst hcs
    simp only [if_true] at hmm
    subst hmm
    rw [hz] at hi
    have key : ∀ j, j ≤ n → ∃ xss : List (List Value), xss.length = j ∧ (∀ i cs, xss[i]? = some cs → cs.length = z ∧ (∀ q, q < z → W.cell? ((a.add (i * z)).add q) = cs[q]?) ∧ ∃ k y, DataW.trod enc Try.prog W 0 (fun _ => true) true k e cs = some y) := by
      intro j
      induction j with
      | zero => exact fun _ => ⟨[], rfl, by simp⟩
      | succ j ih =>
        intro hj
        obtain ⟨xss, h1, h2⟩ := ih (by omega)
        obtain ⟨cs', h3, h4⟩ := hi j (by omega)
        obtain ⟨_, h5, h6⟩ := World.cells?_some h3
        refine ⟨xss ++ [cs'], by simp [h1], fun i cs hcs => ?_⟩
        rcases Nat.lt_or_ge i xss.length with hi' | hi'
        · rw [List.getElem?_append_left hi'] at hcs
          exact h2 i cs hcs
        · have : i = j := by
            have := (List.getElem?_eq_some_iff.1 hcs).1
            simp at this
            omega
          subst this
          rw [List.getElem?_append_right hi', h1, Nat.sub_self] at hcs
          simp at hcs
          subst hcs
          exact ⟨h5, h6, _, _, h4⟩
    obtain ⟨xss, h1, h2⟩ := key n (Nat.le_refl _)
    have hlen : ∀ cs ∈ xss, cs.length = z := fun cs hcs => by
      obtain ⟨i, hi⟩ := List.getElem?_of_mem hcs
      exact (h2 i cs hi).1
    refine ⟨_, n, _, xss, rfl, hl, hm, h1, ⟨?_, fun hn => ?_⟩, fun cs hcs => ?_⟩
    · rw [length_flat hlen, h1]
    · obtain ⟨cs0, hc0⟩ : ∃ cs0, xss[0]? = some cs0 := ⟨xss[0], by simp⟩
      obtain ⟨hl0, hq0, _⟩ := h2 0 cs0 hc0
      have hcell0 := hq0 0 hz0
      have hsome : ∃ u, cs0[0]? = some u := ⟨cs0[0], by simp⟩
      obtain ⟨u, hu⟩ := hsome
      rw [hu] at hcell0
      have hspot : a.spot = none := by simpa [Addr.add] using World.cell?_spot hcell0
      have hblk : a.block < W.heap.size := by simpa [Addr.add] using World.block_lt_of_cell? W _ hcell0
      obtain ⟨b, o, sp⟩ := a
      simp only at hspot hblk
      subst hspot
      refine ⟨b, o, rfl, hblk, fun j v hv => ?_⟩
      have hflat : ∀ (l : List (List Value)) (i0 : Nat), (∀ i cs, l[i]? = some cs → cs.length = z ∧ ∀ q, q < z → W.cell? ⟨b, o + (i0 + i) * z + q, none⟩ = cs[q]?) → ∀ j v, l.flatten[j]? = some v → W.cell? ⟨b, o + i0 * z + j, none⟩ = some v := by
        intro l
        induction l with
        | nil => simp
        | cons x l ih =>
          intro i0 hx j v hv
          obtain ⟨hxl, hxq⟩ := hx 0 x rfl
          rw [List.flatten_cons] at hv
          rcases Nat.lt_or_ge j x.length with hj | hj
          · rw [List.getElem?_append_left hj] at hv
            have := hxq j (by omega)
            rw [Nat.add_zero] at this
            rw [this, hv]
          · rw [List.getElem?_append_right hj] at hv
            have := ih (i0 + 1) (fun i cs hi => by
              have := hx (i + 1) cs (by simpa using hi)
              rwa [show i0 + (i + 1) = i0 + 1 + i by omega] at this) (j - x.length) v hv
            rw [← this, hxl, Nat.add_mul, Nat.one_mul]
            congr 2
            omega
      have := hflat xss 0 (fun i cs hi => by
        obtain ⟨g1, g2, _⟩ := h2 i cs hi
        refine ⟨g1, fun q hq => ?_⟩
        have := g2 q hq
        rw [Addr.add_lit, Addr.add_lit] at this
        rw [Nat.zero_add]
        exact this) j v hv
      simpa using this
    · obtain ⟨i, hi⟩ := List.getElem?_of_mem hcs
      exact ⟨hlen cs hcs, (h2 i cs hi).2.2⟩

end
/-- Rows of structs, z cells each. -/
def rowC {α : Type} (conv : α → List Value) (l : List α) : List Value := (l.map conv).flatten
theorem rowC_get {α : Type} {conv : α → List Value} {z : Nat} (hz : ∀ a, (conv a).length = z) : ∀ (l : List α) (k j : Nat) (a : α), l[k]? = some a → j < z → (rowC conv l)[k * z + j]? = (conv a)[j]?
  | [], k, j, a, h, _ => by simp at h
  | b :: l, 0, j, a, h, hj => by
    simp at h
    subst h
    show (conv b ++ rowC conv l)[0 * z + j]? = _
    rw [Nat.zero_mul, Nat.zero_add, List.getElem?_append_left (by rw [hz]; exact hj)]
  | b :: l, k + 1, j, a, h, hj => by
    rw [List.getElem?_cons_succ] at h
    show (conv b ++ rowC conv l)[(k + 1) * z + j]? = _
    rw [List.getElem?_append_right (by rw [hz, Nat.succ_mul]; omega), hz, show (k + 1) * z + j - z = k * z + j by rw [Nat.succ_mul]; omega]
    exact rowC_get hz l k j a h hj
/-- What the cells of an element hold in a later world. -/
theorem row_at {α : Type} {conv : α → List Value} {z : Nat} (hz : ∀ a, (conv a).length = z) {w : World} {A : Option Addr} {l : List α} {n : Nat} (hr : Row w w.heap.size z A n (rowC conv l)) (hn : 0 < n) :
    ∃ g o, A = some ⟨g, o, none⟩ ∧ g < w.heap.size ∧ ∀ w', Below w.heap.size w w' → ∀ k a j v, l[k]? = some a → (conv a)[j]? = some v → w'.cell? ⟨g, o + k * z + j, none⟩ = some v := by
  obtain ⟨g, o, hA, hg, hc⟩ := hr.2 hn
  refine ⟨g, o, hA, hg, fun w' hb k a j v hk hj => ?_⟩
  have hjz : j < z := by
    have := (List.getElem?_eq_some_iff.1 hj).1
    rwa [hz] at this
  rw [Nat.add_assoc]
  exact (hb.cell (p := ⟨g, o + (k * z + j), none⟩) hg).trans (hc _ _ ((rowC_get hz l k j a hk hjz).trans hj))

theorem typed_rows {α : Type} {conv : α → List Value} {Q : α → Prop} {xss : List (List Value)} (h : ∀ cs ∈ xss, ∃ a, cs = conv a ∧ Q a) : ∃ l : List α, xss.flatten = rowC conv l ∧ xss.length = l.length ∧ ∀ a ∈ l, Q a := by
  obtain ⟨l, rfl, hq⟩ := typed_list h
  exact ⟨l, rfl, by simp, hq⟩
end Go.Proofs.Ytmmeceehfdbdoaa
