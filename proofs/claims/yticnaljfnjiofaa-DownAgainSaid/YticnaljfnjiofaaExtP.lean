/-
  The arguments of layer 5's laws that are slices of items.
-/
import Derived.Test.YticnaljfnjiofaaGli
import Derived.Test.YticnaljfnjiofaaGex
namespace Go.Proofs.Yticnaljfnjiofaa
set_option maxRecDepth 100000
open Go.ChangeShapes Go.WideShapes Go.ChangeAt Go.RowKit

section
variable {H : Type} {enc : TypeId × Value → H} {W : World}

/-- A slice of bytes in a cell. -/
theorem bytes_cell {v : Value} {k : Nat} {y : DataW H × List MemPlace} (h : DataW.trod enc Try.prog W 0 (fun _ => true) true k 33 [v] = some y) :
    ∃ A c, ∃ l : List UInt8, v = .slice A l.length c ∧ l.length ≤ maxLen ∧ Row W W.heap.size 1 A l.length (u8s l) := by
  rcases Go.Deep.open_slice Try.underlying33 h with ⟨hcs, _⟩ | ⟨a, n, c, m, k, D, Pl, hcs, _, hl, hm, hmm, _, hi⟩
  · simp at hcs
    exact ⟨none, 0, [], hcs, Nat.zero_le _, Row.nil⟩
  · simp at hcs
    subst hcs
    simp only [if_true] at hmm
    subst hmm
    rw [show Try.prog.cellsOf 5 = 1 from by kernel_rfl] at hi
    have key : ∀ j, j ≤ n → ∃ l : List UInt8, l.length = j ∧ ∀ i x, l[i]? = some x → W.cell? (a.add i) = some (.int .u8 (x.toNat : Int)) := by
      intro j
      induction j with
      | zero => exact fun _ => ⟨[], rfl, by simp⟩
      | succ j ih =>
        intro hj
        obtain ⟨l, h1, h2⟩ := ih (by omega)
        obtain ⟨cs', h3, h4⟩ := hi j (by omega)
        obtain ⟨_, h5, h6⟩ := World.cells?_some h3
        match cs', h5 with
        | [u], _ =>
          obtain ⟨x, e0, _, hw⟩ := DataW.trod_int Try.underlying5 h4
          simp at e0
          subst e0
          have hb := wf_u8 hw
          refine ⟨l ++ [UInt8.ofNat x.toNat], by simp [h1], fun i z hz => ?_⟩
          rcases Nat.lt_or_ge i l.length with hlt | hge
          · rw [List.getElem?_append_left hlt] at hz
            exact h2 i z hz
          · have : i = j := by
              have := (List.getElem?_eq_some_iff.1 hz).1
              simp at this
              omega
            subst this
            rw [List.getElem?_append_right hge, h1, Nat.sub_self] at hz
            simp at hz
            subst hz
            have := h6 0 (by simp)
            simp only [Nat.mul_one] at this
            rw [show (a.add i).add 0 = a.add i from by simp [Addr.add]] at this
            rw [this]
            simp only [List.getElem?_cons_zero, Option.some.injEq, Value.int.injEq, true_and]
            rw [UInt8.toNat_ofNat']
            omega
    obtain ⟨l, h1, h2⟩ := key n (Nat.le_refl _)
    subst h1
    refine ⟨some a, _, l, rfl, by omega, by simp [u8s_length], fun hn => ?_⟩
    have h0 := h2 0 l[0] (by simp)
    have hspot : a.spot = none := by simpa [Addr.add] using World.cell?_spot h0
    have hblk : a.block < W.heap.size := by simpa [Addr.add] using World.block_lt_of_cell? W _ h0
    obtain ⟨b, o, sp⟩ := a
    simp only at hspot hblk
    subst hspot
    refine ⟨b, o, rfl, hblk, fun j u hu => ?_⟩
    have hj : j < l.length := by have := (List.getElem?_eq_some_iff.1 hu).1; simpa [u8s_length] using this
    rw [u8s_get l j hj] at hu
    injection hu with hu
    subst hu
    have := h2 j l[j] (by simp)
    rw [Addr.add_lit] at this
    exact this

theorem open_items {r : Reach} {b0 : Nat} {v : Value} {d : DataW H} {p : List MemPlace} (hok : Value.okWide Try.prog W r b0 30 v) (h : DataW.Trod enc Try.prog W 0 (fun _ => true) true 30 v d p) :
    ∃ A c, ∃ ps : List Ip, v = .slice A ps.length c ∧ ps.length ≤ maxLen ∧ Its W A ps := by
  obtain ⟨A, n, c, xss, rfl, hn, hm, hl, hr, hx⟩ := open_rows (z := 2) Try.underlying30 (by kernel_rfl) (by decide) hok h
  obtain ⟨ps, rfl, hQ⟩ := typed_list (conv := Ip.cells) (Q := fun p => Row W W.heap.size 1 p.A p.it.d.length (u8s p.it.d) ∧ p.it.d.length ≤ maxLen) (xss := xss) (fun cs hcs => by
    obtain ⟨h1, k, y, h2⟩ := hx cs hcs
    obtain ⟨v0, v1, n', y0, y1, rfl, t0, t1⟩ := trod_two Try.underlying68 rfl rfl (by kernel_rfl) (by kernel_rfl) h1 h2
    obtain ⟨x, e0, _, hw⟩ := DataW.trod_int Try.underlying5 t0
    obtain ⟨A1, c1, l1, rfl, hl1, hr1⟩ := bytes_cell t1
    simp only [List.cons.injEq, and_true] at e0
    subst e0
    have hb := wf_u8 hw
    exact ⟨⟨⟨UInt8.ofNat x.toNat, l1⟩, A1, c1⟩, by simp [Ip.cells]; omega, hr1, hl1⟩)
  simp only [List.length_map] at hl
  subst hl
  exact ⟨A, c, ps, rfl, by omega, by simpa [ipC, List.flatMap] using hr, hQ⟩
end
end Go.Proofs.Yticnaljfnjiofaa
