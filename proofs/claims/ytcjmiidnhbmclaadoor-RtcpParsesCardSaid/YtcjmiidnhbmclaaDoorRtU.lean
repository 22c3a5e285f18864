/-
  The arguments of layer 9's laws that are slices of messages.
-/
import Derived.Test.YtcjmiidnhbmclaaDoorLiftB
import Derived.Test.YtcjmiidnhbmclaaDoorRtK
namespace Go.Proofs.YtcjmiidnhbmclaaDoor
set_option maxRecDepth 100000
open Go.ChangeShapes Go.WideShapes Go.ChangeAt Go.RowKit

section
variable {H : Type} {enc : TypeId × Value → H} {W : World}

theorem struct_parts {e : TypeId} {fs : Array Field} (he : Tryd.prog.underlying e = some (.struct fs)) {cs : List Value} {k : Nat} {y : DataW H × List MemPlace} (h : DataW.trod enc Tryd.prog W 0 (fun _ => true) true k e cs = some y) :
    ∃ n, ∀ (i : Nat) (f : Field), fs[i]? = some f → ∃ z, DataW.trod enc Tryd.prog W 0 (fun _ => true) true n f.type ((cs.drop f.offset).take (Tryd.prog.cellsOf f.type)) = some z := by
  obtain ⟨xs, n, rfl, rfl, _, hxl, hf⟩ := DataW.trod_struct he h
  refine ⟨n, fun i f hi => ?_⟩
  have hlt : i < xs.length := by have := (Array.getElem?_eq_some_iff.1 hi).1; omega
  exact ⟨xs[i], by rw [hf i f hi]; simp [hlt]⟩
theorem rep_cells {cs : List Value} {k : Nat} {y : DataW H × List MemPlace} (hl : cs.length = 7) (h : DataW.trod enc Tryd.prog W 0 (fun _ => true) true k 82 cs = some y) :
    ∃ x0 x1 x2 x3 x4 x5 x6 : Nat, cs = [.int .u32 (x0 : Int), .int .u8 (x1 : Int), .int .u32 (x2 : Int), .int .u32 (x3 : Int), .int .u32 (x4 : Int), .int .u32 (x5 : Int), .int .u32 (x6 : Int)] ∧ x0 < 4294967296 ∧ x1 < 256 ∧ x2 < 4294967296 ∧ x3 < 4294967296 ∧ x4 < 4294967296 ∧ x5 < 4294967296 ∧ x6 < 4294967296 := by
  obtain ⟨n, hp⟩ := struct_parts Tryd.underlying82 h
  match cs, hl with
  | [v0, v1, v2, v3, v4, v5, v6], _ =>
    obtain ⟨z0, h0⟩ : ∃ z, DataW.trod enc Tryd.prog W 0 (fun _ => true) true n 43 (([v0, v1, v2, v3, v4, v5, v6].drop 0).take (Tryd.prog.cellsOf 43)) = some z := hp 0 _ rfl
    rw [show Tryd.prog.cellsOf 43 = 1 from by kernel_rfl] at h0
    obtain ⟨a0, e0, _, w0⟩ := DataW.trod_int Tryd.underlying43 h0
    have w0 := wf_u32 w0
    simp at e0
    obtain ⟨z1, h1⟩ : ∃ z, DataW.trod enc Tryd.prog W 0 (fun _ => true) true n 5 (([v0, v1, v2, v3, v4, v5, v6].drop 1).take (Tryd.prog.cellsOf 5)) = some z := hp 1 _ rfl
    rw [show Tryd.prog.cellsOf 5 = 1 from by kernel_rfl] at h1
    obtain ⟨a1, e1, _, w1⟩ := DataW.trod_int Tryd.underlying5 h1
    have w1 := wf_u8 w1
    simp at e1
    obtain ⟨z2, h2⟩ : ∃ z, DataW.trod enc Tryd.prog W 0 (fun _ => true) true n 43 (([v0, v1, v2, v3, v4, v5, v6].drop 2).take (Tryd.prog.cellsOf 43)) = some z := hp 2 _ rfl
    rw [show Tryd.prog.cellsOf 43 = 1 from by kernel_rfl] at h2
    obtain ⟨a2, e2, _, w2⟩ := DataW.trod_int Tryd.underlying43 h2
    have w2 := wf_u32 w2
    simp at e2
    obtain ⟨z3, h3⟩ : ∃ z, DataW.trod enc Tryd.prog W 0 (fun _ => true) true n 43 (([v0, v1, v2, v3, v4, v5, v6].drop 3).take (Tryd.prog.cellsOf 43)) = some z := hp 3 _ rfl
    rw [show Tryd.prog.cellsOf 43 = 1 from by kernel_rfl] at h3
    obtain ⟨a3, e3, _, w3⟩ := DataW.trod_int Tryd.underlying43 h3
    have w3 := wf_u32 w3
    simp at e3
    obtain ⟨z4, h4⟩ : ∃ z, DataW.trod enc Tryd.prog W 0 (fun _ => true) true n 43 (([v0, v1, v2, v3, v4, v5, v6].drop 4).take (Tryd.prog.cellsOf 43)) = some z := hp 4 _ rfl
    rw [show Tryd.prog.cellsOf 43 = 1 from by kernel_rfl] at h4
    obtain ⟨a4, e4, _, w4⟩ := DataW.trod_int Tryd.underlying43 h4
    have w4 := wf_u32 w4
    simp at e4
    obtain ⟨z5, h5⟩ : ∃ z, DataW.trod enc Tryd.prog W 0 (fun _ => true) true n 43 (([v0, v1, v2, v3, v4, v5, v6].drop 5).take (Tryd.prog.cellsOf 43)) = some z := hp 5 _ rfl
    rw [show Tryd.prog.cellsOf 43 = 1 from by kernel_rfl] at h5
    obtain ⟨a5, e5, _, w5⟩ := DataW.trod_int Tryd.underlying43 h5
    have w5 := wf_u32 w5
    simp at e5
    obtain ⟨z6, h6⟩ : ∃ z, DataW.trod enc Tryd.prog W 0 (fun _ => true) true n 43 (([v0, v1, v2, v3, v4, v5, v6].drop 6).take (Tryd.prog.cellsOf 43)) = some z := hp 6 _ rfl
    rw [show Tryd.prog.cellsOf 43 = 1 from by kernel_rfl] at h6
    obtain ⟨a6, e6, _, w6⟩ := DataW.trod_int Tryd.underlying43 h6
    have w6 := wf_u32 w6
    simp at e6
    subst e0 e1 e2 e3 e4 e5 e6
    exact ⟨a0.toNat, a1.toNat, a2.toNat, a3.toNat, a4.toNat, a5.toNat, a6.toNat, by simp only [List.cons.injEq, and_true, Value.int.injEq, true_and]; omega, by omega, by omega, by omega, by omega, by omega, by omega, by omega⟩
theorem pair_cells {cs : List Value} {k : Nat} {y : DataW H × List MemPlace} (hl : cs.length = 2) (h : DataW.trod enc Tryd.prog W 0 (fun _ => true) true k 68 cs = some y) :
    ∃ x0 x1 : Nat, cs = [.int .u16 (x0 : Int), .int .u16 (x1 : Int)] ∧ x0 < 65536 ∧ x1 < 65536 := by
  obtain ⟨n, hp⟩ := struct_parts Tryd.underlying68 h
  match cs, hl with
  | [v0, v1], _ =>
    obtain ⟨z0, h0⟩ : ∃ z, DataW.trod enc Tryd.prog W 0 (fun _ => true) true n 34 (([v0, v1].drop 0).take (Tryd.prog.cellsOf 34)) = some z := hp 0 _ rfl
    rw [show Tryd.prog.cellsOf 34 = 1 from by kernel_rfl] at h0
    obtain ⟨a0, e0, _, w0⟩ := DataW.trod_int Tryd.underlying34 h0
    have w0 := wf_u16 w0
    simp at e0
    obtain ⟨z1, h1⟩ : ∃ z, DataW.trod enc Tryd.prog W 0 (fun _ => true) true n 34 (([v0, v1].drop 1).take (Tryd.prog.cellsOf 34)) = some z := hp 1 _ rfl
    rw [show Tryd.prog.cellsOf 34 = 1 from by kernel_rfl] at h1
    obtain ⟨a1, e1, _, w1⟩ := DataW.trod_int Tryd.underlying34 h1
    have w1 := wf_u16 w1
    simp at e1
    subst e0 e1
    exact ⟨a0.toNat, a1.toNat, by simp only [List.cons.injEq, and_true, Value.int.injEq, true_and]; omega, by omega, by omega⟩
theorem ask_cells {cs : List Value} {k : Nat} {y : DataW H × List MemPlace} (hl : cs.length = 2) (h : DataW.trod enc Tryd.prog W 0 (fun _ => true) true k 86 cs = some y) :
    ∃ x0 x1 : Nat, cs = [.int .u32 (x0 : Int), .int .u8 (x1 : Int)] ∧ x0 < 4294967296 ∧ x1 < 256 := by
  obtain ⟨n, hp⟩ := struct_parts Tryd.underlying86 h
  match cs, hl with
  | [v0, v1], _ =>
    obtain ⟨z0, h0⟩ : ∃ z, DataW.trod enc Tryd.prog W 0 (fun _ => true) true n 43 (([v0, v1].drop 0).take (Tryd.prog.cellsOf 43)) = some z := hp 0 _ rfl
    rw [show Tryd.prog.cellsOf 43 = 1 from by kernel_rfl] at h0
    obtain ⟨a0, e0, _, w0⟩ := DataW.trod_int Tryd.underlying43 h0
    have w0 := wf_u32 w0
    simp at e0
    obtain ⟨z1, h1⟩ : ∃ z, DataW.trod enc Tryd.prog W 0 (fun _ => true) true n 5 (([v0, v1].drop 1).take (Tryd.prog.cellsOf 5)) = some z := hp 1 _ rfl
    rw [show Tryd.prog.cellsOf 5 = 1 from by kernel_rfl] at h1
    obtain ⟨a1, e1, _, w1⟩ := DataW.trod_int Tryd.underlying5 h1
    have w1 := wf_u8 w1
    simp at e1
    subst e0 e1
    exact ⟨a0.toNat, a1.toNat, by simp only [List.cons.injEq, and_true, Value.int.injEq, true_and]; omega, by omega, by omega⟩
theorem info_cells {cs : List Value} {k : Nat} {y : DataW H × List MemPlace} (hl : cs.length = 4) (h : DataW.trod enc Tryd.prog W 0 (fun _ => true) true k 54 cs = some y) :
    ∃ x0 x1 x2 x3 : Nat, cs = [.int .u64 (x0 : Int), .int .u32 (x1 : Int), .int .u32 (x2 : Int), .int .u32 (x3 : Int)] ∧ x0 < 18446744073709551616 ∧ x1 < 4294967296 ∧ x2 < 4294967296 ∧ x3 < 4294967296 := by
  obtain ⟨n, hp⟩ := struct_parts Tryd.underlying54 h
  match cs, hl with
  | [v0, v1, v2, v3], _ =>
    obtain ⟨z0, h0⟩ : ∃ z, DataW.trod enc Tryd.prog W 0 (fun _ => true) true n 44 (([v0, v1, v2, v3].drop 0).take (Tryd.prog.cellsOf 44)) = some z := hp 0 _ rfl
    rw [show Tryd.prog.cellsOf 44 = 1 from by kernel_rfl] at h0
    obtain ⟨a0, e0, _, w0⟩ := DataW.trod_int Tryd.underlying44 h0
    have w0 := wf_u64 w0
    simp at e0
    obtain ⟨z1, h1⟩ : ∃ z, DataW.trod enc Tryd.prog W 0 (fun _ => true) true n 43 (([v0, v1, v2, v3].drop 1).take (Tryd.prog.cellsOf 43)) = some z := hp 1 _ rfl
    rw [show Tryd.prog.cellsOf 43 = 1 from by kernel_rfl] at h1
    obtain ⟨a1, e1, _, w1⟩ := DataW.trod_int Tryd.underlying43 h1
    have w1 := wf_u32 w1
    simp at e1
    obtain ⟨z2, h2⟩ : ∃ z, DataW.trod enc Tryd.prog W 0 (fun _ => true) true n 43 (([v0, v1, v2, v3].drop 2).take (Tryd.prog.cellsOf 43)) = some z := hp 2 _ rfl
    rw [show Tryd.prog.cellsOf 43 = 1 from by kernel_rfl] at h2
    obtain ⟨a2, e2, _, w2⟩ := DataW.trod_int Tryd.underlying43 h2
    have w2 := wf_u32 w2
    simp at e2
    obtain ⟨z3, h3⟩ : ∃ z, DataW.trod enc Tryd.prog W 0 (fun _ => true) true n 43 (([v0, v1, v2, v3].drop 3).take (Tryd.prog.cellsOf 43)) = some z := hp 3 _ rfl
    rw [show Tryd.prog.cellsOf 43 = 1 from by kernel_rfl] at h3
    obtain ⟨a3, e3, _, w3⟩ := DataW.trod_int Tryd.underlying43 h3
    have w3 := wf_u32 w3
    simp at e3
    subst e0 e1 e2 e3
    exact ⟨a0.toNat, a1.toNat, a2.toNat, a3.toNat, by simp only [List.cons.injEq, and_true, Value.int.injEq, true_and]; omega, by omega, by omega, by omega, by omega⟩

/-- A slice in a cell. -/
theorem rows_cell {t e : TypeId} {z : Nat} (ht : Tryd.prog.underlying t = some (.slice e)) (hz : Tryd.prog.cellsOf e = z) (hz0 : 0 < z) {v : Value} {k : Nat} {y : DataW H × List MemPlace}
    (h : DataW.trod enc Tryd.prog W 0 (fun _ => true) true k t [v] = some y) :
    ∃ A n c, ∃ xss : List (List Value), v = .slice A n c ∧ n ≤ c ∧ c ≤ maxLen ∧ xss.length = n ∧ Row W W.heap.size z A n xss.flatten ∧
      ∀ cs ∈ xss, cs.length = z ∧ ∃ k y, DataW.trod enc Tryd.prog W 0 (fun _ => true) true k e cs = some y := by
  rcases Go.Deep.open_slice ht h with ⟨hcs, _⟩ | ⟨a, n, c, m, k, D, Pl, hcs, _, hl, hm, hmm, _, hi⟩
  · simp at hcs
    subst hcs
    exact ⟨none, 0, 0, [], rfl, Nat.le_refl _, Nat.zero_le _, rfl, Row.nil, by simp⟩
  · simp at hcs
    subst hcs
    simp only [if_true] at hmm
    subst hmm
    rw [hz] at hi
    have key : ∀ j, j ≤ n → ∃ xss : List (List Value), xss.length = j ∧ (∀ i cs, xss[i]? = some cs → cs.length = z ∧ (∀ q, q < z → W.cell? ((a.add (i * z)).add q) = cs[q]?) ∧ ∃ k y, DataW.trod enc Tryd.prog W 0 (fun _ => true) true k e cs = some y) := by
      intro j
      induction j with
      | zero => exact fun _ => ⟨[], rfl, by simp⟩
      | succ j ih =>
        intro hj
        obtain ⟨xss, h1, h2⟩ := ih (by omega)
        obtain ⟨cs', h3, h4⟩ := hi j (by omega)
        obtain ⟨_, h5, h6⟩ := World.cells?_some h3
        refine ⟨xss ++ [cs'], by simp [h1], fun i cs hcs => ?_⟩
        rcases Nat.lt_or_ge i xss.length with hi' | hi'
        · rw [List.getElem?_append_left hi'] at hcs
          exact h2 i cs hcs
        · have : i = j := by
            have := (List.getElem?_eq_some_iff.1 hcs).1
            simp at this
            omega
          subst this
          rw [List.getElem?_append_right hi', h1, Nat.sub_self] at hcs
          simp at hcs
          subst hcs
          exact ⟨h5, h6, _, _, h4⟩
    obtain ⟨xss, h1, h2⟩ := key n (Nat.le_refl _)
    have hlen : ∀ cs ∈ xss, cs.length = z := fun cs hcs => by
      obtain ⟨i, hi⟩ := List.getElem?_of_mem hcs
      exact (h2 i cs hi).1
    refine ⟨_, n, _, xss, rfl, hl, hm, h1, ⟨?_, fun hn => ?_⟩, fun cs hcs => ?_⟩
    · rw [length_flat hlen, h1]
    · obtain ⟨cs0, hc0⟩ : ∃ cs0, xss[0]? = some cs0 := ⟨xss[0], by simp⟩
      obtain ⟨hl0, hq0, _⟩ := h2 0 cs0 hc0
      have hcell0 := hq0 0 hz0
      have hsome : ∃ u, cs0[0]? = some u := ⟨cs0[0], by simp⟩
      obtain ⟨u, hu⟩ := hsome
      rw [hu] at hcell0
      have hspot : a.spot = none := by simpa [Addr.add] using World.cell?_spot hcell0
      have hblk : a.block < W.heap.size := by simpa [Addr.add] using World.block_lt_of_cell? W _ hcell0
      obtain ⟨b, o, sp⟩ := a
      simp only at hspot hblk
      subst hspot
      refine ⟨b, o, rfl, hblk, fun j v hv => ?_⟩
      have hflat : ∀ (l : List (List Value)) (i0 : Nat), (∀ i cs, l[i]? = some cs → cs.length = z ∧ ∀ q, q < z → W.cell? ⟨b, o + (i0 + i) * z + q, none⟩ = cs[q]?) → ∀ j v, l.flatten[j]? = some v → W.cell? ⟨b, o + i0 * z + j, none⟩ = some v := by
        intro l
        induction l with
        | nil => simp
        | cons x l ih =>
          intro i0 hx j v hv
          obtain ⟨hxl, hxq⟩ := hx 0 x rfl
          rw [List.flatten_cons] at hv
          rcases Nat.lt_or_ge j x.length with hj | hj
          · rw [List.getElem?_append_left hj] at hv
            have := hxq j (by omega)
            rw [Nat.add_zero] at this
            rw [this, hv]
          · rw [List.getElem?_append_right hj] at hv
            have := ih (i0 + 1) (fun i cs hi => by
              have := hx (i + 1) cs (by simpa using hi)
              rwa [show i0 + (i + 1) = i0 + 1 + i by omega] at this) (j - x.length) v hv
            rw [← this, hxl, Nat.add_mul, Nat.one_mul]
            congr 2
            omega
      have := hflat xss 0 (fun i cs hi => by
        obtain ⟨g1, g2, _⟩ := h2 i cs hi
        refine ⟨g1, fun q hq => ?_⟩
        have := g2 q hq
        rw [Addr.add_lit, Addr.add_lit] at this
        rw [Nat.zero_add]
        exact this) j v hv
      simpa using this
    · obtain ⟨i, hi⟩ := List.getElem?_of_mem hcs
      exact ⟨hlen cs hcs, (h2 i cs hi).2.2⟩

theorem u32s_flat (l : List Nat) : u32s l = (l.map fun x : Nat => [Value.int .u32 (x : Int)]).flatten := by induction l <;> simp_all [u32s]
theorem msg_cells {cs : List Value} {k : Nat} {y : DataW H × List MemPlace} (hl : cs.length = 12) (h : DataW.trod enc Tryd.prog W 0 (fun _ => true) true k 59 cs = some y) :
    ∃ x : Ms × Sl, cs = x.1.cells x.2 ∧ x.1.Fits ∧ CmAt W W.heap.size x.1 x.2 := by
  obtain ⟨n, hp⟩ := struct_parts Tryd.underlying59 h
  match cs, hl with
  | [v0, v1, v2, v3, v4, v5, v6, v7, v8, v9, v10, v11], _ =>
    obtain ⟨z0, h0⟩ : ∃ z, DataW.trod enc Tryd.prog W 0 (fun _ => true) true n 3 (([v0, v1, v2, v3, v4, v5, v6, v7, v8, v9, v10, v11].drop 0).take (Tryd.prog.cellsOf 3)) = some z := hp 0 _ rfl
    rw [show Tryd.prog.cellsOf 3 = 1 from by kernel_rfl] at h0
    obtain ⟨a0, e0, _, w0⟩ := DataW.trod_int Tryd.underlying3 h0
    have w0 := wf_i64 w0
    simp at e0
    obtain ⟨z1, h1⟩ : ∃ z, DataW.trod enc Tryd.prog W 0 (fun _ => true) true n 43 (([v0, v1, v2, v3, v4, v5, v6, v7, v8, v9, v10, v11].drop 1).take (Tryd.prog.cellsOf 43)) = some z := hp 1 _ rfl
    rw [show Tryd.prog.cellsOf 43 = 1 from by kernel_rfl] at h1
    obtain ⟨a1, e1, _, w1⟩ := DataW.trod_int Tryd.underlying43 h1
    have w1 := wf_u32 w1
    simp at e1
    obtain ⟨z2, h2⟩ : ∃ z, DataW.trod enc Tryd.prog W 0 (fun _ => true) true n 43 (([v0, v1, v2, v3, v4, v5, v6, v7, v8, v9, v10, v11].drop 2).take (Tryd.prog.cellsOf 43)) = some z := hp 2 _ rfl
    rw [show Tryd.prog.cellsOf 43 = 1 from by kernel_rfl] at h2
    obtain ⟨a2, e2, _, w2⟩ := DataW.trod_int Tryd.underlying43 h2
    have w2 := wf_u32 w2
    simp at e2
    obtain ⟨z11, h11⟩ : ∃ z, DataW.trod enc Tryd.prog W 0 (fun _ => true) true n 5 (([v0, v1, v2, v3, v4, v5, v6, v7, v8, v9, v10, v11].drop 11).take (Tryd.prog.cellsOf 5)) = some z := hp 8 _ rfl
    rw [show Tryd.prog.cellsOf 5 = 1 from by kernel_rfl] at h11
    obtain ⟨a11, e11, _, w11⟩ := DataW.trod_int Tryd.underlying5 h11
    have w11 := wf_u8 w11
    simp at e11
    obtain ⟨z3, h3⟩ : ∃ z, DataW.trod enc Tryd.prog W 0 (fun _ => true) true n 54 (([v0, v1, v2, v3, v4, v5, v6, v7, v8, v9, v10, v11].drop 3).take (Tryd.prog.cellsOf 54)) = some z := hp 3 _ rfl
    rw [show Tryd.prog.cellsOf 54 = 4 from by kernel_rfl] at h3
    obtain ⟨i0, i1, i2, i3, ei, hi0, hi1, hi2, hi3⟩ := info_cells rfl h3
    simp at ei
    obtain ⟨ei0, ei1, ei2, ei3⟩ := ei
    obtain ⟨z7, h7⟩ : ∃ z, DataW.trod enc Tryd.prog W 0 (fun _ => true) true n 55 (([v0, v1, v2, v3, v4, v5, v6, v7, v8, v9, v10, v11].drop 7).take (Tryd.prog.cellsOf 55)) = some z := hp 4 _ rfl
    rw [show Tryd.prog.cellsOf 55 = 1 from by kernel_rfl] at h7
    obtain ⟨A7, n7, c7, xs7, e7, hn7, hm7, hl7, hr7, hx7⟩ := rows_cell (z := 7) Tryd.underlying55 (by kernel_rfl) (by decide) h7
    obtain ⟨z8, h8⟩ : ∃ z, DataW.trod enc Tryd.prog W 0 (fun _ => true) true n 46 (([v0, v1, v2, v3, v4, v5, v6, v7, v8, v9, v10, v11].drop 8).take (Tryd.prog.cellsOf 46)) = some z := hp 5 _ rfl
    rw [show Tryd.prog.cellsOf 46 = 1 from by kernel_rfl] at h8
    obtain ⟨A8, n8, c8, xs8, e8, hn8, hm8, hl8, hr8, hx8⟩ := rows_cell (z := 1) Tryd.underlying46 (by kernel_rfl) (by decide) h8
    obtain ⟨z9, h9⟩ : ∃ z, DataW.trod enc Tryd.prog W 0 (fun _ => true) true n 56 (([v0, v1, v2, v3, v4, v5, v6, v7, v8, v9, v10, v11].drop 9).take (Tryd.prog.cellsOf 56)) = some z := hp 6 _ rfl
    rw [show Tryd.prog.cellsOf 56 = 1 from by kernel_rfl] at h9
    obtain ⟨A9, n9, c9, xs9, e9, hn9, hm9, hl9, hr9, hx9⟩ := rows_cell (z := 2) Tryd.underlying56 (by kernel_rfl) (by decide) h9
    obtain ⟨z10, h10⟩ : ∃ z, DataW.trod enc Tryd.prog W 0 (fun _ => true) true n 57 (([v0, v1, v2, v3, v4, v5, v6, v7, v8, v9, v10, v11].drop 10).take (Tryd.prog.cellsOf 57)) = some z := hp 7 _ rfl
    rw [show Tryd.prog.cellsOf 57 = 1 from by kernel_rfl] at h10
    obtain ⟨A10, n10, c10, xs10, e10, hn10, hm10, hl10, hr10, hx10⟩ := rows_cell (z := 2) Tryd.underlying57 (by kernel_rfl) (by decide) h10
    obtain ⟨l7, rfl, q7⟩ := typed_list (conv := Rp.cells) (Q := Rp.Fits) (xss := xs7) (fun cs hcs => by
      obtain ⟨g1, k1, y1, g2⟩ := hx7 cs hcs
      obtain ⟨x0, x1, x2, x3, x4, x5, x6, e, f0, f1, f2, f3, f4, f5, f6⟩ := rep_cells g1 g2
      exact ⟨⟨x0, x1, x2, x3, x4, x5, x6⟩, e, f0, f1, f2, f3, f4, f5, f6⟩)
    obtain ⟨l8, rfl, q8⟩ := typed_list (conv := fun x : Nat => [Value.int .u32 (x : Int)]) (Q := fun x => x < 4294967296) (xss := xs8) (fun cs hcs => by
      obtain ⟨g1, k1, y1, g2⟩ := hx8 cs hcs
      obtain ⟨a, e, _, wa⟩ := DataW.trod_int Tryd.underlying43 g2
      have wa := wf_u32 wa
      exact ⟨a.toNat, by rw [e]; simp; omega, by omega⟩)
    obtain ⟨l9, rfl, q9⟩ := typed_list (conv := fun p : Nat × Nat => [Value.int .u16 (p.1 : Int), Value.int .u16 (p.2 : Int)]) (Q := fun p => p.1 < 65536 ∧ p.2 < 65536) (xss := xs9) (fun cs hcs => by
      obtain ⟨g1, k1, y1, g2⟩ := hx9 cs hcs
      obtain ⟨x0, x1, e, f0, f1⟩ := pair_cells g1 g2
      exact ⟨(x0, x1), e, f0, f1⟩)
    obtain ⟨l10, rfl, q10⟩ := typed_list (conv := fun p : Nat × Nat => [Value.int .u32 (p.1 : Int), Value.int .u8 (p.2 : Int)]) (Q := fun p => p.1 < 4294967296 ∧ p.2 < 256) (xss := xs10) (fun cs hcs => by
      obtain ⟨g1, k1, y1, g2⟩ := hx10 cs hcs
      obtain ⟨x0, x1, e, f0, f1⟩ := ask_cells g1 g2
      exact ⟨(x0, x1), e, f0, f1⟩)
    simp only [List.length_map] at hl7 hl8 hl9 hl10
    subst hl7 hl8 hl9 hl10
    refine ⟨(⟨a0, a1.toNat, a2.toNat, i0, i1, i2, i3, l7, l8, l9, l10, a11.toNat⟩, ⟨A7, c7, A8, c8, A9, c9, A10, c10⟩), ?_, ⟨w0, by dsimp only; omega, by dsimp only; omega, hi0, hi1, hi2, hi3, q7, q8, q9, q10, by dsimp only; omega⟩, ⟨?_, ?_, ?_, ?_⟩⟩
    · subst e0 e1 e2 e11 ei0 ei1 ei2 ei3 e7 e8 e9 e10
      simp only [Ms.cells, List.cons.injEq, Value.int.injEq, true_and, and_true]
      omega
    · have : repC l7 = (l7.map Rp.cells).flatten := by simp [repC, List.flatMap]
      dsimp only
      rw [this]
      exact hr7
    · dsimp only
      rw [u32s_flat]
      exact hr8
    · have : p16C l9 = (l9.map fun p : Nat × Nat => [Value.int .u16 (p.1 : Int), Value.int .u16 (p.2 : Int)]).flatten := by simp [p16C, List.flatMap]
      dsimp only
      rw [this]
      exact hr9
    · have : askC l10 = (l10.map fun p : Nat × Nat => [Value.int .u32 (p.1 : Int), Value.int .u8 (p.2 : Int)]).flatten := by simp [askC, List.flatMap]
      dsimp only
      rw [this]
      exact hr10

theorem open_msgs {r : Reach} {b0 : Nat} {v : Value} {d : DataW H} {p : List MemPlace} (hok : Value.okWide Tryd.prog W r b0 22 v) (h : DataW.Trod enc Tryd.prog W 0 (fun _ => true) true 22 v d p) :
    ∃ A c, ∃ l : List (Ms × Sl), v = .slice A l.length c ∧ l.length ≤ maxLen ∧ CmRow W W.heap.size A l ∧ (∀ x ∈ l, x.1.Fits) ∧ l.length ≤ c ∧ c ≤ maxLen := by
  obtain ⟨A, n, c, xss, rfl, hn, hm, hl, hr, hx⟩ := open_rows (z := 12) Tryd.underlying22 (by kernel_rfl) (by decide) hok h
  obtain ⟨l, rfl, hQ⟩ := typed_list (conv := fun x : Ms × Sl => x.1.cells x.2) (Q := fun x => x.1.Fits ∧ CmAt W W.heap.size x.1 x.2) (xss := xss) (fun cs hcs => by
    obtain ⟨h1, k, y, h2⟩ := hx cs hcs
    exact msg_cells h1 h2)
  simp only [List.length_map] at hl
  subst hl
  exact ⟨A, c, l, rfl, by omega, ⟨by simpa [msC, List.flatMap] using hr, fun x hx => (hQ x hx).2⟩, fun x hx => (hQ x hx).1, hn, hm⟩
end
end Go.Proofs.YtcjmiidnhbmclaaDoor
