/-
  From a walk to the row of a law, for any law over data: the arguments opened (integers, bytes, slices of flat structs), and the row's post by 'the world below is as it was'.
-/
import Derived.Test.YtmmeceehfdbdoaaRows
import Derived.Test.YtmmeceehfdbdoaaWords
import Derived.ProofKit
import Derived.OpenShut
import Derived.ChangeOld
import Derived.Below
import Derived.Deep.Slices
namespace Go.Proofs.Ytmmeceehfdbdoaa
set_option maxRecDepth 100000
open Go.ChangeShapes Go.WideShapes Go.ChangeAt Go.RowKit

theorem own : ownKnob Try.prog.godebug = none := by kernel_rfl
theorem laidOut : laidOutB Try.prog = true := by kernel_rfl

section
variable {H : Type} {enc : TypeId × Value → H}

theorem trodAll_below {ts : List TypeId} (hr : ∀ t ∈ ts, Try.prog.readableRec t = true ∧ t < Try.prog.types.size) {vs : List Value} {ds : List (DataW H)} {ps : List MemPlace} {W W' : World}
    (h : DataW.TrodAll enc Try.prog W 0 (fun _ => true) true ts vs ds ps) (hb : Below W.heap.size W W') : DataW.TrodAll enc Try.prog W' 0 (fun b => decide (b < W.heap.size)) true ts vs ds ps := by
  induction ts generalizing vs ds ps with
  | nil =>
    obtain ⟨rfl, rfl, rfl⟩ := trodAll_nil h
    exact trodAll_mk0
  | cons t ts ih =>
    obtain ⟨v, vs', d, ds', p, q, rfl, rfl, rfl, h0, h1⟩ := trodAll_cons h
    have ht := hr t (by simp)
    have hlt : ∀ x ∈ p, x.block < W.heap.size := by obtain ⟨m, hm⟩ := h0; exact DataW.trod_lt m _ _ _ hm
    exact ⟨p, q, Below.trod laidOut ht.1 ht.2 h0 hb hlt, ih (fun t ht => hr t (by simp [ht])) h1, rfl⟩

/-- A law's row, out of its walk. -/
theorem law_post {f : Func} {s : ChangeSpec} {fid : FuncId} (hv : s.vars = []) (hres : f.resultTypes = #[4]) (hr : ∀ t ∈ f.params.toList, Try.prog.readableRec t = true ∧ t < Try.prog.types.size)
    {W : World} {args : Array Value} {ds gs : List (DataW H)} {before : List MemPlace} (hs : s.fn H (ds ++ gs) = { results := [.lit (.bool true)], args := ds })
    (hW : DataW.Whole enc Try.prog f.params.toList s.vars false W args.toList ds gs before)
    (hcall : Calls Try.prog fid args W fun e w' => e = .returned (.bool true) ∧ Below W.heap.size W w') :
    Calls Try.prog fid args W fun e w' => ∃ v, e = .returned v ∧ s.post enc Try.prog f false true false false W args v w' := by
  refine hcall.mono fun e W' ⟨he, hb⟩ => ⟨.bool true, he, ?_⟩
  have hW' := hW
  obtain ⟨p, q, hA, hV, rfl, _, _⟩ := hW
  refine ⟨ds, gs, _, [], p, [], hW', ?_, ?_, ?_, hb.frame _, fun h => by cases h⟩
  · rw [hs, hres]
    exact trodAll_mk1 (shut_bool Try.underlying4 _)
  · rw [hs]
    exact trodAll_below hr hA hb
  · rw [hs, hv]
    rfl
end

section
variable {H : Type} {enc : TypeId × Value → H} {W : World}

theorem length_flat {z : Nat} : ∀ {xss : List (List Value)}, (∀ cs ∈ xss, cs.length = z) → xss.flatten.length = xss.length * z
  | [], _ => by simp
  | cs :: xss, h => by
    rw [List.flatten_cons, List.length_append, length_flat fun c hc => h c (by simp [hc]), h cs (by simp), List.length_cons, Nat.add_mul, Nat.one_mul, Nat.add_comm]

/-- A slice that came in, of elements of z cells each: its cells, and each element's reading. -/
theorem open_rows {t e : TypeId} {z : Nat} (ht : Try.prog.underlying t = some (.slice e)) (hz : Try.prog.cellsOf e = z) (hz0 : 0 < z) {r : Reach} {b0 : Nat} {v : Value} {d : DataW H} {p : List MemPlace}
    (hok : Value.okWide Try.prog W r b0 t v) (h : DataW.Trod enc Try.prog W 0 (fun _ => true) true t v d p) :
    ∃ A n c, ∃ xss : List (List Value), v = .slice A n c ∧ n ≤ c ∧ c ≤ maxLen ∧ xss.length = n ∧ Row W W.heap.size z A n xss.flatten ∧
      ∀ cs ∈ xss, cs.length = z ∧ ∃ k y, DataW.trod enc Try.prog W 0 (fun _ => true) true k e cs = some y := by
  obtain ⟨A, n, c, rfl⟩ := okWide_slice ht hok
  obtain ⟨fuel, hf⟩ := h
  rcases Go.Deep.open_slice ht hf with ⟨hcs, _⟩ | ⟨a, len, cap, m, k, D, Pl, hcs, _, hl, hm, hmm, _, hi⟩
  · simp [Value.cells] at hcs
    obtain ⟨rfl, rfl, rfl⟩ := hcs
    exact ⟨none, 0, 0, [], rfl, Nat.le_refl _, Nat.zero_le _, rfl, Row.nil, by simp⟩
  · simp [Value.cells] at hcs
    obtain ⟨rfl, rfl, rfl⟩ := hcs
    simp only [if_true] at hmm
    subst hmm
    rw [hz] at hi
    have key : ∀ j, j ≤ n → ∃ xss : List (List Value), xss.length = j ∧ (∀ i cs, xss[i]? = some cs → cs.length = z ∧ (∀ q, q < z → W.cell? ((a.add (i * z)).add q) = cs[q]?) ∧ ∃ k y, DataW.trod enc Try.prog W 0 (fun _ => true) true k e cs = some y) := by
      intro j
      induction j with
      | zero => exact fun _ => ⟨[], rfl, by simp⟩
      | succ j ih =>
        intro hj
        obtain ⟨xss, h1, h2⟩ := ih (by omega)
        obtain ⟨cs', h3, h4⟩ := hi j (by omega)
        obtain ⟨_, h5, h6⟩ := World.cells?_some h3
        refine ⟨xss ++ [cs'], by simp [h1], fun i cs hcs => ?_⟩
        rcases Nat.lt_or_ge i xss.length with hi' | hi'
        · rw [List.getElem?_append_left hi'] at hcs
          exact h2 i cs hcs
        · have : i = j := by
            have := (List.getElem?_eq_some_iff.1 hcs).1
            simp at this
            omega
          subst this
          rw [List.getElem?_append_right hi', h1, Nat.sub_self] at hcs
          simp at hcs
          subst hcs
          exact ⟨h5, h6, _, _, h4⟩
    obtain ⟨xss, h1, h2⟩ := key n (Nat.le_refl _)
    have hlen : ∀ cs ∈ xss, cs.length = z := fun cs hcs => by
      obtain ⟨i, hi⟩ := List.getElem?_of_mem hcs
      exact (h2 i cs hi).1
    refine ⟨_, n, _, xss, rfl, hl, hm, h1, ⟨?_, fun hn => ?_⟩, fun cs hcs => ?_⟩
    · rw [length_flat hlen, h1]
    · obtain ⟨cs0, hc0⟩ : ∃ cs0, xss[0]? = some cs0 := ⟨xss[0], by simp⟩
      obtain ⟨hl0, hq0, _⟩ := h2 0 cs0 hc0
      have hcell0 := hq0 0 hz0
      have hsome : ∃ u, cs0[0]? = some u := ⟨cs0[0], by simp⟩
      obtain ⟨u, hu⟩ := hsome
      rw [hu] at hcell0
      have hspot : a.spot = none := by simpa [Addr.add] using World.cell?_spot hcell0
      have hblk : a.block < W.heap.size := by simpa [Addr.add] using World.block_lt_of_cell? W _ hcell0
      obtain ⟨b, o, sp⟩ := a
      simp only at hspot hblk
      subst hspot
      refine ⟨b, o, rfl, hblk, fun j v hv => ?_⟩
      have hflat : ∀ (l : List (List Value)) (i0 : Nat), (∀ i cs, l[i]? = some cs → cs.length = z ∧ ∀ q, q < z → W.cell? ⟨b, o + (i0 + i) * z + q, none⟩ = cs[q]?) → ∀ j v, l.flatten[j]? = some v → W.cell? ⟨b, o + i0 * z + j, none⟩ = some v := by
        intro l
        induction l with
        | nil => simp
        | cons x l ih =>
          intro i0 hx j v hv
          obtain ⟨hxl, hxq⟩ := hx 0 x rfl
          rw [List.flatten_cons] at hv
          rcases Nat.lt_or_ge j x.length with hj | hj
          · rw [List.getElem?_append_left hj] at hv
            have := hxq j (by omega)
            rw [Nat.add_zero] at this
            rw [this, hv]
          · rw [List.getElem?_append_right hj] at hv
            have := ih (i0 + 1) (fun i cs hi => by
              have := hx (i + 1) cs (by simpa using hi)
              rwa [show i0 + (i + 1) = i0 + 1 + i by omega] at this) (j - x.length) v hv
            rw [← this, hxl, Nat.add_mul, Nat.one_mul]
            congr 2
            omega
      have := hflat xss 0 (fun i cs hi => by
        obtain ⟨g1, g2, _⟩ := h2 i cs hi
        refine ⟨g1, fun q hq => ?_⟩
        have := g2 q hq
        rw [Addr.add_lit, Addr.add_lit] at this
        rw [Nat.zero_add]
        exact this) j v hv
      simpa using this
    · obtain ⟨i, hi⟩ := List.getElem?_of_mem hcs
      exact ⟨hlen cs hcs, (h2 i cs hi).2.2⟩

/-- A struct of two fields, a cell each. -/
theorem trod_two {e : TypeId} {f0 f1 : Field} (he : Try.prog.underlying e = some (.struct #[f0, f1])) (h0 : f0.offset = 0) (h1 : f1.offset = 1) (c0 : Try.prog.cellsOf f0.type = 1) (c1 : Try.prog.cellsOf f1.type = 1) {cs : List Value} (hl : cs.length = 2)
    {k : Nat} {y : DataW H × List MemPlace} (h : DataW.trod enc Try.prog W 0 (fun _ => true) true k e cs = some y) :
    ∃ v0 v1 n y0 y1, cs = [v0, v1] ∧ DataW.trod enc Try.prog W 0 (fun _ => true) true n f0.type [v0] = some y0 ∧ DataW.trod enc Try.prog W 0 (fun _ => true) true n f1.type [v1] = some y1 := by
  obtain ⟨xs, n, rfl, rfl, _, hxl, hf⟩ := DataW.trod_struct he h
  match cs, hl with
  | [v0, v1], _ =>
    have g0 := hf 0 f0 rfl
    have g1 := hf 1 f1 rfl
    rw [h0, c0] at g0
    rw [h1, c1] at g1
    simp at hxl
    match xs, hxl with
    | [x0, x1], _ => exact ⟨v0, v1, n, x0, x1, rfl, by simpa using g0, by simpa using g1⟩

theorem typed_list {α : Type} {conv : α → List Value} {Q : α → Prop} : ∀ {xss : List (List Value)}, (∀ cs ∈ xss, ∃ a, cs = conv a ∧ Q a) → ∃ l : List α, xss = l.map conv ∧ ∀ a ∈ l, Q a
  | [], _ => ⟨[], rfl, by simp⟩
  | cs :: xss, h => by
    obtain ⟨a, ha, hq⟩ := h cs (by simp)
    obtain ⟨l, hl, hQ⟩ := typed_list (xss := xss) fun cs hcs => h cs (by simp [hcs])
    exact ⟨a :: l, by simp [ha, hl], by simpa using ⟨hq, hQ⟩⟩

/-- A slice of integers of one kind that came in. -/
theorem open_nums {t e : TypeId} {k : IntKind} (ht : Try.prog.underlying t = some (.slice e)) (he : Try.prog.underlying e = some (.int k)) (hz : Try.prog.cellsOf e = 1) {r : Reach} {b0 : Nat} {v : Value} {d : DataW H} {p : List MemPlace}
    (hok : Value.okWide Try.prog W r b0 t v) (h : DataW.Trod enc Try.prog W 0 (fun _ => true) true t v d p) :
    ∃ A c, ∃ l : List Int, v = .slice A l.length c ∧ l.length ≤ maxLen ∧ Row W W.heap.size 1 A l.length (l.map (Value.int k)) ∧ l.length ≤ c ∧ c ≤ maxLen ∧ ∀ x ∈ l, (Lit.int k x).wf = true := by
  obtain ⟨A, n, c, xss, rfl, hn, hm, hl, hr, hx⟩ := open_rows (z := 1) ht hz (by decide) hok h
  obtain ⟨l, rfl, hw⟩ := typed_list (conv := fun b : Int => [Value.int k b]) (Q := fun x => (Lit.int k x).wf = true) (xss := xss) (fun cs hcs => by
    obtain ⟨h1, _, y, h2⟩ := hx cs hcs
    obtain ⟨n, rfl, _, hw⟩ := DataW.trod_int he h2
    exact ⟨n, rfl, hw⟩)
  simp only [List.length_map] at hl
  subst hl
  refine ⟨A, c, l, rfl, by omega, ?_, hn, hm, hw⟩
  have e : l.map (Value.int k) = (l.map fun b : Int => [Value.int k b]).flatten := by
    clear hr hx h hok hn hw
    induction l <;> simp_all
  rw [e]
  exact hr
end
end Go.Proofs.Ytmmeceehfdbdoaa
