/-
  A region that draws its order, by what holds however far it has come: an invariant, each operation kept apart. Nothing here names the program.
-/
import Derived.Test.YticnaljfnjiofaaHang
namespace Go.Proofs.Yticnaljfnjiofaa

section
variable {P : Program} {ops : Array Oper} {Q : Exit → Act → World → Prop} {md : Region.Mode} {S : World → Prop} {D : List Nat}

/-- How many operations are to come. -/
def rest_of (l : Array Bool) : Nat := l.toList.count false
theorem rest_set {l : Array Bool} {i : Nat} (h : l.getD i true = false) : rest_of (l.setIfInBounds i true) + 1 = rest_of l := by
  obtain ⟨l⟩ := l
  have hi : i < l.length := by
    rcases Nat.lt_or_ge i l.length with h1 | h1
    · exact h1
    · simp [h1] at h
  have he : l[i] = false := by simpa [hi] using h
  unfold rest_of
  simp only [List.setIfInBounds_toArray]
  rw [List.count_set (h := hi), he]
  have : 0 < l.count false := List.count_pos_iff.2 (by rw [← he]; exact List.getElem_mem hi)
  simp
  omega
theorem ready_rest {l : Array Bool} {i : Nat} (h : i ∈ Region.ready md ops l) : 0 < rest_of l := by
  have h1 := rest_set (mem_ready.1 h).1
  omega
/-- What an operation waits for. -/
def waitsFor (md : Region.Mode) (ops : Array Oper) (i : Nat) : List Nat :=
  match ops[i]? with
  | some o => (o.after.toList.filter fun e => Region.binds md e).map fun e => e.on
  | none => []
theorem ready_split {l : Array Bool} {i n : Nat} (hn : ops.size = n) (h : i ∈ Region.ready md ops l) : l.getD i true = false ∧ i ∈ List.range n ∧ (waitsFor md ops i).all (fun d => l.getD d false) = true := by
  obtain ⟨h1, o, ho, hall⟩ := mem_ready.1 h
  refine ⟨h1, ?_, ?_⟩
  · rw [List.mem_range, ← hn]
    exact (Array.getElem?_eq_some_iff.1 ho).1
  · unfold waitsFor
    rw [ho, List.all_eq_true]
    intro d hd
    obtain ⟨e, he, rfl⟩ := List.mem_map.1 hd
    obtain ⟨he, hb⟩ := List.mem_filter.1 he
    exact hall e (by simpa using he) hb
theorem waits_as {L : List Nat} {l : Array Bool} {i : Nat} (h : waitsFor md ops i = L) (hd : (waitsFor md ops i).all (fun d => l.getD d false) = true) : L.all (fun d => l.getD d false) = true := by rw [← h]; exact hd
theorem was_listed {l : Array Bool} {i : Nat} (h1 : l.getD i true = false) (h2 : l.getD i false = true) : False := getD_both h1 h2
theorem listed_old {l : Array Bool} {i k : Nat} (h : (l.setIfInBounds i true).getD k false = true) (hne : i ≠ k) : l.getD k false = true := by rwa [getD_set_ne false hne] at h
theorem listed_new {l : Array Bool} {i k : Nat} (h : l.getD k false = true) : (l.setIfInBounds i true).getD k false = true := by
  by_cases h2 : i = k
  · subst h2
    rcases Nat.lt_or_ge i l.size with h3 | h3
    · simp [h3]
    · simp [Array.getElem?_eq_none h3] at h
  · rw [getD_set_ne false h2]
    exact h

theorem wpAnyX_inv (I : Array Bool → Act → World → Prop) (hS : ∀ l a w, I l a w → S w)
    (hstep : ∀ l a w, I l a w → ∀ i ∈ Region.ready md ops l, wpOp P ops Q i (fun a' w' => I (l.setIfInBounds i true) a' w') a w)
    (hend : ∀ l a w, I l a w → Region.ready md ops l = [] → Q .normal a w) :
    ∀ (fuel : Nat) (l : Array Bool) (a : Act) (w : World), rest_of l ≤ fuel → I l a w → wpAnyX P md ops Q S D fuel l a w
  | 0, l, a, w, hf, hI => by
    have hr : Region.ready md ops l = [] := by
      cases hc : Region.ready md ops l with
      | nil => rfl
      | cons i t =>
        have := ready_rest (md := md) (ops := ops) (l := l) (i := i) (by rw [hc]; simp)
        omega
    exact ⟨hr, hend l a w hI hr⟩
  | fuel + 1, l, a, w, hf, hI => by
    refine ⟨fun hr => hend l a w hI hr, fun i hi => ?_⟩
    refine wpOp_mono (fun a' w' h' => ⟨.inr (hS _ _ _ h'), wpAnyX_inv I hS hstep hend fuel _ a' w' ?_ h'⟩) (hstep l a w hI i hi)
    have := rest_set (mem_ready.1 hi).1
    omega
theorem done_listed {l : Array Bool} {i n : Nat} (hl : l.size = n) (hi : i < n) (hn : ops.size = n) (hr : Region.ready md ops l = []) (h : (waitsFor md ops i).all (fun d => l.getD d false) = true) : l.getD i false = true := by
  cases hc : l.getD i false with
  | true => rfl
  | false =>
    exfalso
    have h1 : l.getD i true = false := by
      rw [Array.getD_eq_getD_getElem?, Array.getElem?_eq_getElem (by omega)] at hc ⊢
      simpa using hc
    have h2 : i ∈ Region.ready md ops l := mem_ready.2 ⟨h1, ops[i]'(by omega), by simp [hn, hi], fun e he hb => by
      unfold waitsFor at h
      rw [Array.getElem?_eq_getElem (by omega : i < ops.size), List.all_eq_true] at h
      exact h e.on (List.mem_map.2 ⟨e, List.mem_filter.2 ⟨by simpa using he, hb⟩, rfl⟩)⟩
    rw [hr] at h2
    cases h2
theorem unlisted_false {l : Array Bool} {i : Nat} (h : l.getD i true = false) : l.getD i false = false := by
  rcases Nat.lt_or_ge i l.size with h1 | h1
  · rw [Array.getD_eq_getD_getElem?, Array.getElem?_eq_getElem h1] at h ⊢
    simpa using h
  · simp [Array.getElem?_eq_none h1] at h
theorem listed_same {l : Array Bool} {i k : Nat} {b : Bool} (h : (l.setIfInBounds i true).getD k false = b) (hne : i ≠ k) : l.getD k false = b := by rwa [getD_set_ne false hne] at h
theorem listed_now {l : Array Bool} {i : Nat} (h : l.getD i true = false) : (l.setIfInBounds i true).getD i false = true := by
  rcases Nat.lt_or_ge i l.size with h1 | h1
  · simp [h1]
  · simp [Array.getElem?_eq_none h1] at h
/-- The act under a name. -/
theorem wpAnyX_named {fuel : Nat} {l : Array Bool} {a : Act} {w : World} (h : ∀ a0 : Act, a0 = a → wpAnyX P md ops Q S D fuel l a0 w) : wpAnyX P md ops Q S D fuel l a w := h a rfl
/-- A step of an operation. -/
theorem inv_op {i : Nat} {o : Oper} {K : Act → World → Prop} {a : Act} {w : World} (ho : ops[i]? = some o)
    (h : ∀ K' : Act → World → Prop, Shut (∀ a w, K a w → K' a w) → if Region.wanted o (yielded ops a.tmps) = true then Oper.wp P o a w K' Q else K' (a.put o.dst undef) w) : wpOp P ops Q i K a w :=
  wpOp_step ho (fun K' hK => h K' hK)
end
end Go.Proofs.Yticnaljfnjiofaa
