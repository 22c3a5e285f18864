/-
  A region that draws its order, holds calls, and at last writes a cell that it has read: what the region reads is taken first, and S need not be shown behind what hangs (by the region's own edges) on what was read. Nothing here names the program.
-/
import Derived.Test.YtmmeceehfdbdoaaWords
import Derived.OrdersHeld
import Derived.Deep.RegionHeld3
namespace Go.Proofs.Ytmmeceehfdbdoaa

section
variable {P : Program} {ops : Array Oper} {Q : Exit → Act → World → Prop} {md : Region.Mode} {S : World → Prop} {D : List Nat}

/-- As wpAnyH, but behind the operations D S need not be shown. -/
def wpAnyX (P : Program) (md : Region.Mode) (ops : Array Oper) (Q : Exit → Act → World → Prop) (S : World → Prop) (D : List Nat) : Nat → Array Bool → Act → World → Prop
  | 0, listed, a, w => Region.ready md ops listed = [] ∧ Q .normal a w
  | fuel + 1, listed, a, w =>
    (Region.ready md ops listed = [] → Q .normal a w) ∧
    ∀ i ∈ Region.ready md ops listed, wpOp P ops Q i (fun a' w' => (i ∈ D ∨ S w') ∧ wpAnyX P md ops Q S D fuel (listed.setIfInBounds i true) a' w') a w
theorem wpAny_of_X : ∀ (fuel : Nat) (listed : Array Bool) (a : Act) (w : World), wpAnyX P md ops Q S D fuel listed a w → wpAny P md ops Q fuel listed a w
  | 0, _, _, _, h => h
  | fuel + 1, _, _, _, h => ⟨h.1, fun i hi => wpOp_mono (fun a' w' h' => wpAny_of_X fuel _ a' w' h'.2) (h.2 i hi)⟩
theorem wpAnyX_more {S2 : World → Prop} (hs : ∀ w, S2 w → S w) : ∀ {fuel : Nat} {listed : Array Bool} {a : Act} {w : World}, wpAnyX P md ops Q S2 D fuel listed a w → wpAnyX P md ops Q S D fuel listed a w
  | 0, _, _, _, h => h
  | _ + 1, _, _, _, h => ⟨h.1, fun i hi => wpOp_mono (fun _ w' h' => ⟨h'.1.imp id (hs w'), wpAnyX_more hs h'.2⟩) (h.2 i hi)⟩

/-- Each of the operations C waits for operation i, or for another one of C. -/
def hang (md : Region.Mode) (ops : Array Oper) (i : Nat) (C : List Nat) : Bool :=
  C.all fun c => match ops[c]? with
    | some oc => oc.after.any fun e => Region.binds md e && (e.on == i || C.contains e.on)
    | none => false
theorem hang_spec {i c : Nat} {C : List Nat} (h : hang md ops i C = true) (hc : c ∈ C) : ∃ oc, ops[c]? = some oc ∧ ∃ e ∈ oc.after, Region.binds md e = true ∧ (e.on = i ∨ e.on ∈ C) := by
  have h1 := List.all_eq_true.1 h c hc
  cases ho : ops[c]? with
  | none => rw [ho] at h1; cases h1
  | some oc =>
    rw [ho] at h1
    obtain ⟨e, he, hb⟩ := Array.any_eq_true'.1 h1
    simp only [Bool.and_eq_true, Bool.or_eq_true, beq_iff_eq, List.contains_iff_mem] at hb
    exact ⟨oc, rfl, e, he, hb.1, hb.2⟩
def unlisted (listed : Array Bool) (C : List Nat) : Bool := C.all fun c => !listed.getD c true
theorem unlisted_spec {listed : Array Bool} {C : List Nat} (h : unlisted listed C = true) (c : Nat) (hc : c ∈ C) : listed.getD c true = false := by
  have := List.all_eq_true.1 h c hc
  simpa using this
theorem getD_both {listed : Array Bool} {i : Nat} (h1 : listed.getD i true = false) (h2 : listed.getD i false = true) : False := by
  rcases Nat.lt_or_ge i listed.size with h | h
  · simp [h] at h1 h2; rw [h1] at h2; cases h2
  · simp [Array.getElem?_eq_none h] at h1
theorem ready_ne {i j : Nat} {C : List Nat} {listed : Array Bool} (hh : hang md ops i C = true) (hi : listed.getD i true = false) (hC : ∀ c ∈ C, listed.getD c true = false) (hj : j ∈ Region.ready md ops listed) : j ∉ C := by
  intro hc
  obtain ⟨oc, ho, e, he, hb, hw⟩ := hang_spec hh hc
  obtain ⟨_, o, ho', hall⟩ := mem_ready.1 hj
  rw [ho] at ho'
  injection ho' with ho'
  subst ho'
  have := hall e he hb
  rcases hw with h | h
  · rw [h] at this; exact getD_both hi this
  · exact getD_both (hC _ h) this
theorem mem_ready_set {i j : Nat} {listed : Array Bool} (hj : j ∈ Region.ready md ops listed) (hne : j ≠ i) : j ∈ Region.ready md ops (listed.setIfInBounds i true) := by
  obtain ⟨h0, o, ho, h⟩ := mem_ready.1 hj
  refine mem_ready.2 ⟨by rw [getD_set_ne true (Ne.symm hne)]; exact h0, o, ho, fun e he hb => ?_⟩
  have h1 := h e he hb
  by_cases h2 : i = e.on
  · subst h2
    rcases Nat.lt_or_ge e.on listed.size with h3 | h3
    · simp [h3]
    · simp [Array.getElem?_eq_none h3] at h1
  · rw [getD_set_ne false h2]; exact h1

theorem wpAnyX_first {i : Nat} {oi : Oper} {v : Value} {C : List Nat} (hi : ops[i]? = some oi) (hsel : ∀ (j : Nat) (o : Oper) cs b, ops[j]? = some o → o.op ≠ .select cs b)
    (hQ : ∀ c a w, Q (.panic c) (a.put oi.dst v) w → Q (.panic c) a w) (hh : hang md ops i C = true) (hDC : ∀ d ∈ D, d ∈ C) :
    ∀ (fuel : Nat) (listed : Array Bool) (a : Act) (w : World),
      (∀ j oj, ops[j]? = some oj → j ≠ i → listed.getD j true = false → (∀ e ∈ oj.after, Region.binds md e = true → e.on ≠ i) → oi.apart ops oj = true) →
      i ∈ Region.ready md ops listed → (∀ c ∈ C, listed.getD c true = false) → YieldsIf P ops S oi v a → S w →
      wpAnyX P md ops Q S D fuel (listed.setIfInBounds i true) (a.put oi.dst v) w → wpAnyX P md ops Q S D (fuel + 1) listed a w := by
  intro fuel
  induction fuel with
  | zero =>
    intro listed a w _ hr hC hy hS H
    refine ⟨fun h => (by rw [h] at hr; cases hr), fun j hj => ?_⟩
    by_cases hji : j = i
    · subst hji; exact hy.wpOp hi hS ⟨.inr hS, H⟩
    · have := mem_ready_set hj hji
      rw [H.1] at this
      cases this
  | succ fuel ih =>
    intro listed a w hfree hr hC hy hS H
    refine ⟨fun h => (by rw [h] at hr; cases hr), fun j hj => ?_⟩
    by_cases hji : j = i
    · subst hji; exact hy.wpOp hi hS ⟨.inr hS, H⟩
    · have h1 := H.2 j (mem_ready_set hj hji)
      have hun := (mem_ready.1 hr).1
      have hjC := ready_ne hh hun hC hj
      have hjD : j ∉ D := fun h => hjC (hDC j h)
      obtain ⟨hjun, oj, hoj, hall⟩ := mem_ready.1 hj
      have hnot : ∀ e ∈ oj.after, Region.binds md e = true → e.on ≠ i := fun e he hb heq => by
        have h1 := hall e he hb
        rw [heq] at h1
        exact getD_both hun h1
      have h2 := wpOp_putIf hoj (hfree j oj hoj hji hjun hnot) (fun cs b => hsel i oi cs b hi) (fun cs b => hsel j oj cs b hoj) hQ hy h1
      have hfree' : ∀ k ok, ops[k]? = some ok → k ≠ i → (listed.setIfInBounds j true).getD k true = false →
          (∀ e ∈ ok.after, Region.binds md e = true → e.on ≠ i) → oi.apart ops ok = true := fun k ok hk hki hun hno => by
        refine hfree k ok hk hki ?_ hno
        by_cases hjk : j = k
        · subst hjk; exact hjun
        · rw [getD_set_ne true hjk] at hun; exact hun
      have hC' : ∀ c ∈ C, (listed.setIfInBounds j true).getD c true = false := fun c hc => by
        have hne : j ≠ c := fun e => hjC (by rw [e]; exact hc)
        rw [getD_set_ne true hne]
        exact hC c hc
      refine wpOp_mono (fun a' w' h3 => ?_) h2
      have hS' : S w' := h3.2.1.resolve_left hjD
      refine ⟨.inr hS', ih (listed.setIfInBounds j true) a' w' hfree' (mem_ready_set hr (Ne.symm hji)) hC' h3.1 hS' ?_⟩
      rw [Array.setIfInBounds_comm _ _ hji]
      exact h3.2.2

theorem wpAnyX_take {i : Nat} (C : List Nat) {oi : Oper} {v : Value} {fuel : Nat} {listed : Array Bool} {a : Act} {w : World} (hi : ops[i]? = some oi)
    (hs : Region.noSelect ops = true) (hf : Region.free md ops listed i = true) (hr : (Region.ready md ops listed).contains i = true)
    (hh : (hang md ops i C && unlisted listed C && D.all fun d => C.contains d) = true)
    (hQ : ∀ c a w, Q (.panic c) (a.put oi.dst v) w → Q (.panic c) a w) (hy : YieldsIf P ops S oi v a) (hS : S w)
    (h : wpAnyX P md ops Q S D fuel (listed.setIfInBounds i true) (a.put oi.dst v) w) : wpAnyX P md ops Q S D (fuel + 1) listed a w := by
  simp only [Bool.and_eq_true] at hh
  exact wpAnyX_first hi (Region.noSelect_spec hs) hQ hh.1.1 (fun d hd => by simpa using List.all_eq_true.1 hh.2 d hd) fuel listed a w (Region.free_spec hi hf) (by simpa using hr) (unlisted_spec hh.1.2) hy hS h
/-- wpAnyX_take, with what is always shown in one way. -/
theorem tk {i : Nat} (C : List Nat) {oi : Oper} {v : Value} {fuel : Nat} {listed : Array Bool} {a : Act} {w : World}
    (hy : ∀ w, S w → (execOp a.eval oi).run P w = .ok (.value v) w)
    (h : wpAnyX P md ops Q S D fuel (listed.setIfInBounds i true) (a.put oi.dst v) w)
    (hi : ops[i]? = some oi := by exact rfl) (hs : Region.noSelect ops = true := by kernel_rfl) (hf : Region.free md ops listed i = true := by kernel_rfl) (hr : (Region.ready md ops listed).contains i = true := by kernel_rfl)
    (hh : (hang md ops i C && unlisted listed C && D.all fun d => C.contains d) = true := by kernel_rfl)
    (hQ : ∀ c a w, Q (.panic c) (a.put oi.dst v) w → Q (.panic c) a w := by exact fun _ _ _ h => h) (hw : Region.wanted oi (yielded ops a.tmps) = true := by kernel_rfl) (hS : S w := by assumption) : wpAnyX P md ops Q S D (fuel + 1) listed a w :=
  wpAnyX_take C hi hs hf hr hh hQ (Or.inl ⟨hw, hy⟩) hS h
theorem wpAnyX_done {listed : Array Bool} {a : Act} {w : World} (hr : Region.ready md ops listed = []) (h : Q .normal a w) :
    ∀ fuel, wpAnyX P md ops Q S D fuel listed a w
  | 0 => ⟨hr, h⟩
  | _ + 1 => ⟨fun _ => h, by rw [hr]; simp⟩
theorem wpAnyX_one {fuel : Nat} {listed : Array Bool} {a : Act} {w : World} (i : Nat) {o : Oper} (hr : Region.ready md ops listed = [i]) (ho : ops[i]? = some o)
    (h : ∀ K' : Act → World → Prop, Shut (∀ a w, (i ∈ D ∨ S w) → wpAnyX P md ops Q S D fuel (listed.setIfInBounds i true) a w → K' a w) → if Region.wanted o (yielded ops a.tmps) = true then Oper.wp P o a w K' Q else K' (a.put o.dst undef) w) :
    wpAnyX P md ops Q S D (fuel + 1) listed a w := by
  refine ⟨fun h0 => (by rw [hr] at h0; cases h0), fun j hj => ?_⟩
  rw [hr] at hj
  obtain rfl := List.mem_singleton.1 hj
  exact wpOp_step ho (fun K' hK => h K' (fun a w hS hW => hK a w ⟨hS, hW⟩))
/-- Two that may come up. -/
theorem wpAnyX_two {fuel : Nat} {listed : Array Bool} {a : Act} {w : World} (i j : Nat) {o o2 : Oper} (hr : Region.ready md ops listed = [i, j]) (ho : ops[i]? = some o) (ho2 : ops[j]? = some o2)
    (h : ∀ K' : Act → World → Prop, Shut (∀ a w, (i ∈ D ∨ S w) → wpAnyX P md ops Q S D fuel (listed.setIfInBounds i true) a w → K' a w) → if Region.wanted o (yielded ops a.tmps) = true then Oper.wp P o a w K' Q else K' (a.put o.dst undef) w)
    (h2 : ∀ K' : Act → World → Prop, Shut (∀ a w, (j ∈ D ∨ S w) → wpAnyX P md ops Q S D fuel (listed.setIfInBounds j true) a w → K' a w) → if Region.wanted o2 (yielded ops a.tmps) = true then Oper.wp P o2 a w K' Q else K' (a.put o2.dst undef) w) :
    wpAnyX P md ops Q S D (fuel + 1) listed a w := by
  refine ⟨fun h0 => (by rw [hr] at h0; cases h0), fun k hk => ?_⟩
  rw [hr] at hk
  rcases List.mem_cons.1 hk with rfl | hk
  · exact wpOp_step ho (fun K' hK => h K' (fun a w hS hW => hK a w ⟨hS, hW⟩))
  · obtain rfl := List.mem_singleton.1 hk
    exact wpOp_step ho2 (fun K' hK => h2 K' (fun a w hS hW => hK a w ⟨hS, hW⟩))
theorem wp_region_X {id : Nat} {a : Act} {w : World} (D : List Nat) (hm : P.follows .mixedOrders = true) (hS : S w.drew)
    (h : S w.drew → wpAnyX P .any ops Q S D ops.size (Array.replicate ops.size false) a w.drew) : (Code.region id ops true).wp P Q a w :=
  wp_region_any hm (wpAny_of_X _ _ _ _ (h hS))
end
end Go.Proofs.Ytmmeceehfdbdoaa
