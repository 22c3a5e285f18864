/-
  Plain words on what a table tells: in whatever order its downtracks are told, they are told by rising Who. Nothing here names the program.
-/
import Derived.Test.YtgjhcnpegaemoaaTbE
import Derived.Test.YtgjhcnpegaemoaaMpG
namespace Go.Proofs.Ytgjhcnpegaemoaa
/-! ### Words on what is told -/
theorem insD_mem {l : List Dn} {x z : Dn} : z ∈ insD l x ↔ z = x ∨ z ∈ l := by
  unfold insD
  rw [List.mem_append, List.mem_cons]
  have h : z ∈ l ↔ z ∈ l.take (placeD l x) ∨ z ∈ l.drop (placeD l x) := by rw [← List.mem_append, List.take_append_drop]
  rw [h]
  constructor
  · rintro (h | h | h)
    · exact .inr (.inl h)
    · exact .inl h
    · exact .inr (.inr h)
  · rintro (h | h | h)
    · exact .inr (.inl h)
    · exact .inl h
    · exact .inr (.inr h)
theorem fold_mem {z : Dn} : ∀ (l acc : List Dn), z ∈ l.foldl insD acc ↔ z ∈ l ∨ z ∈ acc
  | [], acc => by simp
  | a :: l, acc => by
    rw [List.foldl_cons, fold_mem l, insD_mem, List.mem_cons]
    constructor
    · rintro (h | h | h)
      · exact .inl (.inr h)
      · exact .inl (.inl h)
      · exact .inr h
    · rintro ((h | h) | h)
      · exact .inr (.inl h)
      · exact .inl h
      · exact .inr (.inr h)
/-- Those of the track. -/
theorem downs_mem {l : List Dn} {t : Int} {z : Dn} : z ∈ downsS l t ↔ z ∈ l ∧ z.track = t := by
  unfold downsS
  rw [fold_mem, List.mem_filter]
  simp
/-- By rising Who. -/
def RisD (l : List Dn) : Prop := l.Pairwise fun a b => a.who < b.who
theorem take_lt {l : List Dn} {x z : Dn} (h : z ∈ l.take (placeD l x)) : z.who < x.who := by
  obtain ⟨j, hj⟩ := List.getElem?_of_mem h
  rw [List.getElem?_take] at hj
  split at hj
  · exact place_lt ‹_› hj
  · cases hj
theorem drop_le {l : List Dn} {x z : Dn} (hr : RisD l) (h : z ∈ l.drop (placeD l x)) : ¬ z.who < x.who := by
  obtain ⟨j, hj⟩ := List.getElem?_of_mem h
  rw [List.getElem?_drop] at hj
  cases hp : l[placeD l x]? with
  | none =>
    have h1 := List.getElem?_eq_none_iff.1 hp
    have h2 := (List.getElem?_eq_some_iff.1 hj).1
    omega
  | some y =>
    have h1 := place_at hp
    rcases Nat.eq_zero_or_pos j with h0 | h0
    · subst h0
      rw [Nat.add_zero, hp] at hj
      injection hj with hj
      rw [← hj]
      exact h1
    · have h2 := two_at hr (i := placeD l x + j) (k := placeD l x) (by omega) hj hp
      omega
theorem insD_rises {l : List Dn} {x : Dn} (hr : RisD l) (hx : ∀ z ∈ l, z.who ≠ x.who) : RisD (insD l x) := by
  unfold insD RisD
  have h0 : l = l.take (placeD l x) ++ l.drop (placeD l x) := (List.take_append_drop ..).symm
  have h1 := hr
  unfold RisD at h1
  rw [h0, List.pairwise_append] at h1
  rw [List.pairwise_append, List.pairwise_cons]
  refine ⟨h1.1, ⟨fun z hz => ?_, h1.2.1⟩, fun a ha b hb => ?_⟩
  · have h2 := drop_le hr hz
    have h3 := hx z (List.mem_of_mem_drop hz)
    omega
  · rcases List.mem_cons.1 hb with rfl | hb
    · exact take_lt ha
    · exact h1.2.2 a ha b hb
theorem fold_rises : ∀ (l acc : List Dn), RisD acc → (l.Pairwise fun a b => a.who ≠ b.who) → (∀ a ∈ l, ∀ z ∈ acc, z.who ≠ a.who) → RisD (l.foldl insD acc)
  | [], acc, h, _, _ => h
  | a :: l, acc, h, hp, hd => by
    rw [List.foldl_cons]
    rw [List.pairwise_cons] at hp
    refine fold_rises l _ (insD_rises h (hd a (List.mem_cons_self ..))) hp.2 fun b hb z hz => ?_
    rcases insD_mem.1 hz with rfl | hz
    · exact hp.1 b hb
    · exact hd b (List.mem_cons_of_mem _ hb) z hz
theorem OkD.who {l : List Dn} (h : OkD l) (t : Int) : (l.filter fun x => decide (x.track = t)).Pairwise fun a b => a.who ≠ b.who := by
  have h1 := h.two.filter (fun x => decide (x.track = t))
  refine (List.pairwise_iff_getElem.2 fun i j hi hj hij => ?_)
  have h2 := List.pairwise_iff_getElem.1 h1 i j hi hj hij
  have m1 := List.getElem_mem hi
  have m2 := List.getElem_mem hj
  rw [List.mem_filter] at m1 m2
  have t1 := of_decide_eq_true m1.2
  have t2 := of_decide_eq_true m2.2
  intro e
  exact h2 (.inr (.inr ⟨e.symm, by rw [t1, t2]⟩))
theorem downs_rise {l : List Dn} (h : OkD l) (t : Int) : RisD (downsS l t) := fold_rises _ [] .nil (h.who t) (fun _ _ z hz => by simp at hz)
/-- Two rows that rise, and hold the same, are the same. -/
theorem ris_same : ∀ {l m : List Dn}, RisD l → RisD m → (∀ z, z ∈ l ↔ z ∈ m) → l = m
  | [], [], _, _, _ => rfl
  | [], b :: m, _, _, h => by have := (h b).2 (List.mem_cons_self ..); simp at this
  | a :: l, [], _, _, h => by have := (h a).1 (List.mem_cons_self ..); simp at this
  | a :: l, b :: m, hl, hm, h => by
    have hl' := List.pairwise_cons.1 hl
    have hm' := List.pairwise_cons.1 hm
    have e : a = b := by
      rcases List.mem_cons.1 ((h a).1 (List.mem_cons_self ..)) with h1 | h1
      · exact h1
      · rcases List.mem_cons.1 ((h b).2 (List.mem_cons_self ..)) with h2 | h2
        · exact h2.symm
        · have h3 := hm'.1 a h1
          have h4 := hl'.1 b h2
          omega
    subst e
    congr 1
    refine ris_same hl'.2 hm'.2 fun z => ?_
    constructor
    · intro hz
      rcases List.mem_cons.1 ((h z).1 (List.mem_cons_of_mem _ hz)) with h1 | h1
      · subst h1; have := hl'.1 z hz; omega
      · exact h1
    · intro hz
      rcases List.mem_cons.1 ((h z).2 (List.mem_cons_of_mem _ hz)) with h1 | h1
      · subst h1; have := hm'.1 z hz; omega
      · exact h1
/-- In whatever order they are told. -/
theorem downs_same {l m : List Dn} (hl : OkD l) (hm : OkD m) (h : ∀ z, z ∈ l ↔ z ∈ m) (t : Int) : downsS l t = downsS m t :=
  ris_same (downs_rise hl t) (downs_rise hm t) fun z => by rw [downs_mem, downs_mem, h]
theorem badR_symm {x y : Rt} (h : badR x y) : badR y x := h.imp Eq.symm fun h => ⟨h.1.symm, h.2.symm⟩
theorem badD_symm {x y : Dn} (h : badD x y) : badD y x := h.imp Eq.symm fun h => h.imp (fun h => ⟨h.1.symm, h.2.symm⟩) fun h => ⟨h.1.symm, h.2.symm⟩
theorem OkR.reverse {l : List Rt} (h : OkR l) : OkR l.reverse := ⟨fun x hx => h.own x (List.mem_reverse.1 hx), List.pairwise_reverse.2 (h.two.imp fun h h2 => h (badR_symm h2))⟩
theorem OkD.reverse {l : List Dn} (h : OkD l) : OkD l.reverse := ⟨fun x hx => h.own x (List.mem_reverse.1 hx), List.pairwise_reverse.2 (h.two.imp fun h h2 => h (badD_symm h2))⟩
theorem May.reverse {R : List Rt} {D : List Dn} : May R.reverse D.reverse ↔ May R D :=
  ⟨fun h => by have h1 := h.1.reverse; have h2 := h.2.reverse; rw [List.reverse_reverse] at h1 h2; exact ⟨h1, h2⟩, fun h => ⟨h.1.reverse, h.2.reverse⟩⟩
theorem OkR.filter {l : List Rt} (h : OkR l) (p : Rt → Bool) : OkR (l.filter p) := ⟨fun x hx => h.own x (List.mem_filter.1 hx).1, h.two.filter p⟩
theorem OkD.filter {l : List Dn} (h : OkD l) (p : Dn → Bool) : OkD (l.filter p) := ⟨fun x hx => h.own x (List.mem_filter.1 hx).1, h.two.filter p⟩
/-- The one that is there is told, wherever it stands. -/
theorem route_mem {l : List Rt} (h : OkR l) {x : Rt} (hx : x ∈ l) : routeS l x.ssrc = some x := by
  obtain ⟨k, hk⟩ := List.getElem?_of_mem hx
  refine find_take hk (fun j y hj hy => ?_) (by simp)
  have := two_at h.two hj hk hy
  simp only [decide_eq_false_iff_not]
  exact fun e => this (.inl e.symm)
theorem own_mem {l : List Dn} (h : OkD l) {x : Dn} (hx : x ∈ l) : ownS l x.ssrc = some x := by
  obtain ⟨k, hk⟩ := List.getElem?_of_mem hx
  refine find_take hk (fun j y hj hy => ?_) (by simp)
  have := two_at h.two hj hk hy
  simp only [decide_eq_false_iff_not]
  exact fun e => this (.inl e.symm)
/-- Those of the track alone. -/
def trR (t : Int) (l : List Rt) : List Rt := l.filter fun x => decide (x.track = t)
def trD (t : Int) (l : List Dn) : List Dn := l.filter fun x => decide (x.track = t)
theorem downs_filter (l : List Dn) (t : Int) : downsS (trD t l) t = downsS l t := by
  unfold downsS trD
  rw [List.filter_filter]
  simp
theorem source_filter (l : List Rt) (t y : Int) : sourceS (trR t l) t y = sourceS l t y := by
  unfold sourceS trR
  rw [List.find?_filter]
  congr 1
  funext x
  by_cases h : x.track = t <;> simp [h]
theorem downs_length (l : List Dn) (t : Int) : (downsS l t).length = (trD t l).length := by
  have h : ∀ (l acc : List Dn), (l.foldl insD acc).length = l.length + acc.length := by
    intro l
    induction l with
    | nil => intro acc; simp
    | cons a l ih => intro acc; rw [List.foldl_cons, ih, insD_length, List.length_cons]; omega
  unfold downsS trD
  rw [h]
  simp
theorem trR_take {l : List Rt} {k : Nat} {x : Rt} (h : l[k]? = some x) (t : Int) : trR t (l.take (k + 1)) = if x.track = t then trR t (l.take k) ++ [x] else trR t (l.take k) := by
  unfold trR
  rw [take_add h, List.filter_append]
  by_cases h1 : x.track = t
  · rw [if_pos h1, List.filter_cons, if_pos (decide_eq_true h1), List.filter_nil]
  · rw [if_neg h1, List.filter_cons, if_neg (by simpa using h1), List.filter_nil, List.append_nil]
theorem trD_take {l : List Dn} {k : Nat} {x : Dn} (h : l[k]? = some x) (t : Int) : trD t (l.take (k + 1)) = if x.track = t then trD t (l.take k) ++ [x] else trD t (l.take k) := by
  unfold trD
  rw [take_add h, List.filter_append]
  by_cases h1 : x.track = t
  · rw [if_pos h1, List.filter_cons, if_pos (decide_eq_true h1), List.filter_nil]
  · rw [if_neg h1, List.filter_cons, if_neg (by simpa using h1), List.filter_nil, List.append_nil]
theorem trR_le (l : List Rt) (k : Nat) (t : Int) : (trR t (l.take k)).length ≤ k := Nat.le_trans (List.length_filter_le ..) (by rw [List.length_take]; omega)
theorem trD_le (l : List Dn) (k : Nat) (t : Int) : (trD t (l.take k)).length ≤ k := Nat.le_trans (List.length_filter_le ..) (by rw [List.length_take]; omega)
theorem downsS_le (l : List Dn) (t : Int) : (downsS l t).length ≤ l.length := by
  have h : ∀ (l acc : List Dn), (l.foldl insD acc).length = l.length + acc.length := by
    intro l
    induction l with
    | nil => intro acc; simp
    | cons a l ih => intro acc; rw [List.foldl_cons, ih, insD_length, List.length_cons]; omega
  unfold downsS
  rw [h]
  have := List.length_filter_le (fun x : Dn => decide (x.track = t)) l
  simp
  exact this
/-- What was gathered in whatever order, and sorted, is what is told. -/
theorem downs_of {D V l' : List Dn} {t : Int} (hD : OkD D) (hin : ∀ x ∈ V, x ∈ trD t D) (hk : ApartG Dn.who V) (hall : ∀ x ∈ trD t D, fndG Dn.who V x.who ≠ none) (hp : l'.Perm V) (hs : l'.Pairwise fun a b => ¬ b.who < a.who) : l' = downsS D t := by
  have hmem : ∀ x, x ∈ trD t D ↔ x ∈ D ∧ x.track = t := fun x => by unfold trD; rw [List.mem_filter]; simp
  have hVD : ∀ x ∈ trD t D, x ∈ V := by
    intro x hx
    cases hf : fndG Dn.who V x.who with
    | none => exact absurd hf (hall x hx)
    | some z =>
      obtain ⟨hz, he⟩ := fndG_some hf
      have hzD := (hmem z).1 (hin z hz)
      have hxD := (hmem x).1 hx
      obtain ⟨i, hi⟩ := List.getElem?_of_mem hxD.1
      obtain ⟨j, hj⟩ := List.getElem?_of_mem hzD.1
      rcases Nat.lt_trichotomy i j with h | h | h
      · exact absurd (.inr (.inr ⟨he, by rw [hxD.2, hzD.2]⟩)) (two_at hD.two h hj hi)
      · subst h
        rw [hi] at hj
        injection hj with hj
        rw [hj]
        exact hz
      · exact absurd (.inr (.inr ⟨he.symm, by rw [hxD.2, hzD.2]⟩)) (two_at hD.two h hi hj)
  have hne' : l'.Pairwise fun a b => a.who ≠ b.who := (hp.pairwise_iff (fun h => Ne.symm h)).2 hk
  have hr : RisD l' := (List.Pairwise.and hs hne').imp fun h => by omega
  refine ris_same hr (downs_rise hD t) fun z => ?_
  rw [hp.mem_iff, downs_mem, ← hmem]
  exact ⟨hin z, hVD z⟩
end Go.Proofs.Ytgjhcnpegaemoaa
