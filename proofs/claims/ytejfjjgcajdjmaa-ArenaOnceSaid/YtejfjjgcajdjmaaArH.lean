/-
  For ArenaOnce: what the Refs that were told come to; plain facts. Then the arena and three rows of the call's own in one world.
-/
import Derived.Test.YtejfjjgcajdjmaaArS
namespace Go.Proofs.Ytejfjjgcajdjmaa
open Go.RowKit
set_option linter.unusedSimpArgs false
set_option linter.unusedVariables false

/-- A Ref that was told: its slot, its turn, what was put there, whether it was freed. -/
structure En where
  s : Nat
  t : Nat
  x : Int
  g : Bool
def En.pr (e : En) : Nat × Nat := (e.s, e.t)
def turnAt (l : List Sl) (s : Nat) : Nat := match l[s]? with | some y => y.turn | none => 0
structure EnOk (l : List Sl) (e : En) : Prop where
  inn : e.s < l.length
  low : e.t ≤ turnAt l e.s
  get : getA l (e.s : Int) (e.t : Int) = if e.g = true then none else some (.int .i64 e.x)
structure Hist (l : List Sl) (T : List En) : Prop where
  ok : ∀ e ∈ T, EnOk l e
  nd : (T.map En.pr).Nodup
theorem Hist.nil (l : List Sl) : Hist l [] := ⟨fun e he => by simp at he, by simp⟩
theorem getA_cases {l : List Sl} {k : Nat} {y : Sl} (h : l[k]? = some y) (t : Nat) : getA l (k : Int) (t : Int) = if y.used = true ∧ y.turn = t then some y.x else none := by
  rw [getA_in h]
  by_cases hc : y.used = true ∧ y.turn = t
  · rw [if_pos hc, if_pos ⟨hc.1, by exact_mod_cast hc.2⟩]
  · rw [if_neg hc, if_neg (fun h => hc ⟨h.1, by exact_mod_cast h.2⟩)]
theorem getA_other {l : List Sl} {i k : Nat} (y : Sl) (h : i ≠ k) (t : Int) : getA (l.set i y) (k : Int) t = getA l (k : Int) t := by
  unfold getA
  rw [Int.toNat_natCast, List.getElem?_set_ne h]
theorem turnAt_other {l : List Sl} {i k : Nat} (y : Sl) (h : i ≠ k) : turnAt (l.set i y) k = turnAt l k := by
  unfold turnAt
  rw [List.getElem?_set_ne h]
theorem turnAt_set {l : List Sl} {i : Nat} (y : Sl) (h : i < l.length) : turnAt (l.set i y) i = y.turn := by
  unfold turnAt
  rw [List.getElem?_set_self h]
theorem turnAt_eq {l : List Sl} {k : Nat} {y : Sl} (h : l[k]? = some y) : turnAt l k = y.turn := by unfold turnAt; rw [h]
theorem hist_fresh {l : List Sl} {T : List En} (h : Hist l T) (hl : lowA l < l.length) : ∀ e ∈ T, ¬ (e.s = lowA l ∧ e.t = turnA l) := by
  intro e he hc
  have hlow := (h.ok e he).low
  have hy : l[lowA l]? = some (l[lowA l]'hl) := List.getElem?_eq_getElem hl
  rw [hc.1, turnAt_eq hy, hc.2, turn_at hy] at hlow
  omega
theorem hist_take {l : List Sl} {T : List En} (h : Hist l T) (hl : lowA l < l.length) (x : Int) : Hist (takeA l (.int .i64 x)) (T ++ [⟨lowA l, turnA l, x, false⟩]) := by
  have hfr := hist_fresh h hl
  have hy : l[lowA l]? = some (l[lowA l]'hl) := List.getElem?_eq_getElem hl
  have hu := lowA_free hl
  obtain ⟨y, hyy⟩ : ∃ y, l[lowA l]'hl = y := ⟨_, rfl⟩
  rw [hyy] at hy hu
  have hta := turn_at hy
  rw [take_yes hl]
  obtain ⟨k, hk⟩ : ∃ k, lowA l = k := ⟨_, rfl⟩
  rw [hk] at hfr hl hy ⊢
  refine ⟨fun e he => ?_, ?_⟩
  · rcases List.mem_append.1 he with he | he
    · have h1 := h.ok e he
      by_cases hs : k = e.s
      · have hy2 : l[e.s]? = some y := hs ▸ hy
        have hlow := h1.low
        rw [turnAt_eq hy2] at hlow
        have hg := h1.get
        rw [getA_cases hy2, if_neg (by rw [hu]; simp)] at hg
        have heg : e.g = true := by
          cases hgg : e.g with
          | true => rfl
          | false => rw [hgg] at hg; simp at hg
        refine ⟨by rw [List.length_set]; exact h1.inn, ?_, ?_⟩
        · rw [← hs, turnAt_set _ hl, hta]; show e.t ≤ y.turn + 1; omega
        · rw [← hs, getA_cases (y := ⟨.int .i64 x, turnA l, true⟩) (List.getElem?_set_self hl), heg, if_pos rfl, if_neg]
          intro hc
          have : turnA l = e.t := hc.2
          omega
      · exact ⟨by rw [List.length_set]; exact h1.inn, by rw [turnAt_other _ hs]; exact h1.low, by rw [getA_other _ hs]; exact h1.get⟩
    · rw [List.mem_singleton.1 he]
      refine ⟨by rw [List.length_set]; exact hl, by rw [turnAt_set _ hl]; exact Nat.le_refl _, ?_⟩
      rw [getA_cases (y := ⟨.int .i64 x, turnA l, true⟩) (List.getElem?_set_self hl), if_pos ⟨rfl, rfl⟩, if_neg (by simp)]
  · rw [List.map_append, List.nodup_append]
    refine ⟨h.nd, by simp, ?_⟩
    intro a ha b hb
    obtain ⟨e, he, rfl⟩ := List.mem_map.1 ha
    simp at hb
    subst hb
    intro hc
    unfold En.pr at hc
    injection hc with h1 h2
    exact hfr e he ⟨h1, h2⟩
theorem pr_set {T : List En} {k : Nat} {e : En} (h : T[k]? = some e) : (T.set k ⟨e.s, e.t, e.x, true⟩).map En.pr = T.map En.pr := by
  rw [List.map_set]
  apply List.ext_getElem?
  intro j
  by_cases hj : k = j
  · subst hj
    rw [List.getElem?_set_self (by rw [List.length_map]; exact (List.getElem?_eq_some_iff.1 h).1), List.getElem?_map, h]
    rfl
  · rw [List.getElem?_set_ne hj]
theorem hist_free {l : List Sl} {T : List En} (h : Hist l T) {k : Nat} {e : En} (hk : T[k]? = some e) : Hist (freeA zI l (e.s : Int) (e.t : Int)) (T.set k ⟨e.s, e.t, e.x, true⟩) := by
  have h1 := h.ok e (List.mem_of_getElem? hk)
  obtain ⟨y, hy⟩ : ∃ y, l[e.s]? = some y := ⟨_, List.getElem?_eq_getElem h1.inn⟩
  refine ⟨fun d hd => ?_, by rw [pr_set hk]; exact h.nd⟩
  obtain ⟨j, hjd⟩ := List.mem_iff_getElem?.1 hd
  have hkl : k < T.length := (List.getElem?_eq_some_iff.1 hk).1
  unfold freeA
  by_cases hg : (getA l (e.s : Int) (e.t : Int)).isSome = true
  · rw [if_pos hg, Int.toNat_natCast, Int.toNat_natCast]
    have hc : y.used = true ∧ y.turn = e.t := by
      rw [getA_cases hy] at hg
      by_cases hc : y.used = true ∧ y.turn = e.t
      · exact hc
      · rw [if_neg hc] at hg; cases hg
    by_cases hjk : k = j
    · subst hjk
      rw [List.getElem?_set_self hkl] at hjd
      injection hjd with hjd
      subst hjd
      refine ⟨by rw [List.length_set]; exact h1.inn, ?_, ?_⟩
      · rw [turnAt_set _ h1.inn]; exact Nat.le_refl _
      · rw [getA_cases (y := ⟨zI, e.t, false⟩) (List.getElem?_set_self h1.inn), if_neg (by simp), if_pos rfl]
    · rw [List.getElem?_set_ne hjk] at hjd
      have h2 := h.ok d (List.mem_of_getElem? hjd)
      by_cases hs : e.s = d.s
      · have hy2 : l[d.s]? = some y := hs ▸ hy
        by_cases hg2 : d.g = true
        · refine ⟨by rw [List.length_set]; exact h2.inn, ?_, ?_⟩
          · rw [← hs, turnAt_set _ h1.inn]
            have := h2.low
            rw [turnAt_eq hy2, hc.2] at this
            exact this
          · rw [← hs, getA_cases (y := ⟨zI, e.t, false⟩) (List.getElem?_set_self h1.inn), if_neg (by simp), if_pos hg2]
        · exfalso
          have h3 := h2.get
          rw [getA_cases hy2, if_neg hg2] at h3
          have h4 : y.used = true ∧ y.turn = d.t := by
            by_cases h4 : y.used = true ∧ y.turn = d.t
            · exact h4
            · rw [if_neg h4] at h3; cases h3
          have h5 : (T.map En.pr)[j]? = (T.map En.pr)[k]? := by
            rw [List.getElem?_map, List.getElem?_map, hjd, hk]
            unfold En.pr
            simp only [Option.map_some]
            rw [← hs, ← h4.2, hc.2]
          exact hjk ((List.getElem?_inj (by rw [List.length_map]; exact (List.getElem?_eq_some_iff.1 hjd).1) h.nd).1 h5).symm
      · exact ⟨by rw [List.length_set]; exact h2.inn, by rw [turnAt_other _ hs]; exact h2.low, by rw [getA_other _ hs]; exact h2.get⟩
  · rw [if_neg hg]
    have heg : e.g = true := by
      have := h1.get
      cases hgg : e.g with
      | true => rfl
      | false => rw [hgg] at this; rw [this] at hg; simp at hg
    rcases List.mem_or_eq_of_mem_set hd with hd | hd
    · exact h.ok d hd
    · subst hd
      exact ⟨h1.inn, h1.low, by rw [h1.get, heg]⟩
theorem hist_some {l : List Sl} {T : List En} (h : Hist l T) {k : Nat} {e : En} (hk : T[k]? = some e) : (getA l (e.s : Int) (e.t : Int)).isSome = !e.g := by
  rw [(h.ok e (List.mem_of_getElem? hk)).get]
  cases e.g <;> rfl

/-- Two rows of elements of other types lie in other blocks. -/
theorem own_apart15 {w : World} {b b' : Nat} {e e' : TypeId} {z z' n n' : Nat} {v v' : Value} {xs xs' : List Value} (h : w.ownsRow b e z v n xs) (h' : w.ownsRow b' e' z' v' n' xs') (hne : e ≠ e') : ∀ q, v.ownBlock = some q → v'.ownBlock ≠ some q := by
  rcases h.2 with ⟨rfl, _⟩ | ⟨g, cap, cur, rfl, _, hh, _⟩
  · intro q hq; simp [Value.ownBlock] at hq
  · rcases h'.2 with ⟨rfl, _⟩ | ⟨g', cap', cur', rfl, _, hh', _⟩
    · intro q _; simp [Value.ownBlock]
    · intro q hq he
      have e1 : g = q := by simpa [Value.ownBlock] using hq
      have e2 : g' = q := by simpa [Value.ownBlock] using he
      subst e1
      subst e2
      rw [hh] at hh'
      injection hh' with hh'
      injection hh' with _ ht
      exact hne ht
theorem own_grown15 {w w' : World} {row : Option Nat} {base : Nat} {e : TypeId} {z n : Nat} {v : Value} {xs : List Value} (h : w.ownsRow base e z v n xs) (k : w.grownBy w' row) (hv : ∀ q, v.ownBlock = some q → row ≠ some q) : w'.ownsRow base e z v n xs := by
  refine ⟨h.1, h.2.imp id ?_⟩
  rintro ⟨g, cap, cur, h1, h2, h3, h4⟩
  have hlt : g < w.heap.size := (Array.getElem?_eq_some_iff.1 h3).1
  exact ⟨g, cap, cur, h1, h2, (k.block g hlt (fun e => hv g (by rw [h1]; rfl) e.symm)).trans h3, h4⟩
theorem own_far15 {w : World} {p : Addr} {u : Value} {base : Nat} {e : TypeId} {z n : Nat} {v : Value} {xs : List Value} (h : w.ownsRow base e z v n xs) (hv : ∀ q, v.ownBlock = some q → p.block ≠ q) : (w.setCell p u).ownsRow base e z v n xs := by
  refine ⟨h.1, h.2.imp id ?_⟩
  rintro ⟨g, cap, cur, h1, h2, h3, h4⟩
  exact ⟨g, cap, cur, h1, h2, (Below.heap_setCell _ _ _ _ (fun e => hv g (by rw [h1]; rfl) e.symm)).trans h3, h4⟩

/-- The arena, and the rows of what was told, in one world (row by row, as they grow one behind the other). -/
structure Tri (w0 : World) (g : Nat) (l : List Sl) (S : Nat → Prop) (T7 : List (Nat × Nat)) (T8 : List Int) (T9 : List Bool) (v7 v8 v9 : Value) (wr : World) : Prop where
  ar : ArAt true wr g S l
  sLo : ∀ j, S j → w0.heap.size ≤ j
  o7 : wr.ownsRow w0.heap.size 30 2 v7 T7.length (refC T7)
  o8 : wr.ownsRow w0.heap.size 3 1 v8 T8.length (T8.map (Value.int .i64))
  o9 : wr.ownsRow w0.heap.size 4 1 v9 T9.length (T9.map Value.bool)
  n7 : ∀ b, v7.ownBlock = some b → ¬ S b
  n8 : ∀ b, v8.ownBlock = some b → ¬ S b
  n9 : ∀ b, v9.ownBlock = some b → ¬ S b
  below : Below w0.heap.size w0 wr

section
variable {w0 wr w' : World} {g : Nat} {l : List Sl} {S : Nat → Prop} {T7 : List (Nat × Nat)} {T8 : List Int} {T9 : List Bool} {v7 v8 v9 : Value}
theorem Tri.next (h : Tri w0 g l S T7 T8 T9 v7 v8 v9 wr) (hb : Below wr.heap.size wr w') : Tri w0 g l S T7 T8 T9 v7 v8 v9 w' :=
  ⟨h.ar.next hb, h.sLo, own_below h.o7 hb (Nat.le_refl _), own_below h.o8 hb (Nat.le_refl _), own_below h.o9 hb (Nat.le_refl _), h.n7, h.n8, h.n9, h.below.trans (hb.mono h.below.size)⟩
theorem Tri.arena (h : Tri w0 g l S T7 T8 T9 v7 v8 v9 wr) {S' : Nat → Prop} {l' : List Sl} (d : ArAt true w' g S' l') (k : But S wr w') (m : ∀ k, k < wr.heap.size → S' k → S k) : Tri w0 g l' S' T7 T8 T9 v7 v8 v9 w' :=
  ⟨d, fun j hj => (Nat.lt_or_ge j wr.heap.size).elim (fun hl => h.sLo j (m j hl hj)) (fun hl => Nat.le_trans h.below.size hl), own_but15 h.o7 k h.n7, own_but15 h.o8 k h.n8, own_but15 h.o9 k h.n9,
    fun b hb hs => h.n7 b hb (m b (h.o7.lt b hb).2 hs), fun b hb hs => h.n8 b hb (m b (h.o8.lt b hb).2 hs), fun b hb hs => h.n9 b hb (m b (h.o9.lt b hb).2 hs), h.below.trans (k.below h.below.size (fun j hj hs => Nat.not_le_of_lt hj (h.sLo j hs)))⟩
theorem Tri.add7 (h : Tri w0 g l S T7 T8 T9 v7 v8 v9 wr) {v' : Value} {p : Nat × Nat} (o : w'.ownsRow w0.heap.size 30 2 v' (T7.length + 1) (refC T7 ++ [.int .i64 (p.1 : Int), .int .u32 (p.2 : Int)])) (gr : wr.grownBy w' v7.ownBlock)
    (hv : v'.ownBlock = v7.ownBlock ∨ v'.ownBlock = some wr.heap.size) : Tri w0 g l S (T7 ++ [p]) T8 T9 v' v8 v9 w' :=
  ⟨h.ar.keep gr.size (fun k hk => gr.block k (h.ar.lt k hk) (fun e => h.n7 k e.symm hk)), h.sLo, by rw [refC_add, List.length_append]; exact o, own_grown15 h.o8 gr (own_apart15 h.o8 h.o7 (by decide)), own_grown15 h.o9 gr (own_apart15 h.o9 h.o7 (by decide)),
    fun b hb hs => hv.elim (fun e => h.n7 b (e ▸ hb) hs) (fun e => by rw [e] at hb; injection hb with hb; have := h.ar.lt b hs; omega), h.n8, h.n9, h.below.grown gr h.below.size (fun q hq => (h.o7.lt q hq).1)⟩
theorem Tri.add8 (h : Tri w0 g l S T7 T8 T9 v7 v8 v9 wr) {v' : Value} {x : Int} (o : w'.ownsRow w0.heap.size 3 1 v' (T8.length + 1) (T8.map (Value.int .i64) ++ [.int .i64 x])) (gr : wr.grownBy w' v8.ownBlock)
    (hv : v'.ownBlock = v8.ownBlock ∨ v'.ownBlock = some wr.heap.size) : Tri w0 g l S T7 (T8 ++ [x]) T9 v7 v' v9 w' :=
  ⟨h.ar.keep gr.size (fun k hk => gr.block k (h.ar.lt k hk) (fun e => h.n8 k e.symm hk)), h.sLo, own_grown15 h.o7 gr (own_apart15 h.o7 h.o8 (by decide)), by rw [List.map_append, List.length_append]; exact o, own_grown15 h.o9 gr (own_apart15 h.o9 h.o8 (by decide)),
    h.n7, fun b hb hs => hv.elim (fun e => h.n8 b (e ▸ hb) hs) (fun e => by rw [e] at hb; injection hb with hb; have := h.ar.lt b hs; omega), h.n9, h.below.grown gr h.below.size (fun q hq => (h.o8.lt q hq).1)⟩
theorem Tri.add9 (h : Tri w0 g l S T7 T8 T9 v7 v8 v9 wr) {v' : Value} {x : Bool} (o : w'.ownsRow w0.heap.size 4 1 v' (T9.length + 1) (T9.map Value.bool ++ [.bool x])) (gr : wr.grownBy w' v9.ownBlock)
    (hv : v'.ownBlock = v9.ownBlock ∨ v'.ownBlock = some wr.heap.size) : Tri w0 g l S T7 T8 (T9 ++ [x]) v7 v8 v' w' :=
  ⟨h.ar.keep gr.size (fun k hk => gr.block k (h.ar.lt k hk) (fun e => h.n9 k e.symm hk)), h.sLo, own_grown15 h.o7 gr (own_apart15 h.o7 h.o9 (by decide)), own_grown15 h.o8 gr (own_apart15 h.o8 h.o9 (by decide)), by rw [List.map_append, List.length_append]; exact o,
    h.n7, h.n8, fun b hb hs => hv.elim (fun e => h.n9 b (e ▸ hb) hs) (fun e => by rw [e] at hb; injection hb with hb; have := h.ar.lt b hs; omega), h.below.grown gr h.below.size (fun q hq => (h.o9.lt q hq).1)⟩
theorem Tri.set9 {gg n c : Nat} (h : Tri w0 g l S T7 T8 T9 v7 v8 (.slice (some ⟨gg, 0, none⟩) n c) wr) (hn : T9.length = n) (i : Nat) (x : Bool) : Tri w0 g l S T7 T8 (T9.set i x) v7 v8 (.slice (some ⟨gg, 0, none⟩) n c) (wr.setCell ⟨gg, i, none⟩ (.bool x)) := by
  subst hn
  have hgg : (Value.slice (some ⟨gg, 0, none⟩) T9.length c).ownBlock = some gg := rfl
  refine ⟨h.ar.keep (by simp) (fun k hk => Below.heap_setCell _ _ _ _ (fun e => by subst e; exact h.n9 _ hgg hk)), h.sLo, own_far15 h.o7 (fun q hq e => own_apart15 h.o7 h.o9 (by decide) q hq (by rw [hgg, ← e])), own_far15 h.o8 (fun q hq e => own_apart15 h.o8 h.o9 (by decide) q hq (by rw [hgg, ← e])), ?_, h.n7, h.n8, h.n9, h.below.setCell (p := ⟨gg, i, none⟩) (h.o9.lt gg hgg).1 _⟩
  have h1 := (h.o9.stored i (.bool x)).1
  rw [List.length_set, List.map_set]
  exact h1
end
end Go.Proofs.Ytejfjjgcajdjmaa
