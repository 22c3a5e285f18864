/-
  What the library's sort leaves behind (slices.SortFunc over structs): a row of the call's own, its things in another order, and new blocks. Nothing here names the program.
-/
import Derived.Test.YtgjhcnpegaemoaaMemW
import Derived.Test.YtgjhcnpegaemoaaOwnX
import Derived.Shelf.SlSortCmp.NoneTotal
namespace Go.Proofs.Ytgjhcnpegaemoaa
open Go.RowKit
set_option linter.unusedSimpArgs false

theorem heap_mapBlock_other (w : World) {blk k : Nat} (f : Array Value → Array Value) (h : k ≠ blk) : (Sort.mapBlock w blk f).heap[k]? = w.heap[k]? := by
  simp [Sort.mapBlock, Array.getElem?_modify, Ne.symm h]
theorem heap_mapBlock_same (w : World) {blk : Nat} (f : Array Value → Array Value) {cs : Array Value} {e : TypeId} {fr : Nat × Nat} (h : w.heap[blk]? = some (.cells cs e fr)) : (Sort.mapBlock w blk f).heap[blk]? = some (.cells (f cs) e fr) := by
  simp [Sort.mapBlock, Array.getElem?_modify, h, Sort.onCells]
section
variable {α : Type} [Inhabited α] (enc : α → List Value) (k : Nat) (w : World)
theorem sortWorld_but (blk off n : Nat) (d : Array α) (os : Array Obj) : But (fun j => j = blk) w (sortWorldK enc k w blk off n d os) := by
  unfold sortWorldK Sort.putRowK Sort.putRow
  refine ⟨rfl, rfl, rfl, ?_, fun j hj hne => ?_⟩
  · rw [Sort.size_grow]
    simp [Sort.mapBlock]
  · rw [Sort.heap_grow_old _ _ (by simpa [Sort.mapBlock] using hj), heap_mapBlock_other _ _ hne]
    rfl
theorem flatK_list (hk : ∀ x, (enc x).length = k) (d : Array α) : (Sort.flatK enc k d).toList = (d.toList.map enc).flatten := by
  have hlen : ∀ l : List α, ((l.map enc).flatten).length = l.length * k := by
    intro l
    induction l with
    | nil => simp
    | cons a l ih => rw [List.map_cons, List.flatten_cons, List.length_append, ih, hk, List.length_cons, Nat.succ_mul]; omega
  have hget : ∀ (l : List α) (i : Nat) (x : α) (j : Nat), l[i]? = some x → j < k → ((l.map enc).flatten)[i * k + j]? = (enc x)[j]? := by
    intro l
    induction l with
    | nil => intro i x j h; simp at h
    | cons a l ih =>
      intro i x j h hj
      rw [List.map_cons, List.flatten_cons]
      cases i with
      | zero =>
        simp at h
        subst h
        rw [Nat.zero_mul, Nat.zero_add, List.getElem?_append_left (by rw [hk]; exact hj)]
      | succ i =>
        rw [List.getElem?_append_right (by rw [hk, Nat.succ_mul]; omega), hk, show (i + 1) * k + j - k = i * k + j by rw [Nat.succ_mul]; omega]
        exact ih i x j (by simpa using h) hj
  apply List.ext_getElem?
  intro t
  by_cases ht : t < d.size * k
  · have k0 : 0 < k := by rcases Nat.eq_zero_or_pos k with h | h; · subst h; simp at ht
                          · exact h
    have hi : t / k < d.size := by rw [Nat.div_lt_iff_lt_mul k0]; exact ht
    have hx : d.toList[t / k]? = some d[t / k]! := by rw [Array.getElem?_toList, getElem!_pos d _ hi, Array.getElem?_eq_getElem hi]
    have h1 := hget d.toList (t / k) _ (t % k) hx (Nat.mod_lt _ k0)
    rw [show t / k * k + t % k = t by rw [Nat.mul_comm]; exact Nat.div_add_mod t k] at h1
    rw [h1, Array.getElem?_toList, Array.getElem?_eq_getElem (by rw [Sort.size_flatK]; exact ht), ← getElem!_pos (Sort.flatK enc k d) t (by rw [Sort.size_flatK]; exact ht), Sort.get_flatK enc k d t ht]
    have hm : t % k < (enc d[t / k]!).length := by rw [hk]; exact Nat.mod_lt _ k0
    rw [getElem!_pos (enc d[t / k]!) (t % k) hm, List.getElem?_eq_getElem hm]
  · rw [List.getElem?_eq_none (by simp; omega), List.getElem?_eq_none (by rw [hlen]; simp; omega)]
theorem own_holds {base g n c : Nat} {e : TypeId} {l : List α} (hk : ∀ x, (enc x).length = k) (h : w.ownsRow base e k (.slice (some ⟨g, 0, none⟩) n c) n ((l.map enc).flatten)) (hn : 0 < n) : Sort.HoldsK enc k w g 0 l.toArray := by
  obtain ⟨g', cur, hg, _, hW, _⟩ := own_wholeX h hn
  cases hg
  obtain ⟨g', o', e', _, hc⟩ := (Row.of_own h).2 hn
  cases e'
  intro j hj
  have hF := flatK_list enc k hk l.toArray
  have hj2 : (Sort.flatK enc k l.toArray).toList[j]? = some (Sort.flatK enc k l.toArray)[j]! := by rw [Array.getElem?_toList, Array.getElem?_eq_getElem hj, getElem!_pos (Sort.flatK enc k l.toArray) j hj]
  rw [hF] at hj2
  exact ⟨by rw [Nat.zero_add]; have := hc j _ hj2; rw [Nat.zero_add] at this; exact this, by rw [Nat.zero_add]; exact hW.free j⟩
theorem sort_own {base g n c m : Nat} {e : TypeId} {xs : List Value} (hk : ∀ x, (enc x).length = k) (h : w.ownsRow base e k (.slice (some ⟨g, 0, none⟩) n c) n xs) (d : Array α) (hd : d.size = n) (os : Array Obj) :
    (sortWorldK enc k w g 0 m d os).ownsRow base e k (.slice (some ⟨g, 0, none⟩) n c) n ((d.toList.map enc).flatten) := by
  have hF := flatK_list enc k hk d
  rcases h.2 with ⟨hv, _⟩ | ⟨g', cap, cur, hv, hb, hh, h1, h2, h3, h4⟩
  · cases hv
  · injection hv with hv _ hc
    injection hv with hv
    injection hv with hv _ _
    subst hv
    subst hc
    have hg : g < w.heap.size := (Array.getElem?_eq_some_iff.1 hh).1
    have hFs : (Sort.flatK enc k d).size = n * k := by rw [Sort.size_flatK, hd]
    have hle : n * k ≤ cur.size := by rw [h3]; exact Nat.mul_le_mul_right k h1
    refine ⟨by rw [← hF, Array.length_toList, hFs], .inr ⟨g, c, Sort.putCells id 0 (Sort.flatK enc k d) cur, rfl, hb, ?_, h1, h2, ?_, ?_⟩⟩
    · unfold sortWorldK Sort.putRowK Sort.putRow
      rw [Sort.heap_grow_old _ _ (by simpa [Sort.mapBlock] using hg)]
      exact heap_mapBlock_same _ _ hh
    · rw [← h3]; simp [Sort.putCells]
    · rw [← hF]
      apply List.ext_getElem?
      intro t
      rw [List.getElem?_take]
      by_cases ht : t < n * k
      · rw [if_pos ht, Array.getElem?_toList, Array.getElem?_toList]
        have htc : t < cur.size := by omega
        simp only [Sort.putCells, Array.getElem?_mapIdx]
        rw [Array.getElem?_eq_getElem htc, Option.map_some, if_pos ⟨Nat.zero_le _, by rw [Nat.zero_add, hFs]; exact ht⟩, Nat.sub_zero, id, Array.getElem?_eq_getElem (by rw [hFs]; exact ht), getElem!_pos (Sort.flatK enc k d) t (by rw [hFs]; exact ht)]
      · rw [if_neg ht, List.getElem?_eq_none (by rw [Array.length_toList, hFs]; omega)]
end
end Go.Proofs.Ytgjhcnpegaemoaa
