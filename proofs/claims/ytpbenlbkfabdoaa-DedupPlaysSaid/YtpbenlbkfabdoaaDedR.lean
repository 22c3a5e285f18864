/-
  Contracts of the document's answers of layer 4 (louverref04) that look alone: find, Find, Waits.
-/
import Derived.Test.YtpbenlbkfabdoaaDedP
import Derived.Test.YtpbenlbkfabdoaaDedT
import Derived.Deep.CutBlock
namespace Go.Proofs.Ytpbenlbkfabdoaa
open Go.RowKit

/-- What the document's row is in memory: the requests l; the block that it lies in is such a one. -/
def RefE (w : World) (P : Nat → Prop) (A : Option Addr) (c : Nat) (l : List Ent) : Prop :=
  l.length ≤ c ∧ c ≤ maxLen ∧ Row w w.heap.size 3 A l.length (entC l) ∧ ∀ a, A = some a → a.block < w.heap.size ∧ P a.block

section
variable {w w' : World} {P P' : Nat → Prop} {A : Option Addr} {c : Nat} {l : List Ent}
theorem RefE.next (h : RefE w P A c l) (hb : Below w.heap.size w w') : RefE w' P A c l :=
  ⟨h.1, h.2.1, (h.2.2.1.below hb (Nat.le_refl _)).more hb.size, fun a ha => ⟨Nat.lt_of_lt_of_le (h.2.2.2 a ha).1 hb.size, (h.2.2.2 a ha).2⟩⟩
theorem RefE.keep (h : RefE w P A c l) (hs : w.heap.size ≤ w'.heap.size) (hk : ∀ k, P k → k < w.heap.size → w'.heap[k]? = w.heap[k]?) : RefE w' P A c l := by
  obtain ⟨h1, h2, h3, h4⟩ := h
  refine ⟨h1, h2, ⟨h3.1, fun hn => ?_⟩, fun a ha => ⟨Nat.lt_of_lt_of_le (h4 a ha).1 hs, (h4 a ha).2⟩⟩
  obtain ⟨g, o, e, hb, hc⟩ := h3.2 hn
  have hz := (h4 _ e).2
  exact ⟨g, o, e, by omega, fun j u hu => (World.cell?_of_block (a := ⟨g, o + j, none⟩) (hk g hz hb)).trans (hc j u hu)⟩
theorem RefE.but {S : Nat → Prop} (h : RefE w P A c l) (k : But S w w') (hS : ∀ i, P i → ¬ S i) : RefE w' P A c l :=
  h.keep k.size fun i hi hl => k.block i hl (hS i hi)
theorem RefE.set (h : RefE w P A c l) {p : Addr} (hp : ¬ P p.block) (u : Value) : RefE (w.setCell p u) P A c l :=
  h.keep (by simp) fun i hi _ => Below.heap_setCell _ _ _ _ (fun e => hp (e ▸ hi))
theorem RefE.weak (h : RefE w P A c l) (hP : ∀ b, b < w.heap.size → P b → P' b) : RefE w P' A c l :=
  ⟨h.1, h.2.1, h.2.2.1, fun a ha => ⟨(h.2.2.2 a ha).1, hP _ (h.2.2.2 a ha).1 (h.2.2.2 a ha).2⟩⟩
theorem RefE.drewN (h : RefE w P A c l) (m : Nat) : RefE (w.drewN m) P A c l := h
theorem RefE.at (h : RefE w P A c l) (i : Nat) (e : Ent) (he : l[i]? = some e) :
    ∃ g o, A = some ⟨g, o, none⟩ ∧ g < w.heap.size ∧ P g ∧ w.cell? ⟨g, o + i * 3, none⟩ = some (.int .u64 e.id) ∧ w.cell? ⟨g, o + i * 3 + 1, none⟩ = some (.string e.ans) ∧ w.cell? ⟨g, o + i * 3 + 2, none⟩ = some (.bool e.done) := by
  have hi := (List.getElem?_eq_some_iff.1 he).1
  obtain ⟨g, o, hA, hg, hc⟩ := h.2.2.1.2 (by omega)
  obtain ⟨h0, h1, h2⟩ := entC_at l i e he
  exact ⟨g, o, hA, hg, (h.2.2.2 _ hA).2, hc _ _ h0, hc _ _ h1, hc _ _ h2⟩
end

/-- The answer of find. -/
def FoundAt (l : List Ent) (k : Int) (w : World) (e : Ending) (w' : World) : Prop :=
  ∃ r : Int, e = .returned (.int .i64 r) ∧ ((r = -1 ∧ fnd l k = none) ∨ ∃ i x, r = (i : Nat) ∧ l[i]? = some x ∧ x.id = k ∧ fnd l k = some x) ∧ Below w.heap.size w w'

set_option maxRecDepth 100000 in
theorem reffind_any (A : Option Addr) (c : Nat) (l : List Ent) (N : Nat) (k : Int) (P : Nat → Prop) (w : World) (h : RefE w P A c l) :
    Calls Try.prog 19 #[.agg #[.slice A l.length c, .int .i64 N], .int .u64 k] w (FoundAt l k w) := by
  have hl := Nat.le_trans h.1 h.2.1
  unfold maxLen at hl
  have b1 := (Below.refl w.heap.size w).alloc (Nat.le_refl _) (.cells #[.slice A l.length c, .int .i64 N] 28)
  have hat := fun i e he => (h.next b1).at i e he
  have HA := Lib.hid hat
  have HB := Lib.hid b1
  clear h hat b1
  go_enter Try.func19, Try.ntmps19
  go_wp2_with fail
  go_loop [5] (fun i => ∃ j : Nat, j ≤ l.length ∧ i = .int .i64 j ∧ fnd (l.take j) k = none) (fun i => l.length - (intOf i).toNat)
  case atStart => exact ⟨0, Nat.zero_le _, rfl, rfl⟩
  case round =>
    obtain ⟨j, hj, rfl, hn⟩ := hrel
    by_cases hjn : j < l.length
    · obtain ⟨e, he⟩ : ∃ e, l[j]? = some e := ⟨l[j], by simp [hjn]⟩
      obtain ⟨g, o, rfl, hg, _, hc0, _, _⟩ := HA.out j e he
      have hi1 : (0 : Int) ≤ (j : Int) := by omega
      have hi2 : (j : Int) < (l.length : Int) := by omega
      by_cases hk : e.id = k
      · have hb : (e.id == k) = true := by simpa using hk
        have hfin := fnd_here l j e he k hn hk
        have HF := Lib.hid (show FoundAt l k w (.returned (.int .i64 j)) _ from ⟨j, rfl, .inr ⟨j, e, rfl, he, hk, hfin⟩, HB.out⟩)
        clear hn hk hfin HA HB
        go_wp2
        go_ret
        exact HF.out
      · have hb : (e.id == k) = false := by simpa using hk
        have hnx := Lib.hid (fnd_next l j e he k hn hk)
        clear hn hk HA HB
        go_wp2
        go_round
        case rel => exact ⟨j + 1, by omega, by go_num, hnx.out⟩
        case measure => simp [intOf]; omega
    · obtain rfl : j = l.length := by omega
      have hi2 : ¬ (l.length : Int) < (l.length : Int) := by omega
      rw [List.take_length] at hn
      have HF := Lib.hid (show FoundAt l k w (.returned (.int .i64 (-1))) _ from ⟨-1, rfl, .inl ⟨rfl, hn⟩, HB.out⟩)
      clear hn HA HB
      go_wp2
      go_ret
      exact HF.out

/-- What Find tells. -/
def Tells (l : List Ent) (k : Int) (w : World) (e : Ending) (w' : World) : Prop := e = .returned (foundV (fnd l k)) ∧ Below w.heap.size w w'
set_option maxRecDepth 100000 in
theorem refFind_any (A : Option Addr) (c : Nat) (l : List Ent) (N : Nat) (k : Int) (P : Nat → Prop) (w : World) (h : RefE w P A c l) :
    Calls Try.prog 15 #[.agg #[.slice A l.length c, .int .i64 N], .int .u64 k] w (Tells l k w) := by
  have hl := Nat.le_trans h.1 h.2.1
  unfold maxLen at hl
  have b1 := (Below.refl w.heap.size w).alloc (Nat.le_refl _) (.cells #[.slice A l.length c, .int .i64 N] 28)
  have h1 := h.next b1
  have hw1 := Whole.new w 28 #[.slice A l.length c, .int .i64 N]
  have H1 := Lib.hid h1
  have HW := Lib.hid hw1
  have HB := Lib.hid b1
  clear h h1 hw1 b1
  go_enter Try.func15, Try.ntmps15
  go_wp2_with fail
  refine (reffind_any A c l N k P _ H1.out).mono ?_
  rintro e w2 ⟨r, rfl, hr, b2⟩
  have HB2 := Lib.hid (bnext HB.out b2)
  have hw2 := HW.out.below b2 HW.out.lt
  have hc0 := hw2.cell 0
  have H2 := Lib.hid (H1.out.next b2)
  clear hw2 b2 H1 HW HB
  rcases hr with ⟨rfl, hf⟩ | ⟨i, x, rfl, hx, hid, hf⟩
  · have HF := Lib.hid (show Tells l k w (.returned (.tuple #[.string ⟨#[]⟩, .bool false, .bool false])) w2 from ⟨by rw [hf]; rfl, HB2.out⟩)
    clear hf hc0 H2 HB2
    go_wp2
    go_ret3
    exact HF.out
  · obtain ⟨g, o, rfl, hg, _, hd0, hd1, hd2⟩ := H2.out.at i x hx
    have hil := (List.getElem?_eq_some_iff.1 hx).1
    have hi1 : (0 : Int) ≤ (i : Int) := by omega
    have hi2 : (i : Int) < (l.length : Int) := by omega
    have hi3 : ¬ (i : Int) < 0 := by omega
    have HF := Lib.hid (fun n : Nat => show Tells l k w (.returned (.tuple #[.string x.ans, .bool x.done, .bool true])) (w2.drewN n) from ⟨by rw [hf]; rfl, bdrewN HB2.out n⟩)
    clear hf hx hid H2 HB2 hd0
    go_wp2_with fail
    go_quiet (fail)
    go_wp2
    go_ret3
    exact HF.out _

set_option maxRecDepth 100000 in
theorem refWaits_any (A : Option Addr) (c : Nat) (l : List Ent) (N : Nat) (P : Nat → Prop) (w : World) (h : RefE w P A c l) :
    Calls Try.prog 18 #[.agg #[.slice A l.length c, .int .i64 N]] w fun e w' => e = .returned (.int .i64 (waits l : Nat)) ∧ Below w.heap.size w w' := by
  have hl := Nat.le_trans h.1 h.2.1
  unfold maxLen at hl
  have b1 := (Below.refl w.heap.size w).alloc (Nat.le_refl _) (.cells #[.slice A l.length c, .int .i64 N] 28)
  have hat := fun i e he => (h.next b1).at i e he
  have HA := Lib.hid hat
  have HB := Lib.hid b1
  clear h hat b1
  go_enter Try.func18, Try.ntmps18
  go_wp2_with fail
  go_loop [3, 4] (fun n i => ∃ j : Nat, j ≤ l.length ∧ i = .int .i64 j ∧ n = .int .i64 (waits (l.take j) : Nat)) (fun _ i => l.length - (intOf i).toNat)
  case atStart => exact ⟨0, Nat.zero_le _, rfl, rfl⟩
  case round =>
    obtain ⟨j, hj, rfl, rfl⟩ := hrel
    by_cases hjn : j < l.length
    · obtain ⟨e, he⟩ : ∃ e, l[j]? = some e := ⟨l[j], by simp [hjn]⟩
      obtain ⟨g, o, rfl, hg, _, _, _, hc0⟩ := HA.out j e he
      have hi1 : (0 : Int) ≤ (j : Int) := by omega
      have hi2 : (j : Int) < (l.length : Int) := by omega
      have hnx := waits_next l j e he
      have hwl := waits_le (l.take j)
      have hwl2 : (l.take j).length ≤ j := List.length_take_le _ _
      obtain ⟨q, hq⟩ : ∃ q : Nat, waits (l.take j) = q := ⟨_, rfl⟩
      rw [hq] at hnx hwl ⊢
      cases hd : e.done with
      | true =>
        rw [hd] at hc0 hnx
        have HN := Lib.hid hnx
        clear hnx hd he HA HB hq
        go_wp2
        go_round
        case rel => exact ⟨j + 1, by omega, by go_num, by rw [HN.out]; go_num⟩
        case measure => simp [intOf]; omega
      | false =>
        rw [hd] at hc0 hnx
        have HN := Lib.hid hnx
        clear hnx hd he HA HB hq
        go_wp2
        go_round
        case rel => exact ⟨j + 1, by omega, by go_num, by rw [HN.out]; go_num⟩
        case measure => simp [intOf]; omega
    · obtain rfl : j = l.length := by omega
      have hi2 : ¬ (l.length : Int) < (l.length : Int) := by omega
      rw [List.take_length]
      go_wp2
      go_ret
      exact ⟨rfl, HB.out⟩

/-- What an act leaves of the document's row. -/
def RLeaves (N : Nat) (c : Int) (l : List Ent) (P : Nat → Prop) (w : World) (e : Ending) (w' : World) : Prop :=
  ∃ A cc, e = .returned (.tuple #[.agg #[.slice A l.length cc, .int .i64 N], .int .i64 c]) ∧ RefE w' P A cc l ∧ Below w.heap.size w w'

set_option maxRecDepth 100000 in
theorem refStart_there (A : Option Addr) (c : Nat) (l : List Ent) (N : Nat) (k : Int) (P : Nat → Prop) (w : World) (h : RefE w P A c l) {x : Ent} (hf : fnd l k = some x) :
    Calls Try.prog 12 #[.agg #[.slice A l.length c, .int .i64 N], .int .u64 k] w (RLeaves N 22 l P w) := by
  have hl := Nat.le_trans h.1 h.2.1
  unfold maxLen at hl
  have b2 := ((Below.refl w.heap.size w).alloc (Nat.le_refl _) (.cells #[.slice A l.length c, .int .i64 N] 28)).alloc (by simp) (.cells #[.slice none 0 0, .int .i64 0] 28)
  have hw1 := (Whole.new w 28 #[.slice A l.length c, .int .i64 N]).alloc (.cells #[.slice none 0 0, .int .i64 0] 28)
  have hw2 := Whole.new2 w (.cells #[.slice A l.length c, .int .i64 N] 28) 28 #[.slice none 0 0, .int .i64 0]
  have H1 := Lib.hid (h.next b2)
  have HW1 := Lib.hid hw1
  have HW2 := Lib.hid hw2
  have HB := Lib.hid b2
  have H := Lib.hid h
  clear h hw1 hw2 b2
  go_enter Try.func12, Try.ntmps12
  go_wp2_with fail
  refine (reffind_any A c l N k P _ H1.out).mono ?_
  rintro e w2 ⟨r, rfl, hr, b2⟩
  have v1 := HW1.out.below b2 HW1.out.lt
  have v2 := HW2.out.below b2 HW2.out.lt
  have c0 := v1.cell 0
  have c1 := v1.cell 1
  have d0 := v2.cell 0
  have d1 := v2.cell 1
  have f0 := v2.free 0
  have f1 := v2.free 1
  have hz := v2.lt
  have hB := bnext HB.out b2
  rcases hr with ⟨rfl, hf'⟩ | ⟨i, y, rfl, _⟩
  · rw [hf] at hf'; cases hf'
  have hi : ¬ (i : Int) < 0 := by omega
  have HF := Lib.hid (fun u0 u1 => show RLeaves N 22 l P w (.returned (.tuple #[.agg #[.slice A l.length c, .int .i64 N], .int .i64 22])) ((w2.setCell ⟨w.heap.size + 1, 0, none⟩ u0).setCell ⟨w.heap.size + 1, 1, none⟩ u1) from
    ⟨A, c, rfl, H.out.next ((hB.setCell (by simp) _).setCell (by simp) _), (hB.setCell (by simp) _).setCell (by simp) _⟩)
  clear v1 v2 b2 H1 HW1 HW2 HB hB hf
  go_wp2
  exact bodyPost_ret (v := .tuple #[.agg #[.slice A l.length c, .int .i64 N], .int .i64 22]) (by simp [results, Try.results12, go_sem, d0, d1]) rfl (HF.out _ _)
end Go.Proofs.Ytpbenlbkfabdoaa
