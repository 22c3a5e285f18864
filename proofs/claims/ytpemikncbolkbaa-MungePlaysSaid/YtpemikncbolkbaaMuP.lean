/-
  Plain facts for the laws of layer 13.
-/
import Derived.Test.YtpemikncbolkbaaMuL
import Derived.Test.YtpemikncbolkbaaSerM
namespace Go.Proofs.Ytpemikncbolkbaa

/-- What is taken, and what is told, come to the numbers. -/
theorem Mn.less_add (x o : Mn) (hx : x.Fit) : ((x.less o).seq + o.seq) % 65536 = x.seq ∧ ((x.less o).time + o.time) % 4294967296 = x.time ∧ ((x.less o).pic + o.pic) % 65536 = x.pic ∧ ((x.less o).tl0 + o.tl0) % 256 = x.tl0 := by
  have h1 := hx.seq
  have h2 := hx.time
  have h3 := hx.pic
  have h4 := hx.tl0
  unfold Mn.less Mn.rnd
  dsimp only
  omega
theorem Mst.not_told {s : Mst} {x : Mn} (h : s.tells x = false) : s.sendS x = s ∧ s.told x = Mn.zero := by
  unfold Mst.sendS Mst.told
  rw [if_neg (by simp [h]), if_neg (by simp [h])]
  exact ⟨rfl, rfl⟩
/-- What is told of a packet comes to its numbers, but for a time that would go back. -/
theorem Mst.told_back {s : Mst} {x : Mn} (hx : x.Fit) (h : s.tells x = true) :
    (s.sendS x).off = s.off ∧ ((s.told x).seq + s.off.seq) % 65536 = x.seq ∧ ((s.told x).pic + s.off.pic) % 65536 = x.pic ∧ ((s.told x).tl0 + s.off.tl0) % 256 = x.tl0 ∧ (((s.told x).time + s.off.time) % 4294967296 = x.time ∨ (s.told x).time = s.out.time) := by
  have h1 := Mn.less_add x s.off hx
  unfold Mst.sendS Mst.told
  rw [if_pos h, if_pos h]
  split
  · exact ⟨rfl, h1.1, h1.2.2.1, h1.2.2.2, .inl h1.2.1⟩
  · refine ⟨rfl, ?_⟩
    unfold Mst.ahead
    split
    · exact ⟨h1.1, h1.2.2.1, h1.2.2.2, .inr rfl⟩
    · exact ⟨h1.1, h1.2.2.1, h1.2.2.2, .inl h1.2.1⟩
/-- Times never go back. -/
theorem up32_self (a : Int) : up32 a a = false := by unfold up32 d32; simp
theorem times_switch {s : Mst} {x : Mn} {st : Int} (hs : s.out.Fit) (h : s.on = true) (h0 : 0 ≤ st) (h1 : st < 2147483648) : up32 (s.begins x st).time s.out.time = false := by
  have := hs.time
  unfold Mst.begins
  rw [if_pos h]
  unfold Mn.rnd up32 d32
  dsimp only
  simp only [decide_eq_false_iff_not]
  omega
theorem times_send {s : Mst} {x : Mn} : up32 (s.sendS x).out.time s.out.time = false := by
  unfold Mst.sendS
  split
  · split
    · exact up32_self _
    · dsimp only
      unfold Mst.ahead
      split
      · exact up32_self _
      · rename_i h
        unfold far32 at h
        unfold up32 d32
        simp only [decide_eq_false_iff_not]
        exact h
  · exact up32_self _
theorem drop_out {s : Mst} {x : Mn} {b : Bool} : s.out = (s.dropS x b).out := by
  unfold Mst.dropS
  split
  · split <;> rfl
  · rfl
/-- Where none is left out. -/
theorem gaps {s : Mst} {f x : Mn} {j : Int} (h0 : s.on = true) (h1 : s.since = f.seq) (h2 : s.off = f.less f) (h3 : f.seq ≤ s.high) (h4 : s.high ≤ f.seq + 12800) (hj : -12800 ≤ j ∧ j ≤ 12800) (hx : x.seq = (f.seq + j) % 65536) :
    s.tells x = decide (0 < j) ∧ (0 < j → (s.told x).seq = x.seq) ∧ up16 f.seq x.seq = decide (0 < j) ∧
    ((s.sendS x).on = true ∧ (s.sendS x).since = f.seq ∧ (s.sendS x).off = f.less f ∧ f.seq ≤ (s.sendS x).high ∧ ((s.sendS x).high ≤ s.high ∨ (s.sendS x).high ≤ f.seq + j)) := by
  have hn : s.num x = f.seq + j := by
    unfold Mst.num
    rw [hx]
    exact nearM_of _ _ (by omega) (by omega)
  have hoff : s.off.seq = 0 := by
    rw [h2]
    unfold Mn.less Mn.rnd
    dsimp only
    omega
  have ht : s.tells x = decide (0 < j) := by
    unfold Mst.tells
    rw [h0, hn, h1]
    by_cases h : 0 < j
    · rw [decide_eq_true h, show decide (f.seq + j ≤ f.seq) = false from decide_eq_false (by omega)]
      simp
    · rw [decide_eq_false h, show decide (f.seq + j ≤ f.seq) = true from decide_eq_true (by omega), show decide (f.seq + j ≤ s.high) = true from decide_eq_true (by omega)]
      rfl
  have hl : (x.less s.off).seq = x.seq := by
    unfold Mn.less Mn.rnd
    dsimp only
    rw [hoff, hx]
    omega
  refine ⟨ht, fun h => ?_, ?_, ?_⟩
  · unfold Mst.told
    rw [if_pos (ht.trans (decide_eq_true h))]
    split
    · exact hl
    · unfold Mst.ahead
      split
      · exact hl
      · exact hl
  · unfold up16 d16
    rw [hx]
    by_cases h : 0 < j
    · rw [decide_eq_true h, decide_eq_true_eq]
      omega
    · rw [decide_eq_false h, decide_eq_false_iff_not]
      omega
  · unfold Mst.sendS
    split
    · split
      · exact ⟨h0, h1, h2, h3, .inl (Int.le_refl _)⟩
      · refine ⟨h0, h1, h2, ?_, .inr ?_⟩
        · dsimp only
          omega
        · dsimp only
          omega
    · exact ⟨h0, h1, h2, h3, .inl (Int.le_refl _)⟩
/-- Packets of one stream one behind the other: the last one was f's number and j. -/
def Ord (s : Mst) (f j want : Int) : Prop := s.on = true ∧ s.high = f + j ∧ (want + s.off.seq) % 65536 = (f + j + 1) % 65536 ∧ (s.out.seq + 1) % 65536 = want ∧ s.off.Fit ∧ s.out.Fit
theorem Ord.fit {s : Mst} {f j want : Int} (h : Ord s f j want) (hf : 0 ≤ f ∧ f < 65536) (hj : 0 ≤ j ∧ j ≤ 60) : s.Fit 70000 := ⟨by rw [h.2.1]; omega, h.2.2.2.2.1, h.2.2.2.2.2⟩
theorem ord_switch {s : Mst} {f : Mn} {st want : Int} (hf : f.Fit) (h : (s.on = false ∧ want = f.seq) ∨ (s.on = true ∧ (s.out.seq + 1) % 65536 = want)) :
    (s.begins f st).seq = want ∧ Ord (s.switchS f st) f.seq 0 ((want + 1) % 65536) := by
  have h1 : (s.begins f st).seq = want := by
    unfold Mst.begins
    rcases h with ⟨h, h2⟩ | ⟨h, h2⟩
    · rw [if_neg (by simp [h])]
      exact h2.symm
    · rw [if_pos h]
      exact h2
  have hb := Mst.begins_fit (s := s) hf st
  refine ⟨h1, rfl, by show f.seq = f.seq + 0; omega, ?_, ?_, Mn.less_fit _ _, hb⟩
  · have h2 := hf.seq
    show ((want + 1) % 65536 + (f.seq - (s.begins f st).seq) % 65536) % 65536 = (f.seq + 0 + 1) % 65536
    rw [h1]
    omega
  · show ((s.begins f st).seq + 1) % 65536 = (want + 1) % 65536
    rw [h1]
theorem ord_num {s : Mst} {x : Mn} {f j want : Int} (h : Ord s f j want) (hx : x.seq = (f + j + 1) % 65536) : s.num x = f + j + 1 := by
  unfold Mst.num
  rw [h.2.1, hx]
  exact nearM_of _ _ (by omega) (by omega)
theorem ord_drop {s : Mst} {x : Mn} {f j want : Int} (h : Ord s f j want) (hx : x.seq = (f + j + 1) % 65536) (b : Bool) : Ord (s.dropS x b) f (j + 1) want := by
  have hn := ord_num h hx
  obtain ⟨h0, h1, h2, h3, h4, h5⟩ := h
  have h6 := h4.seq
  have h7 := h4.pic
  unfold Mst.dropS
  rw [if_pos h0, if_neg (by omega), hn]
  refine ⟨rfl, by show f + j + 1 = f + (j + 1); omega, ?_, h3, ⟨by dsimp only; omega, h4.time, by dsimp only; split <;> omega, h4.tl0⟩, h5⟩
  show (want + (s.off.seq + 1) % 65536) % 65536 = (f + (j + 1) + 1) % 65536
  omega
theorem ord_send {s : Mst} {x : Mn} {f j want : Int} (h : Ord s f j want) (hw : 0 ≤ want ∧ want < 65536) (hx : x.seq = (f + j + 1) % 65536) :
    s.tells x = true ∧ (s.told x).seq = want ∧ Ord (s.sendS x) f (j + 1) ((want + 1) % 65536) := by
  have hn := ord_num h hx
  obtain ⟨h0, h1, h2, h3, h4, h5⟩ := h
  have h6 := h4.seq
  have ht : s.tells x = true := by
    unfold Mst.tells
    rw [h0, hn, h1, show decide (f + j + 1 ≤ f + j) = false from decide_eq_false (by omega)]
    rfl
  have hl : (x.less s.off).seq = want := by
    unfold Mn.less Mn.rnd
    dsimp only
    rw [hx]
    omega
  have ha : (s.ahead x).seq = want := by
    unfold Mst.ahead
    split
    · exact hl
    · exact hl
  refine ⟨ht, ?_, ?_⟩
  · unfold Mst.told
    rw [if_pos ht, if_neg (by omega)]
    exact ha
  · have hf : (s.ahead x).Fit := Mst.ahead_fit (c := (s.high).natAbs) ⟨by omega, h4, h5⟩ x
    unfold Mst.sendS
    rw [if_pos ht, if_neg (by omega), hn]
    refine ⟨h0, by show f + j + 1 = f + (j + 1); omega, ?_, ?_, h4, hf⟩
    · show ((want + 1) % 65536 + s.off.seq) % 65536 = (f + (j + 1) + 1) % 65536
      omega
    · show ((s.ahead x).seq + 1) % 65536 = (want + 1) % 65536
      rw [ha]
/-- The first switch. -/
theorem first_switch (f : Mn) (st : Int) : Mst.zero.switchS f st = ⟨true, f.seq, f.seq, f.less f, f⟩ ∧ Mst.zero.begins f st = f := by
  unfold Mst.switchS Mst.begins
  rw [if_neg (by decide)]
  exact ⟨rfl, rfl⟩
end Go.Proofs.Ytpemikncbolkbaa
