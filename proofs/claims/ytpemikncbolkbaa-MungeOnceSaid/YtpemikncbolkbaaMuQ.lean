/-
  Plain facts for MungeOnce: numbers that come once each, what is told of them, and that no two of these are one.
-/
import Derived.Test.YtpemikncbolkbaaMuL
namespace Go.Proofs.Ytpemikncbolkbaa
set_option linter.unusedVariables false

/-- cs: the numbers that came (less f), ts: what was told (less f); H the highest one, S the last one that was left out, d how many were. -/
def Onc (s : Mst) (f : Int) (k : Int) (cs ts : List Int) : Prop :=
  ∃ H S d : Int, s.on = true ∧ s.high = f + H ∧ s.since = f + S ∧ s.off.seq = d % 65536 ∧ (0 ≤ d ∧ d ≤ k) ∧ S ≤ H ∧ (-(128 * k) ≤ H ∧ H ≤ 128 * k) ∧ s.off.Fit ∧ s.out.Fit ∧
    (∀ c ∈ cs, -(128 * k) ≤ c ∧ c ≤ 128 * k) ∧ ∀ v ∈ ts, -(129 * k) ≤ v ∧ v ≤ H - d ∧ (v ≤ S - d ∨ ∃ y ∈ cs, v = y - d)
theorem Onc.first (f : Mn) (hf : f.Fit) : Onc ⟨true, f.seq, f.seq, f.less f, f⟩ f.seq 0 [0] [0] := by
  refine ⟨0, 0, 0, rfl, by simp, by simp, ?_, by omega, by omega, by omega, Mn.less_fit _ _, hf, ?_, ?_⟩
  · unfold Mn.less Mn.rnd
    dsimp only
    omega
  · intro c hc
    simp at hc
    omega
  · intro v hv
    simp at hv
    subst hv
    exact ⟨by omega, by omega, .inl (by omega)⟩
section
variable {s : Mst} {f k : Int} {cs ts : List Int}
theorem Onc.fit (h : Onc s f k cs ts) (hf : 0 ≤ f ∧ f < 65536) (hk : 0 ≤ k ∧ k ≤ 120) : s.Fit 1000000000000000 := by
  obtain ⟨H, S, d, h0, h1, h2, h3, h4, h5, h6, h7, h8, h9, h10⟩ := h
  exact ⟨by rw [h1]; omega, h7, h8⟩
theorem Onc.more (h : Onc s f k cs ts) (hk : 0 ≤ k) : Onc s f (k + 1) cs ts := by
  obtain ⟨H, S, d, h0, h1, h2, h3, h4, h5, h6, h7, h8, h9, h10⟩ := h
  refine ⟨H, S, d, h0, h1, h2, h3, by omega, h5, by omega, h7, h8, fun c hc => ?_, fun v hv => ?_⟩
  · have := h9 c hc
    omega
  · obtain ⟨g1, g2, g3⟩ := h10 v hv
    exact ⟨by omega, g2, g3⟩
theorem Onc.came (h : Onc s f k cs ts) (hk : 0 ≤ k) {j : Int} (hj : -(128 * (k + 1)) ≤ j ∧ j ≤ 128 * (k + 1)) : Onc s f (k + 1) (cs ++ [j]) ts := by
  obtain ⟨H, S, d, h0, h1, h2, h3, h4, h5, h6, h7, h8, h9, h10⟩ := h.more hk
  refine ⟨H, S, d, h0, h1, h2, h3, h4, h5, h6, h7, h8, fun c hc => ?_, fun v hv => ?_⟩
  · rcases List.mem_append.1 hc with hc | hc
    · exact h9 c hc
    · simp at hc
      subst hc
      exact hj
  · obtain ⟨g1, g2, g3⟩ := h10 v hv
    refine ⟨g1, g2, g3.imp id fun ⟨y, hy, e⟩ => ⟨y, by simp [hy], e⟩⟩
theorem Onc.num {x : Mn} (h : Onc s f k cs ts) (hk : 0 ≤ k ∧ k < 120) {j : Int} (hj : -(128 * (k + 1)) ≤ j ∧ j ≤ 128 * (k + 1)) (hx : x.seq = (f + j) % 65536) : s.num x = f + j := by
  obtain ⟨H, S, d, h0, h1, h2, h3, h4, h5, h6, h7, h8, h9, h10⟩ := h
  unfold Mst.num
  rw [h1, hx]
  exact nearM_of _ _ (by omega) (by omega)
theorem Onc.drop {x : Mn} (h : Onc s f k cs ts) (hk : 0 ≤ k ∧ k < 120) {j : Int} (hj : -(128 * (k + 1)) ≤ j ∧ j ≤ 128 * (k + 1)) (hx : x.seq = (f + j) % 65536) (b : Bool) : Onc (s.dropS x b) f (k + 1) (cs ++ [j]) ts := by
  have hn := h.num hk hj hx
  have hc := h.came hk.1 hj
  unfold Mst.dropS
  split
  · split
    · exact hc
    · rename_i g0 g1
      obtain ⟨H, S, d, h0, h1, h2, h3, h4, h5, h6, h7, h8, h9, h10⟩ := h
      obtain ⟨H', S', d', _, e1, e2, e3, _, _, _, _, _, e9, _⟩ := hc
      rw [hn] at g1 ⊢
      rw [h1] at g1
      refine ⟨j, j, d + 1, rfl, rfl, rfl, ?_, by omega, by omega, by omega, ?_, h8, e9, fun v hv => ?_⟩
      · show (s.off.seq + 1) % 65536 = (d + 1) % 65536
        rw [h3]
        omega
      · have p1 := h7.seq
        have p2 := h7.pic
        exact ⟨by dsimp only; omega, h7.time, by dsimp only; split <;> omega, h7.tl0⟩
      · obtain ⟨q1, q2, q3⟩ := h10 v hv
        exact ⟨by omega, by omega, .inl (by omega)⟩
  · exact hc
theorem Onc.send {x : Mn} (h : Onc s f k cs ts) (hk : 0 ≤ k ∧ k < 120) {j : Int} (hj : -(128 * (k + 1)) ≤ j ∧ j ≤ 128 * (k + 1)) (hx : x.seq = (f + j) % 65536) (hnew : j ∉ cs) :
    (s.tells x = false ∧ s.sendS x = s ∧ Onc s f (k + 1) (cs ++ [j]) ts) ∨
    ∃ v, s.tells x = true ∧ (s.told x).seq = (f + v) % 65536 ∧ (∀ v' ∈ ts, (f + v') % 65536 ≠ (f + v) % 65536) ∧ Onc (s.sendS x) f (k + 1) (cs ++ [j]) (ts ++ [v]) := by
  have hn := h.num hk hj hx
  have hc := h.came hk.1 hj
  cases ht : s.tells x with
  | false =>
    left
    refine ⟨rfl, ?_, hc⟩
    unfold Mst.sendS
    rw [if_neg (by simp [ht])]
  | true =>
    right
    obtain ⟨H, S, d, h0, h1, h2, h3, h4, h5, h6, h7, h8, h9, h10⟩ := h
    obtain ⟨H', S', d', _, e1, e2, e3, e4, e5, e6, _, _, e9, e10⟩ := hc
    have hjS : S < j := by
      unfold Mst.tells at ht
      rw [hn, h1, h2, h0] at ht
      by_cases g1 : f + j ≤ f + H
      · by_cases g2 : f + j ≤ f + S
        · simp [g1, g2] at ht
        · omega
      · omega
    have hl : (x.less s.off).seq = (f + (j - d)) % 65536 := by
      unfold Mn.less Mn.rnd
      dsimp only
      rw [hx, h3]
      omega
    have ha : (s.ahead x).seq = (f + (j - d)) % 65536 := by
      unfold Mst.ahead
      split
      · exact hl
      · exact hl
    have haf : (s.ahead x).Fit := Mst.ahead_fit (c := (s.high).natAbs) ⟨by omega, h7, h8⟩ x
    refine ⟨j - d, rfl, ?_, fun v' hv' => ?_, ?_⟩
    · unfold Mst.told
      rw [if_pos ht]
      split
      · exact hl
      · exact ha
    · obtain ⟨q1, q2, q3⟩ := h10 v' hv'
      have hne : v' ≠ j - d := by
        rcases q3 with q3 | ⟨y, hy, q3⟩
        · omega
        · intro e
          exact hnew (by rw [show j = y by omega]; exact hy)
      omega
    · unfold Mst.sendS
      rw [if_pos ht]
      have hmem : ∀ v ∈ ts ++ [j - d], -(129 * (k + 1)) ≤ v ∧ (v ≤ H - d ∨ v = j - d) ∧ (v ≤ S - d ∨ ∃ y ∈ cs ++ [j], v = y - d) := by
        intro v hv
        rcases List.mem_append.1 hv with hv | hv
        · obtain ⟨q1, q2, q3⟩ := h10 v hv
          exact ⟨by omega, .inl q2, q3.imp id fun ⟨y, hy, e⟩ => ⟨y, by simp [hy], e⟩⟩
        · simp at hv
          subst hv
          exact ⟨by omega, .inr rfl, .inr ⟨j, by simp, rfl⟩⟩
      split
      · rename_i g
        rw [hn, h1] at g
        refine ⟨H, S, d, h0, h1, h2, h3, by omega, h5, by omega, h7, h8, e9, fun v hv => ?_⟩
        obtain ⟨q1, q2, q3⟩ := hmem v hv
        exact ⟨q1, by omega, q3⟩
      · rename_i g
        rw [hn, h1] at g
        refine ⟨j, S, d, h0, hn, h2, h3, by omega, by omega, by omega, h7, haf, e9, fun v hv => ?_⟩
        obtain ⟨q1, q2, q3⟩ := hmem v hv
        exact ⟨q1, by omega, q3⟩
/-- Has a number come? -/
theorem Onc.new (h : Onc s f k cs ts) (hk : 0 ≤ k ∧ k < 120) {j : Int} (hj : -(128 * (k + 1)) ≤ j ∧ j ≤ 128 * (k + 1)) (hn : cs.any (fun c => decide ((f + c) % 65536 = (f + j) % 65536)) = false) : j ∉ cs := by
  intro hm
  rw [List.any_eq_false] at hn
  exact hn j hm (by simp)
end
end Go.Proofs.Ytpemikncbolkbaa
