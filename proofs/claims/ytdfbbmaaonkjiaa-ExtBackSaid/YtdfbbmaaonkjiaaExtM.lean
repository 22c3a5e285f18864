/-
  Plain facts of what is put and parsed of items, for the laws of layer 5. Nothing here names the program.
-/
import Derived.Test.YtdfbbmaaonkjiaaExtL
namespace Go.Proofs.Ytdfbbmaaonkjiaa

/-- No more items than 14, and no data longer than the bytes. -/
theorem pr_bd {nx : UInt8 → List UInt8 → Nx} (hs : Shr nx) (N : Nat) : ∀ (n : Nat) (acc : List It) (b : List UInt8), b.length ≤ N → acc.length ≤ 14 → (∀ i ∈ acc, i.d.length ≤ N) → (prF nx n acc b).1.length ≤ 14 ∧ ∀ i ∈ (prF nx n acc b).1, i.d.length ≤ N := by
  intro n
  induction n with
  | zero => exact fun acc b _ h1 h2 => ⟨h1, h2⟩
  | succ n ih =>
    intro acc b hb h1 h2
    cases b with
    | nil => exact ⟨h1, h2⟩
    | cons f r =>
      simp only [List.length_cons] at hb
      unfold prF
      split
      · exact ih acc r (by omega) h1 h2
      · cases hn : nx f r with
        | stop => exact ⟨h1, h2⟩
        | bad e => simp
        | item i r' =>
          have := hs f r i r' hn
          simp only
          split
          · simp
          · refine ih _ r' (by omega) (by simp; omega) (fun x hx => ?_)
            rcases List.mem_append.1 hx with hx | hx
            · exact h2 x hx
            · simp at hx
              subst hx
              omega
theorem parse_bd (p : Int) (b : List UInt8) : (parseL p b).1.length ≤ 14 ∧ ∀ i ∈ (parseL p b).1, i.d.length ≤ b.length := by
  unfold parseL
  split
  · exact pr_bd nxS_shr b.length _ [] b (Nat.le_refl _) (by simp) (by simp)
  · split
    · exact pr_bd nxL_shr b.length _ [] b (Nat.le_refl _) (by simp) (by simp)
    · simp

theorem parse_short (b : List UInt8) : parseL 48862 b = pr nxS [] b := by unfold parseL; rw [if_pos rfl]
theorem parse_long (p : Int) (h1 : 4096 ≤ p) (h2 : p ≤ 4111) (b : List UInt8) : parseL p b = pr nxL [] b := by unfold parseL; rw [if_neg (by omega), if_pos ⟨h1, h2⟩]
theorem parse_other (p : Int) (h0 : ¬ p = 48862) (h1 : ¬ (4096 ≤ p ∧ p ≤ 4111)) (b : List UInt8) : parseL p b = ([], 0) := by unfold parseL; rw [if_neg h0, if_neg h1]
theorem parse_noughts (p : Int) (m : Nat) : parseL p (List.replicate m 0) = ([], 0) := by
  have key : ∀ nx, Shr nx → pr nx [] (List.replicate m 0) = ([], 0) := by
    intro nx hs
    have := pr_zeros hs (acc := []) (r := []) m
    rw [List.append_nil, pr_nil] at this
    exact this
  unfold parseL
  split
  · exact key _ nxS_shr
  · split
    · exact key _ nxL_shr
    · rfl

def sumL (l : List It) : Nat := (l.map fun i => i.d.length).sum
theorem sumL_take (l : List It) (k : Nat) (hk : k < l.length) : sumL (l.take (k + 1)) = sumL (l.take k) + l[k].d.length := by
  unfold sumL
  rw [List.take_succ_eq_append_getElem hk]
  simp only [List.map_append, List.sum_append, List.map_cons, List.map_nil, List.sum_cons, List.sum_nil, Nat.add_zero]
theorem sumL_le (l : List It) (N : Nat) (h : ∀ i ∈ l, i.d.length ≤ N) : sumL l ≤ l.length * N := by
  induction l with
  | nil => simp [sumL]
  | cons i l ih =>
    have := ih fun x hx => h x (by simp [hx])
    have h1 := h i (by simp)
    simp only [sumL, List.map_cons, List.sum_cons, List.length_cons, Nat.add_mul, Nat.one_mul] at this ⊢
    omega
theorem enc_sum (h : It → List UInt8) (n : Nat) (hh : ∀ i, (h i).length = n) : ∀ l : List It, (enc h l).length = sumL l + l.length * n
  | [] => by simp [enc, sumL]
  | i :: l => by
    have := enc_sum h n hh l
    rw [enc_cons]
    simp only [List.length_append, hh, this, sumL, List.map_cons, List.sum_cons, List.length_cons, Nat.add_mul, Nat.one_mul]
    omega
theorem putB_len_big {l : List It} (he : putE l = 0) (hb : l.any It.big = true) : (putB l).length = (sumL l + 2 * l.length + 3) / 4 * 4 := by
  rw [putB_big he hb, pad_len, enc_sum hdL 2 hdL_len]
  congr 2
  omega
theorem putB_len_small {l : List It} (he : putE l = 0) (hb : l.any It.big = false) : (putB l).length = (sumL l + l.length + 3) / 4 * 4 := by
  rw [putB_small he hb, pad_len, enc_sum hdS 1 hdS_len]
  congr 2
  omega
theorem putB_mod (l : List It) : (putB l).length % 4 = 0 := by
  unfold putB
  split
  · rfl
  · split <;> exact pad_mod _
theorem putB_le {l : List It} (h : ∀ i ∈ l, i.d.length ≤ 300) (hl : l.length ≤ 20) : (putB l).length ≤ 6100 := by
  have hs := sumL_le l 300 h
  have : l.length * 300 ≤ 6000 := by omega
  by_cases he : putE l = 0
  · cases hb : l.any It.big with
    | true => rw [putB_len_big he hb]; omega
    | false => rw [putB_len_small he hb]; omega
  · rw [putB_no he]; simp

/-- What is put, noughts ahead and behind, and more behind these, is parsed as the items, and what is behind. -/
theorem back_small {l : List It} (he : putE l = 0) (hb : l.any It.big = false) (z : Nat) (r : List UInt8) : pr nxS [] (List.replicate z 0 ++ (putB l ++ (List.replicate z 0 ++ r))) = pr nxS l r := by
  obtain ⟨h1, h2⟩ := any_wrong he
  rw [pr_zeros nxS_shr, putB_small he hb, pad, List.append_assoc, prS_enc l [] _ (fun i hi => ⟨h2 i hi, any_big hb i hi⟩) (by simpa using h1), pr_zeros nxS_shr, pr_zeros nxS_shr]
  rfl
theorem back_big {l : List It} (he : putE l = 0) (hb : l.any It.big = true) (z : Nat) (r : List UInt8) : pr nxL [] (List.replicate z 0 ++ (putB l ++ (List.replicate z 0 ++ r))) = pr nxL l r := by
  obtain ⟨h1, h2⟩ := any_wrong he
  rw [pr_zeros nxL_shr, putB_big he hb, pad, List.append_assoc, prL_enc l [] _ h2 (by simpa using h1), pr_zeros nxL_shr, pr_zeros nxL_shr]
  rfl
theorem parse_back {l : List It} (he : putE l = 0) (z : Nat) : parseL (putP l) (List.replicate z 0 ++ (putB l ++ List.replicate z 0)) = (l, 0) := by
  cases hb : l.any It.big with
  | true =>
    have := back_big he hb z []
    rw [List.append_nil, pr_nil] at this
    rw [putP_big he hb, parse_long 4096 (by omega) (by omega), this]
  | false =>
    have := back_small he hb z []
    rw [List.append_nil, pr_nil] at this
    rw [putP_small he hb, parse_short, this]
theorem parse_back2 {l : List It} (he : putE l = 0) (hb : l.any It.big = true) (z : Nat) : parseL 4111 (List.replicate z 0 ++ (putB l ++ List.replicate z 0)) = (l, 0) := by
  have := back_big he hb z []
  rw [List.append_nil, pr_nil] at this
  rw [parse_long 4111 (by omega) (by omega), this]
theorem parse_stop {l : List It} (he : putE l = 0) (hb : l.any It.big = false) (z : Nat) (more : List UInt8) : parseL 48862 (List.replicate z 0 ++ (putB l ++ (List.replicate z 0 ++ (240 :: more)))) = (l, 0) := by
  rw [parse_short, back_small he hb]
  exact pr_stop (by decide) rfl

/-- One item again and again. -/
theorem manyS {i : It} (hw : i.wrong = false) (hb : i.big = false) (r : List UInt8) (n : Nat) (hn : n ≤ 14) : parseL 48862 (enc hdS (List.replicate n i) ++ r) = pr nxS (List.replicate n i) r := by
  rw [parse_short, prS_enc (List.replicate n i) [] r (fun x hx => by rw [(List.mem_replicate.1 hx).2]; exact ⟨hw, hb⟩) (by simpa using hn)]
  rfl
theorem manyL {i : It} (hw : i.wrong = false) (r : List UInt8) (n : Nat) (hn : n ≤ 14) : parseL 4096 (enc hdL (List.replicate n i) ++ r) = pr nxL (List.replicate n i) r := by
  rw [parse_long 4096 (by omega) (by omega), prL_enc (List.replicate n i) [] r (fun x hx => by rw [(List.mem_replicate.1 hx).2]; exact hw) (by simpa using hn)]
  rfl
theorem oneS {i : It} (hw : i.wrong = false) (hb : i.big = false) : parseL 48862 (hdS i ++ i.d) = ([i], 0) := by
  have := manyS hw hb [] 1 (by omega)
  simpa [enc, pr_nil] using this
theorem oneL {i : It} (hw : i.wrong = false) : parseL 4096 (hdL i ++ i.d) = ([i], 0) := by
  have := manyL hw [] 1 (by omega)
  simpa [enc, pr_nil] using this
theorem enc_rep (h : It → List UInt8) (i : It) (n : Nat) : enc h (List.replicate (n + 1) i) = enc h (List.replicate n i) ++ (h i ++ i.d) := by
  rw [List.replicate_succ', enc_snoc]
theorem fourteenS {i : It} (hw : i.wrong = false) (hb : i.big = false) : parseL 48862 (enc hdS (List.replicate 14 i)) = (List.replicate 14 i, 0) := by
  have := manyS hw hb [] 14 (by omega)
  rwa [List.append_nil, pr_nil] at this
theorem fourteenL {i : It} (hw : i.wrong = false) : parseL 4096 (enc hdL (List.replicate 14 i)) = (List.replicate 14 i, 0) := by
  have := manyL hw [] 14 (by omega)
  rwa [List.append_nil, pr_nil] at this
theorem fifteenS {i : It} (hw : i.wrong = false) (hb : i.big = false) : parseL 48862 (enc hdS (List.replicate 15 i)) = ([], 13) := by
  obtain ⟨f, e1, e2, e3⟩ := nxS_it hw hb []
  rw [enc_rep, manyS hw hb _ 14 (by omega), e1, List.singleton_append]
  rw [List.append_nil] at e3
  exact pr_full e2 e3 (by simp)
theorem fifteenL {i : It} (hw : i.wrong = false) : parseL 4096 (enc hdL (List.replicate 15 i)) = ([], 13) := by
  obtain ⟨n, e1, e2, e3⟩ := nxL_it hw []
  rw [enc_rep, manyL hw _ 14 (by omega), e1]
  rw [List.append_nil] at e3
  exact pr_full e2 e3 (by simp)
/-- One byte too few. -/
theorem cutS {i : It} (hw : i.wrong = false) (hb : i.big = false) (d' : List UInt8) (hd : d'.length < i.d.length) : parseL 48862 (hdS i ++ d') = ([], 10) := by
  obtain ⟨h0, h1⟩ := It.wrong_no hw
  obtain ⟨h2, h3, h4⟩ := It.big_no hb
  have e : (UInt8.ofNat (i.id.toNat * 16 + (i.d.length - 1))).toNat = i.id.toNat * 16 + (i.d.length - 1) := by rw [UInt8.toNat_ofNat']; omega
  rw [parse_short, hdS, List.singleton_append]
  refine pr_bad (fun e0 => ?_) ?_
  · rw [e0] at e
    simp at e
    omega
  · unfold nxS
    rw [e, if_neg (by omega), if_neg (by omega), if_pos (by omega)]
theorem cutL {i : It} (hw : i.wrong = false) (d' : List UInt8) (hd : d'.length < i.d.length) : parseL 4096 (hdL i ++ d') = ([], 10) := by
  obtain ⟨h0, h1⟩ := It.wrong_no hw
  have e : (UInt8.ofNat i.d.length).toNat = i.d.length := by rw [UInt8.toNat_ofNat']; omega
  rw [parse_long 4096 (by omega) (by omega), hdL, List.cons_append, List.singleton_append]
  refine pr_bad (fun e0 => h0 (by rw [e0]; rfl)) ?_
  unfold nxL
  simp only [e]
  rw [if_pos hd]
end Go.Proofs.Ytdfbbmaaonkjiaa
