/-
  How bytes are parsed as messages (layer 9), as plain functions, and what the laws want of it. Nothing here names the program.
-/
import Derived.Test.YtcjmiidnhbmclaaDoorRtL
namespace Go.Proofs.YtcjmiidnhbmclaaDoor
open Go.RowKit

/-- The number at a place, of so many bytes. -/
def numAt (l : List UInt8) (at_ n : Nat) : Nat := be ((l.drop at_).take n)
theorem numAt_lt (l : List UInt8) (at_ n : Nat) : numAt l at_ n < 256 ^ n := by
  refine Nat.lt_of_lt_of_le (be_lt _) (Nat.pow_le_pow_right (by decide) ?_)
  simp [List.length_take]
  omega
theorem numAt_skip (a b : List UInt8) (i n : Nat) : numAt (a ++ b) (a.length + i) n = numAt b i n := by
  unfold numAt
  rw [List.drop_append, List.drop_of_length_le (show a.length ≤ a.length + i by omega), List.nil_append, show a.length + i - a.length = i by omega]
theorem numAt_skip' (a b : List UInt8) (i j n : Nat) (h : j = a.length + i) : numAt (a ++ b) j n = numAt b i n := by rw [h]; exact numAt_skip a b i n
theorem numAt_head (x k : Nat) (b : List UInt8) : numAt (bytesN x k ++ b) 0 k = x % 256 ^ k := by
  unfold numAt
  rw [List.drop_zero, List.take_left' (bytesN_length x k), be_bytesN]
theorem numAt_byte (y : Nat) (b : List UInt8) : numAt ([UInt8.ofNat y] ++ b) 0 1 = y % 256 := by
  unfold numAt
  simp [be]

/-- Do bytes begin as such? -/
def isB (l : List UInt8) : Bool :=
  match l with
  | a :: b :: _ => decide (128 ≤ a.toNat ∧ a.toNat < 192 ∧ 192 ≤ b.toNat ∧ b.toNat < 224)
  | _ => false
def zeroM : Ms := ⟨0, 0, 0, 0, 0, 0, 0, [], [], [], [], 0⟩
def rdRep (s : List UInt8) (k : Nat) : Rp := ⟨numAt s k 4, numAt s (k + 4) 1, numAt s (k + 5) 3, numAt s (k + 8) 4, numAt s (k + 12) 4, numAt s (k + 16) 4, numAt s (k + 20) 4⟩
def rdReps (s : List UInt8) (a c : Nat) : List Rp := (List.range c).map fun i => rdRep s (a + 24 * i)
def rdWho (s : List UInt8) (c : Nat) : List Nat := (List.range c).map fun i => numAt s (4 * i) 4
def rdPairs (s : List UInt8) (n : Nat) : List (Nat × Nat) := (List.range n).map fun i => (numAt s (8 + 4 * i) 2, numAt s (8 + 4 * i + 2) 2)
def rdAsks (s : List UInt8) (n : Nat) : List (Nat × Nat) := (List.range n).map fun i => (numAt s (8 + 8 * i) 4, numAt s (8 + 8 * i + 4) 1)
/-- A body's message, and the error. -/
def readM (t c : Nat) (s : List UInt8) : Ms × Int :=
  if t = 200 then (if s.length < 24 + 24 * c then (zeroM, 10) else (⟨0, numAt s 0 4, 0, numAt s 4 8, numAt s 12 4, numAt s 16 4, numAt s 20 4, rdReps s 24 c, [], [], [], 0⟩, 0))
  else if t = 201 then (if s.length < 4 + 24 * c then (zeroM, 10) else (⟨1, numAt s 0 4, 0, 0, 0, 0, 0, rdReps s 4 c, [], [], [], 0⟩, 0))
  else if t = 203 then (if s.length < 4 * c then (zeroM, 10) else (⟨2, 0, 0, 0, 0, 0, 0, [], rdWho s c, [], [], 0⟩, 0))
  else if t = 205 ∧ c = 1 then (if s.length < 8 then (zeroM, 10) else if (s.length - 8) / 4 = 0 then (zeroM, 11) else (⟨3, numAt s 0 4, numAt s 4 4, 0, 0, 0, 0, [], [], rdPairs s ((s.length - 8) / 4), [], 0⟩, 0))
  else if t = 206 ∧ c = 1 then (if s.length < 8 then (zeroM, 10) else (⟨4, numAt s 0 4, numAt s 4 4, 0, 0, 0, 0, [], [], [], [], 0⟩, 0))
  else if t = 206 ∧ c = 4 then (if s.length < 8 then (zeroM, 10) else if (s.length - 8) / 8 = 0 then (zeroM, 11) else (⟨5, numAt s 0 4, numAt s 4 4, 0, 0, 0, 0, [], [], [], rdAsks s ((s.length - 8) / 8), 0⟩, 0))
  else (⟨6, 0, 0, 0, 0, 0, 0, [], [], [], [], t⟩, 0)
/-- What is left of a body behind its padding: none if the padding may not be. -/
def unpad (a : Nat) (body rest : List UInt8) : Option (List UInt8) :=
  if a / 32 % 2 = 1 then
    (if rest ≠ [] ∨ body = [] then none
     else let k := (body.getLastD 0).toNat
       if k = 0 ∨ k % 4 ≠ 0 ∨ body.length < k then none else some (body.take (body.length - k)))
  else some body
/-- The first message of bytes, what is behind it, and the error. -/
def oneS (s : List UInt8) : Ms × List UInt8 × Int :=
  if s.length < 4 then (zeroM, [], 10)
  else if isB s = false then (zeroM, [], 11)
  else if s.length < 4 + 4 * numAt s 2 2 then (zeroM, [], 10)
  else match unpad (numAt s 0 1) ((s.drop 4).take (4 * numAt s 2 2)) (s.drop (4 + 4 * numAt s 2 2)) with
    | none => (zeroM, [], 11)
    | some b => ((readM (numAt s 1 1) (numAt s 0 1 % 32) b).1, s.drop (4 + 4 * numAt s 2 2), (readM (numAt s 1 1) (numAt s 0 1 % 32) b).2)
def parseF : Nat → List Ms → List UInt8 → List Ms × Int
  | 0, _, _ => ([], 10)
  | f + 1, acc, s => if s = [] then (acc, 0) else if (oneS s).2.2 ≠ 0 then ([], (oneS s).2.2) else parseF f (acc ++ [(oneS s).1]) (oneS s).2.1
/-- The messages of bytes, and the error. -/
def parseL (s : List UInt8) : List Ms × Int := if 1500 < s.length then ([], 13) else if s = [] then ([], 10) else parseF (s.length + 1) [] s

theorem oneS_rest (s : List UInt8) : (oneS s).2.2 = 0 → s.length ≥ 4 + (oneS s).2.1.length := by
  unfold oneS
  split
  · intro h; simp at h
  · split
    · intro h; simp at h
    · split
      · intro h; simp at h
      · split
        · intro h; simp at h
        · intro _
          rw [List.length_drop]
          omega
/-- Enough fuel is enough. -/
theorem parseF_more : ∀ (f g : Nat) (acc : List Ms) (s : List UInt8), s.length < f → s.length < g → parseF f acc s = parseF g acc s
  | 0, _, _, _, h, _ => by omega
  | _ + 1, 0, _, _, _, h => by omega
  | f + 1, g + 1, acc, s, h1, h2 => by
    unfold parseF
    split
    · rfl
    · split
      · rfl
      · rename_i hne he
        have he' : (oneS s).2.2 = 0 := by simpa using he
        have := oneS_rest s he'
        exact parseF_more f g _ _ (by omega) (by omega)

/-! ### What is put is parsed as it was -/
def Rp.norm (r : Rp) : Rp := ⟨r.ssrc, r.part, r.lost % 16777216, r.high, r.jit, r.last, r.delay⟩
/-- A message without what its kind doesn't name. -/
def Ms.norm (m : Ms) : Ms :=
  if m.kind = 0 then ⟨0, m.ssrc, 0, m.clock, m.time, m.packets, m.bytes, m.reps.map Rp.norm, [], [], [], 0⟩
  else if m.kind = 1 then ⟨1, m.ssrc, 0, 0, 0, 0, 0, m.reps.map Rp.norm, [], [], [], 0⟩
  else if m.kind = 2 then ⟨2, 0, 0, 0, 0, 0, 0, [], m.who, [], [], 0⟩
  else if m.kind = 3 then ⟨3, m.ssrc, m.media, 0, 0, 0, 0, [], [], m.pairs, [], 0⟩
  else if m.kind = 4 then ⟨4, m.ssrc, m.media, 0, 0, 0, 0, [], [], [], [], 0⟩
  else ⟨5, m.ssrc, m.media, 0, 0, 0, 0, [], [], [], m.asks, 0⟩

theorem rdRep_enc (pre : List UInt8) (r : Rp) (b : List UInt8) (h : r.Fits) (k : Nat) (hk : k = pre.length) : rdRep (pre ++ (r.enc ++ b)) k = r.norm := by
  subst hk
  obtain ⟨h0, h1, h2, h3, h4, h5, h6⟩ := h
  have g : ∀ i n, numAt (pre ++ (r.enc ++ b)) (pre.length + i) n = numAt (r.enc ++ b) i n := fun i n => numAt_skip _ _ _ _
  have e0 := g 0 4
  rw [Nat.add_zero] at e0
  unfold rdRep
  rw [e0, g, g, g, g, g, g]
  unfold Rp.enc
  simp only [List.append_assoc]
  rw [numAt_head]
  rw [numAt_skip' (bytesN r.ssrc 4) _ 0 4 1 (by simp [bytesN_length]), numAt_byte]
  rw [numAt_skip' (bytesN r.ssrc 4) _ 1 5 3 (by simp [bytesN_length]), numAt_skip' [UInt8.ofNat r.part] _ 0 1 3 rfl, numAt_head]
  rw [numAt_skip' (bytesN r.ssrc 4) _ 4 8 4 (by simp [bytesN_length]), numAt_skip' [UInt8.ofNat r.part] _ 3 4 4 rfl, numAt_skip' (bytesN r.lost 3) _ 0 3 4 (by simp [bytesN_length]), numAt_head]
  rw [numAt_skip' (bytesN r.ssrc 4) _ 8 12 4 (by simp [bytesN_length]), numAt_skip' [UInt8.ofNat r.part] _ 7 8 4 rfl, numAt_skip' (bytesN r.lost 3) _ 4 7 4 (by simp [bytesN_length]), numAt_skip' (bytesN r.high 4) _ 0 4 4 (by simp [bytesN_length]), numAt_head]
  rw [numAt_skip' (bytesN r.ssrc 4) _ 12 16 4 (by simp [bytesN_length]), numAt_skip' [UInt8.ofNat r.part] _ 11 12 4 rfl, numAt_skip' (bytesN r.lost 3) _ 8 11 4 (by simp [bytesN_length]), numAt_skip' (bytesN r.high 4) _ 4 8 4 (by simp [bytesN_length]), numAt_skip' (bytesN r.jit 4) _ 0 4 4 (by simp [bytesN_length]), numAt_head]
  rw [numAt_skip' (bytesN r.ssrc 4) _ 16 20 4 (by simp [bytesN_length]), numAt_skip' [UInt8.ofNat r.part] _ 15 16 4 rfl, numAt_skip' (bytesN r.lost 3) _ 12 15 4 (by simp [bytesN_length]), numAt_skip' (bytesN r.high 4) _ 8 12 4 (by simp [bytesN_length]), numAt_skip' (bytesN r.jit 4) _ 4 8 4 (by simp [bytesN_length]), numAt_skip' (bytesN r.last 4) _ 0 4 4 (by simp [bytesN_length]), numAt_head]
  unfold Rp.norm
  congr 1 <;> omega
theorem range_cons (n : Nat) : List.range (n + 1) = 0 :: (List.range n).map (· + 1) := List.range_succ_eq_map
theorem rdReps_enc : ∀ (l : List Rp) (pre b : List UInt8) (a : Nat), a = pre.length → (∀ r ∈ l, r.Fits) → rdReps (pre ++ (repE l ++ b)) a l.length = l.map Rp.norm
  | [], _, _, _, _, _ => rfl
  | r :: l, pre, b, a, ha, h => by
    have ih := rdReps_enc l (pre ++ r.enc) b (a + 24) (by rw [List.length_append, r.enc_length, ha]) (fun x hx => h x (by simp [hx]))
    have e : pre ++ (repE (r :: l) ++ b) = (pre ++ r.enc) ++ (repE l ++ b) := by simp [repE]
    unfold rdReps at ih ⊢
    rw [List.length_cons, range_cons, List.map_cons, List.map_cons, List.map_map]
    congr 1
    · rw [Nat.mul_zero, Nat.add_zero]
      have := rdRep_enc pre r (repE l ++ b) (h r (by simp)) a ha
      rw [← this]
      simp [repE]
    · rw [e, ← ih]
      apply List.map_congr_left
      intro i _
      simp only [Function.comp_apply]
      congr 1
      omega
theorem rdWho_enc : ∀ (l : List Nat) (pre b : List UInt8) (a : Nat), a = pre.length → (∀ x ∈ l, x < 4294967296) → (List.range l.length).map (fun i => numAt (pre ++ (whoE l ++ b)) (a + 4 * i) 4) = l
  | [], _, _, _, _, _ => rfl
  | x :: l, pre, b, a, ha, h => by
    have ih := rdWho_enc l (pre ++ bytesN x 4) b (a + 4) (by rw [List.length_append, bytesN_length, ha]) (fun y hy => h y (by simp [hy]))
    have e : pre ++ (whoE (x :: l) ++ b) = (pre ++ bytesN x 4) ++ (whoE l ++ b) := by simp [whoE]
    have hx := h x (by simp)
    rw [List.length_cons, range_cons, List.map_cons, List.map_map]
    congr 1
    · rw [e, List.append_assoc, numAt_skip' pre _ 0 _ 4 (by omega), numAt_head]
      omega
    · rw [e]
      refine Eq.trans ?_ ih
      apply List.map_congr_left
      intro i _
      simp only [Function.comp_apply]
      congr 1
      omega
theorem rdPairs_enc : ∀ (l : List (Nat × Nat)) (pre b : List UInt8) (a : Nat), a = pre.length → (∀ p ∈ l, p.1 < 65536 ∧ p.2 < 65536) → (List.range l.length).map (fun i => (numAt (pre ++ (pairE l ++ b)) (a + 4 * i) 2, numAt (pre ++ (pairE l ++ b)) (a + 4 * i + 2) 2)) = l
  | [], _, _, _, _, _ => rfl
  | p :: l, pre, b, a, ha, h => by
    have ih := rdPairs_enc l (pre ++ (bytesN p.1 2 ++ bytesN p.2 2)) b (a + 4) (by simp [bytesN_length, ha]) (fun y hy => h y (by simp [hy]))
    have e : pre ++ (pairE (p :: l) ++ b) = (pre ++ (bytesN p.1 2 ++ bytesN p.2 2)) ++ (pairE l ++ b) := by simp [pairE]
    have hx := h p (by simp)
    rw [List.length_cons, range_cons, List.map_cons, List.map_map]
    congr 1
    · have e2 : pre ++ (pairE (p :: l) ++ b) = pre ++ (bytesN p.1 2 ++ (bytesN p.2 2 ++ (pairE l ++ b))) := by simp [pairE]
      rw [e2, numAt_skip' pre _ 0 _ 2 (by omega), numAt_head, numAt_skip' pre _ 2 _ 2 (by omega), numAt_skip' (bytesN p.1 2) _ 0 2 2 (by simp [bytesN_length]), numAt_head]
      obtain ⟨p1, p2⟩ := p
      dsimp only at hx ⊢
      rw [Nat.mod_eq_of_lt (by omega), Nat.mod_eq_of_lt (by omega)]
    · rw [e]
      refine Eq.trans ?_ ih
      apply List.map_congr_left
      intro i _
      simp only [Function.comp_apply]
      rw [show a + 4 * (i + 1) = a + 4 + 4 * i by omega]
theorem rdAsks_enc : ∀ (l : List (Nat × Nat)) (pre b : List UInt8) (a : Nat), a = pre.length → (∀ p ∈ l, p.1 < 4294967296 ∧ p.2 < 256) → (List.range l.length).map (fun i => (numAt (pre ++ (askE l ++ b)) (a + 8 * i) 4, numAt (pre ++ (askE l ++ b)) (a + 8 * i + 4) 1)) = l
  | [], _, _, _, _, _ => rfl
  | p :: l, pre, b, a, ha, h => by
    have ih := rdAsks_enc l (pre ++ (bytesN p.1 4 ++ [UInt8.ofNat p.2, 0, 0, 0])) b (a + 8) (by simp [bytesN_length, ha]) (fun y hy => h y (by simp [hy]))
    have e : pre ++ (askE (p :: l) ++ b) = (pre ++ (bytesN p.1 4 ++ [UInt8.ofNat p.2, 0, 0, 0])) ++ (askE l ++ b) := by simp [askE]
    have hx := h p (by simp)
    rw [List.length_cons, range_cons, List.map_cons, List.map_map]
    congr 1
    · have e2 : pre ++ (askE (p :: l) ++ b) = pre ++ (bytesN p.1 4 ++ ([UInt8.ofNat p.2] ++ ([0, 0, 0] ++ (askE l ++ b)))) := by simp [askE]
      rw [e2, numAt_skip' pre _ 0 _ 4 (by omega), numAt_head, numAt_skip' pre _ 4 _ 1 (by omega), numAt_skip' (bytesN p.1 4) _ 0 4 1 (by simp [bytesN_length]), numAt_byte]
      obtain ⟨p1, p2⟩ := p
      dsimp only at hx ⊢
      rw [Nat.mod_eq_of_lt (by omega), Nat.mod_eq_of_lt (by omega)]
    · rw [e]
      refine Eq.trans ?_ ih
      apply List.map_congr_left
      intro i _
      simp only [Function.comp_apply]
      rw [show a + 8 * (i + 1) = a + 8 + 8 * i by omega]

/-! ### One message -/
theorem mod_fit {x k : Nat} (h : x < 256 ^ k) : x % 256 ^ k = x := Nat.mod_eq_of_lt h
theorem f4 {x : Nat} (h : x < 4294967296) : x % 256 ^ 4 = x := Nat.mod_eq_of_lt (by omega)
theorem readM_body (m : Ms) (hg : m.good = true) (hf : m.Fits) : readM m.num m.cnt m.body = (m.norm, 0) := by
  obtain ⟨kind, ssrc, media, clock, time, packets, bytes, reps, who, pairs, asks, typ⟩ := m
  obtain ⟨_, h1, h2, h3, h4, h5, h6, h7, h8, h9, h10, _⟩ := hf
  dsimp only at h1 h2 h3 h4 h5 h6 h7 h8 h9 h10
  unfold Ms.good Ms.num Ms.cnt at hg
  simp only [decide_eq_true_eq] at hg
  obtain ⟨g1, g2, g3, g4⟩ := hg
  unfold Ms.num Ms.cnt Ms.body Ms.norm readM
  dsimp only at g1 g2 g3 g4 ⊢
  by_cases k0 : kind = 0
  · subst k0
    simp only [if_true]
    have e : bytesN ssrc 4 ++ (bytesN clock 8 ++ (bytesN time 4 ++ (bytesN packets 4 ++ (bytesN bytes 4 ++ repE reps)))) = (bytesN ssrc 4 ++ (bytesN clock 8 ++ (bytesN time 4 ++ (bytesN packets 4 ++ bytesN bytes 4)))) ++ (repE reps ++ []) := by simp
    have n0 : numAt (bytesN ssrc 4 ++ (bytesN clock 8 ++ (bytesN time 4 ++ (bytesN packets 4 ++ (bytesN bytes 4 ++ repE reps))))) 0 4 = ssrc := by rw [numAt_head, f4 h1]
    have n1 : numAt (bytesN ssrc 4 ++ (bytesN clock 8 ++ (bytesN time 4 ++ (bytesN packets 4 ++ (bytesN bytes 4 ++ repE reps))))) 4 8 = clock := by
      rw [numAt_skip' (bytesN ssrc 4) _ 0 4 8 (by simp [bytesN_length]), numAt_head, Nat.mod_eq_of_lt (by omega)]
    have n2 : numAt (bytesN ssrc 4 ++ (bytesN clock 8 ++ (bytesN time 4 ++ (bytesN packets 4 ++ (bytesN bytes 4 ++ repE reps))))) 12 4 = time := by
      rw [numAt_skip' (bytesN ssrc 4) _ 8 12 4 (by simp [bytesN_length]), numAt_skip' (bytesN clock 8) _ 0 8 4 (by simp [bytesN_length]), numAt_head, f4 h4]
    have n3 : numAt (bytesN ssrc 4 ++ (bytesN clock 8 ++ (bytesN time 4 ++ (bytesN packets 4 ++ (bytesN bytes 4 ++ repE reps))))) 16 4 = packets := by
      rw [numAt_skip' (bytesN ssrc 4) _ 12 16 4 (by simp [bytesN_length]), numAt_skip' (bytesN clock 8) _ 4 12 4 (by simp [bytesN_length]), numAt_skip' (bytesN time 4) _ 0 4 4 (by simp [bytesN_length]), numAt_head, f4 h5]
    have n4 : numAt (bytesN ssrc 4 ++ (bytesN clock 8 ++ (bytesN time 4 ++ (bytesN packets 4 ++ (bytesN bytes 4 ++ repE reps))))) 20 4 = bytes := by
      rw [numAt_skip' (bytesN ssrc 4) _ 16 20 4 (by simp [bytesN_length]), numAt_skip' (bytesN clock 8) _ 8 16 4 (by simp [bytesN_length]), numAt_skip' (bytesN time 4) _ 4 8 4 (by simp [bytesN_length]), numAt_skip' (bytesN packets 4) _ 0 4 4 (by simp [bytesN_length]), numAt_head, f4 h6]
    have n5 : rdReps (bytesN ssrc 4 ++ (bytesN clock 8 ++ (bytesN time 4 ++ (bytesN packets 4 ++ (bytesN bytes 4 ++ repE reps))))) 24 reps.length = reps.map Rp.norm := by
      rw [e]; exact rdReps_enc reps _ [] 24 (by simp [bytesN_length]) h7
    rw [n0, n1, n2, n3, n4, n5, if_neg (by simp [bytesN_length, repE_length]; omega)]
  by_cases k1 : kind = 1
  · subst k1
    simp
    have n0 : numAt (bytesN ssrc 4 ++ repE reps) 0 4 = ssrc := by rw [numAt_head, f4 h1]
    have n5 : rdReps (bytesN ssrc 4 ++ repE reps) 4 reps.length = reps.map Rp.norm := by
      have := rdReps_enc reps (bytesN ssrc 4) [] 4 (by simp [bytesN_length]) h7
      simpa using this
    rw [n0, n5, if_neg (by simp [bytesN_length, repE_length])]
  by_cases k2 : kind = 2
  · subst k2
    simp
    have n5 : rdWho (whoE who) who.length = who := by
      have := rdWho_enc who [] [] 0 rfl h8
      simpa [rdWho] using this
    rw [n5, if_neg (by simp [whoE_length])]
  by_cases k3 : kind = 3
  · subst k3
    simp at g3 ⊢
    have hp : 0 < pairs.length := by
      rcases Nat.eq_zero_or_pos pairs.length with h | h
      · exact absurd (List.eq_nil_of_length_eq_zero h) g3
      · exact h
    have n0 : numAt (bytesN ssrc 4 ++ (bytesN media 4 ++ pairE pairs)) 0 4 = ssrc := by rw [numAt_head, f4 h1]
    have n1 : numAt (bytesN ssrc 4 ++ (bytesN media 4 ++ pairE pairs)) 4 4 = media := by rw [numAt_skip' (bytesN ssrc 4) _ 0 4 4 (by simp [bytesN_length]), numAt_head, f4 h2]
    have n5 : rdPairs (bytesN ssrc 4 ++ (bytesN media 4 ++ pairE pairs)) pairs.length = pairs := by
      have := rdPairs_enc pairs (bytesN ssrc 4 ++ bytesN media 4) [] 8 (by simp [bytesN_length]) h9
      simpa [rdPairs] using this
    have hl : (4 + (4 + (pairE pairs).length) - 8) / 4 = pairs.length := by rw [pairE_length]; omega
    simp only [bytesN_length]
    rw [hl, n0, n1, n5, if_neg (by omega), if_neg (by omega)]
  by_cases k4 : kind = 4
  · subst k4
    simp
    have n0 : numAt (bytesN ssrc 4 ++ bytesN media 4) 0 4 = ssrc := by rw [numAt_head, f4 h1]
    have n1 : numAt (bytesN ssrc 4 ++ bytesN media 4) 4 4 = media := by
      have := numAt_head media 4 []
      rw [List.append_nil] at this
      rw [numAt_skip' (bytesN ssrc 4) _ 0 4 4 (by simp [bytesN_length]), this, f4 h2]
    rw [n0, n1, if_neg (by simp [bytesN_length])]
  by_cases k5 : kind = 5
  · subst k5
    simp at g4 ⊢
    have hp : 0 < asks.length := by
      rcases Nat.eq_zero_or_pos asks.length with h | h
      · exact absurd (List.eq_nil_of_length_eq_zero h) g4
      · exact h
    have n0 : numAt (bytesN ssrc 4 ++ (bytesN media 4 ++ askE asks)) 0 4 = ssrc := by rw [numAt_head, f4 h1]
    have n1 : numAt (bytesN ssrc 4 ++ (bytesN media 4 ++ askE asks)) 4 4 = media := by rw [numAt_skip' (bytesN ssrc 4) _ 0 4 4 (by simp [bytesN_length]), numAt_head, f4 h2]
    have n5 : rdAsks (bytesN ssrc 4 ++ (bytesN media 4 ++ askE asks)) asks.length = asks := by
      have := rdAsks_enc asks (bytesN ssrc 4 ++ bytesN media 4) [] 8 (by simp [bytesN_length]) h10
      simpa [rdAsks] using this
    have hl : (4 + (4 + (askE asks).length) - 8) / 8 = asks.length := by rw [askE_length]; omega
    simp only [bytesN_length]
    rw [hl, n0, n1, n5, if_neg (by omega), if_neg (by omega)]
  exact absurd (by simp [k0, k1, k2, k3, k4, k5]) g1
theorem body_four (m : Ms) : m.body.length % 4 = 0 := by
  unfold Ms.body
  repeat' split
  all_goals first | (simp only [List.length_append, bytesN_length, repE_length, whoE_length, pairE_length, askE_length, List.length_nil]; done) | (simp only [List.length_append, bytesN_length, repE_length, whoE_length, pairE_length, askE_length]; omega)
theorem good_facts (m : Ms) (hg : m.good = true) : m.cnt ≤ 31 ∧ 200 ≤ m.num ∧ m.num ≤ 206 := by
  unfold Ms.good at hg
  simp only [decide_eq_true_eq] at hg
  obtain ⟨g1, g2, _, _⟩ := hg
  refine ⟨g2, ?_⟩
  unfold Ms.num at g1 ⊢
  repeat' split at g1
  all_goals simp_all
/-- A message's head, of whatever first byte and length. -/
theorem oneS_head (a t n : Nat) (ha : 128 ≤ a ∧ a < 192) (ht : 192 ≤ t ∧ t < 224) (hn : n < 65536) (s : List UInt8) :
    oneS ([UInt8.ofNat a, UInt8.ofNat t] ++ (bytesN n 2 ++ s)) = if s.length < 4 * n then (zeroM, [], 10) else
      match unpad a (s.take (4 * n)) (s.drop (4 * n)) with
      | none => (zeroM, [], 11)
      | some b => ((readM t (a % 32) b).1, s.drop (4 * n), (readM t (a % 32) b).2) := by
  have e0 : numAt ([UInt8.ofNat a, UInt8.ofNat t] ++ (bytesN n 2 ++ s)) 0 1 = a := by
    have := numAt_byte a ([UInt8.ofNat t] ++ (bytesN n 2 ++ s))
    rw [Nat.mod_eq_of_lt (by omega)] at this
    exact this
  have e1 : numAt ([UInt8.ofNat a, UInt8.ofNat t] ++ (bytesN n 2 ++ s)) 1 1 = t := by
    have := numAt_skip' [UInt8.ofNat a] ([UInt8.ofNat t] ++ (bytesN n 2 ++ s)) 0 1 1 rfl
    rw [numAt_byte, Nat.mod_eq_of_lt (by omega)] at this
    exact this
  have e2 : numAt ([UInt8.ofNat a, UInt8.ofNat t] ++ (bytesN n 2 ++ s)) 2 2 = n := by
    rw [numAt_skip' [UInt8.ofNat a, UInt8.ofNat t] _ 0 2 2 rfl, numAt_head, Nat.mod_eq_of_lt (by omega)]
  have e3 : isB ([UInt8.ofNat a, UInt8.ofNat t] ++ (bytesN n 2 ++ s)) = true := by
    show decide _ = true
    simp only [decide_eq_true_eq, UInt8.toNat_ofNat']
    omega
  have e4 : ([UInt8.ofNat a, UInt8.ofNat t] ++ (bytesN n 2 ++ s)).length = 4 + s.length := by simp [bytesN_length]; omega
  have e5 : ∀ k, ([UInt8.ofNat a, UInt8.ofNat t] ++ (bytesN n 2 ++ s)).drop (4 + k) = s.drop k := by
    intro k
    rw [← List.append_assoc, List.drop_append, List.drop_of_length_le (by simp [bytesN_length]), List.nil_append]
    congr 1
    simp [bytesN_length]
  have e6 := e5 0
  rw [Nat.add_zero, List.drop_zero] at e6
  unfold oneS
  rw [e0, e1, e2, e3, e4, e5, e6, if_neg (by omega), if_neg (by decide)]
  by_cases hs : s.length < 4 * n
  · rw [if_pos (by omega), if_pos hs]
  · rw [if_neg (by omega), if_neg hs]
theorem unpad_no (a : Nat) (b r : List UInt8) (h : a / 32 % 2 = 0) : unpad a b r = some b := by unfold unpad; rw [if_neg (by omega)]
theorem oneS_enc (m : Ms) (rest : List UInt8) (hg : m.good = true) (hf : m.Fits) (hw : m.Few) : oneS (m.enc ++ rest) = (m.norm, rest, 0) := by
  obtain ⟨h1, h2, h3⟩ := good_facts m hg
  have hl := m.enc_length hw
  have h4 := body_four m
  have e : m.enc ++ rest = [UInt8.ofNat (128 + m.cnt), UInt8.ofNat m.num] ++ (bytesN (m.body.length / 4) 2 ++ (m.body ++ rest)) := by simp [Ms.enc]
  have hb : m.body.length ≤ 1700 := by
    have : m.enc.length = 4 + m.body.length := by simp [Ms.enc, bytesN_length]; omega
    omega
  rw [e, oneS_head _ _ _ (by omega) (by omega) (by omega), if_neg (by simp; omega)]
  rw [show 4 * (m.body.length / 4) = m.body.length by omega, List.take_left' rfl, List.drop_left' rfl, unpad_no _ _ _ (by omega)]
  dsimp only
  rw [show (128 + m.cnt) % 32 = m.cnt by omega, readM_body m hg hf]
theorem parseF_succ (f : Nat) (acc : List Ms) (s : List UInt8) : parseF (f + 1) acc s = if s = [] then (acc, 0) else if (oneS s).2.2 ≠ 0 then ([], (oneS s).2.2) else parseF f (acc ++ [(oneS s).1]) (oneS s).2.1 := rfl
/-- Messages that are put, ahead of others. -/
theorem parseF_encs : ∀ (l : List Ms) (acc : List Ms) (s : List UInt8) (f : Nat), (∀ m ∈ l, m.good = true ∧ m.Fits ∧ m.Few) → (encs l ++ s).length < f →
    parseF f acc (encs l ++ s) = parseF (s.length + 1) (acc ++ l.map Ms.norm) s
  | [], acc, s, f, _, hf => by
    rw [List.map_nil, List.append_nil]
    exact parseF_more f (s.length + 1) acc s hf (Nat.lt_succ_self _)
  | m :: l, acc, s, f, h, hf => by
    obtain ⟨hg, hfit, hw⟩ := h m (by simp)
    have e : encs (m :: l) ++ s = m.enc ++ (encs l ++ s) := by simp [encs]
    have hlen : 4 ≤ m.enc.length := by simp [Ms.enc, bytesN_length]
    have hone := oneS_enc m (encs l ++ s) hg hfit hw
    rw [e] at hf ⊢
    cases f with
    | zero => omega
    | succ f =>
      rw [parseF_succ, if_neg (fun h0 => by have := congrArg List.length h0; simp at this; rw [this.1] at hlen; simp at hlen), hone, if_neg (fun h0 => h0 rfl)]
      have hf' : (encs l ++ s).length < f := by rw [List.length_append] at hf; omega
      rw [parseF_encs l (acc ++ [m.norm]) s f (fun x hx => h x (by simp [hx])) hf']
      simp
/-- What is put is parsed as it was. -/
theorem parse_put (l : List Ms) (h : ∀ m ∈ l, m.good = true ∧ m.Fits ∧ m.Few) (hne : l ≠ []) (hb : ¬ 1500 < (encs l).length) : parseL (encs l) = (l.map Ms.norm, 0) := by
  unfold parseL
  rw [if_neg hb, if_neg]
  · have := parseF_encs l [] [] ((encs l).length + 1) h (by simp)
    rw [List.append_nil] at this
    rw [this]
    simp [parseF]
  · cases l with
    | nil => exact absurd rfl hne
    | cons m l => simp [encs, Ms.enc]

/-! ### Padding, cuts, other versions, other types -/
/-- n bytes of padding. -/
def tailB (n : Nat) : List UInt8 := List.replicate (n - 1) 0 ++ [UInt8.ofNat n]
theorem tailB_length (n : Nat) (h : 1 ≤ n) : (tailB n).length = n := by simp [tailB]; omega
theorem unpad_yes (a n : Nat) (b : List UInt8) (ha : a / 32 % 2 = 1) (h1 : 4 ≤ n) (h2 : n < 256) (h4 : n % 4 = 0) : unpad a (b ++ tailB n) [] = some b := by
  have hl := tailB_length n (by omega)
  have hlast : ((b ++ tailB n).getLastD 0).toNat = n := by
    have : (b ++ tailB n).getLastD 0 = UInt8.ofNat n := by
      unfold tailB
      rw [← List.append_assoc, List.getLastD_concat]
    rw [this, UInt8.toNat_ofNat']
    omega
  have hne : b ++ tailB n ≠ [] := by intro h; have := congrArg List.length h; simp [hl] at this; omega
  unfold unpad
  rw [if_pos ha, if_neg (by intro h; rcases h with h | h; exact h rfl; exact hne h)]
  dsimp only
  rw [hlast, if_neg (by rw [List.length_append, hl]; omega)]
  rw [List.length_append, hl, show b.length + n - n = b.length by omega, List.take_left' rfl]
theorem parse_padded (l : List Ms) (m : Ms) (n : Nat) (h : ∀ x ∈ l, x.good = true ∧ x.Fits ∧ x.Few) (hg : m.good = true) (hf : m.Fits) (hw : m.Few) (h1 : 4 ≤ n) (h2 : n < 256) (h4 : n % 4 = 0)
    (hb : (encs l).length + m.enc.length + n ≤ 1500) :
    parseL (encs l ++ ([UInt8.ofNat (160 + m.cnt), UInt8.ofNat m.num] ++ (bytesN (m.body.length / 4 + n / 4) 2 ++ (m.body ++ tailB n)))) = ((l ++ [m]).map Ms.norm, 0) := by
  obtain ⟨g1, g2, g3⟩ := good_facts m hg
  have hl := m.enc_length hw
  have hb4 := body_four m
  have hel : m.enc.length = 4 + m.body.length := by simp [Ms.enc, bytesN_length]; omega
  have htl := tailB_length n (by omega)
  obtain ⟨P, hP⟩ : ∃ P, P = [UInt8.ofNat (160 + m.cnt), UInt8.ofNat m.num] ++ (bytesN (m.body.length / 4 + n / 4) 2 ++ (m.body ++ tailB n)) := ⟨_, rfl⟩
  have hPl : P.length = 4 + m.body.length + n := by rw [hP]; simp [bytesN_length, htl]; omega
  have hone : oneS P = (m.norm, [], 0) := by
    rw [hP, oneS_head _ _ _ (by omega) (by omega) (by omega), if_neg (by rw [List.length_append, htl]; omega)]
    rw [List.take_of_length_le (by rw [List.length_append, htl]; omega), List.drop_of_length_le (by rw [List.length_append, htl]; omega), unpad_yes _ n m.body (by omega) h1 h2 h4]
    dsimp only
    rw [show (160 + m.cnt) % 32 = m.cnt by omega, readM_body m hg hf]
  rw [← hP]
  unfold parseL
  rw [if_neg (by rw [List.length_append, hPl]; omega), if_neg (by intro h0; have := congrArg List.length h0; rw [List.length_append, hPl] at this; simp at this)]
  rw [parseF_encs l [] P _ h (Nat.lt_succ_self _), parseF_succ, if_neg (by intro h0; rw [h0] at hPl; simp at hPl; omega), hone, if_neg (fun h0 => h0 rfl)]
  dsimp only
  rw [hPl, show 4 + m.body.length + n = (3 + m.body.length + n) + 1 by omega, parseF_succ, if_pos rfl]
  simp
/-- Bytes that end within their first message. -/
theorem parse_cut (m : Ms) (rest : List UInt8) (k : Nat) (hg : m.good = true) (hw : m.Few) (hk : k < m.enc.length) (hb : k ≤ 1500) : parseL ((m.enc ++ rest).take k) = ([], 10) := by
  obtain ⟨g1, g2, g3⟩ := good_facts m hg
  have hl := m.enc_length hw
  have hb4 := body_four m
  have hel : m.enc.length = 4 + m.body.length := by simp [Ms.enc, bytesN_length]; omega
  rw [List.take_append_of_le_length (by omega)]
  have htk : (m.enc.take k).length = k := by rw [List.length_take]; omega
  unfold parseL
  rw [if_neg (by omega)]
  rcases Nat.eq_zero_or_pos k with rfl | hk0
  · simp
  have hne : m.enc.take k ≠ [] := by intro h0; rw [h0] at htk; simp at htk; omega
  rw [if_neg hne, parseF_succ, if_neg hne]
  by_cases h4 : k < 4
  · have : oneS (m.enc.take k) = (zeroM, [], 10) := by unfold oneS; rw [if_pos (by omega)]
    rw [this, if_pos (by decide)]
  · have e : m.enc.take k = [UInt8.ofNat (128 + m.cnt), UInt8.ofNat m.num] ++ (bytesN (m.body.length / 4) 2 ++ m.body.take (k - 4)) := by
      unfold Ms.enc
      rw [← List.append_assoc, List.take_append, List.take_of_length_le (by simp [bytesN_length]; omega), ← List.append_assoc]
      congr 2

    have : oneS (m.enc.take k) = (zeroM, [], 10) := by
      rw [e, oneS_head _ _ _ (by omega) (by omega) (by omega), if_pos (by rw [List.length_take]; omega)]
    rw [this, if_pos (by decide)]
/-- Bytes of another version. -/
theorem parse_version (m : Ms) (rest : List UInt8) (hg : m.good = true) (hb : (m.enc ++ rest).length ≤ 1500) : parseL (UInt8.ofNat (192 + m.cnt) :: (m.enc ++ rest).drop 1) = ([], 11) := by
  obtain ⟨g1, g2, g3⟩ := good_facts m hg
  have e : UInt8.ofNat (192 + m.cnt) :: (m.enc ++ rest).drop 1 = UInt8.ofNat (192 + m.cnt) :: UInt8.ofNat m.num :: (bytesN (m.body.length / 4) 2 ++ (m.body ++ rest)) := by simp [Ms.enc]
  have hlen : (UInt8.ofNat (192 + m.cnt) :: (m.enc ++ rest).drop 1).length = (m.enc ++ rest).length := by simp [Ms.enc]
  have h4 : 4 ≤ (m.enc ++ rest).length := by simp [Ms.enc, bytesN_length]
  have hone : oneS (UInt8.ofNat (192 + m.cnt) :: (m.enc ++ rest).drop 1) = (zeroM, [], 11) := by
    unfold oneS
    rw [if_neg (by omega), if_pos]
    rw [e]
    show decide _ = false
    simp only [decide_eq_false_iff_not, UInt8.toNat_ofNat']
    omega
  unfold parseL
  rw [if_neg (by omega), if_neg (by simp), parseF_succ, if_neg (by simp), hone, if_pos (by decide)]
/-- Padding ahead of another message. -/
theorem parse_within (m : Ms) (rest : List UInt8) (hg : m.good = true) (hw : m.Few) (hr : rest ≠ []) (hb : (m.enc ++ rest).length ≤ 1500) : parseL (UInt8.ofNat (160 + m.cnt) :: (m.enc ++ rest).drop 1) = ([], 11) := by
  obtain ⟨g1, g2, g3⟩ := good_facts m hg
  have hl := m.enc_length hw
  have hb4 := body_four m
  have hel : m.enc.length = 4 + m.body.length := by simp [Ms.enc, bytesN_length]; omega
  have e : UInt8.ofNat (160 + m.cnt) :: (m.enc ++ rest).drop 1 = [UInt8.ofNat (160 + m.cnt), UInt8.ofNat m.num] ++ (bytesN (m.body.length / 4) 2 ++ (m.body ++ rest)) := by simp [Ms.enc]
  have hlen : (UInt8.ofNat (160 + m.cnt) :: (m.enc ++ rest).drop 1).length = (m.enc ++ rest).length := by simp [Ms.enc]
  have hone : oneS (UInt8.ofNat (160 + m.cnt) :: (m.enc ++ rest).drop 1) = (zeroM, [], 11) := by
    rw [e, oneS_head _ _ _ (by omega) (by omega) (by omega), if_neg (by rw [List.length_append]; omega)]
    rw [show 4 * (m.body.length / 4) = m.body.length by omega, List.take_left' rfl, List.drop_left' rfl]
    have : unpad (160 + m.cnt) m.body rest = none := by
      unfold unpad
      rw [if_pos (by omega), if_pos (.inl hr)]
    rw [this]
  unfold parseL
  rw [if_neg (by omega), if_neg (by simp), parseF_succ, if_neg (by simp), hone, if_pos (by decide)]
/-- A type that is of no other kind. -/
theorem parse_other (t c : Nat) (body : List UInt8) (hc : c < 32) (ht : 192 ≤ t ∧ t < 224) (hb : body.length ≤ 300) (h4 : body.length % 4 = 0)
    (hk : t ≠ 200 ∧ t ≠ 201 ∧ t ≠ 203 ∧ ¬ (t = 205 ∧ c = 1) ∧ ¬ (t = 206 ∧ (c = 1 ∨ c = 4))) :
    parseL ([UInt8.ofNat (128 + c), UInt8.ofNat t] ++ (bytesN (body.length / 4) 2 ++ body)) = ([⟨6, 0, 0, 0, 0, 0, 0, [], [], [], [], t⟩], 0) := by
  obtain ⟨n0, n1, n2, n3, n4⟩ := hk
  obtain ⟨P, hP⟩ : ∃ P, P = [UInt8.ofNat (128 + c), UInt8.ofNat t] ++ (bytesN (body.length / 4) 2 ++ body) := ⟨_, rfl⟩
  have hPl : P.length = 4 + body.length := by rw [hP]; simp [bytesN_length]; omega
  have hr : readM t ((128 + c) % 32) body = (⟨6, 0, 0, 0, 0, 0, 0, [], [], [], [], t⟩, 0) := by
    rw [show (128 + c) % 32 = c by omega]
    unfold readM
    rw [if_neg n0, if_neg n1, if_neg n2, if_neg n3, if_neg (fun h => n4 ⟨h.1, .inl h.2⟩), if_neg (fun h => n4 ⟨h.1, .inr h.2⟩)]
  have hone : oneS P = (⟨6, 0, 0, 0, 0, 0, 0, [], [], [], [], t⟩, [], 0) := by
    rw [hP, oneS_head _ _ _ (by omega) ht (by omega), if_neg (by omega)]
    rw [List.take_of_length_le (by omega), List.drop_of_length_le (by omega), unpad_no _ _ _ (by omega)]
    dsimp only
    rw [hr]
  rw [← hP]
  unfold parseL
  have hne : P ≠ [] := by intro h0; rw [h0] at hPl; simp at hPl; omega
  rw [if_neg (by omega), if_neg hne, parseF_succ, if_neg hne, hone, if_neg (fun h0 => h0 rfl)]
  dsimp only
  rw [hPl, show 4 + body.length = (3 + body.length) + 1 by omega, parseF_succ, if_pos rfl]
  rfl

/-! ### Two rows -/
theorem encs_append (a b : List Ms) : encs (a ++ b) = encs a ++ encs b := by simp [encs]
theorem putL_cases (l : List Ms) : (putL l = (encs l, 0) ∧ (∀ m ∈ l, m.good = true) ∧ (encs l).length ≤ 1500) ∨ ((putL l).1 = [] ∧ (putL l).2 ≠ 0 ∧ ¬ ((∀ m ∈ l, m.good = true) ∧ (encs l).length ≤ 1500)) := by
  unfold putL
  split
  · rename_i h
    have h' := List.all_eq_true.1 h
    split
    · exact .inr ⟨rfl, by decide, fun hh => by omega⟩
    · exact .inl ⟨rfl, h', by omega⟩
  · rename_i h
    exact .inr ⟨rfl, by decide, fun hh => h (List.all_eq_true.2 hh.1)⟩
theorem putL_append (a b : List Ms) (h : (putL (a ++ b)).2 = 0) : (putL a).2 = 0 ∧ (putL b).2 = 0 := by
  rcases putL_cases (a ++ b) with ⟨_, h1, h2⟩ | ⟨_, h1, _⟩
  · rw [encs_append, List.length_append] at h2
    constructor
    · rcases putL_cases a with ⟨e, _, _⟩ | ⟨_, _, h3⟩
      · rw [e]
      · exact absurd ⟨fun m hm => h1 m (by simp [hm]), by omega⟩ h3
    · rcases putL_cases b with ⟨e, _, _⟩ | ⟨_, _, h3⟩
      · rw [e]
      · exact absurd ⟨fun m hm => h1 m (by simp [hm]), by omega⟩ h3
  · exact absurd h h1
theorem encs_four (l : List Ms) : (encs l).length % 4 = 0 := by
  induction l with
  | nil => rfl
  | cons m l ih =>
    have := body_four m
    have hel : m.enc.length = 4 + m.body.length := by simp [Ms.enc, bytesN_length]; omega
    have e : encs (m :: l) = m.enc ++ encs l := by simp [encs]
    rw [e, List.length_append, hel]
    omega
theorem encs_is (l : List Ms) (h : ∀ m ∈ l, m.good = true) (hne : l ≠ []) : isB (encs l) = true := by
  cases l with
  | nil => exact absurd rfl hne
  | cons m l =>
    obtain ⟨g1, g2, g3⟩ := good_facts m (h m (by simp))
    show decide _ = true
    simp only [decide_eq_true_eq, UInt8.toNat_ofNat']
    omega
end Go.Proofs.YtcjmiidnhbmclaaDoor
