/-
  Which packets came, as plain functions: a track, what a packet makes of it, what was lost, what misses; what a row of numbers that came makes of all this. Nothing here names the program.
-/
import Derived.Test.YtphhhfgenhbmlaaWords
namespace Go.Proofs.Ytphhhfgenhbmlaa
open Go.RowKit

/-- The number nearest to h that is s, but for times round. -/
def nearS (h s : Int) : Int := h + ((s - h + 32768) % 65536 - 32768)
/-- A track. -/
structure Trk where
  on : Bool
  base : Int
  high : Int
  got : Int
  seen : Nat
deriving DecidableEq
/-- Its cells. -/
def Trk.cells (t : Trk) : Array Value := #[.bool t.on, .int .i64 t.base, .int .i64 t.high, .int .i64 t.got, .int .u64 (t.seen : Int)]
def Trk.zero : Trk := ⟨false, 0, 0, 0, 0⟩
def shlS (s d : Nat) : Nat := s * 2 ^ d % 2 ^ 64 ||| 1
/-- A packet's number. -/
def Trk.num (t : Trk) (s : Int) : Int := if t.on = true then nearS t.high s else s
/-- What the packet of a number is. -/
def Trk.kind (t : Trk) (n : Int) : Int :=
  if t.on = true then if t.high < n then 0 else if 64 ≤ t.high - n then 3 else if t.seen.testBit (t.high - n).toNat = true then 2 else 1 else 0
/-- The track behind it. -/
def Trk.take (t : Trk) (n : Int) : Trk :=
  if t.on = true then if t.high < n then ⟨true, t.base, n, t.got + 1, shlS t.seen (n - t.high).toNat⟩ else if 64 ≤ t.high - n then t
    else if t.seen.testBit (t.high - n).toNat = true then t else ⟨true, min t.base n, t.high, t.got + 1, t.seen ||| 2 ^ (t.high - n).toNat⟩
  else ⟨true, n, n, 1, 1⟩
/-- How many were lost. -/
def Trk.lost (t : Trk) : Int := if t.on = true then t.high - t.base + 1 - t.got else 0
/-- The number of the u-th one, from 63 below the highest one on, if it misses. -/
def missOne (base high : Int) (f : Nat → Bool) (u : Nat) : List Int := if base ≤ high - ((63 - u : Nat) : Int) ∧ f (63 - u) = false then [high - ((63 - u : Nat) : Int)] else []
/-- What misses, of the first k of the last 64. -/
def missG (base high : Int) (f : Nat → Bool) : Nat → List Int
  | 0 => []
  | k + 1 => missG base high f k ++ missOne base high f k
def Trk.miss (t : Trk) : List Int := missG t.base t.high (fun k => t.seen.testBit k) 64

/-! ### What misses -/
section
variable {base high : Int} {f g : Nat → Bool}
theorem missOne_length (u : Nat) : (missOne base high f u).length ≤ 1 := by unfold missOne; split <;> simp
theorem missG_length : ∀ k, (missG base high f k).length ≤ k
  | 0 => by simp [missG]
  | k + 1 => by
    have h1 := missG_length k
    have h2 : (missOne base high f k).length ≤ 1 := missOne_length k
    rw [missG, List.length_append]
    omega
theorem missG_congr (h : ∀ k, k < 64 → f k = g k) : ∀ k, missG base high f k = missG base high g k
  | 0 => rfl
  | k + 1 => by
    rw [missG, missG, missG_congr h k]
    unfold missOne
    rw [h (63 - k) (by omega)]
theorem mem_missOne (x : Int) (u : Nat) : x ∈ missOne base high f u ↔ x = high - ((63 - u : Nat) : Int) ∧ base ≤ x ∧ f (63 - u) = false := by
  unfold missOne
  split
  · rename_i h
    rw [List.mem_singleton]
    constructor
    · rintro rfl; exact ⟨rfl, h⟩
    · exact fun h => h.1
  · rename_i h
    rw [List.mem_nil_iff, false_iff]
    rintro ⟨rfl, h1⟩
    exact h h1
theorem mem_missG (x : Int) : ∀ k, k ≤ 64 → (x ∈ missG base high f k ↔ base ≤ x ∧ high - 63 ≤ x ∧ x < high - 63 + k ∧ f (high - x).toNat = false)
  | 0, _ => by
    simp only [missG, List.mem_nil_iff, false_iff]
    rintro ⟨_, h1, h2, _⟩
    omega
  | k + 1, hk => by
    rw [missG, List.mem_append, mem_missG x k (by omega), mem_missOne]
    constructor
    · rintro (⟨h1, h2, h3, h4⟩ | ⟨h1, h2, h3⟩)
      · exact ⟨h1, h2, by omega, h4⟩
      · refine ⟨h2, by omega, by omega, ?_⟩
        rw [h1, show (high - (high - ((63 - k : Nat) : Int))).toNat = 63 - k by omega]
        exact h3
    · rintro ⟨h1, h2, h3, h4⟩
      by_cases hx : x < high - 63 + k
      · exact .inl ⟨h1, h2, hx, h4⟩
      · have e : (high - x).toNat = 63 - k := by omega
        rw [e] at h4
        exact .inr ⟨by omega, h1, h4⟩
theorem missG_sorted : ∀ k, k ≤ 64 → (missG base high f k).Pairwise (· < ·)
  | 0, _ => by simp [missG]
  | k + 1, hk => by
    rw [missG, List.pairwise_append]
    refine ⟨missG_sorted k (by omega), ?_, fun a ha b hb => ?_⟩
    · unfold missOne; split <;> simp
    · have h1 := (mem_missG a k (by omega)).1 ha
      have h2 := (mem_missOne b k).1 hb
      omega
end

/-! ### Rows of numbers -/
theorem sorted_eq : ∀ (a b : List Int), a.Pairwise (· < ·) → b.Pairwise (· < ·) → (∀ x, x ∈ a ↔ x ∈ b) → a = b
  | [], [], _, _, _ => rfl
  | [], y :: b, _, _, h => absurd ((h y).2 (by simp)) (by simp)
  | x :: a, [], _, _, h => absurd ((h x).1 (by simp)) (by simp)
  | x :: a, y :: b, ha, hb, h => by
    rw [List.pairwise_cons] at ha hb
    have hxy : x = y := by
      have h1 := (h x).1 (by simp)
      have h2 := (h y).2 (by simp)
      rcases List.mem_cons.1 h1 with e | h1
      · exact e
      · rcases List.mem_cons.1 h2 with e | h2
        · exact e.symm
        · have := ha.1 _ h2; have := hb.1 _ h1; omega
    subst hxy
    rw [sorted_eq a b ha.2 hb.2 fun z => ?_]
    have hz := h z
    rw [List.mem_cons, List.mem_cons] at hz
    constructor
    · intro hm
      have := ha.1 _ hm
      rcases hz.1 (.inr hm) with e | e
      · omega
      · exact e
    · intro hm
      have := hb.1 _ hm
      rcases hz.2 (.inr hm) with e | e
      · omega
      · exact e

/-! ### Bits -/
theorem shlS_lt (s d : Nat) : shlS s d < 2 ^ 64 := Nat.or_lt_two_pow (n := 64) (Nat.mod_lt _ (by decide)) (by decide)
theorem shlS_bit (s d k : Nat) (hk : k < 64) : (shlS s d).testBit k = (decide (k = 0) || decide (d ≤ k) && s.testBit (k - d)) := by
  unfold shlS
  rw [Nat.testBit_or, Nat.testBit_mod_two_pow, decide_eq_true hk, Bool.true_and, Nat.testBit_mul_two_pow]
  by_cases h0 : k = 0
  · subst h0
    simp
  · have : Nat.testBit 1 k = false := by
      rw [show (1 : Nat) = 2 ^ 0 from rfl, Nat.testBit_two_pow]
      simp [Ne.symm h0]
    rw [this, decide_eq_false h0]
    simp
theorem or_bit (s j k : Nat) : (s ||| 2 ^ j).testBit k = (s.testBit k || decide (j = k)) := by rw [Nat.testBit_or, Nat.testBit_two_pow]
theorem or_lt (s j : Nat) (h : s < 2 ^ 64) (hj : j < 64) : s ||| 2 ^ j < 2 ^ 64 := Nat.or_lt_two_pow h (Nat.pow_lt_pow_right (by decide) hj)

/-! ### Numbers -/
theorem nearS_mod (h s : Int) : nearS h s % 65536 = s % 65536 := by unfold nearS; omega
theorem nearS_bd (h s : Int) : h - 32768 ≤ nearS h s ∧ nearS h s ≤ h + 32767 := by unfold nearS; omega
theorem nearS_of (h n : Int) (h1 : h - 32768 ≤ n) (h2 : n ≤ h + 32767) : nearS h (n % 65536) = n := by unfold nearS; omega
theorem nearS_self (h s n : Int) (h1 : h - 32768 ≤ n) (h2 : n ≤ h + 32767) (h3 : n % 65536 = s % 65536) : nearS h s = n := by unfold nearS; omega

/-- A track's numbers are within c of 0. -/
structure Trk.Ok (c : Int) (t : Trk) : Prop where
  base0 : -c ≤ t.base
  base1 : t.base ≤ c
  high0 : -c ≤ t.high
  high1 : t.high ≤ c
  got0 : 0 ≤ t.got
  got1 : t.got ≤ c
  seen : t.seen < 2 ^ 64
theorem Trk.Ok.zero : Trk.zero.Ok 0 := ⟨by decide, by decide, by decide, by decide, by decide, by decide, by decide⟩
theorem Trk.Ok.more {c d : Int} {t : Trk} (h : t.Ok c) (hd : c ≤ d) : t.Ok d := ⟨by have := h.base0; omega, by have := h.base1; omega, by have := h.high0; omega, by have := h.high1; omega, h.got0, by have := h.got1; omega, h.seen⟩
theorem Trk.num_bd {c : Int} {t : Trk} (h : t.Ok c) (s : Int) (h0 : 0 ≤ s) (h1 : s < 65536) : -(c + 65536) ≤ t.num s ∧ t.num s ≤ c + 65536 := by
  have := h.high0
  have := h.high1
  unfold Trk.num
  split
  · have := nearS_bd t.high s
    omega
  · omega
theorem Trk.Ok.take {c : Int} {t : Trk} (h : t.Ok c) (n : Int) (h0 : -(c + 65536) ≤ n) (h1 : n ≤ c + 65536) : (t.take n).Ok (c + 65536) := by
  have h' := h.more (show c ≤ c + 65536 by omega)
  have := h.base0
  have := h.base1
  have := h.high0
  have := h.high1
  have := h.got0
  have := h.got1
  unfold Trk.take
  split
  · split
    · exact ⟨h'.base0, h'.base1, h0, h1, by dsimp only; omega, by dsimp only; omega, shlS_lt _ _⟩
    · split
      · exact h'
      · split
        · exact h'
        · exact ⟨by dsimp only; omega, by dsimp only; omega, h'.high0, h'.high1, by dsimp only; omega, by dsimp only; omega, or_lt _ _ h.seen (by omega)⟩
  · exact ⟨h0, h1, h0, h1, by dsimp only; omega, by dsimp only; omega, by dsimp only; decide⟩
theorem Trk.kind_bd (t : Trk) (n : Int) : 0 ≤ t.kind n ∧ t.kind n ≤ 3 := by
  unfold Trk.kind
  split
  · split
    · decide
    · split
      · decide
      · split <;> decide
  · decide
theorem Trk.take_on (t : Trk) (n : Int) : (t.take n).on = true := by
  unfold Trk.take
  split
  · rename_i h
    split
    · rfl
    · split
      · exact h
      · split
        · exact h
        · rfl
  · rfl
theorem Trk.miss_length (t : Trk) : t.miss.length ≤ 64 := missG_length _
theorem Trk.mem_miss (t : Trk) (x : Int) : x ∈ t.miss ↔ t.base ≤ x ∧ t.high - 63 ≤ x ∧ x ≤ t.high ∧ t.seen.testBit (t.high - x).toNat = false := by
  unfold Trk.miss
  rw [mem_missG x 64 (Nat.le_refl _)]
  constructor
  · rintro ⟨a, b, c, d⟩; exact ⟨a, b, by omega, d⟩
  · rintro ⟨a, b, c, d⟩; exact ⟨a, b, by omega, d⟩

/-! ### A packet that misses comes -/
theorem Trk.miss_num {t : Trk} {x : Int} (h : x ∈ t.miss) (ho : t.on = true) : t.num (x % 65536) = x := by
  obtain ⟨_, h1, h2, _⟩ := (t.mem_miss x).1 h
  unfold Trk.num
  rw [if_pos ho, nearS_of _ _ (by omega) (by omega)]
theorem Trk.miss_kind {t : Trk} {x : Int} (h : x ∈ t.miss) (ho : t.on = true) : t.kind x = 1 := by
  obtain ⟨_, h1, h2, h3⟩ := (t.mem_miss x).1 h
  unfold Trk.kind
  rw [if_pos ho, if_neg (by omega), if_neg (by omega), if_neg (by simp [h3])]
theorem Trk.miss_take {t : Trk} {x : Int} (h : x ∈ t.miss) (ho : t.on = true) : t.take x = ⟨true, t.base, t.high, t.got + 1, t.seen ||| 2 ^ (t.high - x).toNat⟩ := by
  obtain ⟨h0, h1, h2, h3⟩ := (t.mem_miss x).1 h
  unfold Trk.take
  rw [if_pos ho, if_neg (by omega), if_neg (by omega), if_neg (by simp [h3]), show min t.base x = t.base by omega]

/-! ### Once more -/
theorem Trk.again_old (t : Trk) (n : Int) (h : t.kind n = 3 ∨ t.kind n = 2) : t.take n = t := by
  unfold Trk.kind at h
  unfold Trk.take
  split at h
  · rw [if_pos (by assumption)]
    split at h
    · omega
    · rw [if_neg (by assumption)]
      split at h
      · rw [if_pos (by assumption)]
      · rw [if_neg (by assumption)]
        split at h
        · rw [if_pos (by assumption)]
        · omega
  · omega
theorem Trk.again_new (t : Trk) (s : Int) (h : t.kind (t.num s) ≠ 3 ∧ t.kind (t.num s) ≠ 2) :
    (t.take (t.num s)).num s = t.num s ∧ (t.take (t.num s)).kind (t.num s) = 2 ∧ (t.take (t.num s)).take (t.num s) = t.take (t.num s) ∧ (t.on = true → (t.take (t.num s)).got = t.got + 1) := by
  have hm : ∀ t : Trk, t.on = true → t.num s % 65536 = s % 65536 := fun t ho => by unfold Trk.num; rw [if_pos ho, nearS_mod]
  suffices H : ∀ u : Trk, u = t.take (t.num s) → u.num s = t.num s ∧ u.kind (t.num s) = 2 ∧ (t.on = true → u.got = t.got + 1) by
    obtain ⟨h1, h2, h3⟩ := H _ rfl
    exact ⟨h1, h2, Trk.again_old _ _ (.inr h2), h3⟩
  intro u hu
  have twice : u.on = true → nearS u.high s = t.num s → t.num s ≤ u.high → u.high - t.num s < 64 → u.seen.testBit (u.high - t.num s).toNat = true → u.num s = t.num s ∧ u.kind (t.num s) = 2 := by
    intro h1 h2 h3 h4 h5
    refine ⟨by unfold Trk.num; rw [if_pos h1, h2]; unfold Trk.num; rfl, ?_⟩
    unfold Trk.kind
    rw [if_pos h1, if_neg (by omega), if_neg (by omega), if_pos h5]
  obtain ⟨n, hn⟩ : ∃ n, t.num s = n := ⟨_, rfl⟩
  by_cases ho : t.on = true
  · have hmod := hm t ho
    have hnr : nearS t.high s = n := by rw [← hn]; unfold Trk.num; rw [if_pos ho]
    rw [hn] at hmod twice h hu ⊢
    unfold Trk.kind at h
    unfold Trk.take at hu
    rw [if_pos ho] at h hu
    by_cases h1 : t.high < n
    · rw [if_pos h1] at hu
      subst hu
      have tw := twice rfl (nearS_self _ _ _ (by dsimp only; omega) (by dsimp only; omega) hmod) (Int.le_refl _) (by dsimp only; omega) (by dsimp only; rw [shlS_bit _ _ _ (by omega)]; simp)
      exact ⟨tw.1, tw.2, fun _ => rfl⟩
    · rw [if_neg h1] at h hu
      by_cases h2 : 64 ≤ t.high - n
      · rw [if_pos h2] at h; exact absurd rfl h.1
      · rw [if_neg h2] at h hu
        by_cases h3 : t.seen.testBit (t.high - n).toNat = true
        · rw [if_pos h3] at h; exact absurd rfl h.2
        · rw [if_neg h3] at hu
          subst hu
          have tw := twice rfl hnr (by dsimp only; omega) (by dsimp only; omega) (by dsimp only; rw [or_bit]; simp)
          exact ⟨tw.1, tw.2, fun _ => rfl⟩
  · have hns : n = s := by rw [← hn]; unfold Trk.num; rw [if_neg ho]
    rw [hn] at twice hu ⊢
    unfold Trk.take at hu
    rw [if_neg ho] at hu
    subst hu
    have tw := twice rfl (nearS_self _ _ _ (by dsimp only; omega) (by dsimp only; omega) (by rw [hns])) (Int.le_refl _) (by dsimp only; omega) (by simp)
    exact ⟨tw.1, tw.2, fun h => absurd h ho⟩

/-! ### All numbers that came -/
/-- A track is that of the numbers that came. -/
structure Rep (t : Trk) (L : List Int) : Prop where
  on : t.on = true
  nodup : L.Nodup
  base_mem : t.base ∈ L
  base_le : ∀ x, x ∈ L → t.base ≤ x
  high_mem : t.high ∈ L
  high_ge : ∀ x, x ∈ L → x ≤ t.high
  got : t.got = L.length
  seen : ∀ k, k < 64 → t.seen.testBit k = decide (t.high - (k : Int) ∈ L)
/-- None came yet, or a track is that of the numbers that came. -/
def RepO (t : Trk) (L : List Int) : Prop := (t = Trk.zero ∧ L = []) ∨ Rep t L
/-- What the document says of a number. -/
def kindL (high : Int) (L : List Int) (n : Int) : Int := if high < n then 0 else if n < high - 63 then 3 else if n ∈ L then 2 else 1
theorem Rep.first (n : Int) : Rep ⟨true, n, n, 1, 1⟩ [n] := by
  refine ⟨rfl, by simp, by simp, by simp, by simp, by simp, rfl, fun k hk => ?_⟩
  dsimp only
  rw [show (1 : Nat) = 2 ^ 0 from rfl, Nat.testBit_two_pow, Bool.eq_iff_iff, decide_eq_true_iff, decide_eq_true_iff, List.mem_singleton]
  omega
section
variable {t : Trk} {L : List Int}
theorem Rep.kind (h : Rep t L) (n : Int) : t.kind n = kindL t.high L n := by
  unfold Trk.kind kindL
  rw [if_pos h.on]
  split
  · rfl
  · by_cases h1 : 64 ≤ t.high - n
    · rw [if_pos h1, if_pos (by omega)]
    · have e : t.seen.testBit (t.high - n).toNat = decide (n ∈ L) := by rw [h.seen _ (by omega), show t.high - ((t.high - n).toNat : Int) = n by omega]
      rw [if_neg h1, if_neg (show ¬ n < t.high - 63 by omega), e]
      simp only [decide_eq_true_eq]
theorem Rep.add_new (h : Rep t L) (n : Int) (h1 : t.high < n) : Rep (t.take n) (L ++ [n]) := by
  have hx : n ∉ L := fun hm => by have := h.high_ge _ hm; omega
  have hb := h.base_le _ h.high_mem
  unfold Trk.take
  rw [if_pos h.on, if_pos h1]
  refine ⟨rfl, ?_, by simp [h.base_mem], ?_, by simp, ?_, by simp [h.got], fun k hk => ?_⟩
  · rw [List.nodup_append]
    exact ⟨h.nodup, by simp, fun a ha b hb => by rw [List.mem_singleton] at hb; rintro rfl; exact hx (hb ▸ ha)⟩
  · intro x hm
    rcases List.mem_append.1 hm with hm | hm
    · exact h.base_le x hm
    · rw [List.mem_singleton] at hm; dsimp only; omega
  · intro x hm
    rcases List.mem_append.1 hm with hm | hm
    · have := h.high_ge x hm; dsimp only; omega
    · rw [List.mem_singleton] at hm; dsimp only; omega
  · dsimp only
    rw [shlS_bit _ _ _ hk]
    by_cases h0 : k = 0
    · subst h0; simp
    · rw [decide_eq_false h0, Bool.false_or, Bool.eq_iff_iff, Bool.and_eq_true, decide_eq_true_iff, decide_eq_true_iff, List.mem_append, List.mem_singleton]
      constructor
      · rintro ⟨a, b⟩
        rw [h.seen _ (by omega), decide_eq_true_iff] at b
        left
        rw [show n - (k : Int) = t.high - ((k - (n - t.high).toNat : Nat) : Int) by omega]
        exact b
      · rintro (a | a)
        · have := h.high_ge _ a
          refine ⟨by omega, ?_⟩
          rw [h.seen _ (by omega), decide_eq_true_iff, show t.high - ((k - (n - t.high).toNat : Nat) : Int) = n - (k : Int) by omega]
          exact a
        · omega
theorem Rep.add_late (h : Rep t L) (n : Int) (h1 : ¬ t.high < n) (h2 : ¬ n < t.high - 63) (h3 : n ∉ L) : Rep (t.take n) (L ++ [n]) := by
  have hs : t.seen.testBit (t.high - n).toNat = false := by
    rw [h.seen _ (by omega), show t.high - ((t.high - n).toNat : Int) = n by omega]
    simp [h3]
  unfold Trk.take
  rw [if_pos h.on, if_neg h1, if_neg (by omega), if_neg (by simp [hs])]
  refine ⟨rfl, ?_, ?_, ?_, by simp [h.high_mem], ?_, by simp [h.got], fun k hk => ?_⟩
  · rw [List.nodup_append]
    exact ⟨h.nodup, by simp, fun a ha b hb => by rw [List.mem_singleton] at hb; rintro rfl; exact h3 (hb ▸ ha)⟩
  · dsimp only
    by_cases hm : t.base ≤ n
    · rw [Int.min_eq_left hm]; simp [h.base_mem]
    · rw [Int.min_eq_right (by omega)]; simp
  · intro x hm
    rcases List.mem_append.1 hm with hm | hm
    · have := h.base_le x hm; dsimp only; omega
    · rw [List.mem_singleton] at hm; dsimp only; omega
  · intro x hm
    rcases List.mem_append.1 hm with hm | hm
    · exact h.high_ge x hm
    · rw [List.mem_singleton] at hm; dsimp only; omega
  · dsimp only
    rw [or_bit, h.seen k hk, Bool.eq_iff_iff, Bool.or_eq_true, decide_eq_true_iff, decide_eq_true_iff, decide_eq_true_iff, List.mem_append, List.mem_singleton]
    constructor
    · rintro (a | a)
      · exact .inl a
      · right; omega
    · rintro (a | a)
      · exact .inl a
      · right; omega
theorem Rep.stays (h : Rep t L) (n : Int) (h1 : kindL t.high L n = 3 ∨ kindL t.high L n = 2) : t.take n = t := Trk.again_old t n (by rw [h.kind]; exact h1)
theorem Rep.miss (h : Rep t L) : t.miss = missG t.base t.high (fun k => decide (t.high - (k : Int) ∈ L)) 64 := missG_congr h.seen 64
theorem Rep.mem_miss (h : Rep t L) (x : Int) : x ∈ t.miss ↔ t.base ≤ x ∧ t.high - 63 ≤ x ∧ x ≤ t.high ∧ x ∉ L := by
  rw [t.mem_miss]
  constructor
  · rintro ⟨a, b, c, d⟩
    rw [h.seen _ (by omega), show t.high - ((t.high - x).toNat : Int) = x by omega] at d
    exact ⟨a, b, c, of_decide_eq_false d⟩
  · rintro ⟨a, b, c, d⟩
    refine ⟨a, b, c, ?_⟩
    rw [h.seen _ (by omega), show t.high - ((t.high - x).toNat : Int) = x by omega]
    exact decide_eq_false d
end
end Go.Proofs.Ytphhhfgenhbmlaa
