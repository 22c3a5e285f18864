/-
  What parsing tells fits (layer 9): plain.
-/
import Derived.Test.YtcjmiidnhbmclaaDoorRtK
namespace Go.Proofs.YtcjmiidnhbmclaaDoor
set_option maxRecDepth 100000

theorem n1 (s : List UInt8) (k : Nat) : numAt s k 1 < 256 := by simpa using numAt_lt s k 1
theorem n2 (s : List UInt8) (k : Nat) : numAt s k 2 < 65536 := by simpa using numAt_lt s k 2
theorem n3 (s : List UInt8) (k : Nat) : numAt s k 3 < 4294967296 := Nat.lt_of_lt_of_le (numAt_lt s k 3) (by decide)
theorem n4 (s : List UInt8) (k : Nat) : numAt s k 4 < 4294967296 := by simpa using numAt_lt s k 4
theorem n8 (s : List UInt8) (k : Nat) : numAt s k 8 < 18446744073709551616 := by simpa using numAt_lt s k 8
theorem rdReps_fits (s : List UInt8) (a c : Nat) : ∀ r ∈ rdReps s a c, r.Fits := by
  intro r hr
  obtain ⟨i, _, rfl⟩ := List.mem_map.1 hr
  exact ⟨n4 _ _, n1 _ _, n3 _ _, n4 _ _, n4 _ _, n4 _ _, n4 _ _⟩
theorem rdWho_fits (s : List UInt8) (c : Nat) : ∀ x ∈ rdWho s c, x < 4294967296 := by
  intro r hr
  obtain ⟨i, _, rfl⟩ := List.mem_map.1 hr
  exact n4 _ _
theorem rdPairs_fits (s : List UInt8) (c : Nat) : ∀ p ∈ rdPairs s c, p.1 < 65536 ∧ p.2 < 65536 := by
  intro r hr
  obtain ⟨i, _, rfl⟩ := List.mem_map.1 hr
  exact ⟨n2 _ _, n2 _ _⟩
theorem rdAsks_fits (s : List UInt8) (c : Nat) : ∀ p ∈ rdAsks s c, p.1 < 4294967296 ∧ p.2 < 256 := by
  intro r hr
  obtain ⟨i, _, rfl⟩ := List.mem_map.1 hr
  exact ⟨n4 _ _, n1 _ _⟩
theorem nilR : ∀ r ∈ ([] : List Rp), r.Fits := fun r h => absurd h (by simp)
theorem nilN {p : Nat → Prop} : ∀ r ∈ ([] : List Nat), p r := fun r h => absurd h (by simp)
theorem nilP {p : Nat × Nat → Prop} : ∀ r ∈ ([] : List (Nat × Nat)), p r := fun r h => absurd h (by simp)
theorem zeroM_fits : zeroM.Fits ∧ zeroM.Mod := ⟨⟨by decide, by decide, by decide, by decide, by decide, by decide, by decide, nilR, nilN, nilP, nilP, by decide⟩, by decide, by decide, by decide, by decide⟩
theorem readM_fits (t c : Nat) (s : List UInt8) (ht : t < 256) (hc : c < 32) (hs : s.length ≤ 1500) : (readM t c s).1.Fits ∧ (readM t c s).1.Mod := by
  have z : (0 : Nat) < 4294967296 := by decide
  have z8 : (0 : Nat) < 18446744073709551616 := by decide
  have zt : (0 : Nat) < 256 := by decide
  have zl : 0 ≤ 2000 := by decide
  unfold readM
  split
  · split
    · exact zeroM_fits
    · exact ⟨⟨(by dsimp only; omega), n4 _ _, z, n8 _ _, n4 _ _, n4 _ _, n4 _ _, rdReps_fits _ _ _, nilN, nilP, nilP, zt⟩, by simp [rdReps]; omega, zl, zl, zl⟩
  split
  · split
    · exact zeroM_fits
    · exact ⟨⟨(by dsimp only; omega), n4 _ _, z, z8, z, z, z, rdReps_fits _ _ _, nilN, nilP, nilP, zt⟩, by simp [rdReps]; omega, zl, zl, zl⟩
  split
  · split
    · exact zeroM_fits
    · exact ⟨⟨(by dsimp only; omega), z, z, z8, z, z, z, nilR, rdWho_fits _ _, nilP, nilP, zt⟩, zl, by simp [rdWho]; omega, zl, zl⟩
  split
  · split
    · exact zeroM_fits
    · split
      · exact zeroM_fits
      · exact ⟨⟨(by dsimp only; omega), n4 _ _, n4 _ _, z8, z, z, z, nilR, nilN, rdPairs_fits _ _, nilP, zt⟩, zl, zl, by simp [rdPairs]; omega, zl⟩
  split
  · split
    · exact zeroM_fits
    · exact ⟨⟨(by dsimp only; omega), n4 _ _, n4 _ _, z8, z, z, z, nilR, nilN, nilP, nilP, zt⟩, zl, zl, zl, zl⟩
  split
  · split
    · exact zeroM_fits
    · split
      · exact zeroM_fits
      · exact ⟨⟨(by dsimp only; omega), n4 _ _, n4 _ _, z8, z, z, z, nilR, nilN, nilP, rdAsks_fits _ _, zt⟩, zl, zl, zl, by simp [rdAsks]; omega⟩
  · exact ⟨⟨(by dsimp only; omega), z, z, z8, z, z, z, nilR, nilN, nilP, nilP, ht⟩, zl, zl, zl, zl⟩
theorem unpad_length {a : Nat} {body rest b : List UInt8} (h : unpad a body rest = some b) : b.length ≤ body.length := by
  unfold unpad at h
  split at h
  · split at h
    · cases h
    · dsimp only at h
      split at h
      · cases h
      · injection h with h
        subst h
        simp
  · injection h with h
    subst h
    exact Nat.le_refl _
theorem oneS_fits (s : List UInt8) (hs : s.length ≤ 1500) : (oneS s).1.Fits ∧ (oneS s).1.Mod := by
  unfold oneS
  split
  · exact zeroM_fits
  split
  · exact zeroM_fits
  split
  · exact zeroM_fits
  split
  · exact zeroM_fits
  · rename_i b hb
    have h1 := unpad_length hb
    exact readM_fits _ _ _ (n1 _ _) (by omega) (by simp at h1; omega)
theorem parseF_fits : ∀ (f : Nat) (acc : List Ms) (s : List UInt8), s.length ≤ 1500 → (∀ m ∈ acc, m.Fits ∧ m.Mod) → 4 * acc.length + s.length ≤ 1500 → (∀ m ∈ (parseF f acc s).1, m.Fits ∧ m.Mod) ∧ 4 * (parseF f acc s).1.length ≤ 1500
  | 0, _, _, _, _, _ => ⟨fun m h => absurd h (by simp [parseF]), by simp [parseF]⟩
  | f + 1, acc, s, hs, ha, hl => by
    rw [parseF_succ]
    split
    · exact ⟨ha, by dsimp only; omega⟩
    split
    · exact ⟨fun m h => absurd h (by simp), by simp⟩
    · rename_i _ h0
      have h4 := oneS_rest s (by omega)
      exact parseF_fits f _ _ (by omega) (fun m hm => by
        rcases List.mem_append.1 hm with h | h
        · exact ha m h
        · rw [List.mem_singleton.1 h]
          exact oneS_fits s hs) (by simp; omega)
/-- What is parsed fits, and is not much. -/
theorem parseL_fits (s : List UInt8) : (∀ m ∈ (parseL s).1, m.Fits ∧ m.Mod) ∧ (parseL s).1.length ≤ 375 := by
  unfold parseL
  split
  · exact ⟨fun m h => absurd h (by simp), by simp⟩
  split
  · exact ⟨fun m h => absurd h (by simp), by simp⟩
  · have := parseF_fits (s.length + 1) [] s (by omega) (fun m h => absurd h (by simp)) (by simp; omega)
    exact ⟨this.1, by omega⟩
end Go.Proofs.YtcjmiidnhbmclaaDoor
