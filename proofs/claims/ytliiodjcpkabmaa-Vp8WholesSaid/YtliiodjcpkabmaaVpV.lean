/-
  Bits that say nothing, as plain functions.
-/
import Derived.Test.YtliiodjcpkabmaaVpP
namespace Go.Proofs.Ytliiodjcpkabmaa
open Go.RowKit

theorem mask72 (f x : Nat) : ∀ k, (k = 7 ∨ k = 5 ∨ k = 4 ∨ k = 2 ∨ k = 1 ∨ k = 0) → (f ^^^ (x &&& 72)).testBit k = f.testBit k := by
  intro k hk
  rw [Nat.testBit_xor, Nat.testBit_and]
  have : Nat.testBit 72 k = false := by rcases hk with rfl | rfl | rfl | rfl | rfl | rfl <;> decide
  simp [this]
theorem mask15 (f x : Nat) : ∀ k, (k = 7 ∨ k = 6 ∨ k = 5 ∨ k = 4) → (f ^^^ (x &&& 15)).testBit k = f.testBit k := by
  intro k hk
  rw [Nat.testBit_xor, Nat.testBit_and]
  have : Nat.testBit 15 k = false := by rcases hk with rfl | rfl | rfl | rfl <;> decide
  simp [this]
theorem bitN_test (x k : Nat) : bitN x (2 ^ k) = x.testBit k := by
  unfold bitN
  rw [Nat.testBit_eq_decide_div_mod_eq]
theorem xor_lt {a b : Nat} (ha : a < 256) (hb : b < 256) : a ^^^ b < 256 := Nat.xor_lt_two_pow (n := 8) ha hb
theorem and_lt' {a : Nat} (b : Nat) (ha : a < 256) : a &&& b < 256 := Nat.lt_of_le_of_lt Nat.and_le_left ha

theorem first_same (f x : Nat) (hf : f < 256) (hx : x < 256) : firstD (f ^^^ (x &&& 72)) = firstD f ∧ (f ^^^ (x &&& 72) < 128 ↔ f < 128) := by
  have hl := xor_lt hf (and_lt' 72 hx)
  have m := mask72 f x
  have e7 : ∀ y, y < 256 → (decide (128 ≤ y) = y.testBit 7) := fun y hy => by
    rw [Nat.testBit_eq_decide_div_mod_eq]
    have : y / 2 ^ 7 % 2 = 1 ↔ 128 ≤ y := by omega
    simp [this]
  have e1 : decide (128 ≤ f ^^^ (x &&& 72)) = decide (128 ≤ f) := by rw [e7 _ hl, e7 _ hf, m 7 (by simp)]
  have e2 : bitN (f ^^^ (x &&& 72)) 32 = bitN f 32 := by rw [show 32 = 2 ^ 5 from rfl, bitN_test, bitN_test, m 5 (by simp)]
  have e3 : bitN (f ^^^ (x &&& 72)) 16 = bitN f 16 := by rw [show 16 = 2 ^ 4 from rfl, bitN_test, bitN_test, m 4 (by simp)]
  have e4 : (f ^^^ (x &&& 72)) % 8 = f % 8 := by
    apply Nat.eq_of_testBit_eq
    intro k
    rw [show 8 = 2 ^ 3 from rfl, Nat.testBit_mod_two_pow, Nat.testBit_mod_two_pow]
    by_cases hk : k < 3
    · rw [m k (by omega)]
    · simp [hk]
  refine ⟨by unfold firstD; rw [e1, e2, e3, e4], ?_⟩
  have := decide_eq_decide.1 e1
  omega
theorem second_same (t x : Nat) : bitN (t ^^^ (x &&& 15)) 128 = bitN t 128 ∧ bitN (t ^^^ (x &&& 15)) 64 = bitN t 64 ∧ bitN (t ^^^ (x &&& 15)) 32 = bitN t 32 ∧ bitN (t ^^^ (x &&& 15)) 16 = bitN t 16 := by
  have m := mask15 t x
  refine ⟨?_, ?_, ?_, ?_⟩
  · rw [show 128 = 2 ^ 7 from rfl, bitN_test, bitN_test, m 7 (by simp)]
  · rw [show 64 = 2 ^ 6 from rfl, bitN_test, bitN_test, m 6 (by simp)]
  · rw [show 32 = 2 ^ 5 from rfl, bitN_test, bitN_test, m 5 (by simp)]
  · rw [show 16 = 2 ^ 4 from rfl, bitN_test, bitN_test, m 4 (by simp)]
theorem more_same {t t' : Nat} (h1 : bitN t' 128 = bitN t 128) (h2 : bitN t' 64 = bitN t 64) (h3 : bitN t' 32 = bitN t 32) (h4 : bitN t' 16 = bitN t 16) (d : Dsc) (l : List UInt8) : moreS t' d l = moreS t d l := by
  have e1 : stPic t' d l = stPic t d l := by unfold stPic; rw [h1]
  have e2 : ∀ d l, stTl0 t' d l = stTl0 t d l := fun d l => by unfold stTl0; rw [h2]
  have e3 : ∀ d l, stLast t' d l = stLast t d l := fun d l => by
    unfold stLast
    rw [h3, h4]
    cases (bitN t 32 || bitN t 16)
    · rfl
    · cases l
      · rfl
      · simp only [if_true, setKey, setTid, h3, h4]
  unfold moreS
  simp only [e1, e2, e3]

/-- What the bytes with other such bits begin with. -/
theorem parse_same (f t x : UInt8) (l : List UInt8) : parseS (UInt8.ofNat (f.toNat ^^^ (x.toNat &&& 72)) :: (if 128 ≤ f.toNat then UInt8.ofNat (t.toNat ^^^ (x.toNat &&& 15)) else t) :: l) = (parseS (f :: t :: l)).map fun y => if f.toNat < 128 then (y.1, t :: l) else y := by
  have hf := f.toNat_lt
  have ht := t.toNat_lt
  have hx := x.toNat_lt
  obtain ⟨a1, a2⟩ := first_same f.toNat x.toNat hf hx
  have n1 := toNat_of (xor_lt hf (and_lt' 72 hx))
  have n2 := toNat_of (xor_lt ht (and_lt' 15 hx))
  by_cases h : f.toNat < 128
  · simp only [parseS, n1, if_pos (a2.2 h), if_pos h, if_neg (show ¬ 128 ≤ f.toNat by omega), a1, Option.map_some]
  · obtain ⟨b1, b2, b3, b4⟩ := second_same t.toNat x.toNat
    simp only [parseS, n1, if_neg (fun hh => h (a2.1 hh)), if_neg h, if_pos (show 128 ≤ f.toNat by omega), a1, n2, more_same b1 b2 b3 b4]
    cases moreS t.toNat (firstD f.toNat) l <;> rfl
end Go.Proofs.Ytliiodjcpkabmaa
