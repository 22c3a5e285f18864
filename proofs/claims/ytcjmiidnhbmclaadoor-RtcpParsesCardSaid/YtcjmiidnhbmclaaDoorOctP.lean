/-
  Plain words on numbers as bytes, and on what is cut of bytes. Nothing here names the program.
-/
import Derived.Test.YtcjmiidnhbmclaaDoorWords
namespace Go.Proofs.YtcjmiidnhbmclaaDoor
open Go.RowKit

def sizeB (n : Int) : Bool := decide (1 ≤ n ∧ n ≤ 8)

/-- What a cut of n bytes gives, what it leaves, and the error. -/
def headS (l : List UInt8) (e n : Int) (may : Bool) : List UInt8 := if e = 0 ∧ may = true ∧ n ≤ l.length then l.take n.toNat else []
def restS (l : List UInt8) (e n : Int) (may : Bool) : List UInt8 := if e = 0 ∧ may = true ∧ n ≤ l.length then l.drop n.toNat else l
def errS (l : List UInt8) (e n : Int) (may : Bool) : Int := if e ≠ 0 then e else if may = false then 1 else if n ≤ l.length then 0 else 10

/-- The number of bytes, the highest first. -/
def be (l : List UInt8) : Nat := l.foldl (fun x b => x * 256 + b.toNat) 0
theorem be_snoc (l : List UInt8) (b : UInt8) : be (l ++ [b]) = be l * 256 + b.toNat := by simp [be]
theorem be_lt_from (l : List UInt8) (x : Nat) : l.foldl (fun x b => x * 256 + b.toNat) x < (x + 1) * 256 ^ l.length := by
  induction l generalizing x with
  | nil => simp
  | cons b l ih =>
    have := b.toNat_lt
    have h := ih (x * 256 + b.toNat)
    rw [List.foldl_cons, List.length_cons, Nat.pow_succ]
    refine Nat.lt_of_lt_of_le h ?_
    rw [Nat.mul_comm (256 ^ l.length) 256, ← Nat.mul_assoc]
    exact Nat.mul_le_mul_right _ (by omega)
theorem be_lt (l : List UInt8) : be l < 256 ^ l.length := by simpa [be] using be_lt_from l 0
theorem be_take (l : List UInt8) (k : Nat) (hk : k < l.length) : be (l.take (k + 1)) = be (l.take k) * 256 + l[k].toNat := by
  rw [List.take_succ_eq_append_getElem hk, be_snoc]
theorem be_small (l : List UInt8) (k : Nat) (hk : k < 8) : be (l.take k) < 72057594037927936 := by
  refine Nat.lt_of_lt_of_le (be_lt _) ?_
  refine Nat.le_trans (Nat.pow_le_pow_right (by omega) (show (l.take k).length ≤ 7 by simp [List.length_take]; omega)) (by decide)

/-- The k lowest bytes of a number, the highest first. -/
def bytesN (x : Nat) : Nat → List UInt8
  | 0 => []
  | k + 1 => UInt8.ofNat (x / 256 ^ k) :: bytesN x k
theorem bytesN_length (x k : Nat) : (bytesN x k).length = k := by induction k <;> simp_all [bytesN]

/-- What Put puts of one part, and of a list of parts. -/
def putOne (p : Nat × Int) : List UInt8 := if sizeB p.2 = true then bytesN p.1 p.2.toNat else []
def putS (l : List (Nat × Int)) : List UInt8 := l.flatMap putOne
theorem putOne_length (p : Nat × Int) : (putOne p).length ≤ 8 := by
  unfold putOne; split
  · rename_i h; simp [sizeB] at h; rw [bytesN_length]; omega
  · simp
theorem putS_length (l : List (Nat × Int)) : (putS l).length ≤ 8 * l.length := by
  induction l with
  | nil => simp [putS]
  | cons p l ih => have := putOne_length p; simp only [putS, List.flatMap_cons, List.length_append, List.length_cons] at ih ⊢; omega
theorem putS_take (l : List (Nat × Int)) (k : Nat) (hk : k < l.length) : putS (l.take (k + 1)) = putS (l.take k) ++ putOne l[k] := by
  unfold putS; rw [List.take_succ_eq_append_getElem hk, List.flatMap_append]; simp

theorem sizeB_yes {s : Nat} (h1 : 1 ≤ s) (h8 : s ≤ 8) : sizeB (s : Int) = true := by simp [sizeB]; omega
theorem putOne_yes (x : Nat) {s : Nat} (h1 : 1 ≤ s) (h8 : s ≤ 8) : putOne (x, (s : Int)) = bytesN x s := by simp [putOne, sizeB_yes h1 h8]
theorem putOne_no (x : Nat) {s : Int} (h : sizeB s = false) : putOne (x, s) = [] := by simp [putOne, h]
theorem putS_cons (p : Nat × Int) (l : List (Nat × Int)) : putS (p :: l) = putOne p ++ putS l := by simp [putS]
theorem putS_nil : putS [] = [] := rfl

theorem bytesN_snoc (x k : Nat) : bytesN x (k + 1) = bytesN (x / 256) k ++ [UInt8.ofNat x] := by
  induction k with
  | zero => simp [bytesN]
  | succ k ih =>
    rw [bytesN, ih, bytesN, List.cons_append]
    congr 2
    rw [Nat.div_div_eq_div_mul, Nat.pow_succ, Nat.mul_comm]

theorem bytesN_split (x n m : Nat) : bytesN x (n + m) = bytesN (x / 256 ^ m) n ++ bytesN x m := by
  induction n with
  | zero => simp [bytesN]
  | succ n ih =>
    rw [show n + 1 + m = (n + m) + 1 by omega]
    simp only [bytesN, List.cons_append, ih]
    congr 2
    rw [Nat.div_div_eq_div_mul, ← Nat.pow_add, Nat.add_comm m n]

theorem be_from (l : List UInt8) (x : Nat) : l.foldl (fun x b => x * 256 + b.toNat) x = x * 256 ^ l.length + be l := by
  induction l generalizing x with
  | nil => simp [be]
  | cons b l ih =>
    have h0 : be (b :: l) = b.toNat * 256 ^ l.length + be l := by
      show List.foldl _ 0 (b :: l) = _
      rw [List.foldl_cons, Nat.zero_mul, Nat.zero_add, ih]
    rw [List.foldl_cons, ih, h0, List.length_cons, Nat.pow_succ, Nat.add_mul, Nat.mul_assoc, Nat.mul_comm 256, Nat.add_assoc]
theorem be_bytesN (x s : Nat) : be (bytesN x s) = x % 256 ^ s := by
  induction s with
  | zero => simp [bytesN, be, Nat.mod_one]
  | succ s ih =>
    have h : be (bytesN x (s + 1)) = (UInt8.ofNat (x / 256 ^ s)).toNat * 256 ^ s + be (bytesN x s) := by
      show (UInt8.ofNat (x / 256 ^ s) :: bytesN x s).foldl _ 0 = _
      rw [List.foldl_cons, be_from, bytesN_length]; simp
    have h2 : x % 256 ^ (s + 1) = x % 256 ^ s + 256 ^ s * (x / 256 ^ s % 256) := by
      rw [show (256 : Nat) ^ (s + 1) = 256 ^ s * 256 from rfl]; exact Nat.mod_mul
    rw [h, ih, h2, UInt8.toNat_ofNat', show 2 ^ 8 = 256 from rfl, Nat.mul_comm (256 ^ s), Nat.add_comm]

end Go.Proofs.YtcjmiidnhbmclaaDoor
