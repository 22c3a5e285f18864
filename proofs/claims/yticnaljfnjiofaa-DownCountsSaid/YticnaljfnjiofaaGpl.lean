/-
  Several texts in one (ExtL, OctP, RpL, ExtM, RpM, ChL, MuL, StoP, MuM, ChS, OwnW, MemW, QueL): what each of them says stands at its head.
-/
import Derived.Test.YticnaljfnjiofaaWords
/-
  Plain words on extensions of packets: items, what is put of them, and what is parsed of bytes. Nothing here names the program.
-/
namespace Go.Proofs.Yticnaljfnjiofaa

/-- An item. -/
structure It where
  id : UInt8
  d : List UInt8

/-- It may be of neither kind. -/
def It.wrong (i : It) : Bool := decide (i.id.toNat = 0 ∨ 255 < i.d.length)
/-- It may be no short one. -/
def It.big (i : It) : Bool := decide (14 < i.id.toNat ∨ i.d.length < 1 ∨ 16 < i.d.length)

/-- What stands ahead of its data. -/
def hdS (i : It) : List UInt8 := [UInt8.ofNat (i.id.toNat * 16 + (i.d.length - 1))]
def hdL (i : It) : List UInt8 := [i.id, UInt8.ofNat i.d.length]
/-- Items, each behind its head. -/
def enc (h : It → List UInt8) (l : List It) : List UInt8 := l.flatMap fun i => h i ++ i.d
/-- Noughts up to a multiple of four. -/
def padN (n : Nat) : Nat := (4 - n % 4) % 4
def pad (b : List UInt8) : List UInt8 := b ++ List.replicate (padN b.length) 0
def putE (l : List It) : Int := if 14 < l.length then 13 else if l.any It.wrong then 1 else 0
def putP (l : List It) : Int := if putE l ≠ 0 then 0 else if l.any It.big then 4096 else 48862
def putB (l : List It) : List UInt8 := if putE l ≠ 0 then [] else if l.any It.big then pad (enc hdL l) else pad (enc hdS l)

/-- What stands at a first byte that is no nought: the end, something wrong, or an item and what is behind it. -/
inductive Nx where
  | stop
  | bad (e : Int)
  | item (i : It) (rest : List UInt8)
def nxS (f : UInt8) (r : List UInt8) : Nx :=
  if f.toNat / 16 = 0 then .bad 11 else if f.toNat / 16 = 15 then .stop else
  if r.length < f.toNat % 16 + 1 then .bad 10 else .item ⟨UInt8.ofNat (f.toNat / 16), r.take (f.toNat % 16 + 1)⟩ (r.drop (f.toNat % 16 + 1))
def nxL (f : UInt8) (r : List UInt8) : Nx :=
  match r with
  | [] => .bad 10
  | n :: r => if r.length < n.toNat then .bad 10 else .item ⟨f, r.take n.toNat⟩ (r.drop n.toNat)
/-- Nothing grows. -/
def Shr (nx : UInt8 → List UInt8 → Nx) : Prop := ∀ f r i r', nx f r = .item i r' → r'.length ≤ r.length ∧ i.d.length ≤ r.length
theorem nxS_shr : Shr nxS := by
  intro f r i r' h
  unfold nxS at h
  split at h
  · cases h
  split at h
  · cases h
  split at h
  · cases h
  injection h with h1 h2
  subst h1 h2
  simp
  omega
theorem nxL_shr : Shr nxL := by
  intro f r i r' h
  unfold nxL at h
  split at h
  · cases h
  split at h
  · cases h
  injection h with h1 h2
  subst h1 h2
  simp
  omega

/-- The items of bytes behind acc, and the error; n: no fewer than there are bytes. -/
def prF (nx : UInt8 → List UInt8 → Nx) : Nat → List It → List UInt8 → List It × Int
  | 0, acc, _ => (acc, 0)
  | _ + 1, acc, [] => (acc, 0)
  | n + 1, acc, f :: r => if f = 0 then prF nx n acc r else
    match nx f r with
    | .stop => (acc, 0)
    | .bad e => ([], e)
    | .item i r' => if acc.length = 14 then ([], 13) else prF nx n (acc ++ [i]) r'
def pr (nx : UInt8 → List UInt8 → Nx) (acc : List It) (b : List UInt8) : List It × Int := prF nx b.length acc b

section
variable {nx : UInt8 → List UInt8 → Nx} {acc : List It} {f : UInt8} {r r' : List UInt8} {i : It} {e : Int}
theorem prF_any (hs : Shr nx) : ∀ (n : Nat) (acc : List It) (b : List UInt8), b.length ≤ n → prF nx n acc b = pr nx acc b := by
  have key : ∀ (n m : Nat) (acc : List It) (b : List UInt8), b.length ≤ n → b.length ≤ m → prF nx n acc b = prF nx m acc b := by
    intro n
    induction n with
    | zero =>
      intro m acc b h _
      obtain rfl : b = [] := List.eq_nil_of_length_eq_zero (by omega)
      cases m <;> rfl
    | succ n ih =>
      intro m acc b h1 h2
      cases b with
      | nil => cases m <;> rfl
      | cons f r =>
        obtain ⟨m, rfl⟩ : ∃ k, m = k + 1 := ⟨m - 1, by simp at h2; omega⟩
        simp only [List.length_cons] at h1 h2
        unfold prF
        split
        · exact ih m acc r (by omega) (by omega)
        · cases hn : nx f r with
          | stop => rfl
          | bad e => rfl
          | item i r' =>
            have := (hs f r i r' hn).1
            simp only
            split
            · rfl
            · exact ih m _ r' (by omega) (by omega)
  intro n acc b h
  exact key n b.length acc b h (Nat.le_refl _)
theorem pr_nil : pr nx acc [] = (acc, 0) := rfl
theorem pr_zero (hs : Shr nx) : pr nx acc (0 :: r) = pr nx acc r := by
  show prF nx (r.length + 1) acc (0 :: r) = _
  unfold prF
  rw [if_pos rfl, prF_any hs _ _ _ (Nat.le_refl _)]
theorem pr_stop (hf : f ≠ 0) (h : nx f r = .stop) : pr nx acc (f :: r) = (acc, 0) := by
  show prF nx (r.length + 1) acc (f :: r) = _
  unfold prF
  rw [if_neg hf, h]
theorem pr_bad (hf : f ≠ 0) (h : nx f r = .bad e) : pr nx acc (f :: r) = ([], e) := by
  show prF nx (r.length + 1) acc (f :: r) = _
  unfold prF
  rw [if_neg hf, h]
theorem pr_full (hf : f ≠ 0) (h : nx f r = .item i r') (ha : acc.length = 14) : pr nx acc (f :: r) = ([], 13) := by
  show prF nx (r.length + 1) acc (f :: r) = _
  unfold prF
  rw [if_neg hf, h]
  simp [ha]
theorem pr_item (hs : Shr nx) (hf : f ≠ 0) (h : nx f r = .item i r') (ha : acc.length ≠ 14) : pr nx acc (f :: r) = pr nx (acc ++ [i]) r' := by
  show prF nx (r.length + 1) acc (f :: r) = _
  unfold prF
  rw [if_neg hf, h]
  simp only [ha, if_false]
  exact prF_any hs _ _ _ (hs f r i r' h).1
theorem pr_zeros (hs : Shr nx) (k : Nat) : pr nx acc (List.replicate k 0 ++ r) = pr nx acc r := by
  induction k with
  | zero => rfl
  | succ k ih => rw [List.replicate_succ, List.cons_append, pr_zero hs, ih]
end

/-! ### Facts of items -/
theorem It.wrong_no {i : It} (h : i.wrong = false) : i.id.toNat ≠ 0 ∧ i.d.length ≤ 255 := by
  unfold It.wrong at h
  simp at h
  refine ⟨fun e => h.1 (by simpa using e), h.2⟩
theorem It.big_no {i : It} (h : i.big = false) : i.id.toNat ≤ 14 ∧ 1 ≤ i.d.length ∧ i.d.length ≤ 16 := by
  unfold It.big at h
  rw [decide_eq_false_iff_not] at h
  omega
theorem nxS_it {i : It} (h : i.wrong = false) (hb : i.big = false) (r : List UInt8) : ∃ f, hdS i = [f] ∧ f ≠ 0 ∧ nxS f (i.d ++ r) = .item i r := by
  obtain ⟨h0, h1⟩ := It.wrong_no h
  obtain ⟨h2, h3, h4⟩ := It.big_no hb
  have e : (UInt8.ofNat (i.id.toNat * 16 + (i.d.length - 1))).toNat = i.id.toNat * 16 + (i.d.length - 1) := by rw [UInt8.toNat_ofNat']; omega
  refine ⟨_, rfl, fun e0 => ?_, ?_⟩
  · rw [e0] at e
    simp at e
    omega
  · unfold nxS
    rw [e, if_neg (by omega), if_neg (by omega), if_neg (by simp; omega)]
    have d1 : (i.id.toNat * 16 + (i.d.length - 1)) / 16 = i.id.toNat := by omega
    have d2 : (i.id.toNat * 16 + (i.d.length - 1)) % 16 + 1 = i.d.length := by omega
    rw [d1, d2]
    simp
theorem nxL_it {i : It} (h : i.wrong = false) (r : List UInt8) : ∃ n, hdL i = [i.id, n] ∧ i.id ≠ 0 ∧ nxL i.id (n :: (i.d ++ r)) = .item i r := by
  obtain ⟨h0, h1⟩ := It.wrong_no h
  have e : (UInt8.ofNat i.d.length).toNat = i.d.length := by rw [UInt8.toNat_ofNat']; omega
  refine ⟨_, rfl, fun e0 => h0 (by rw [e0]; rfl), ?_⟩
  unfold nxL
  simp only [e]
  rw [if_neg (by simp)]
  simp
theorem enc_cons (h : It → List UInt8) (i : It) (l : List It) : enc h (i :: l) = h i ++ (i.d ++ enc h l) := by simp [enc]
theorem enc_snoc (h : It → List UInt8) (l : List It) (i : It) : enc h (l ++ [i]) = enc h l ++ (h i ++ i.d) := by simp [enc]
theorem enc_take (h : It → List UInt8) (l : List It) (k : Nat) (hk : k < l.length) : enc h (l.take (k + 1)) = enc h (l.take k) ++ (h l[k] ++ l[k].d) := by
  rw [List.take_succ_eq_append_getElem hk, enc_snoc]
/-- What is put is parsed as it was. -/
theorem prS_enc : ∀ (l acc : List It) (r : List UInt8), (∀ i ∈ l, i.wrong = false ∧ i.big = false) → acc.length + l.length ≤ 14 → pr nxS acc (enc hdS l ++ r) = pr nxS (acc ++ l) r
  | [], acc, r, _, _ => by simp [enc]
  | i :: l, acc, r, h, hl => by
    obtain ⟨hw, hb⟩ := h i (by simp)
    obtain ⟨f, e1, e2, e3⟩ := nxS_it hw hb (enc hdS l ++ r)
    simp only [List.length_cons] at hl
    rw [enc_cons, e1, List.append_assoc, List.append_assoc, List.singleton_append, pr_item nxS_shr e2 e3 (by omega), prS_enc l _ r (fun x hx => h x (by simp [hx])) (by simp; omega)]
    simp
theorem prL_enc : ∀ (l acc : List It) (r : List UInt8), (∀ i ∈ l, i.wrong = false) → acc.length + l.length ≤ 14 → pr nxL acc (enc hdL l ++ r) = pr nxL (acc ++ l) r
  | [], acc, r, _, _ => by simp [enc]
  | i :: l, acc, r, h, hl => by
    obtain ⟨n, e1, e2, e3⟩ := nxL_it (h i (by simp)) (enc hdL l ++ r)
    simp only [List.length_cons] at hl
    rw [enc_cons, e1, List.append_assoc, List.append_assoc, List.cons_append, List.singleton_append, pr_item nxL_shr e2 e3 (by omega), prL_enc l _ r (fun x hx => h x (by simp [hx])) (by simp; omega)]
    simp
theorem any_wrong {l : List It} (h : putE l = 0) : l.length ≤ 14 ∧ ∀ i ∈ l, i.wrong = false := by
  unfold putE at h
  split at h
  · cases h
  · split at h
    · cases h
    · rename_i h1 h2
      refine ⟨by omega, fun i hi => ?_⟩
      cases hw : i.wrong with
      | false => rfl
      | true => exact absurd (List.any_eq_true.2 ⟨i, hi, hw⟩) h2
theorem enc_len (h : It → List UInt8) (n m : Nat) (hh : ∀ i, (h i).length = n) : ∀ (l : List It), (∀ i ∈ l, i.d.length ≤ m) → (enc h l).length ≤ l.length * (n + m)
  | [], _ => by simp [enc]
  | i :: l, hl => by
    have := enc_len h n m hh l (fun x hx => hl x (by simp [hx]))
    have h1 := hl i (by simp)
    rw [enc_cons]
    simp only [List.length_append, List.length_cons, hh, Nat.add_mul, Nat.one_mul]
    omega
theorem hdS_len (i : It) : (hdS i).length = 1 := rfl
theorem hdL_len (i : It) : (hdL i).length = 2 := rfl
theorem pad_len (b : List UInt8) : (pad b).length = (b.length + 3) / 4 * 4 := by simp [pad, padN]; omega
theorem pad_mod (b : List UInt8) : (pad b).length % 4 = 0 := by rw [pad_len]; omega
theorem putB_no {l : List It} (h : putE l ≠ 0) : putB l = [] := by unfold putB; rw [if_pos h]
theorem putP_no {l : List It} (h : putE l ≠ 0) : putP l = 0 := by unfold putP; rw [if_pos h]
theorem putB_big {l : List It} (h : putE l = 0) (hb : l.any It.big = true) : putB l = pad (enc hdL l) := by unfold putB; rw [if_neg (by simp [h]), if_pos hb]
theorem putB_small {l : List It} (h : putE l = 0) (hb : l.any It.big = false) : putB l = pad (enc hdS l) := by unfold putB; rw [if_neg (by simp [h]), if_neg (by simp [hb])]
theorem putP_big {l : List It} (h : putE l = 0) (hb : l.any It.big = true) : putP l = 4096 := by unfold putP; rw [if_neg (by simp [h]), if_pos hb]
theorem putP_small {l : List It} (h : putE l = 0) (hb : l.any It.big = false) : putP l = 48862 := by unfold putP; rw [if_neg (by simp [h]), if_neg (by simp [hb])]
theorem any_big {l : List It} (h : l.any It.big = false) : ∀ i ∈ l, i.big = false := by
  intro i hi
  cases hw : i.big with
  | false => rfl
  | true => rw [List.any_eq_true.2 ⟨i, hi, hw⟩] at h; cases h

theorem pad_step (bs : List UInt8) (m : Nat) (hm : m < padN bs.length) : ¬ (bs ++ List.replicate m (0 : UInt8)).length % 4 = 0 := by
  unfold padN at hm
  simp
  omega
theorem pad_done (bs : List UInt8) (m : Nat) (hm : m ≤ padN bs.length) (h : ¬ m < padN bs.length) : (bs ++ List.replicate m (0 : UInt8)).length % 4 = 0 ∧ bs ++ List.replicate m 0 = pad bs := by
  obtain rfl : m = padN bs.length := by omega
  refine ⟨?_, rfl⟩
  unfold padN
  simp
  omega
/-- What Parse comes to. -/
def parseL (p : Int) (b : List UInt8) : List It × Int := if p = 48862 then pr nxS [] b else if 4096 ≤ p ∧ p ≤ 4111 then pr nxL [] b else ([], 0)
end Go.Proofs.Yticnaljfnjiofaa
/-
  Plain words on numbers as bytes, and on what is cut of bytes. Nothing here names the program.
-/
namespace Go.Proofs.Yticnaljfnjiofaa
open Go.RowKit

def sizeB (n : Int) : Bool := decide (1 ≤ n ∧ n ≤ 8)

/-- What a cut of n bytes gives, what it leaves, and the error. -/
def headS (l : List UInt8) (e n : Int) (may : Bool) : List UInt8 := if e = 0 ∧ may = true ∧ n ≤ l.length then l.take n.toNat else []
def restS (l : List UInt8) (e n : Int) (may : Bool) : List UInt8 := if e = 0 ∧ may = true ∧ n ≤ l.length then l.drop n.toNat else l
def errS (l : List UInt8) (e n : Int) (may : Bool) : Int := if e ≠ 0 then e else if may = false then 1 else if n ≤ l.length then 0 else 10

/-- The number of bytes, the highest first. -/
def be (l : List UInt8) : Nat := l.foldl (fun x b => x * 256 + b.toNat) 0
theorem be_snoc (l : List UInt8) (b : UInt8) : be (l ++ [b]) = be l * 256 + b.toNat := by simp [be]
theorem be_lt_from (l : List UInt8) (x : Nat) : l.foldl (fun x b => x * 256 + b.toNat) x < (x + 1) * 256 ^ l.length := by
  induction l generalizing x with
  | nil => simp
  | cons b l ih =>
    have := b.toNat_lt
    have h := ih (x * 256 + b.toNat)
    rw [List.foldl_cons, List.length_cons, Nat.pow_succ]
    refine Nat.lt_of_lt_of_le h ?_
    rw [Nat.mul_comm (256 ^ l.length) 256, ← Nat.mul_assoc]
    exact Nat.mul_le_mul_right _ (by omega)
theorem be_lt (l : List UInt8) : be l < 256 ^ l.length := by simpa [be] using be_lt_from l 0
theorem be_take (l : List UInt8) (k : Nat) (hk : k < l.length) : be (l.take (k + 1)) = be (l.take k) * 256 + l[k].toNat := by
  rw [List.take_succ_eq_append_getElem hk, be_snoc]
theorem be_small (l : List UInt8) (k : Nat) (hk : k < 8) : be (l.take k) < 72057594037927936 := by
  refine Nat.lt_of_lt_of_le (be_lt _) ?_
  refine Nat.le_trans (Nat.pow_le_pow_right (by omega) (show (l.take k).length ≤ 7 by simp [List.length_take]; omega)) (by decide)

/-- The k lowest bytes of a number, the highest first. -/
def bytesN (x : Nat) : Nat → List UInt8
  | 0 => []
  | k + 1 => UInt8.ofNat (x / 256 ^ k) :: bytesN x k
theorem bytesN_length (x k : Nat) : (bytesN x k).length = k := by induction k <;> simp_all [bytesN]

/-- What Put puts of one part, and of a list of parts. -/
def putOne (p : Nat × Int) : List UInt8 := if sizeB p.2 = true then bytesN p.1 p.2.toNat else []
def putS (l : List (Nat × Int)) : List UInt8 := l.flatMap putOne
theorem putOne_length (p : Nat × Int) : (putOne p).length ≤ 8 := by
  unfold putOne; split
  · rename_i h; simp [sizeB] at h; rw [bytesN_length]; omega
  · simp
theorem putS_length (l : List (Nat × Int)) : (putS l).length ≤ 8 * l.length := by
  induction l with
  | nil => simp [putS]
  | cons p l ih => have := putOne_length p; simp only [putS, List.flatMap_cons, List.length_append, List.length_cons] at ih ⊢; omega
theorem putS_take (l : List (Nat × Int)) (k : Nat) (hk : k < l.length) : putS (l.take (k + 1)) = putS (l.take k) ++ putOne l[k] := by
  unfold putS; rw [List.take_succ_eq_append_getElem hk, List.flatMap_append]; simp

theorem sizeB_yes {s : Nat} (h1 : 1 ≤ s) (h8 : s ≤ 8) : sizeB (s : Int) = true := by simp [sizeB]; omega
theorem putOne_yes (x : Nat) {s : Nat} (h1 : 1 ≤ s) (h8 : s ≤ 8) : putOne (x, (s : Int)) = bytesN x s := by simp [putOne, sizeB_yes h1 h8]
theorem putOne_no (x : Nat) {s : Int} (h : sizeB s = false) : putOne (x, s) = [] := by simp [putOne, h]
theorem putS_cons (p : Nat × Int) (l : List (Nat × Int)) : putS (p :: l) = putOne p ++ putS l := by simp [putS]
theorem putS_nil : putS [] = [] := rfl

theorem bytesN_snoc (x k : Nat) : bytesN x (k + 1) = bytesN (x / 256) k ++ [UInt8.ofNat x] := by
  induction k with
  | zero => simp [bytesN]
  | succ k ih =>
    rw [bytesN, ih, bytesN, List.cons_append]
    congr 2
    rw [Nat.div_div_eq_div_mul, Nat.pow_succ, Nat.mul_comm]

theorem bytesN_split (x n m : Nat) : bytesN x (n + m) = bytesN (x / 256 ^ m) n ++ bytesN x m := by
  induction n with
  | zero => simp [bytesN]
  | succ n ih =>
    rw [show n + 1 + m = (n + m) + 1 by omega]
    simp only [bytesN, List.cons_append, ih]
    congr 2
    rw [Nat.div_div_eq_div_mul, ← Nat.pow_add, Nat.add_comm m n]

theorem be_from (l : List UInt8) (x : Nat) : l.foldl (fun x b => x * 256 + b.toNat) x = x * 256 ^ l.length + be l := by
  induction l generalizing x with
  | nil => simp [be]
  | cons b l ih =>
    have h0 : be (b :: l) = b.toNat * 256 ^ l.length + be l := by
      show List.foldl _ 0 (b :: l) = _
      rw [List.foldl_cons, Nat.zero_mul, Nat.zero_add, ih]
    rw [List.foldl_cons, ih, h0, List.length_cons, Nat.pow_succ, Nat.add_mul, Nat.mul_assoc, Nat.mul_comm 256, Nat.add_assoc]
theorem be_bytesN (x s : Nat) : be (bytesN x s) = x % 256 ^ s := by
  induction s with
  | zero => simp [bytesN, be, Nat.mod_one]
  | succ s ih =>
    have h : be (bytesN x (s + 1)) = (UInt8.ofNat (x / 256 ^ s)).toNat * 256 ^ s + be (bytesN x s) := by
      show (UInt8.ofNat (x / 256 ^ s) :: bytesN x s).foldl _ 0 = _
      rw [List.foldl_cons, be_from, bytesN_length]; simp
    have h2 : x % 256 ^ (s + 1) = x % 256 ^ s + 256 ^ s * (x / 256 ^ s % 256) := by
      rw [show (256 : Nat) ^ (s + 1) = 256 ^ s * 256 from rfl]; exact Nat.mod_mul
    rw [h, ih, h2, UInt8.toNat_ofNat', show 2 ^ 8 = 256 from rfl, Nat.mul_comm (256 ^ s), Nat.add_comm]

theorem bytesN_one (x : Nat) : bytesN x 1 = [UInt8.ofNat x] := by simp [bytesN]
theorem putOne_one (x : Nat) : putOne (x, 1) = [UInt8.ofNat x] := by
  have := putOne_yes x (s := 1) (by omega) (by omega)
  rwa [bytesN_one] at this
end Go.Proofs.Yticnaljfnjiofaa
/-
  Packets of media as plain bytes (layer 6): what is put of a packet, and how many bytes its parts have. Nothing here names the program.
-/
namespace Go.Proofs.Yticnaljfnjiofaa

/-- A packet. -/
structure Mp where
  mark : Bool
  typ : Nat
  seq : Nat
  time : Nat
  ssrc : Nat
  csrc : List Nat
  exts : List It
  pay : List UInt8
  pad : Int
/-- Its numbers are such. -/
structure Mp.Fit (p : Mp) : Prop where
  typ : p.typ < 256
  seq : p.seq < 65536
  time : p.time < 4294967296
  ssrc : p.ssrc < 4294967296
  csrc : ∀ x ∈ p.csrc, x < 4294967296

/-- The noughts behind a packet, the last of which tells how many. -/
def padB (n : Nat) : List UInt8 := (List.replicate n (0 : UInt8)).set (n - 1) (UInt8.ofNat n)
theorem padB_length (n : Nat) : (padB n).length = n := by simp [padB]
/-- How many bytes a head has. -/
def headN (csrc : Nat) (exts : List It) : Nat := 12 + 4 * csrc + if exts = [] then 0 else 4 + (putB exts).length
def Mp.first (p : Mp) : Nat := 128 + p.csrc.length + (if 0 < p.pad then 32 else 0) + (if p.exts = [] then 0 else 16)
def Mp.second (p : Mp) : Nat := p.typ + if p.mark = true then 128 else 0
def Mp.parts (p : Mp) : List (Nat × Int) := [(p.first, 1), (p.second, 1), (p.seq, 2), (p.time, 4), (p.ssrc, 4)] ++ p.csrc.map fun x => (x, 4)
/-- What is wrong with it. -/
def Mp.err (p : Mp) : Int :=
  if 127 < p.typ ∨ 15 < p.csrc.length ∨ p.pad < 0 ∨ 255 < p.pad then 1
  else if putE p.exts ≠ 0 then putE p.exts
  else if 1500 < (headN p.csrc.length p.exts : Int) + p.pay.length + p.pad then 13 else 0
def Mp.extB (p : Mp) : List UInt8 := if p.exts = [] then [] else putS [((putP p.exts).toNat, 2), ((putB p.exts).length / 4, 2)] ++ putB p.exts
/-- Its bytes. -/
def Mp.bytes (p : Mp) : List UInt8 := if p.err ≠ 0 then [] else putS p.parts ++ p.extB ++ p.pay ++ padB p.pad.toNat
end Go.Proofs.Yticnaljfnjiofaa
/-
  Plain facts of what is put and parsed of items, for the laws of layer 5. Nothing here names the program.
-/
namespace Go.Proofs.Yticnaljfnjiofaa

/-- No more items than 14, and no data longer than the bytes. -/
theorem pr_bd {nx : UInt8 → List UInt8 → Nx} (hs : Shr nx) (N : Nat) : ∀ (n : Nat) (acc : List It) (b : List UInt8), b.length ≤ N → acc.length ≤ 14 → (∀ i ∈ acc, i.d.length ≤ N) → (prF nx n acc b).1.length ≤ 14 ∧ ∀ i ∈ (prF nx n acc b).1, i.d.length ≤ N := by
  intro n
  induction n with
  | zero => exact fun acc b _ h1 h2 => ⟨h1, h2⟩
  | succ n ih =>
    intro acc b hb h1 h2
    cases b with
    | nil => exact ⟨h1, h2⟩
    | cons f r =>
      simp only [List.length_cons] at hb
      unfold prF
      split
      · exact ih acc r (by omega) h1 h2
      · cases hn : nx f r with
        | stop => exact ⟨h1, h2⟩
        | bad e => simp
        | item i r' =>
          have := hs f r i r' hn
          simp only
          split
          · simp
          · refine ih _ r' (by omega) (by simp; omega) (fun x hx => ?_)
            rcases List.mem_append.1 hx with hx | hx
            · exact h2 x hx
            · simp at hx
              subst hx
              omega
theorem parse_bd (p : Int) (b : List UInt8) : (parseL p b).1.length ≤ 14 ∧ ∀ i ∈ (parseL p b).1, i.d.length ≤ b.length := by
  unfold parseL
  split
  · exact pr_bd nxS_shr b.length _ [] b (Nat.le_refl _) (by simp) (by simp)
  · split
    · exact pr_bd nxL_shr b.length _ [] b (Nat.le_refl _) (by simp) (by simp)
    · simp

theorem parse_short (b : List UInt8) : parseL 48862 b = pr nxS [] b := by unfold parseL; rw [if_pos rfl]
theorem parse_long (p : Int) (h1 : 4096 ≤ p) (h2 : p ≤ 4111) (b : List UInt8) : parseL p b = pr nxL [] b := by unfold parseL; rw [if_neg (by omega), if_pos ⟨h1, h2⟩]
theorem parse_other (p : Int) (h0 : ¬ p = 48862) (h1 : ¬ (4096 ≤ p ∧ p ≤ 4111)) (b : List UInt8) : parseL p b = ([], 0) := by unfold parseL; rw [if_neg h0, if_neg h1]
theorem parse_noughts (p : Int) (m : Nat) : parseL p (List.replicate m 0) = ([], 0) := by
  have key : ∀ nx, Shr nx → pr nx [] (List.replicate m 0) = ([], 0) := by
    intro nx hs
    have := pr_zeros hs (acc := []) (r := []) m
    rw [List.append_nil, pr_nil] at this
    exact this
  unfold parseL
  split
  · exact key _ nxS_shr
  · split
    · exact key _ nxL_shr
    · rfl

def sumL (l : List It) : Nat := (l.map fun i => i.d.length).sum
theorem sumL_take (l : List It) (k : Nat) (hk : k < l.length) : sumL (l.take (k + 1)) = sumL (l.take k) + l[k].d.length := by
  unfold sumL
  rw [List.take_succ_eq_append_getElem hk]
  simp only [List.map_append, List.sum_append, List.map_cons, List.map_nil, List.sum_cons, List.sum_nil, Nat.add_zero]
theorem sumL_le (l : List It) (N : Nat) (h : ∀ i ∈ l, i.d.length ≤ N) : sumL l ≤ l.length * N := by
  induction l with
  | nil => simp [sumL]
  | cons i l ih =>
    have := ih fun x hx => h x (by simp [hx])
    have h1 := h i (by simp)
    simp only [sumL, List.map_cons, List.sum_cons, List.length_cons, Nat.add_mul, Nat.one_mul] at this ⊢
    omega
theorem enc_sum (h : It → List UInt8) (n : Nat) (hh : ∀ i, (h i).length = n) : ∀ l : List It, (enc h l).length = sumL l + l.length * n
  | [] => by simp [enc, sumL]
  | i :: l => by
    have := enc_sum h n hh l
    rw [enc_cons]
    simp only [List.length_append, hh, this, sumL, List.map_cons, List.sum_cons, List.length_cons, Nat.add_mul, Nat.one_mul]
    omega
theorem putB_len_big {l : List It} (he : putE l = 0) (hb : l.any It.big = true) : (putB l).length = (sumL l + 2 * l.length + 3) / 4 * 4 := by
  rw [putB_big he hb, pad_len, enc_sum hdL 2 hdL_len]
  congr 2
  omega
theorem putB_len_small {l : List It} (he : putE l = 0) (hb : l.any It.big = false) : (putB l).length = (sumL l + l.length + 3) / 4 * 4 := by
  rw [putB_small he hb, pad_len, enc_sum hdS 1 hdS_len]
  congr 2
  omega
theorem putB_mod (l : List It) : (putB l).length % 4 = 0 := by
  unfold putB
  split
  · rfl
  · split <;> exact pad_mod _
theorem putB_le {l : List It} (h : ∀ i ∈ l, i.d.length ≤ 300) (hl : l.length ≤ 20) : (putB l).length ≤ 6100 := by
  have hs := sumL_le l 300 h
  have : l.length * 300 ≤ 6000 := by omega
  by_cases he : putE l = 0
  · cases hb : l.any It.big with
    | true => rw [putB_len_big he hb]; omega
    | false => rw [putB_len_small he hb]; omega
  · rw [putB_no he]; simp

/-- What is put, noughts ahead and behind, and more behind these, is parsed as the items, and what is behind. -/
theorem back_small {l : List It} (he : putE l = 0) (hb : l.any It.big = false) (z : Nat) (r : List UInt8) : pr nxS [] (List.replicate z 0 ++ (putB l ++ (List.replicate z 0 ++ r))) = pr nxS l r := by
  obtain ⟨h1, h2⟩ := any_wrong he
  rw [pr_zeros nxS_shr, putB_small he hb, pad, List.append_assoc, prS_enc l [] _ (fun i hi => ⟨h2 i hi, any_big hb i hi⟩) (by simpa using h1), pr_zeros nxS_shr, pr_zeros nxS_shr]
  rfl
theorem back_big {l : List It} (he : putE l = 0) (hb : l.any It.big = true) (z : Nat) (r : List UInt8) : pr nxL [] (List.replicate z 0 ++ (putB l ++ (List.replicate z 0 ++ r))) = pr nxL l r := by
  obtain ⟨h1, h2⟩ := any_wrong he
  rw [pr_zeros nxL_shr, putB_big he hb, pad, List.append_assoc, prL_enc l [] _ h2 (by simpa using h1), pr_zeros nxL_shr, pr_zeros nxL_shr]
  rfl
theorem parse_back {l : List It} (he : putE l = 0) (z : Nat) : parseL (putP l) (List.replicate z 0 ++ (putB l ++ List.replicate z 0)) = (l, 0) := by
  cases hb : l.any It.big with
  | true =>
    have := back_big he hb z []
    rw [List.append_nil, pr_nil] at this
    rw [putP_big he hb, parse_long 4096 (by omega) (by omega), this]
  | false =>
    have := back_small he hb z []
    rw [List.append_nil, pr_nil] at this
    rw [putP_small he hb, parse_short, this]
theorem parse_back2 {l : List It} (he : putE l = 0) (hb : l.any It.big = true) (z : Nat) : parseL 4111 (List.replicate z 0 ++ (putB l ++ List.replicate z 0)) = (l, 0) := by
  have := back_big he hb z []
  rw [List.append_nil, pr_nil] at this
  rw [parse_long 4111 (by omega) (by omega), this]
theorem parse_stop {l : List It} (he : putE l = 0) (hb : l.any It.big = false) (z : Nat) (more : List UInt8) : parseL 48862 (List.replicate z 0 ++ (putB l ++ (List.replicate z 0 ++ (240 :: more)))) = (l, 0) := by
  rw [parse_short, back_small he hb]
  exact pr_stop (by decide) rfl

/-- One item again and again. -/
theorem manyS {i : It} (hw : i.wrong = false) (hb : i.big = false) (r : List UInt8) (n : Nat) (hn : n ≤ 14) : parseL 48862 (enc hdS (List.replicate n i) ++ r) = pr nxS (List.replicate n i) r := by
  rw [parse_short, prS_enc (List.replicate n i) [] r (fun x hx => by rw [(List.mem_replicate.1 hx).2]; exact ⟨hw, hb⟩) (by simpa using hn)]
  rfl
theorem manyL {i : It} (hw : i.wrong = false) (r : List UInt8) (n : Nat) (hn : n ≤ 14) : parseL 4096 (enc hdL (List.replicate n i) ++ r) = pr nxL (List.replicate n i) r := by
  rw [parse_long 4096 (by omega) (by omega), prL_enc (List.replicate n i) [] r (fun x hx => by rw [(List.mem_replicate.1 hx).2]; exact hw) (by simpa using hn)]
  rfl
theorem oneS {i : It} (hw : i.wrong = false) (hb : i.big = false) : parseL 48862 (hdS i ++ i.d) = ([i], 0) := by
  have := manyS hw hb [] 1 (by omega)
  simpa [enc, pr_nil] using this
theorem oneL {i : It} (hw : i.wrong = false) : parseL 4096 (hdL i ++ i.d) = ([i], 0) := by
  have := manyL hw [] 1 (by omega)
  simpa [enc, pr_nil] using this
theorem enc_rep (h : It → List UInt8) (i : It) (n : Nat) : enc h (List.replicate (n + 1) i) = enc h (List.replicate n i) ++ (h i ++ i.d) := by
  rw [List.replicate_succ', enc_snoc]
theorem fourteenS {i : It} (hw : i.wrong = false) (hb : i.big = false) : parseL 48862 (enc hdS (List.replicate 14 i)) = (List.replicate 14 i, 0) := by
  have := manyS hw hb [] 14 (by omega)
  rwa [List.append_nil, pr_nil] at this
theorem fourteenL {i : It} (hw : i.wrong = false) : parseL 4096 (enc hdL (List.replicate 14 i)) = (List.replicate 14 i, 0) := by
  have := manyL hw [] 14 (by omega)
  rwa [List.append_nil, pr_nil] at this
theorem fifteenS {i : It} (hw : i.wrong = false) (hb : i.big = false) : parseL 48862 (enc hdS (List.replicate 15 i)) = ([], 13) := by
  obtain ⟨f, e1, e2, e3⟩ := nxS_it hw hb []
  rw [enc_rep, manyS hw hb _ 14 (by omega), e1, List.singleton_append]
  rw [List.append_nil] at e3
  exact pr_full e2 e3 (by simp)
theorem fifteenL {i : It} (hw : i.wrong = false) : parseL 4096 (enc hdL (List.replicate 15 i)) = ([], 13) := by
  obtain ⟨n, e1, e2, e3⟩ := nxL_it hw []
  rw [enc_rep, manyL hw _ 14 (by omega), e1]
  rw [List.append_nil] at e3
  exact pr_full e2 e3 (by simp)
/-- One byte too few. -/
theorem cutS {i : It} (hw : i.wrong = false) (hb : i.big = false) (d' : List UInt8) (hd : d'.length < i.d.length) : parseL 48862 (hdS i ++ d') = ([], 10) := by
  obtain ⟨h0, h1⟩ := It.wrong_no hw
  obtain ⟨h2, h3, h4⟩ := It.big_no hb
  have e : (UInt8.ofNat (i.id.toNat * 16 + (i.d.length - 1))).toNat = i.id.toNat * 16 + (i.d.length - 1) := by rw [UInt8.toNat_ofNat']; omega
  rw [parse_short, hdS, List.singleton_append]
  refine pr_bad (fun e0 => ?_) ?_
  · rw [e0] at e
    simp at e
    omega
  · unfold nxS
    rw [e, if_neg (by omega), if_neg (by omega), if_pos (by omega)]
theorem cutL {i : It} (hw : i.wrong = false) (d' : List UInt8) (hd : d'.length < i.d.length) : parseL 4096 (hdL i ++ d') = ([], 10) := by
  obtain ⟨h0, h1⟩ := It.wrong_no hw
  have e : (UInt8.ofNat i.d.length).toNat = i.d.length := by rw [UInt8.toNat_ofNat']; omega
  rw [parse_long 4096 (by omega) (by omega), hdL, List.cons_append, List.singleton_append]
  refine pr_bad (fun e0 => h0 (by rw [e0]; rfl)) ?_
  unfold nxL
  simp only [e]
  rw [if_pos hd]
end Go.Proofs.Yticnaljfnjiofaa
/-
  What bytes are as a packet of media, as plain functions; what is put is parsed as it was. Nothing here names the program.
-/
namespace Go.Proofs.Yticnaljfnjiofaa

/-- What is left of bytes, and what went wrong. -/
structure Cu where
  l : List UInt8
  e : Int
def Cu.tk (s : Cu) (n : Int) : Cu := ⟨restS s.l s.e n (sizeB n), errS s.l s.e n (sizeB n)⟩
def Cu.nm (s : Cu) (n : Int) : Nat := be (headS s.l s.e n (sizeB n))
def Cu.csrE (s : Cu) : Nat → Cu
  | 0 => s
  | k + 1 => (s.csrE k).tk 4
def Cu.csr (s : Cu) : Nat → List Nat
  | 0 => []
  | k + 1 => s.csr k ++ [(s.csrE k).nm 4]
def Cu.by (s : Cu) (n : Int) : Cu := ⟨restS s.l s.e n (decide (0 ≤ n)), errS s.l s.e n (decide (0 ≤ n))⟩
def Cu.bs (s : Cu) (n : Int) : List UInt8 := headS s.l s.e n (decide (0 ≤ n))
/-- The extensions that come next: the profile, how many words, the bytes; items, what went wrong. -/
def Cu.extE (s : Cu) : Cu := ((s.tk 2).tk 2).by (((s.tk 2).nm 2 : Nat) * 4 : Int)
def Cu.ext (s : Cu) : List It × Int :=
  if s.extE.e ≠ 0 then ([], s.extE.e) else parseL ((s.nm 2 : Nat) : Int) (((s.tk 2).tk 2).bs (((s.tk 2).nm 2 : Nat) * 4 : Int))
/-- How many bytes of padding there are at the end. -/
def padM (r : List UInt8) : Nat × Int :=
  match r.getLast? with
  | none => (0, 11)
  | some x => if x.toNat < 1 ∨ r.length < x.toNat then (0, 11) else (x.toNat, 0)
def Mp.zero : Mp := ⟨false, 0, 0, 0, 0, [], [], [], 0⟩
/-- A head's numbers, behind the first byte f. -/
def Cu.h2 (s : Cu) : Cu := s.tk 1
def Cu.h3 (s : Cu) : Cu := s.h2.tk 2
def Cu.h4 (s : Cu) : Cu := s.h3.tk 4
def Cu.h5 (s : Cu) : Cu := s.h4.tk 4
def Cu.h6 (s : Cu) (f : Nat) : Cu := s.h5.csrE (f % 16)
/-- Extensions, what went wrong, what is left. -/
def Cu.x7 (s : Cu) (f : Nat) : List It × Int := if (s.h6 f).e ≠ 0 then ([], (s.h6 f).e) else if f / 16 % 2 = 1 then (s.h6 f).ext else ([], 0)
def Cu.x8 (s : Cu) (f : Nat) : Cu := if (s.h6 f).e ≠ 0 then s.h6 f else if f / 16 % 2 = 1 then (s.h6 f).extE else s.h6 f
def Cu.head (s : Cu) (f : Nat) (pay : List UInt8) (pad : Nat) : Mp :=
  ⟨decide (128 ≤ s.nm 1), s.nm 1 % 128, s.h2.nm 2, s.h3.nm 4, s.h4.nm 4, s.h5.csr (f % 16), (s.x7 f).1, pay, pad⟩
def Cu.pad9 (s : Cu) (f : Nat) : Nat × Int := if f / 32 % 2 = 1 then padM (s.x8 f).l else (0, 0)
def Cu.all (s : Cu) (f : Nat) : Mp × Int :=
  if (s.x7 f).2 ≠ 0 then (Mp.zero, (s.x7 f).2)
  else if (s.pad9 f).2 ≠ 0 then (Mp.zero, (s.pad9 f).2)
  else (s.head f ((s.x8 f).l.take ((s.x8 f).l.length - (s.pad9 f).1)) (s.pad9 f).1, 0)
def parseP (b : List UInt8) : Mp × Int :=
  if 1500 < b.length then (Mp.zero, 13)
  else if ((⟨b, 0⟩ : Cu).tk 1).e ≠ 0 then (Mp.zero, ((⟨b, 0⟩ : Cu).tk 1).e)
  else if (⟨b, 0⟩ : Cu).nm 1 < 128 ∨ 191 < (⟨b, 0⟩ : Cu).nm 1 then (Mp.zero, 11)
  else ((⟨b, 0⟩ : Cu).tk 1).all ((⟨b, 0⟩ : Cu).nm 1)

/-! ### What is put is parsed as it was -/
theorem size_1 : sizeB 1 = true := rfl
theorem size_2 : sizeB 2 = true := rfl
theorem size_4 : sizeB 4 = true := rfl
theorem tk_put (x s : Nat) (h1 : 1 ≤ s) (h8 : s ≤ 8) (r : List UInt8) : (⟨bytesN x s ++ r, 0⟩ : Cu).tk (s : Int) = ⟨r, 0⟩ ∧ (⟨bytesN x s ++ r, 0⟩ : Cu).nm (s : Int) = x % 256 ^ s := by
  have hl := bytesN_length x s
  have h : ((0 : Int) = 0 ∧ true = true ∧ (s : Int) ≤ ((bytesN x s ++ r).length : Int)) := ⟨rfl, rfl, by simp [hl]; omega⟩
  have e1 : restS (bytesN x s ++ r) 0 s true = r := by
    unfold restS
    rw [if_pos h, Int.toNat_natCast, List.drop_left' hl]
  have e2 : headS (bytesN x s ++ r) 0 s true = bytesN x s := by
    unfold headS
    rw [if_pos h, Int.toNat_natCast, List.take_left' hl]
  have e3 : errS (bytesN x s ++ r) 0 s true = 0 := by
    unfold errS
    simp [hl]
    omega
  unfold Cu.tk Cu.nm
  dsimp only
  rw [sizeB_yes h1 h8, e1, e2, e3, be_bytesN]
  exact ⟨rfl, rfl⟩
theorem tk_1 (x : Nat) (r : List UInt8) (h : x < 256) : (⟨bytesN x 1 ++ r, 0⟩ : Cu).tk 1 = ⟨r, 0⟩ ∧ (⟨bytesN x 1 ++ r, 0⟩ : Cu).nm 1 = x := by
  have := tk_put x 1 (by decide) (by decide) r
  exact ⟨this.1, this.2.trans (Nat.mod_eq_of_lt (by simpa using h))⟩
theorem tk_2 (x : Nat) (r : List UInt8) (h : x < 65536) : (⟨bytesN x 2 ++ r, 0⟩ : Cu).tk 2 = ⟨r, 0⟩ ∧ (⟨bytesN x 2 ++ r, 0⟩ : Cu).nm 2 = x := by
  have := tk_put x 2 (by decide) (by decide) r
  exact ⟨this.1, this.2.trans (Nat.mod_eq_of_lt (by simpa using h))⟩
theorem tk_4 (x : Nat) (r : List UInt8) (h : x < 4294967296) : (⟨bytesN x 4 ++ r, 0⟩ : Cu).tk 4 = ⟨r, 0⟩ ∧ (⟨bytesN x 4 ++ r, 0⟩ : Cu).nm 4 = x := by
  have := tk_put x 4 (by decide) (by decide) r
  exact ⟨this.1, this.2.trans (Nat.mod_eq_of_lt (by simpa using h))⟩
theorem csrE_next (s : Cu) : ∀ k, s.csrE (k + 1) = (s.tk 4).csrE k
  | 0 => rfl
  | k + 1 => by rw [Cu.csrE, csrE_next s k]; rfl
theorem csr_next (s : Cu) : ∀ k, s.csr (k + 1) = s.nm 4 :: (s.tk 4).csr k
  | 0 => rfl
  | k + 1 => by rw [Cu.csr, csr_next s k, csrE_next s k]; rfl
def csB (cs : List Nat) : List UInt8 := cs.flatMap fun x => bytesN x 4
theorem csr_put : ∀ (cs : List Nat) (r : List UInt8), (∀ x ∈ cs, x < 4294967296) → (⟨csB cs ++ r, 0⟩ : Cu).csrE cs.length = ⟨r, 0⟩ ∧ (⟨csB cs ++ r, 0⟩ : Cu).csr cs.length = cs
  | [], r, _ => ⟨rfl, rfl⟩
  | x :: cs, r, h => by
    have hx := tk_4 x (csB cs ++ r) (h x (by simp))
    have ih := csr_put cs r (fun y hy => h y (by simp [hy]))
    have e : csB (x :: cs) ++ r = bytesN x 4 ++ (csB cs ++ r) := by simp [csB]
    rw [List.length_cons, e, csrE_next, csr_next, hx.1, hx.2, ih.1, ih.2]
    exact ⟨rfl, rfl⟩
theorem putS_append (a b : List (Nat × Int)) : putS (a ++ b) = putS a ++ putS b := by simp [putS]
theorem putS_cs (cs : List Nat) : putS (cs.map fun x => (x, (4 : Int))) = csB cs := by
  induction cs with
  | nil => rfl
  | cons x cs ih =>
    have e : putOne (x, (4 : Int)) = bytesN x 4 := putOne_yes x (s := 4) (by decide) (by decide)
    rw [List.map_cons, putS_cons, ih, e]
    rfl
theorem Mp.parts_bytes (p : Mp) : putS p.parts = bytesN p.first 1 ++ (bytesN p.second 1 ++ (bytesN p.seq 2 ++ (bytesN p.time 4 ++ (bytesN p.ssrc 4 ++ csB p.csrc)))) := by
  have e1 : ∀ x, putOne (x, (1 : Int)) = bytesN x 1 := fun x => putOne_yes x (s := 1) (by decide) (by decide)
  have e2 : ∀ x, putOne (x, (2 : Int)) = bytesN x 2 := fun x => putOne_yes x (s := 2) (by decide) (by decide)
  have e4 : ∀ x, putOne (x, (4 : Int)) = bytesN x 4 := fun x => putOne_yes x (s := 4) (by decide) (by decide)
  unfold Mp.parts
  rw [putS_append, putS_cs]
  simp only [putS_cons, putS_nil, e1, e2, e4, List.append_assoc, List.append_nil]
theorem by_put (b r : List UInt8) (n : Int) (hn : n = b.length) : (⟨b ++ r, 0⟩ : Cu).by n = ⟨r, 0⟩ ∧ (⟨b ++ r, 0⟩ : Cu).bs n = b := by
  subst hn
  have h : ((0 : Int) = 0 ∧ true = true ∧ (b.length : Int) ≤ ((b ++ r).length : Int)) := ⟨rfl, rfl, by simp; omega⟩
  have hd : decide (0 ≤ (b.length : Int)) = true := by simp
  unfold Cu.by Cu.bs
  dsimp only
  rw [hd]
  refine ⟨?_, ?_⟩
  · have e1 : restS (b ++ r) 0 b.length true = r := by unfold restS; rw [if_pos h, Int.toNat_natCast, List.drop_left' rfl]
    have e3 : errS (b ++ r) 0 b.length true = 0 := by unfold errS; simp; omega
    rw [e1, e3]
  · unfold headS; rw [if_pos h, Int.toNat_natCast, List.take_left' rfl]
theorem ext_put (l : List It) (he : putE l = 0) (r : List UInt8) (hl : (putB l).length ≤ 262140) :
    (⟨putS [((putP l).toNat, 2), ((putB l).length / 4, 2)] ++ (putB l ++ r), 0⟩ : Cu).extE = ⟨r, 0⟩ ∧ (⟨putS [((putP l).toNat, 2), ((putB l).length / 4, 2)] ++ (putB l ++ r), 0⟩ : Cu).ext = (l, 0) := by
  have e2 : ∀ x, putOne (x, (2 : Int)) = bytesN x 2 := fun x => putOne_yes x (s := 2) (by decide) (by decide)
  have hP : 0 ≤ putP l ∧ putP l < 65536 := by unfold putP; split <;> (try split) <;> omega
  have a := tk_2 (putP l).toNat (bytesN ((putB l).length / 4) 2 ++ (putB l ++ r)) (by omega)
  have b := tk_2 ((putB l).length / 4) (putB l ++ r) (by omega)
  have hm := putB_mod l
  have c := by_put (putB l) r (((putB l).length / 4 : Nat) * 4 : Int) (by omega)
  have ee : putS [((putP l).toNat, (2 : Int)), ((putB l).length / 4, 2)] ++ (putB l ++ r) = bytesN (putP l).toNat 2 ++ (bytesN ((putB l).length / 4) 2 ++ (putB l ++ r)) := by
    simp only [putS_cons, putS_nil, e2, List.append_assoc, List.append_nil]
  have e1 : (⟨putS [((putP l).toNat, 2), ((putB l).length / 4, 2)] ++ (putB l ++ r), 0⟩ : Cu).extE = ⟨r, 0⟩ := by
    unfold Cu.extE
    rw [ee, a.1, b.1, b.2]
    exact c.1
  refine ⟨e1, ?_⟩
  unfold Cu.ext
  rw [e1, if_neg (by simp), ee, a.1, a.2, b.1, b.2, c.2, Int.toNat_of_nonneg hP.1]
  have := parse_back he 0
  simpa using this
theorem padM_pad (r : List UInt8) (n : Nat) (h1 : 1 ≤ n) (h2 : n ≤ 255) : padM (r ++ padB n) = (n, 0) := by
  have hn : (UInt8.ofNat n).toNat = n := by rw [UInt8.toNat_ofNat']; omega
  have hg : (r ++ padB n).getLast? = some (UInt8.ofNat n) := by
    rw [List.getLast?_eq_getElem?, List.length_append, padB_length, List.getElem?_append_right (by omega)]
    unfold padB
    rw [show r.length + n - 1 - r.length = n - 1 from by omega, List.getElem?_set_self (by rw [List.length_replicate]; omega)]
  unfold padM
  rw [hg]
  simp only [hn, List.length_append, padB_length]
  rw [if_neg (by omega)]
/-- What is right with it. -/
theorem Mp.good {p : Mp} (he : p.err = 0) : p.typ ≤ 127 ∧ p.csrc.length ≤ 15 ∧ 0 ≤ p.pad ∧ p.pad ≤ 255 ∧ putE p.exts = 0 ∧ (headN p.csrc.length p.exts : Int) + p.pay.length + p.pad ≤ 1500 := by
  unfold Mp.err at he
  split at he
  · omega
  rename_i h1
  split at he
  · omega
  rename_i h2
  split at he
  · omega
  refine ⟨by omega, by omega, by omega, by omega, Decidable.byContradiction h2, by omega⟩
theorem csB_length (cs : List Nat) : (csB cs).length = 4 * cs.length := by
  induction cs with
  | nil => rfl
  | cons x cs ih =>
    have e : csB (x :: cs) = bytesN x 4 ++ csB cs := by simp [csB]
    rw [e, List.length_append, bytesN_length, ih, List.length_cons]
    omega
theorem Mp.extB_length (p : Mp) : p.extB.length = if p.exts = [] then 0 else 4 + (putB p.exts).length := by
  unfold Mp.extB
  split
  · rfl
  · have e2 : ∀ x, putOne (x, (2 : Int)) = bytesN x 2 := fun x => putOne_yes x (s := 2) (by decide) (by decide)
    simp only [putS_cons, putS_nil, e2, List.length_append, bytesN_length, List.length_nil]
theorem Mp.bytes_good {p : Mp} (he : p.err = 0) : p.bytes = bytesN p.first 1 ++ (bytesN p.second 1 ++ (bytesN p.seq 2 ++ (bytesN p.time 4 ++ (bytesN p.ssrc 4 ++ (csB p.csrc ++ (p.extB ++ (p.pay ++ padB p.pad.toNat))))))) := by
  unfold Mp.bytes
  rw [if_neg (by simp [he]), Mp.parts_bytes]
  simp only [List.append_assoc]
theorem Mp.bytes_length {p : Mp} (he : p.err = 0) : (p.bytes.length : Int) = headN p.csrc.length p.exts + p.pay.length + p.pad := by
  have h := Mp.good he
  rw [Mp.bytes_good he]
  simp only [List.length_append, bytesN_length, csB_length, padB_length, Mp.extB_length]
  unfold headN
  split <;> omega
theorem Mp.first_facts {p : Mp} (he : p.err = 0) : p.first % 16 = p.csrc.length ∧ 128 ≤ p.first ∧ p.first ≤ 191 ∧ (p.first / 16 % 2 = 1 ↔ p.exts ≠ []) ∧ (p.first / 32 % 2 = 1 ↔ 0 < p.pad) := by
  have h := Mp.good he
  unfold Mp.first
  by_cases h1 : 0 < p.pad <;> by_cases h2 : p.exts = [] <;> simp only [h1, h2, if_true, if_false, ne_eq, not_true, not_false_eq_true, iff_true, iff_false] <;> omega
theorem Mp.second_facts {p : Mp} (he : p.err = 0) : p.second < 256 ∧ p.second % 128 = p.typ ∧ decide (128 ≤ p.second) = p.mark := by
  have h := Mp.good he
  unfold Mp.second
  cases hm : p.mark
  · simp only [Bool.false_eq_true, if_false]
    refine ⟨by omega, by omega, by simp; omega⟩
  · simp only [if_true]
    refine ⟨by omega, by omega, by simp⟩
/-- What is put of a packet is parsed as it was. -/
theorem parse_bytes (p : Mp) (hf : p.Fit) (he : p.err = 0) : parseP p.bytes = (p, 0) := by
  have hg := Mp.good he
  have hlen := Mp.bytes_length he
  obtain ⟨k1, k2, k3, k4, k5⟩ := Mp.first_facts he
  obtain ⟨m1, m2, m3⟩ := Mp.second_facts he
  have hb := Mp.bytes_good he
  have hl : ¬ 1500 < p.bytes.length := by omega
  have hlB : (putB p.exts).length ≤ 262140 := by
    have h6 := hg.2.2.2.2.2
    unfold headN at h6
    split at h6
    · rename_i h; rw [h]; decide
    · omega
  obtain ⟨P, hP⟩ : ∃ P, p.pay ++ padB p.pad.toNat = P := ⟨_, rfl⟩
  rw [hP] at hb
  obtain ⟨R6, h6⟩ : ∃ R, p.extB ++ P = R := ⟨_, rfl⟩
  obtain ⟨R5, h5⟩ : ∃ R, csB p.csrc ++ R6 = R := ⟨_, rfl⟩
  obtain ⟨R4, h4⟩ : ∃ R, bytesN p.ssrc 4 ++ R5 = R := ⟨_, rfl⟩
  obtain ⟨R3, h3⟩ : ∃ R, bytesN p.time 4 ++ R4 = R := ⟨_, rfl⟩
  obtain ⟨R2, h2⟩ : ∃ R, bytesN p.seq 2 ++ R3 = R := ⟨_, rfl⟩
  obtain ⟨R1, h1⟩ : ∃ R, bytesN p.second 1 ++ R2 = R := ⟨_, rfl⟩
  rw [h6, h5, h4, h3, h2, h1] at hb
  have a0 := tk_1 p.first R1 (by omega)
  have a1 := tk_1 p.second R2 m1
  have a2 := tk_2 p.seq R3 hf.seq
  have a3 := tk_4 p.time R4 hf.time
  have a4 := tk_4 p.ssrc R5 hf.ssrc
  have a5 := csr_put p.csrc R6 hf.csrc
  rw [h1] at a1
  rw [h2] at a2
  rw [h3] at a3
  rw [h4] at a4
  rw [h5] at a5
  rw [hb] at hl
  rw [hb]
  unfold parseP
  rw [if_neg hl, a0.1, a0.2, if_neg (by simp), if_neg (by omega)]
  obtain ⟨s, hs⟩ : ∃ s : Cu, s = ⟨R1, 0⟩ := ⟨_, rfl⟩
  rw [← hs] at a1 ⊢
  have e2 : s.h2 = ⟨R2, 0⟩ := a1.1
  have e3 : s.h3 = ⟨R3, 0⟩ := by unfold Cu.h3; rw [e2]; exact a2.1
  have e4 : s.h4 = ⟨R4, 0⟩ := by unfold Cu.h4; rw [e3]; exact a3.1
  have e5 : s.h5 = ⟨R5, 0⟩ := by unfold Cu.h5; rw [e4]; exact a4.1
  have e6 : s.h6 p.first = ⟨R6, 0⟩ := by unfold Cu.h6; rw [e5, k1]; exact a5.1
  have e78 : s.x7 p.first = (p.exts, 0) ∧ s.x8 p.first = ⟨P, 0⟩ := by
    unfold Cu.x7 Cu.x8
    rw [e6]
    dsimp only
    rw [if_neg (show ¬ ((0 : Int) ≠ 0) from fun h => h rfl), if_neg (show ¬ ((0 : Int) ≠ 0) from fun h => h rfl)]
    by_cases hx : p.exts = []
    · have hn : ¬ p.first / 16 % 2 = 1 := fun h => (k4.1 h) hx
      rw [if_neg hn, if_neg hn, ← h6]
      unfold Mp.extB
      rw [if_pos hx, hx]
      exact ⟨rfl, rfl⟩
    · rw [if_pos (k4.2 hx), if_pos (k4.2 hx), ← h6]
      unfold Mp.extB
      rw [if_neg hx, List.append_assoc]
      have := ext_put p.exts hg.2.2.2.2.1 P hlB
      exact ⟨this.2, this.1⟩
  have e9 : s.pad9 p.first = (p.pad.toNat, 0) := by
    unfold Cu.pad9
    rw [e78.2]
    by_cases hx : 0 < p.pad
    · rw [if_pos (k5.2 hx), ← hP]
      exact padM_pad _ _ (by omega) (by omega)
    · rw [if_neg (fun h => hx (k5.1 h)), show p.pad.toNat = 0 from by omega]
  unfold Cu.all
  rw [e78.1, e9, e78.2, if_neg (by simp), if_neg (by simp)]
  unfold Cu.head
  rw [e78.1, e5, e4, e3, e2, a1.2, a2.2, a3.2, a4.2, k1, a5.2, m2, m3]
  have hpay : P.take (P.length - p.pad.toNat) = p.pay := by
    rw [← hP, List.length_append, padB_length, Nat.add_sub_cancel, List.take_left' rfl]
  have hpd : ((p.pad.toNat : Nat) : Int) = p.pad := by omega
  dsimp only
  rw [hpay, hpd]
end Go.Proofs.Yticnaljfnjiofaa
/-
  Which packets of a track somebody is sent, as plain functions: a packet, what is wanted, a state; what the laws of layer 12 say of them. Nothing here names the program.
-/
namespace Go.Proofs.Yticnaljfnjiofaa
open Go.RowKit

/-- A packet. -/
structure Cx where
  src : Int
  lay : Int
  beg : Bool
  who : Bool
  has : Bool
  tid : Int
  syn : Bool
/-- What is wanted. -/
structure Cw where
  src : Int
  lay : Int
  tid : Int
/-- A state. -/
structure Cs where
  on : Bool
  src : Int
  lay : Int
  tid : Int
def Cx.cells (x : Cx) : Array Value := #[.int .i64 x.src, .int .i64 x.lay, .bool x.beg, .bool x.who, .bool x.has, .int .i64 x.tid, .bool x.syn]
def Cw.cells (w : Cw) : Array Value := #[.int .i64 w.src, .int .i64 w.lay, .int .i64 w.tid]
def Cs.cells (s : Cs) : Array Value := #[.bool s.on, .int .i64 s.src, .int .i64 s.lay, .int .i64 s.tid]
/-- Is a packet of the stream? -/
def Cs.own (s : Cs) (x : Cx) : Bool := s.on && (x.src == s.src && x.lay == s.lay)
/-- Is it of the wanted source and layer? -/
def Cx.wanted (x : Cx) (w : Cw) : Bool := x.src == w.src && x.lay == w.lay
/-- Is it above that temporal layer? -/
def Cx.over (x : Cx) (t : Int) : Bool := x.has && decide (t < x.tid)
/-- Is it wanted (up to the wanted temporal layer)? -/
def Cx.fit (x : Cx) (w : Cw) : Bool := x.wanted w && !x.over w.tid
/-- The temporal layer behind a packet of the stream. -/
def Cs.tidS (s : Cs) (x : Cx) (w : Cw) : Int :=
  if x.beg = true then if x.who = true then w.tid else if w.tid < s.tid then w.tid else if x.has = true ∧ x.syn = true ∧ s.tid < x.tid ∧ x.tid ≤ w.tid then x.tid else s.tid else s.tid
def Cs.next (s : Cs) (x : Cx) (w : Cw) : Cs :=
  if s.own x = true then ⟨true, s.src, s.lay, s.tidS x w⟩ else if x.fit w = true ∧ x.beg = true ∧ x.who = true then ⟨true, w.src, w.lay, w.tid⟩ else s
def Cs.kind (s : Cs) (x : Cx) (w : Cw) : Int :=
  if s.own x = true then if x.has = true ∧ s.tidS x w < x.tid then 2 else 1 else if x.fit w = true ∧ x.beg = true ∧ x.who = true then 3 else 0
def Cs.asks (s : Cs) (w : Cw) : Bool := !s.on || (s.src != w.src || s.lay != w.lay)

section
variable {s : Cs} {x : Cx} {w : Cw}
theorem Cs.own_iff : s.own x = true ↔ s.on = true ∧ x.src = s.src ∧ x.lay = s.lay := by unfold Cs.own; simp
theorem Cx.fit_wanted (h : x.fit w = true) : x.wanted w = true := by unfold Cx.fit at h; simp at h; exact h.1
theorem Cx.fit_not (h : x.wanted w = false) : x.fit w = false := by unfold Cx.fit; rw [h]; rfl
theorem Cx.wanted_iff : x.wanted w = true ↔ x.src = w.src ∧ x.lay = w.lay := by unfold Cx.wanted; simp
theorem Cs.asks_iff : s.asks w = false ↔ s.on = true ∧ s.src = w.src ∧ s.lay = w.lay := by unfold Cs.asks; simp
theorem Cs.next_own (h : s.own x = true) : s.next x w = ⟨true, s.src, s.lay, s.tidS x w⟩ := by unfold Cs.next; rw [if_pos h]
theorem Cs.kind_own (h : s.own x = true) : s.kind x w = if x.has = true ∧ s.tidS x w < x.tid then 2 else 1 := by unfold Cs.kind; rw [if_pos h]
theorem Cs.next_switch (h : s.own x = false) (h1 : x.fit w = true) (h2 : x.beg = true) (h3 : x.who = true) : s.next x w = ⟨true, w.src, w.lay, w.tid⟩ := by
  unfold Cs.next; rw [if_neg (by simp [h]), if_pos ⟨h1, h2, h3⟩]
theorem Cs.kind_switch (h : s.own x = false) (h1 : x.fit w = true) (h2 : x.beg = true) (h3 : x.who = true) : s.kind x w = 3 := by
  unfold Cs.kind; rw [if_neg (by simp [h]), if_pos ⟨h1, h2, h3⟩]
theorem Cs.next_leave (h : s.own x = false) (h1 : ¬ (x.fit w = true ∧ x.beg = true ∧ x.who = true)) : s.next x w = s := by
  unfold Cs.next; rw [if_neg (by simp [h]), if_neg h1]
theorem Cs.kind_leave (h : s.own x = false) (h1 : ¬ (x.fit w = true ∧ x.beg = true ∧ x.who = true)) : s.kind x w = 0 := by
  unfold Cs.kind; rw [if_neg (by simp [h]), if_neg h1]
/-- What may be: a packet of the stream is sent, or left out; another stream begins; or nothing. -/
theorem Cs.three (s : Cs) (x : Cx) (w : Cw) :
    (s.own x = true ∧ s.next x w = ⟨true, s.src, s.lay, s.tidS x w⟩ ∧ ((x.has = true ∧ s.tidS x w < x.tid ∧ s.kind x w = 2) ∨ (¬ (x.has = true ∧ s.tidS x w < x.tid) ∧ s.kind x w = 1))) ∨
    (s.own x = false ∧ x.wanted w = true ∧ x.beg = true ∧ x.who = true ∧ s.next x w = ⟨true, w.src, w.lay, w.tid⟩ ∧ s.kind x w = 3) ∨
    (s.own x = false ∧ s.next x w = s ∧ s.kind x w = 0) := by
  by_cases h : s.own x = true
  · left
    refine ⟨h, Cs.next_own h, ?_⟩
    rw [Cs.kind_own h]
    by_cases h1 : x.has = true ∧ s.tidS x w < x.tid
    · rw [if_pos h1]; exact .inl ⟨h1.1, h1.2, rfl⟩
    · rw [if_neg h1]; exact .inr ⟨h1, rfl⟩
  · have h : s.own x = false := by simpa using h
    right
    by_cases h1 : x.fit w = true ∧ x.beg = true ∧ x.who = true
    · exact .inl ⟨h, Cx.fit_wanted h1.1, h1.2.1, h1.2.2, Cs.next_switch h h1.1 h1.2.1 h1.2.2, Cs.kind_switch h h1.1 h1.2.1 h1.2.2⟩
    · exact .inr ⟨h, Cs.next_leave h h1, Cs.kind_leave h h1⟩
theorem Cs.tidS_still (h : x.beg = false) : s.tidS x w = s.tid := by unfold Cs.tidS; rw [if_neg (by simp [h])]
theorem Cs.tidS_le (h : x.beg = true) : s.tidS x w ≤ w.tid := by
  unfold Cs.tidS
  rw [if_pos h]
  split
  · omega
  · split
    · omega
    · split <;> omega
end
end Go.Proofs.Yticnaljfnjiofaa
/-
  Numbers of packets that are sent on, as plain functions: numbers that go round, a state, what a switch, a packet that is sent, and one that is left out make of it. Nothing here names the program.
-/
namespace Go.Proofs.Yticnaljfnjiofaa
open Go.RowKit

/-- Numbers. -/
structure Mn where
  seq : Int
  time : Int
  pic : Int
  tl0 : Int
deriving DecidableEq
/-- The program's cells, and the document's. -/
def Mn.cells (n : Mn) : Array Value := #[.int .u16 n.seq, .int .u32 n.time, .int .u16 n.pic, .int .u8 n.tl0]
def Mn.plain (n : Mn) : Array Value := #[.int .i64 n.seq, .int .i64 n.time, .int .i64 n.pic, .int .i64 n.tl0]
structure Mn.Fit (n : Mn) : Prop where
  seq : 0 ≤ n.seq ∧ n.seq < 65536
  time : 0 ≤ n.time ∧ n.time < 4294967296
  pic : 0 ≤ n.pic ∧ n.pic < 65536
  tl0 : 0 ≤ n.tl0 ∧ n.tl0 < 256
def Mn.zero : Mn := ⟨0, 0, 0, 0⟩
/-- Gone round. -/
def Mn.rnd (n : Mn) : Mn := ⟨n.seq % 65536, n.time % 4294967296, n.pic % 65536, n.tl0 % 256⟩
def Mn.less (a b : Mn) : Mn := Mn.rnd ⟨a.seq - b.seq, a.time - b.time, a.pic - b.pic, a.tl0 - b.tl0⟩
theorem Mn.rnd_fit (n : Mn) : n.rnd.Fit := ⟨by unfold Mn.rnd; dsimp only; omega, by unfold Mn.rnd; dsimp only; omega, by unfold Mn.rnd; dsimp only; omega, by unfold Mn.rnd; dsimp only; omega⟩
theorem Mn.less_fit (a b : Mn) : (a.less b).Fit := Mn.rnd_fit _
theorem Mn.zero_fit : Mn.zero.Fit := by constructor <;> decide

/-- How far it is from a to b. -/
def far16 (a b : Int) : Int := (b - a + 32768) % 65536 - 32768
def far32 (a b : Int) : Int := (b - a + 2147483648) % 4294967296 - 2147483648
def nearM (h s : Int) : Int := h + far16 h s
theorem nearM_bd (h s : Int) : h - 32768 ≤ nearM h s ∧ nearM h s ≤ h + 32767 := by unfold nearM far16; omega
theorem nearM_mod (h s : Int) : nearM h s % 65536 = s % 65536 := by unfold nearM far16; omega
theorem nearM_of (h n : Int) (h1 : h - 32768 ≤ n) (h2 : n ≤ h + 32767) : nearM h (n % 65536) = n := by unfold nearM far16; omega

/-- A state. -/
structure Mst where
  on : Bool
  high : Int
  since : Int
  off : Mn
  out : Mn
deriving DecidableEq
def Mst.cells (s : Mst) : Array Value := #[.bool s.on, .int .i64 s.high, .int .i64 s.since, .int .u16 s.off.seq, .int .u32 s.off.time, .int .u16 s.off.pic, .int .u8 s.off.tl0, .int .u16 s.out.seq, .int .u32 s.out.time, .int .u16 s.out.pic, .int .u8 s.out.tl0]
def Mst.plain (s : Mst) : Array Value := #[.bool s.on, .int .i64 s.high, .int .i64 s.since, .int .i64 s.off.seq, .int .i64 s.off.time, .int .i64 s.off.pic, .int .i64 s.off.tl0, .int .i64 s.out.seq, .int .i64 s.out.time, .int .i64 s.out.pic, .int .i64 s.out.tl0]
structure Mst.Fit (c : Int) (s : Mst) : Prop where
  high : -c ≤ s.high ∧ s.high ≤ c
  off : s.off.Fit
  out : s.out.Fit
/-- The parts of a state that have bounds. -/
def Mst.Parts (s : Mst) : Prop := (-9223372036854775808 ≤ s.high ∧ s.high < 9223372036854775808) ∧ s.off.Fit ∧ s.out.Fit
theorem Mst.Fit.parts {s : Mst} {c : Int} (h : s.Fit c) (hc : c ≤ 1000000000000000) : s.Parts := ⟨by have := h.high; omega, h.off, h.out⟩
def Mst.zero : Mst := ⟨false, 0, 0, Mn.zero, Mn.zero⟩
theorem Mst.zero_fit : Mst.zero.Fit 0 := ⟨by decide, Mn.zero_fit, Mn.zero_fit⟩

/-- What a switch tells. -/
def Mst.begins (s : Mst) (n : Mn) (step : Int) : Mn := if s.on = true then Mn.rnd ⟨s.out.seq + 1, s.out.time + step, s.out.pic + 1, s.out.tl0 + 1⟩ else n
def Mst.switchS (s : Mst) (n : Mn) (step : Int) : Mst := ⟨true, n.seq, n.seq, n.less (s.begins n step), s.begins n step⟩
/-- A packet's number; is it told? -/
def Mst.num (s : Mst) (n : Mn) : Int := nearM s.high n.seq
def Mst.tells (s : Mst) (n : Mn) : Bool := s.on && !(decide (s.num n ≤ s.high) && decide (s.num n ≤ s.since))
/-- What is told of one that is not behind. -/
def Mst.ahead (s : Mst) (n : Mn) : Mn := if 0 < far32 (n.less s.off).time s.out.time then { n.less s.off with time := s.out.time } else n.less s.off
def Mst.told (s : Mst) (n : Mn) : Mn := if s.tells n = true then if s.num n ≤ s.high then n.less s.off else s.ahead n else Mn.zero
def Mst.sendS (s : Mst) (n : Mn) : Mst := if s.tells n = true then if s.num n ≤ s.high then s else { s with high := s.num n, out := s.ahead n } else s
def Mst.dropS (s : Mst) (n : Mn) (b : Bool) : Mst :=
  if s.on = true then if s.num n ≤ s.high then s else ⟨true, s.num n, s.num n, ⟨(s.off.seq + 1) % 65536, s.off.time, if b = true then (s.off.pic + 1) % 65536 else s.off.pic, s.off.tl0⟩, s.out⟩ else s

section
variable {s : Mst} {n : Mn} {c : Int}
theorem Mst.num_bd (h : s.Fit c) (n : Mn) : -(c + 32768) ≤ s.num n ∧ s.num n ≤ c + 32767 := by
  have := nearM_bd s.high n.seq
  have := h.high
  unfold Mst.num
  omega
theorem Mst.begins_fit (hn : n.Fit) (step : Int) : (s.begins n step).Fit := by
  unfold Mst.begins
  split
  · exact Mn.rnd_fit _
  · exact hn
theorem Mst.switch_fit (hn : n.Fit) (step : Int) (hc : 65536 ≤ c) : (s.switchS n step).Fit c :=
  ⟨by have := hn.seq; unfold Mst.switchS; dsimp only; omega, Mn.less_fit _ _, Mst.begins_fit hn step⟩
theorem Mst.ahead_fit (h : s.Fit c) (n : Mn) : (s.ahead n).Fit := by
  unfold Mst.ahead
  have := Mn.less_fit n s.off
  split
  · exact ⟨this.seq, h.out.time, this.pic, this.tl0⟩
  · exact this
theorem Mst.told_fit (h : s.Fit c) (n : Mn) : (s.told n).Fit := by
  unfold Mst.told
  split
  · split
    · exact Mn.less_fit _ _
    · exact Mst.ahead_fit h n
  · exact Mn.zero_fit
theorem Mst.send_fit (h : s.Fit c) (n : Mn) : (s.sendS n).Fit (c + 32768) := by
  have hb := Mst.num_bd h n
  have := h.high
  have h' : s.Fit (c + 32768) := ⟨by omega, h.off, h.out⟩
  unfold Mst.sendS
  split
  · split
    · exact h'
    · exact ⟨by dsimp only; omega, h.off, Mst.ahead_fit h n⟩
  · exact h'
theorem Mst.drop_fit (h : s.Fit c) (n : Mn) (b : Bool) : (s.dropS n b).Fit (c + 32768) := by
  have hb := Mst.num_bd h n
  have := h.high
  have ho := h.off
  have h' : s.Fit (c + 32768) := ⟨by omega, h.off, h.out⟩
  unfold Mst.dropS
  split
  · split
    · exact h'
    · exact ⟨by dsimp only; omega, ⟨by dsimp only; omega, ho.time, by dsimp only; have := ho.pic; split <;> omega, ho.tl0⟩, h.out⟩
  · exact h'
end
end Go.Proofs.Yticnaljfnjiofaa
/-
  Packets that are kept, plain: where the last one of a number is. Nothing here names the program.
-/
namespace Go.Proofs.Yticnaljfnjiofaa

/-- A packet: its number, its bytes. -/
structure Pk where
  seq : Int
  d : List UInt8

/-- Where the last packet of number k is. -/
def lastAt : List Pk → Int → Option Nat
  | [], _ => none
  | x :: t, k => match lastAt t k with
    | some i => some (i + 1)
    | none => if x.seq = k then some 0 else none
/-- How many numbers there are. -/
def dis : List Pk → Nat
  | [] => 0
  | x :: t => dis t + if (lastAt t x.seq).isSome then 0 else 1
/-- What is kept behind one more. -/
def addL (room : Nat) (l : List Pk) (p : Pk) : List Pk := if l.length < room then l ++ [p] else l.tail ++ [p]
/-- The packet that is told. -/
def getL (l : List Pk) (k : Int) : Option (List UInt8) := (lastAt l k).bind fun i => (l[i]?).map Pk.d

section
variable {l t : List Pk} {x y : Pk} {k : Int} {i : Nat}
theorem lastAt_cons (x : Pk) (t : List Pk) (k : Int) : lastAt (x :: t) k = match lastAt t k with
    | some i => some (i + 1)
    | none => if x.seq = k then some 0 else none := rfl
theorem lastAt_snoc (l : List Pk) (y : Pk) (k : Int) : lastAt (l ++ [y]) k = if y.seq = k then some l.length else lastAt l k := by
  induction l with
  | nil => simp [lastAt]
  | cons x t ih =>
    rw [List.cons_append, lastAt_cons, ih]
    by_cases h : y.seq = k
    · simp [h]
    · rw [if_neg h, if_neg h, lastAt_cons]
theorem lastAt_some (h : lastAt l k = some i) : ∃ p, l[i]? = some p ∧ p.seq = k := by
  induction l generalizing i with
  | nil => simp [lastAt] at h
  | cons x t ih =>
    rw [lastAt_cons] at h
    cases ht : lastAt t k with
    | some j =>
      rw [ht] at h
      simp at h
      subst h
      simpa using ih ht
    | none =>
      rw [ht] at h
      dsimp only at h
      split at h
      · simp at h
        subst h
        exact ⟨x, rfl, by assumption⟩
      · cases h
theorem lastAt_lt (h : lastAt l k = some i) : i < l.length := by
  obtain ⟨p, hp, _⟩ := lastAt_some h
  exact (List.getElem?_eq_some_iff.1 hp).1
theorem lastAt_none : lastAt l k = none ↔ ∀ p ∈ l, p.seq ≠ k := by
  induction l with
  | nil => simp [lastAt]
  | cons x t ih =>
    rw [lastAt_cons]
    cases ht : lastAt t k with
    | some j =>
      obtain ⟨p, hp, hk⟩ := lastAt_some ht
      have hm := List.mem_of_getElem? hp
      simp only [reduceCtorEq, false_iff]
      intro h
      exact h p (by simp [hm]) hk
    | none =>
      have := ih.1 ht
      by_cases hx : x.seq = k
      · simp [hx]
      · refine ⟨fun _ p hp => ?_, fun _ => by simp [hx]⟩
        rcases List.mem_cons.1 hp with rfl | hp
        · exact hx
        · exact this p hp
theorem dis_cons (x : Pk) (t : List Pk) : dis (x :: t) = dis t + if (lastAt t x.seq).isSome then 0 else 1 := rfl
theorem dis_le (l : List Pk) : dis l ≤ l.length := by
  induction l with
  | nil => simp [dis]
  | cons x t ih => rw [dis_cons, List.length_cons]; split <;> omega
theorem lastAt_head (x : Pk) (t : List Pk) : (lastAt (x :: t) x.seq).isSome = true := by
  rw [lastAt_cons]
  cases lastAt t x.seq <;> simp
theorem dis_snoc (l : List Pk) (y : Pk) : dis (l ++ [y]) = dis l + if (lastAt l y.seq).isSome then 0 else 1 := by
  induction l with
  | nil => simp [dis, lastAt]
  | cons x t ih =>
    rw [List.cons_append, dis_cons, ih, dis_cons, lastAt_snoc, lastAt_cons]
    by_cases h : y.seq = x.seq
    · have h' : x.seq = y.seq := h.symm
      simp only [h']
      cases hh : lastAt t y.seq <;> simp
    · have h' : ¬ x.seq = y.seq := fun e => h e.symm
      simp only [if_neg h, if_neg h']
      cases hh : lastAt t y.seq <;> simp <;> omega
theorem addL_length (room : Nat) (hr : 1 ≤ room) (l : List Pk) (p : Pk) (hl : l.length ≤ room) : (addL room l p).length = if l.length < room then l.length + 1 else room := by
  unfold addL
  split
  · simp
  · simp; omega
theorem getL_snoc (l : List Pk) (y : Pk) (k : Int) : getL (l ++ [y]) k = if y.seq = k then some y.d else getL l k := by
  unfold getL
  rw [lastAt_snoc]
  by_cases h : y.seq = k
  · rw [if_pos h, if_pos h]; simp
  · rw [if_neg h, if_neg h]
    cases hl : lastAt l k with
    | none => rfl
    | some i =>
      have := lastAt_lt hl
      simp [List.getElem?_append_left this]
end
end Go.Proofs.Yticnaljfnjiofaa
/-
  Memory words: blocks of four and of eleven cells, written over.
-/
namespace Go.Proofs.Yticnaljfnjiofaa
open Go.RowKit

theorem four_set {b : Nat} {w0 w : World} {r : Nat} (h : Below b w0 w) (hr : b ≤ r) (u0 u1 u2 u3 : Value) : Below b w0 ((((w.setCell ⟨r, 0, none⟩ u0).setCell ⟨r, 1, none⟩ u1).setCell ⟨r, 2, none⟩ u2).setCell ⟨r, 3, none⟩ u3) :=
  (((h.setCell (p := ⟨r, 0, none⟩) hr u0).setCell (p := ⟨r, 1, none⟩) hr u1).setCell (p := ⟨r, 2, none⟩) hr u2).setCell (p := ⟨r, 3, none⟩) hr u3
theorem Whole.four {w : World} {g : Nat} {t : TypeId} {x0 x1 x2 x3 : Value} (h : Whole w g t #[x0, x1, x2, x3]) (u0 u1 u2 u3 : Value) :
    Whole ((((w.setCell ⟨g, 0, none⟩ u0).setCell ⟨g, 1, none⟩ u1).setCell ⟨g, 2, none⟩ u2).setCell ⟨g, 3, none⟩ u3) g t #[u0, u1, u2, u3] := by
  have h : Whole _ g t #[u0, x1, x2, x3] := h.set 0 u0
  have h : Whole _ g t #[u0, u1, x2, x3] := h.set 1 u1
  have h : Whole _ g t #[u0, u1, u2, x3] := h.set 2 u2
  have h : Whole _ g t #[u0, u1, u2, u3] := h.set 3 u3
  exact h
theorem eleven_set {b : Nat} {w0 w : World} {r : Nat} (h : Below b w0 w) (hr : b ≤ r) (u0 u1 u2 u3 u4 u5 u6 u7 u8 u9 u10 : Value) : Below b w0 (((((((((((w.setCell ⟨r, 0, none⟩ u0).setCell ⟨r, 1, none⟩ u1).setCell ⟨r, 2, none⟩ u2).setCell ⟨r, 3, none⟩ u3).setCell ⟨r, 4, none⟩ u4).setCell ⟨r, 5, none⟩ u5).setCell ⟨r, 6, none⟩ u6).setCell ⟨r, 7, none⟩ u7).setCell ⟨r, 8, none⟩ u8).setCell ⟨r, 9, none⟩ u9).setCell ⟨r, 10, none⟩ u10) := by
  have h := h.setCell (p := ⟨r, 0, none⟩) hr u0
  have h := h.setCell (p := ⟨r, 1, none⟩) hr u1
  have h := h.setCell (p := ⟨r, 2, none⟩) hr u2
  have h := h.setCell (p := ⟨r, 3, none⟩) hr u3
  have h := h.setCell (p := ⟨r, 4, none⟩) hr u4
  have h := h.setCell (p := ⟨r, 5, none⟩) hr u5
  have h := h.setCell (p := ⟨r, 6, none⟩) hr u6
  have h := h.setCell (p := ⟨r, 7, none⟩) hr u7
  have h := h.setCell (p := ⟨r, 8, none⟩) hr u8
  have h := h.setCell (p := ⟨r, 9, none⟩) hr u9
  have h := h.setCell (p := ⟨r, 10, none⟩) hr u10
  exact h
theorem Whole.eleven {w : World} {g : Nat} {t : TypeId} {x0 x1 x2 x3 x4 x5 x6 x7 x8 x9 x10 : Value} (h : Whole w g t #[x0, x1, x2, x3, x4, x5, x6, x7, x8, x9, x10]) (u0 u1 u2 u3 u4 u5 u6 u7 u8 u9 u10 : Value) : Whole (((((((((((w.setCell ⟨g, 0, none⟩ u0).setCell ⟨g, 1, none⟩ u1).setCell ⟨g, 2, none⟩ u2).setCell ⟨g, 3, none⟩ u3).setCell ⟨g, 4, none⟩ u4).setCell ⟨g, 5, none⟩ u5).setCell ⟨g, 6, none⟩ u6).setCell ⟨g, 7, none⟩ u7).setCell ⟨g, 8, none⟩ u8).setCell ⟨g, 9, none⟩ u9).setCell ⟨g, 10, none⟩ u10) g t #[u0, u1, u2, u3, u4, u5, u6, u7, u8, u9, u10] := by
  have h : Whole _ g t #[u0, x1, x2, x3, x4, x5, x6, x7, x8, x9, x10] := h.set 0 u0
  have h : Whole _ g t #[u0, u1, x2, x3, x4, x5, x6, x7, x8, x9, x10] := h.set 1 u1
  have h : Whole _ g t #[u0, u1, u2, x3, x4, x5, x6, x7, x8, x9, x10] := h.set 2 u2
  have h : Whole _ g t #[u0, u1, u2, u3, x4, x5, x6, x7, x8, x9, x10] := h.set 3 u3
  have h : Whole _ g t #[u0, u1, u2, u3, u4, x5, x6, x7, x8, x9, x10] := h.set 4 u4
  have h : Whole _ g t #[u0, u1, u2, u3, u4, u5, x6, x7, x8, x9, x10] := h.set 5 u5
  have h : Whole _ g t #[u0, u1, u2, u3, u4, u5, u6, x7, x8, x9, x10] := h.set 6 u6
  have h : Whole _ g t #[u0, u1, u2, u3, u4, u5, u6, u7, x8, x9, x10] := h.set 7 u7
  have h : Whole _ g t #[u0, u1, u2, u3, u4, u5, u6, u7, u8, x9, x10] := h.set 8 u8
  have h : Whole _ g t #[u0, u1, u2, u3, u4, u5, u6, u7, u8, u9, x10] := h.set 9 u9
  have h : Whole _ g t #[u0, u1, u2, u3, u4, u5, u6, u7, u8, u9, u10] := h.set 10 u10
  exact h
theorem Whole.eleven_far {w : World} {g r : Nat} {t : TypeId} {cs : Array Value} (h : Whole w g t cs) (hg : g ≠ r) (u0 u1 u2 u3 u4 u5 u6 u7 u8 u9 u10 : Value) : Whole (((((((((((w.setCell ⟨r, 0, none⟩ u0).setCell ⟨r, 1, none⟩ u1).setCell ⟨r, 2, none⟩ u2).setCell ⟨r, 3, none⟩ u3).setCell ⟨r, 4, none⟩ u4).setCell ⟨r, 5, none⟩ u5).setCell ⟨r, 6, none⟩ u6).setCell ⟨r, 7, none⟩ u7).setCell ⟨r, 8, none⟩ u8).setCell ⟨r, 9, none⟩ u9).setCell ⟨r, 10, none⟩ u10) g t cs := by
  have h := h.far (p := ⟨r, 0, none⟩) hg u0
  have h := h.far (p := ⟨r, 1, none⟩) hg u1
  have h := h.far (p := ⟨r, 2, none⟩) hg u2
  have h := h.far (p := ⟨r, 3, none⟩) hg u3
  have h := h.far (p := ⟨r, 4, none⟩) hg u4
  have h := h.far (p := ⟨r, 5, none⟩) hg u5
  have h := h.far (p := ⟨r, 6, none⟩) hg u6
  have h := h.far (p := ⟨r, 7, none⟩) hg u7
  have h := h.far (p := ⟨r, 8, none⟩) hg u8
  have h := h.far (p := ⟨r, 9, none⟩) hg u9
  have h := h.far (p := ⟨r, 10, none⟩) hg u10
  exact h

end Go.Proofs.Yticnaljfnjiofaa
/-
  What Take answers (layer 12), and memory of four structs.
-/
namespace Go.Proofs.Yticnaljfnjiofaa
open Go.RowKit
set_option linter.unusedSimpArgs false
set_option linter.unusedVariables false

/-- What Take answers. -/
def ChOut (s : Cs) (x : Cx) (u : Cw) (w : World) (e : Ending) (w' : World) : Prop :=
  e = .returned (.tuple #[.agg (s.next x u).cells, .int .i64 (s.kind x u)]) ∧ Below w.heap.size w w'
theorem four_new {w : World} {t t1 t2 t3 : TypeId} (a b c d : Array Value) :
    Whole ((((w.alloc (.cells a t)).alloc (.cells b t1)).alloc (.cells c t2)).alloc (.cells d t3)) w.heap.size t a ∧
    Whole ((((w.alloc (.cells a t)).alloc (.cells b t1)).alloc (.cells c t2)).alloc (.cells d t3)) (w.heap.size + 1) t1 b ∧
    Whole ((((w.alloc (.cells a t)).alloc (.cells b t1)).alloc (.cells c t2)).alloc (.cells d t3)) (w.heap.size + 1 + 1) t2 c ∧
    Whole ((((w.alloc (.cells a t)).alloc (.cells b t1)).alloc (.cells c t2)).alloc (.cells d t3)) (w.heap.size + 1 + 1 + 1) t3 d ∧
    Below w.heap.size w ((((w.alloc (.cells a t)).alloc (.cells b t1)).alloc (.cells c t2)).alloc (.cells d t3)) := by
  have h1 := Whole.new w t a
  have h2 : Whole ((w.alloc (.cells a t)).alloc (.cells b t1)) (w.heap.size + 1) t1 b := Whole.new2 w (.cells a t) t1 b
  have h3 : Whole (((w.alloc (.cells a t)).alloc (.cells b t1)).alloc (.cells c t2)) (w.heap.size + 1 + 1) t2 c := by have := Whole.new2 (w.alloc (.cells a t)) (.cells b t1) t2 c; simpa using this
  have h4 : Whole ((((w.alloc (.cells a t)).alloc (.cells b t1)).alloc (.cells c t2)).alloc (.cells d t3)) (w.heap.size + 1 + 1 + 1) t3 d := by have := Whole.new2 ((w.alloc (.cells a t)).alloc (.cells b t1)) (.cells c t2) t3 d; simpa using this
  have h0 := ((((Below.refl w.heap.size w).alloc (Nat.le_refl _) (.cells a t)).alloc (by simp) (.cells b t1)).alloc (by simp; omega) (.cells c t2)).alloc (by simp; omega) (.cells d t3)
  exact ⟨((h1.alloc _).alloc _).alloc _, (h2.alloc _).alloc _, h3.alloc _, h4, h0⟩

end Go.Proofs.Yticnaljfnjiofaa
/-
  Rows of the call's own: their form, where they lie.
-/
namespace Go.Proofs.Yticnaljfnjiofaa
open Go.RowKit

theorem own_form {w : World} {base : Nat} {e : TypeId} {z n : Nat} {v : Value} {xs : List Value} (h : w.ownsRow base e z v n xs) : ∃ A c, v = .slice A n c := by
  rcases h.2 with ⟨rfl, rfl⟩ | ⟨g, cap, cur, rfl, _⟩
  · exact ⟨_, _, rfl⟩
  · exact ⟨_, _, rfl⟩

theorem own_cap {w : World} {base : Nat} {e : TypeId} {z n c : Nat} {A : Option Addr} {xs : List Value} (h : w.ownsRow base e z (.slice A n c) n xs) : n ≤ c ∧ c ≤ maxLen := by
  rcases h.2 with ⟨hv, rfl⟩ | ⟨g, cap, cur, hv, _, _, h1, h2, _⟩
  · have : c = 0 := by injection hv
    subst this
    exact ⟨Nat.le_refl _, by decide⟩
  · have : c = cap := by injection hv
    subst this
    exact ⟨h1, h2⟩

theorem own_lo {w : World} {base : Nat} {e : TypeId} {z n c : Nat} {A : Option Addr} {xs : List Value} (h : w.ownsRow base e z (.slice A n c) n xs) : ∀ a, A = some a → base ≤ a.block := by
  intro a ha
  subst ha
  exact (h.lt a.block rfl).1

theorem own_base {w : World} {b b' : Nat} {e : TypeId} {z n : Nat} {v : Value} {xs : List Value} (h : w.ownsRow b e z v n xs) (hb : b' ≤ b) : w.ownsRow b' e z v n xs :=
  ⟨h.1, h.2.imp id fun ⟨g, cap, cur, h1, h2, h3⟩ => ⟨g, cap, cur, h1, Nat.le_trans hb h2, h3⟩⟩

end Go.Proofs.Yticnaljfnjiofaa
/-
  Plain words on memory beside the first ones: what is kept below a later world, and 'nothing that was is turned but for the blocks of S'. Nothing here names the program but for its types' numbers.
-/
namespace Go.Proofs.Yticnaljfnjiofaa
open Go.RowKit

theorem bnext {w w1 w2 : World} (h1 : Below w.heap.size w w1) (h2 : Below w1.heap.size w1 w2) : Below w.heap.size w w2 := h1.trans (h2.mono h1.size)
theorem bdrewN {w w' : World} {B : Nat} (h : Below B w w') (m : Nat) : Below B w (w'.drewN m) := ⟨h.os, h.tape, h.output, h.size, h.block⟩
theorem ret_i64 {a b : Int} (h : a = b) : Ending.returned (.int .i64 a) = .returned (.int .i64 b) := by rw [h]
theorem ret_bool {a b : Bool} (h : a = b) : Ending.returned (.bool a) = .returned (.bool b) := by rw [h]
theorem own_below {w w' : World} {base : Nat} {e : TypeId} {z n : Nat} {v : Value} {xs : List Value} {b : Nat} (h : w.ownsRow base e z v n xs) (k : Below b w w') (hb : w.heap.size ≤ b) : w'.ownsRow base e z v n xs :=
  h.kept (row := none) ⟨k.os, k.tape, k.output, k.size, fun i hi _ => k.block i (by omega)⟩ (by cases v.ownBlock <;> simp)
theorem Row.fresh2 (w : World) (o : Obj) (t : TypeId) (cs : Array Value) (z n : Nat) (xs : List Value) (h : cs.size = n * z) (hx : cs.toList = xs) :
    Row ((w.alloc o).alloc (.cells cs t)) ((w.alloc o).alloc (.cells cs t)).heap.size z (some ⟨w.heap.size + 1, 0, none⟩) n xs := by
  have := Row.fresh (w.alloc o) t cs z n xs h hx
  simpa using this

/-! ### But for the blocks of S nothing that was is turned -/
structure But (S : Nat → Prop) (w w' : World) : Prop where
  os : w'.os = w.os
  tape : w'.tape = w.tape
  output : w'.output = w.output
  size : w.heap.size ≤ w'.heap.size
  block : ∀ k, k < w.heap.size → ¬ S k → w'.heap[k]? = w.heap[k]?

section
variable {S S' : Nat → Prop} {w w' w'' : World}
theorem But.refl (S : Nat → Prop) (w : World) : But S w w := ⟨rfl, rfl, rfl, Nat.le_refl _, fun _ _ _ => rfl⟩
theorem But.drewN (h : But S w w') (m : Nat) : But S w (w'.drewN m) := ⟨h.os, h.tape, h.output, h.size, h.block⟩
theorem But.drew (h : But S w w') : But S w w'.drew := ⟨h.os, h.tape, h.output, h.size, h.block⟩
theorem But.trans (h : But S w w') (k : But S w' w'') : But S w w'' :=
  ⟨k.os.trans h.os, k.tape.trans h.tape, k.output.trans h.output, Nat.le_trans h.size k.size, fun i h1 h2 => (k.block i (Nat.lt_of_lt_of_le h1 h.size) h2).trans (h.block i h1 h2)⟩
theorem But.alloc (h : But S w w') (o : Obj) : But S w (w'.alloc o) :=
  h.trans ⟨rfl, rfl, rfl, by simp, fun k hk _ => Below.heap_alloc _ _ _ hk⟩
theorem But.set (h : But S w w') {p : Addr} (hp : S p.block ∨ w.heap.size ≤ p.block) (u : Value) : But S w (w'.setCell p u) :=
  ⟨h.os, h.tape, h.output, by simpa using h.size, fun k h1 h2 => (Below.heap_setCell _ _ _ _ (fun e => by subst e; exact hp.elim h2 (by omega))).trans (h.block k h1 h2)⟩
theorem But.turned (h : But S w w') {m : Nat} (hm : S m) (k : w'.mapTurned w'' m) : But S w w'' := by
  have g := k.grown
  exact h.trans ⟨g.os, g.tape, g.output, g.size, fun i hi hs => g.block i hi (fun e => hs (by injection e with e; rw [e]; exact hm))⟩
theorem But.below (h : But S w w') {B : Nat} (hB : B ≤ w.heap.size) (hS : ∀ k, k < B → ¬ S k) : Below B w w' :=
  ⟨h.os, h.tape, h.output, h.size, fun k hk => h.block k (by omega) (hS k hk)⟩
theorem But.mono (h : But S w w') (hS : ∀ k, k < w.heap.size → S k → S' k) : But S' w w' :=
  ⟨h.os, h.tape, h.output, h.size, fun k h1 h2 => h.block k h1 fun h3 => h2 (hS k h1 h3)⟩
theorem but_of_below (h : Below w.heap.size w w') : But S w w' := ⟨h.os, h.tape, h.output, h.size, fun k h1 _ => h.block k h1⟩
theorem Row.but {z n : Nat} {A : Option Addr} {xs : List Value} {B : Nat} (h : Row w B z A n xs) (hB : B ≤ w.heap.size) (k : But S w w') (hS : ∀ i, i < B → ¬ S i) : Row w' B z A n xs :=
  h.below (k.below hB hS) (Nat.le_refl _)
theorem Whole.but {b : Nat} {t : TypeId} {cs : Array Value} (h : Whole w b t cs) (k : But S w w') (hb : ¬ S b) : Whole w' b t cs := (k.block b h.lt hb).trans h
theorem turned_block {m g : Nat} (k : w.mapTurned w' m) (hg : g ≠ m) : w'.heap[g]? = w.heap[g]? := by
  obtain ⟨es, clock, es', clock', _, rfl⟩ := k
  exact ChangeMaps.heap_setBlock_other ‹_› _ hg
theorem turned_size {m : Nat} (k : w.mapTurned w' m) : w'.heap.size = w.heap.size := by
  obtain ⟨es, clock, es', clock', _, rfl⟩ := k
  simp [ChangeMaps.setBlock]
theorem Whole.turned {b m : Nat} {t : TypeId} {cs : Array Value} (h : Whole w b t cs) (k : w.mapTurned w' m) (hb : b ≠ m) : Whole w' b t cs := (turned_block k hb).trans h
end
end Go.Proofs.Yticnaljfnjiofaa
/-
  Plain words on a queue in memory: a ring, whose things go round, and what a push and a pop turn of it. Nothing here names the program.
-/
namespace Go.Proofs.Yticnaljfnjiofaa
open Go.RowKit

/-- The same world, but for how often an order was drawn. -/
def Like (w' w : World) : Prop := w'.heap = w.heap ∧ w'.os = w.os ∧ w'.tape = w.tape ∧ w'.output = w.output

/-- Nothing that was is turned but the blocks g and r; nothing is made. -/
structure Two (g r : Nat) (w w' : World) : Prop where
  os : w'.os = w.os
  tape : w'.tape = w.tape
  output : w'.output = w.output
  size : w'.heap.size = w.heap.size
  block : ∀ k, k ≠ g → k ≠ r → w'.heap[k]? = w.heap[k]?

section
variable {g r : Nat} {w w' w'' : World}
theorem Two.refl (g r : Nat) (w : World) : Two g r w w := ⟨rfl, rfl, rfl, rfl, fun _ _ _ => rfl⟩
theorem Two.drewN (h : Two g r w w') (m : Nat) : Two g r w (w'.drewN m) := ⟨h.os, h.tape, h.output, h.size, h.block⟩
theorem Two.drew (h : Two g r w w') : Two g r w w'.drew := ⟨h.os, h.tape, h.output, h.size, h.block⟩
theorem Two.set (h : Two g r w w') {p : Addr} (hp : p.block = g ∨ p.block = r) (u : Value) : Two g r w (w'.setCell p u) :=
  ⟨h.os, h.tape, h.output, by simpa using h.size, fun k h1 h2 => (Below.heap_setCell _ _ _ _ (by omega)).trans (h.block k h1 h2)⟩
theorem Two.trans (h : Two g r w w') (k : Two g r w' w'') : Two g r w w'' :=
  ⟨k.os.trans h.os, k.tape.trans h.tape, k.output.trans h.output, k.size.trans h.size, fun i h1 h2 => (k.block i h1 h2).trans (h.block i h1 h2)⟩
theorem Two.below (h : Two g r w w') {B : Nat} (hg : B ≤ g) (hr : B ≤ r) : Below B w w' :=
  ⟨h.os, h.tape, h.output, Nat.le_of_eq h.size.symm, fun k hk => h.block k (by omega) (by omega)⟩
theorem Row.two {B z n : Nat} {A : Option Addr} {xs : List Value} (h : Row w B z A n xs) (k : Two g r w w') (hg : B ≤ g) (hr : B ≤ r) : Row w' B z A n xs :=
  h.below (k.below hg hr) (Nat.le_refl _)
theorem Whole.two {b : Nat} {t : TypeId} {cs : Array Value} (h : Whole w b t cs) (k : Two g r w w') (hg : b ≠ g) (hr : b ≠ r) : Whole w' b t cs := (k.block b hg hr).trans h
end

theorem Two.like {g r : Nat} {w w1 w' : World} (h : Two g r w w1) (k : Like w' w1) : Two g r w w' := by
  obtain ⟨k1, k2, k3, k4⟩ := k
  exact ⟨k2.trans h.os, k3.trans h.tape, k4.trans h.output, by rw [k1]; exact h.size, fun i h1 h2 => by rw [k1]; exact h.block i h1 h2⟩
theorem Whole.like {w w' : World} {g : Nat} {t : TypeId} {cs : Array Value} (h : Whole w g t cs) (k : Like w' w) : Whole w' g t cs := by
  unfold Whole at *
  rw [k.1]; exact h

/-- The things l go round in the cells cs, the first one at f. -/
def Ring (cs : Array Value) (room f : Nat) (l : List Value) : Prop :=
  cs.size = room ∧ f < room ∧ l.length ≤ room ∧ ∀ j v, l[j]? = some v → cs[(f + j) % room]? = some v

theorem mod_ne {f room i j : Nat} (hi : i < room) (hj : j < room) (hne : i ≠ j) : (f + i) % room ≠ (f + j) % room := by
  intro h
  have hr : 0 < room := by omega
  have h1 := Nat.div_add_mod (f + i) room
  have h2 := Nat.div_add_mod (f + j) room
  rcases Nat.lt_trichotomy ((f + i) / room) ((f + j) / room) with h3 | h3 | h3
  · have : room * ((f + i) / room) + room ≤ room * ((f + j) / room) := by
      rw [← Nat.mul_succ]; exact Nat.mul_le_mul_left _ h3
    omega
  · rw [h3] at h1; omega
  · have : room * ((f + j) / room) + room ≤ room * ((f + i) / room) := by
      rw [← Nat.mul_succ]; exact Nat.mul_le_mul_left _ h3
    omega

section
variable {cs : Array Value} {room f : Nat} {l : List Value}
theorem Ring.push (h : Ring cs room f l) (hn : l.length < room) (x : Value) {p : Nat} (hp : (f + l.length) % room = p) : Ring (cs.setIfInBounds p x) room f (l ++ [x]) := by
  obtain ⟨h1, h2, h3, h4⟩ := h
  have hpr : p < room := by rw [← hp]; exact Nat.mod_lt _ (by omega)
  refine ⟨by simpa using h1, h2, by simp; omega, fun j v hj => ?_⟩
  rcases Nat.lt_or_ge j l.length with hlt | hge
  · rw [List.getElem?_append_left hlt] at hj
    have hne : p ≠ (f + j) % room := by rw [← hp]; exact mod_ne (by omega) (by omega) (by omega)
    rw [Array.getElem?_setIfInBounds_ne hne]
    exact h4 j v hj
  · have : j = l.length := by have := (List.getElem?_eq_some_iff.1 hj).1; simp at this; omega
    subst this
    simp at hj
    subst hj
    rw [hp]
    simp [h1, hpr]
theorem Ring.pop {x z : Value} (h : Ring cs room f (x :: l)) {p : Nat} (hp : (f + 1) % room = p) : Ring (cs.setIfInBounds f z) room p l := by
  obtain ⟨h1, h2, h3, h4⟩ := h
  simp at h3
  have hpr : p < room := by rw [← hp]; exact Nat.mod_lt _ (by omega)
  refine ⟨by simpa using h1, hpr, by omega, fun j v hj => ?_⟩
  have hlt := (List.getElem?_eq_some_iff.1 hj).1
  have e : (p + j) % room = (f + (j + 1)) % room := by rw [← hp, Nat.mod_add_mod]; congr 1; omega
  rw [e]
  have hne : f ≠ (f + (j + 1)) % room := by
    have := @mod_ne f room 0 (j + 1) (by omega) (by omega) (by omega)
    rwa [Nat.add_zero, Nat.mod_eq_of_lt h2] at this
  rw [Array.getElem?_setIfInBounds_ne hne]
  exact h4 (j + 1) v (by simpa using hj)
theorem Ring.head {x : Value} (h : Ring cs room f (x :: l)) : cs[f]? = some x := by
  have := h.2.2.2 0 x rfl
  rwa [Nat.add_zero, Nat.mod_eq_of_lt h.2.1] at this
theorem Ring.fits (h : Ring cs room f l) : l.length ≤ room := h.2.2.1
theorem Ring.mk0 (room : Nat) (h : 1 ≤ room) (z : Value) : Ring (Array.replicate room z) room 0 [] := ⟨by simp, by omega, by simp, by simp⟩
end

/-- Block g is a queue (of type ts) whose ring (of elements of type te) is block r, and whose things are l. -/
def QAt (ts te : TypeId) (w : World) (g r room : Nat) (l : List Value) : Prop :=
  ∃ f n cs, n = l.length ∧ Whole w g ts #[.slice (some ⟨r, 0, none⟩) room room, .int .i64 (f : Nat), .int .i64 (n : Nat)] ∧ Whole w r te cs ∧ Ring cs room f l ∧ 1 ≤ room ∧ room ≤ 4096

section
variable {ts te : TypeId} {w w' : World} {g r room : Nat} {l : List Value}
theorem QAt.ne (h : QAt ts te w g r room l) (ht : ts ≠ te) : g ≠ r := by
  obtain ⟨f, n, cs, _, h1, h2, _⟩ := h
  intro e
  subst e
  have h1' : w.heap[g]? = some (.cells #[.slice (some ⟨g, 0, none⟩) room room, .int .i64 (f : Nat), .int .i64 (n : Nat)] ts (0, 0)) := h1
  have h2' : w.heap[g]? = some (.cells cs te (0, 0)) := h2
  rw [h1'] at h2'
  injection h2' with h2'
  injection h2' with _ e
  exact ht e
theorem QAt.lt (h : QAt ts te w g r room l) : g < w.heap.size ∧ r < w.heap.size := by
  obtain ⟨f, n, cs, _, h1, h2, _⟩ := h
  exact ⟨h1.lt, h2.lt⟩
theorem QAt.len (h : QAt ts te w g r room l) : l.length ≤ room ∧ 1 ≤ room ∧ room ≤ 4096 := by
  obtain ⟨f, n, cs, _, _, _, h3, h4⟩ := h
  exact ⟨h3.fits, h4⟩
theorem QAt.below (h : QAt ts te w g r room l) {b : Nat} (hb : Below b w w') (hg : g < b) (hr : r < b) : QAt ts te w' g r room l := by
  obtain ⟨f, n, cs, h0, h1, h2, h3⟩ := h
  exact ⟨f, n, cs, h0, h1.below hb hg, h2.below hb hr, h3⟩
theorem QAt.next (h : QAt ts te w g r room l) (hb : Below w.heap.size w w') : QAt ts te w' g r room l := h.below hb h.lt.1 h.lt.2
theorem QAt.two {g' r' : Nat} (h : QAt ts te w g r room l) (k : Two g' r' w w') (h1 : g ≠ g') (h2 : g ≠ r') (h3 : r ≠ g') (h4 : r ≠ r') : QAt ts te w' g r room l := by
  obtain ⟨f, n, cs, h0, a, b, h5⟩ := h
  exact ⟨f, n, cs, h0, a.two k h1 h2, b.two k h3 h4, h5⟩
theorem QAt.drewN (h : QAt ts te w g r room l) (m : Nat) : QAt ts te (w.drewN m) g r room l := h
theorem QAt.far (h : QAt ts te w g r room l) {p : Addr} (h1 : g ≠ p.block) (h2 : r ≠ p.block) (u : Value) : QAt ts te (w.setCell p u) g r room l := by
  obtain ⟨f, n, cs, h0, a, b, h5⟩ := h
  exact ⟨f, n, cs, h0, a.far h1 u, b.far h2 u, h5⟩
theorem QAt.alloc (h : QAt ts te w g r room l) (o : Obj) : QAt ts te (w.alloc o) g r room l := by
  obtain ⟨f, n, cs, h0, a, b, h5⟩ := h
  exact ⟨f, n, cs, h0, a.alloc o, b.alloc o, h5⟩
theorem QAt.grown {row : Option Nat} (h : QAt ts te w g r room l) (hg : w.grownBy w' row) (h1 : some g ≠ row) (h2 : some r ≠ row) : QAt ts te w' g r room l := by
  obtain ⟨f, n, cs, h0, a, b, h5⟩ := h
  exact ⟨f, n, cs, h0, a.grown hg h1, b.grown hg h2, h5⟩
end

section
variable {w w' : World} {base : Nat} {e : TypeId} {z n : Nat} {v : Value} {xs : List Value}
theorem own_two {g r : Nat} (h : w.ownsRow base e z v n xs) (k : Two g r w w') (hg : g < base) (hr : r < base) : w'.ownsRow base e z v n xs := by
  refine ⟨h.1, h.2.imp id fun ⟨q, cap, cur, h1, h2, h3, h4⟩ => ⟨q, cap, cur, h1, h2, ?_, h4⟩⟩
  rw [k.block q (by omega) (by omega)]
  exact h3
end

/-- Two rows of the call's own lie apart. -/
def Apart (v u : Value) : Prop := ∀ q, v.ownBlock = some q → u.ownBlock ≠ some q
theorem Apart.symm {v u : Value} (h : Apart v u) : Apart u v := fun q hq hv => h q hv hq
theorem Apart.none (v : Value) : Apart v (.slice none 0 0) := fun q _ h => by simp [Value.ownBlock] at h
theorem Apart.or {v u : Value} (h : Apart v u) : v.ownBlock = .none ∨ v.ownBlock ≠ u.ownBlock := by
  cases e : v.ownBlock with
  | none => exact .inl rfl
  | some q => exact .inr fun h' => h q e h'.symm
theorem Apart.grown {v v' u : Value} {w : World} {base : Nat} {e : TypeId} {z n : Nat} {xs : List Value} (h : Apart v u) (hv : v'.ownBlock = v.ownBlock ∨ v'.ownBlock = some w.heap.size) (hu : w.ownsRow base e z u n xs) : Apart v' u := by
  intro q hq hq'
  rcases hv with hv | hv
  · exact h q (by rw [← hv, hq]) hq'
  · rw [hq] at hv
    injection hv with hv
    have := (hu.lt q hq').2
    omega
end Go.Proofs.Yticnaljfnjiofaa
