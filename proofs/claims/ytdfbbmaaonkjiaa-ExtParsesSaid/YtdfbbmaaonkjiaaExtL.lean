/-
  Plain words on extensions of packets: items, what is put of them, and what is parsed of bytes. Nothing here names the program.
-/
import Derived.Test.YtdfbbmaaonkjiaaWords
namespace Go.Proofs.Ytdfbbmaaonkjiaa

/-- An item. -/
structure It where
  id : UInt8
  d : List UInt8

/-- It may be of neither kind. -/
def It.wrong (i : It) : Bool := decide (i.id.toNat = 0 ∨ 255 < i.d.length)
/-- It may be no short one. -/
def It.big (i : It) : Bool := decide (14 < i.id.toNat ∨ i.d.length < 1 ∨ 16 < i.d.length)

/-- What stands ahead of its data. -/
def hdS (i : It) : List UInt8 := [UInt8.ofNat (i.id.toNat * 16 + (i.d.length - 1))]
def hdL (i : It) : List UInt8 := [i.id, UInt8.ofNat i.d.length]
/-- Items, each behind its head. -/
def enc (h : It → List UInt8) (l : List It) : List UInt8 := l.flatMap fun i => h i ++ i.d
/-- Noughts up to a multiple of four. -/
def padN (n : Nat) : Nat := (4 - n % 4) % 4
def pad (b : List UInt8) : List UInt8 := b ++ List.replicate (padN b.length) 0
def putE (l : List It) : Int := if 14 < l.length then 13 else if l.any It.wrong then 1 else 0
def putP (l : List It) : Int := if putE l ≠ 0 then 0 else if l.any It.big then 4096 else 48862
def putB (l : List It) : List UInt8 := if putE l ≠ 0 then [] else if l.any It.big then pad (enc hdL l) else pad (enc hdS l)

/-- What stands at a first byte that is no nought: the end, something wrong, or an item and what is behind it. -/
inductive Nx where
  | stop
  | bad (e : Int)
  | item (i : It) (rest : List UInt8)
def nxS (f : UInt8) (r : List UInt8) : Nx :=
  if f.toNat / 16 = 0 then .bad 11 else if f.toNat / 16 = 15 then .stop else
  if r.length < f.toNat % 16 + 1 then .bad 10 else .item ⟨UInt8.ofNat (f.toNat / 16), r.take (f.toNat % 16 + 1)⟩ (r.drop (f.toNat % 16 + 1))
def nxL (f : UInt8) (r : List UInt8) : Nx :=
  match r with
  | [] => .bad 10
  | n :: r => if r.length < n.toNat then .bad 10 else .item ⟨f, r.take n.toNat⟩ (r.drop n.toNat)
/-- Nothing grows. -/
def Shr (nx : UInt8 → List UInt8 → Nx) : Prop := ∀ f r i r', nx f r = .item i r' → r'.length ≤ r.length ∧ i.d.length ≤ r.length
theorem nxS_shr : Shr nxS := by
  intro f r i r' h
  unfold nxS at h
  split at h
  · cases h
  split at h
  · cases h
  split at h
  · cases h
  injection h with h1 h2
  subst h1 h2
  simp
  omega
theorem nxL_shr : Shr nxL := by
  intro f r i r' h
  unfold nxL at h
  split at h
  · cases h
  split at h
  · cases h
  injection h with h1 h2
  subst h1 h2
  simp
  omega

/-- The items of bytes behind acc, and the error; n: no fewer than there are bytes. -/
def prF (nx : UInt8 → List UInt8 → Nx) : Nat → List It → List UInt8 → List It × Int
  | 0, acc, _ => (acc, 0)
  | _ + 1, acc, [] => (acc, 0)
  | n + 1, acc, f :: r => if f = 0 then prF nx n acc r else
    match nx f r with
    | .stop => (acc, 0)
    | .bad e => ([], e)
    | .item i r' => if acc.length = 14 then ([], 13) else prF nx n (acc ++ [i]) r'
def pr (nx : UInt8 → List UInt8 → Nx) (acc : List It) (b : List UInt8) : List It × Int := prF nx b.length acc b

section
variable {nx : UInt8 → List UInt8 → Nx} {acc : List It} {f : UInt8} {r r' : List UInt8} {i : It} {e : Int}
theorem prF_any (hs : Shr nx) : ∀ (n : Nat) (acc : List It) (b : List UInt8), b.length ≤ n → prF nx n acc b = pr nx acc b := by
  have key : ∀ (n m : Nat) (acc : List It) (b : List UInt8), b.length ≤ n → b.length ≤ m → prF nx n acc b = prF nx m acc b := by
    intro n
    induction n with
    | zero =>
      intro m acc b h _
      obtain rfl : b = [] := List.eq_nil_of_length_eq_zero (by omega)
      cases m <;> rfl
    | succ n ih =>
      intro m acc b h1 h2
      cases b with
      | nil => cases m <;> rfl
      | cons f r =>
        obtain ⟨m, rfl⟩ : ∃ k, m = k + 1 := ⟨m - 1, by simp at h2; omega⟩
        simp only [List.length_cons] at h1 h2
        unfold prF
        split
        · exact ih m acc r (by omega) (by omega)
        · cases hn : nx f r with
          | stop => rfl
          | bad e => rfl
          | item i r' =>
            have := (hs f r i r' hn).1
            simp only
            split
            · rfl
            · exact ih m _ r' (by omega) (by omega)
  intro n acc b h
  exact key n b.length acc b h (Nat.le_refl _)
theorem pr_nil : pr nx acc [] = (acc, 0) := rfl
theorem pr_zero (hs : Shr nx) : pr nx acc (0 :: r) = pr nx acc r := by
  show prF nx (r.length + 1) acc (0 :: r) = _
  unfold prF
  rw [if_pos rfl, prF_any hs _ _ _ (Nat.le_refl _)]
theorem pr_stop (hf : f ≠ 0) (h : nx f r = .stop) : pr nx acc (f :: r) = (acc, 0) := by
  show prF nx (r.length + 1) acc (f :: r) = _
  unfold prF
  rw [if_neg hf, h]
theorem pr_bad (hf : f ≠ 0) (h : nx f r = .bad e) : pr nx acc (f :: r) = ([], e) := by
  show prF nx (r.length + 1) acc (f :: r) = _
  unfold prF
  rw [if_neg hf, h]
theorem pr_full (hf : f ≠ 0) (h : nx f r = .item i r') (ha : acc.length = 14) : pr nx acc (f :: r) = ([], 13) := by
  show prF nx (r.length + 1) acc (f :: r) = _
  unfold prF
  rw [if_neg hf, h]
  simp [ha]
theorem pr_item (hs : Shr nx) (hf : f ≠ 0) (h : nx f r = .item i r') (ha : acc.length ≠ 14) : pr nx acc (f :: r) = pr nx (acc ++ [i]) r' := by
  show prF nx (r.length + 1) acc (f :: r) = _
  unfold prF
  rw [if_neg hf, h]
  simp only [ha, if_false]
  exact prF_any hs _ _ _ (hs f r i r' h).1
theorem pr_zeros (hs : Shr nx) (k : Nat) : pr nx acc (List.replicate k 0 ++ r) = pr nx acc r := by
  induction k with
  | zero => rfl
  | succ k ih => rw [List.replicate_succ, List.cons_append, pr_zero hs, ih]
end

/-! ### Facts of items -/
theorem It.wrong_no {i : It} (h : i.wrong = false) : i.id.toNat ≠ 0 ∧ i.d.length ≤ 255 := by
  unfold It.wrong at h
  simp at h
  refine ⟨fun e => h.1 (by simpa using e), h.2⟩
theorem It.big_no {i : It} (h : i.big = false) : i.id.toNat ≤ 14 ∧ 1 ≤ i.d.length ∧ i.d.length ≤ 16 := by
  unfold It.big at h
  rw [decide_eq_false_iff_not] at h
  omega
theorem nxS_it {i : It} (h : i.wrong = false) (hb : i.big = false) (r : List UInt8) : ∃ f, hdS i = [f] ∧ f ≠ 0 ∧ nxS f (i.d ++ r) = .item i r := by
  obtain ⟨h0, h1⟩ := It.wrong_no h
  obtain ⟨h2, h3, h4⟩ := It.big_no hb
  have e : (UInt8.ofNat (i.id.toNat * 16 + (i.d.length - 1))).toNat = i.id.toNat * 16 + (i.d.length - 1) := by rw [UInt8.toNat_ofNat']; omega
  refine ⟨_, rfl, fun e0 => ?_, ?_⟩
  · rw [e0] at e
    simp at e
    omega
  · unfold nxS
    rw [e, if_neg (by omega), if_neg (by omega), if_neg (by simp; omega)]
    have d1 : (i.id.toNat * 16 + (i.d.length - 1)) / 16 = i.id.toNat := by omega
    have d2 : (i.id.toNat * 16 + (i.d.length - 1)) % 16 + 1 = i.d.length := by omega
    rw [d1, d2]
    simp
theorem nxL_it {i : It} (h : i.wrong = false) (r : List UInt8) : ∃ n, hdL i = [i.id, n] ∧ i.id ≠ 0 ∧ nxL i.id (n :: (i.d ++ r)) = .item i r := by
  obtain ⟨h0, h1⟩ := It.wrong_no h
  have e : (UInt8.ofNat i.d.length).toNat = i.d.length := by rw [UInt8.toNat_ofNat']; omega
  refine ⟨_, rfl, fun e0 => h0 (by rw [e0]; rfl), ?_⟩
  unfold nxL
  simp only [e]
  rw [if_neg (by simp)]
  simp
theorem enc_cons (h : It → List UInt8) (i : It) (l : List It) : enc h (i :: l) = h i ++ (i.d ++ enc h l) := by simp [enc]
theorem enc_snoc (h : It → List UInt8) (l : List It) (i : It) : enc h (l ++ [i]) = enc h l ++ (h i ++ i.d) := by simp [enc]
theorem enc_take (h : It → List UInt8) (l : List It) (k : Nat) (hk : k < l.length) : enc h (l.take (k + 1)) = enc h (l.take k) ++ (h l[k] ++ l[k].d) := by
  rw [List.take_succ_eq_append_getElem hk, enc_snoc]
/-- What is put is parsed as it was. -/
theorem prS_enc : ∀ (l acc : List It) (r : List UInt8), (∀ i ∈ l, i.wrong = false ∧ i.big = false) → acc.length + l.length ≤ 14 → pr nxS acc (enc hdS l ++ r) = pr nxS (acc ++ l) r
  | [], acc, r, _, _ => by simp [enc]
  | i :: l, acc, r, h, hl => by
    obtain ⟨hw, hb⟩ := h i (by simp)
    obtain ⟨f, e1, e2, e3⟩ := nxS_it hw hb (enc hdS l ++ r)
    simp only [List.length_cons] at hl
    rw [enc_cons, e1, List.append_assoc, List.append_assoc, List.singleton_append, pr_item nxS_shr e2 e3 (by omega), prS_enc l _ r (fun x hx => h x (by simp [hx])) (by simp; omega)]
    simp
theorem prL_enc : ∀ (l acc : List It) (r : List UInt8), (∀ i ∈ l, i.wrong = false) → acc.length + l.length ≤ 14 → pr nxL acc (enc hdL l ++ r) = pr nxL (acc ++ l) r
  | [], acc, r, _, _ => by simp [enc]
  | i :: l, acc, r, h, hl => by
    obtain ⟨n, e1, e2, e3⟩ := nxL_it (h i (by simp)) (enc hdL l ++ r)
    simp only [List.length_cons] at hl
    rw [enc_cons, e1, List.append_assoc, List.append_assoc, List.cons_append, List.singleton_append, pr_item nxL_shr e2 e3 (by omega), prL_enc l _ r (fun x hx => h x (by simp [hx])) (by simp; omega)]
    simp
theorem any_wrong {l : List It} (h : putE l = 0) : l.length ≤ 14 ∧ ∀ i ∈ l, i.wrong = false := by
  unfold putE at h
  split at h
  · cases h
  · split at h
    · cases h
    · rename_i h1 h2
      refine ⟨by omega, fun i hi => ?_⟩
      cases hw : i.wrong with
      | false => rfl
      | true => exact absurd (List.any_eq_true.2 ⟨i, hi, hw⟩) h2
theorem enc_len (h : It → List UInt8) (n m : Nat) (hh : ∀ i, (h i).length = n) : ∀ (l : List It), (∀ i ∈ l, i.d.length ≤ m) → (enc h l).length ≤ l.length * (n + m)
  | [], _ => by simp [enc]
  | i :: l, hl => by
    have := enc_len h n m hh l (fun x hx => hl x (by simp [hx]))
    have h1 := hl i (by simp)
    rw [enc_cons]
    simp only [List.length_append, List.length_cons, hh, Nat.add_mul, Nat.one_mul]
    omega
theorem hdS_len (i : It) : (hdS i).length = 1 := rfl
theorem hdL_len (i : It) : (hdL i).length = 2 := rfl
theorem pad_len (b : List UInt8) : (pad b).length = (b.length + 3) / 4 * 4 := by simp [pad, padN]; omega
theorem pad_mod (b : List UInt8) : (pad b).length % 4 = 0 := by rw [pad_len]; omega
theorem putB_no {l : List It} (h : putE l ≠ 0) : putB l = [] := by unfold putB; rw [if_pos h]
theorem putP_no {l : List It} (h : putE l ≠ 0) : putP l = 0 := by unfold putP; rw [if_pos h]
theorem putB_big {l : List It} (h : putE l = 0) (hb : l.any It.big = true) : putB l = pad (enc hdL l) := by unfold putB; rw [if_neg (by simp [h]), if_pos hb]
theorem putB_small {l : List It} (h : putE l = 0) (hb : l.any It.big = false) : putB l = pad (enc hdS l) := by unfold putB; rw [if_neg (by simp [h]), if_neg (by simp [hb])]
theorem putP_big {l : List It} (h : putE l = 0) (hb : l.any It.big = true) : putP l = 4096 := by unfold putP; rw [if_neg (by simp [h]), if_pos hb]
theorem putP_small {l : List It} (h : putE l = 0) (hb : l.any It.big = false) : putP l = 48862 := by unfold putP; rw [if_neg (by simp [h]), if_neg (by simp [hb])]
theorem any_big {l : List It} (h : l.any It.big = false) : ∀ i ∈ l, i.big = false := by
  intro i hi
  cases hw : i.big with
  | false => rfl
  | true => rw [List.any_eq_true.2 ⟨i, hi, hw⟩] at h; cases h

theorem pad_step (bs : List UInt8) (m : Nat) (hm : m < padN bs.length) : ¬ (bs ++ List.replicate m (0 : UInt8)).length % 4 = 0 := by
  unfold padN at hm
  simp
  omega
theorem pad_done (bs : List UInt8) (m : Nat) (hm : m ≤ padN bs.length) (h : ¬ m < padN bs.length) : (bs ++ List.replicate m (0 : UInt8)).length % 4 = 0 ∧ bs ++ List.replicate m 0 = pad bs := by
  obtain rfl : m = padN bs.length := by omega
  refine ⟨?_, rfl⟩
  unfold padN
  simp
  omega
/-- What Parse comes to. -/
def parseL (p : Int) (b : List UInt8) : List It × Int := if p = 48862 then pr nxS [] b else if 4096 ≤ p ∧ p ≤ 4111 then pr nxL [] b else ([], 0)
end Go.Proofs.Ytdfbbmaaonkjiaa
