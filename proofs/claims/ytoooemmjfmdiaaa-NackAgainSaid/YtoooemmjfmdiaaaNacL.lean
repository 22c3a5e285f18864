/-
  Packets that are asked for again, as plain functions: what a pair lists, what packets are packed to; what the laws of layer 8 say of them. Nothing here names the program.
-/
import Derived.Test.YtoooemmjfmdiaaaWords
namespace Go.Proofs.Ytoooemmjfmdiaaa

/-- The packets behind p, of the bits of a mask from k on, n of them. -/
def aft (p m : Nat) : Nat → Nat → List Nat
  | _, 0 => []
  | k, n + 1 => if m.testBit k then (p + k + 1) % 65536 :: aft p m (k + 1) n else aft p m (k + 1) n
/-- What a pair lists. -/
def listP (p m : Nat) : List Nat := p :: aft p m 0 16
def listS (l : List (Nat × Nat)) : List Nat := l.flatMap fun x => listP x.1 x.2
/-- How far behind p is x? -/
def farN (p x : Nat) : Nat := (x + 65536 - p) % 65536
/-- A mask with one bit more. -/
def setb (m k : Nat) : Nat := m ||| 2 ^ k
/-- What is packed, behind a pair that is being filled. -/
def packC (p m : Nat) : List Nat → List (Nat × Nat)
  | [] => [(p, m)]
  | x :: r => if 16 < farN p x then (p, m) :: packC x 0 r else if farN p x = 0 then packC p m r else packC p (setb m (farN p x - 1)) r
def packS : List Nat → List (Nat × Nat)
  | [] => []
  | x :: r => packC x 0 r

theorem listS_append (a b : List (Nat × Nat)) : listS (a ++ b) = listS a ++ listS b := by simp [listS]
theorem listS_cons (p m : Nat) (l : List (Nat × Nat)) : listS ((p, m) :: l) = listP p m ++ listS l := by simp [listS]

/-! ### Bits -/
theorem setb_add {m k : Nat} (h : m.testBit k = false) : m + 2 ^ k = setb m k := by
  unfold setb
  have h1 := Nat.mod_pow_succ (b := 2) (k := k) (x := m)
  have h2 := Nat.testBit_eq_decide_div_mod_eq (x := m) (i := k)
  rw [h] at h2
  have h3 := of_decide_eq_false h2.symm
  rw [show m / 2 ^ k % 2 = 0 by omega, Nat.mul_zero, Nat.add_zero] at h1
  have hb : m % 2 ^ (k + 1) < 2 ^ k := by rw [h1]; exact Nat.mod_lt _ (Nat.two_pow_pos k)
  have hm : m = 2 ^ (k + 1) * (m / 2 ^ (k + 1)) + m % 2 ^ (k + 1) := (Nat.div_add_mod _ _).symm
  generalize m / 2 ^ (k + 1) = a at hm
  generalize m % 2 ^ (k + 1) = b at hm hb
  have e1 := Nat.two_pow_add_eq_or_of_lt hb 1
  have hb2 : 2 ^ k * 1 + b < 2 ^ (k + 1) := by rw [Nat.pow_succ]; omega
  have e2 := Nat.two_pow_add_eq_or_of_lt hb2 a
  have e3 := Nat.two_pow_add_eq_or_of_lt (show b < 2 ^ (k + 1) by rw [Nat.pow_succ]; omega) a
  rw [hm, show 2 ^ (k + 1) * a + b + 2 ^ k = 2 ^ (k + 1) * a + (2 ^ k * 1 + b) by omega, e2, e1, e3, Nat.mul_one, Nat.or_assoc, Nat.or_comm b]
theorem setb_same {m k : Nat} (h : m.testBit k = true) : setb m k = m := by
  unfold setb
  apply Nat.eq_of_testBit_eq
  intro i
  rw [Nat.testBit_or, Nat.testBit_two_pow]
  by_cases hi : k = i
  · subst hi; simp [h]
  · simp [hi]
theorem setb_lt {m k : Nat} (h : m < 65536) (hk : k < 16) : setb m k < 65536 :=
  Nat.or_lt_two_pow (n := 16) h (Nat.pow_lt_pow_right (by decide) hk)
theorem setb_bit (m k i : Nat) : (setb m k).testBit i = (m.testBit i || decide (k = i)) := by
  unfold setb
  rw [Nat.testBit_or, Nat.testBit_two_pow]
theorem farN_lt (p x : Nat) : farN p x < 65536 := Nat.mod_lt _ (by decide)
theorem farN_back {p x : Nat} (hp : p < 65536) (hx : x < 65536) : (p + farN p x) % 65536 = x := by
  unfold farN
  omega
theorem farN_zero {p x : Nat} (hp : p < 65536) (hx : x < 65536) (h : farN p x = 0) : x = p := by
  have := farN_back hp hx
  rw [h] at this
  omega

/-! ### What is listed -/
theorem mem_aft (p m y : Nat) : ∀ (n k : Nat), y ∈ aft p m k n ↔ ∃ j, k ≤ j ∧ j < k + n ∧ m.testBit j = true ∧ y = (p + j + 1) % 65536
  | 0, k => by
    simp only [aft, List.not_mem_nil, false_iff]
    rintro ⟨j, h1, h2, _⟩
    omega
  | n + 1, k => by
    have ih := mem_aft p m y n (k + 1)
    unfold aft
    split
    · rename_i hb
      rw [List.mem_cons, ih]
      constructor
      · rintro (h | ⟨j, h1, h2, h3, h4⟩)
        · exact ⟨k, Nat.le_refl _, by omega, hb, h⟩
        · exact ⟨j, by omega, by omega, h3, h4⟩
      · rintro ⟨j, h1, h2, h3, h4⟩
        by_cases hj : j = k
        · subst hj; exact .inl h4
        · exact .inr ⟨j, by omega, by omega, h3, h4⟩
    · rename_i hb
      rw [ih]
      constructor
      · rintro ⟨j, h1, h2, h3, h4⟩
        exact ⟨j, by omega, by omega, h3, h4⟩
      · rintro ⟨j, h1, h2, h3, h4⟩
        by_cases hj : j = k
        · subst hj; exact absurd h3 hb
        · exact ⟨j, by omega, by omega, h3, h4⟩
theorem mem_listP (p m y : Nat) : y ∈ listP p m ↔ y = p ∨ ∃ j, j < 16 ∧ m.testBit j = true ∧ y = (p + j + 1) % 65536 := by
  unfold listP
  rw [List.mem_cons, mem_aft]
  constructor
  · rintro (h | ⟨j, _, h2, h3, h4⟩)
    · exact .inl h
    · exact .inr ⟨j, by omega, h3, h4⟩
  · rintro (h | ⟨j, h2, h3, h4⟩)
    · exact .inl h
    · exact .inr ⟨j, by omega, by omega, h3, h4⟩
theorem mem_setb (p m x y : Nat) (hp : p < 65536) (hx : x < 65536) (h0 : farN p x ≠ 0) (h16 : farN p x ≤ 16) : y ∈ listP p (setb m (farN p x - 1)) ↔ y ∈ listP p m ∨ y = x := by
  have hxb := farN_back hp hx
  rw [mem_listP, mem_listP]
  constructor
  · rintro (h | ⟨j, h1, h2, h3⟩)
    · exact .inl (.inl h)
    · rw [setb_bit] at h2
      by_cases hj : farN p x - 1 = j
      · right; rw [h3, ← hj, show p + (farN p x - 1) + 1 = p + farN p x by omega, hxb]
      · exact .inl (.inr ⟨j, h1, by simpa [hj] using h2, h3⟩)
  · rintro ((h | ⟨j, h1, h2, h3⟩) | h)
    · exact .inl h
    · exact .inr ⟨j, h1, by rw [setb_bit, h2]; rfl, h3⟩
    · exact .inr ⟨farN p x - 1, by omega, by rw [setb_bit]; simp, by rw [h, show p + (farN p x - 1) + 1 = p + farN p x by omega, hxb]⟩
/-- Whatever is packed asks for just these. -/
theorem mem_packC (y : Nat) : ∀ (r : List Nat) (p m : Nat), p < 65536 → (∀ x ∈ r, x < 65536) → (y ∈ listS (packC p m r) ↔ y ∈ listP p m ∨ y ∈ r)
  | [], p, m, _, _ => by simp [packC, listS]
  | x :: r, p, m, hp, hr => by
    have hx := hr x (by simp)
    have hr' : ∀ z ∈ r, z < 65536 := fun z hz => hr z (by simp [hz])
    unfold packC
    split
    · rw [listS_cons, List.mem_append, mem_packC y r x 0 hx hr', List.mem_cons]
      have : y ∈ listP x 0 ↔ y = x := by rw [mem_listP]; simp
      rw [this]
    · split
      · rename_i h0
        rw [mem_packC y r p m hp hr', List.mem_cons, farN_zero hp hx h0]
        have : p ∈ listP p m := by unfold listP; simp
        constructor
        · rintro (h | h)
          · exact .inl h
          · exact .inr (.inr h)
        · rintro (h | h | h)
          · exact .inl h
          · subst h; exact .inl this
          · exact .inr h
      · rename_i h16 h0
        rw [mem_packC y r p _ hp hr', mem_setb p m x y hp hx h0 (by omega), List.mem_cons, or_assoc]
theorem mem_packS (l : List Nat) (hl : ∀ x ∈ l, x < 65536) (y : Nat) : y ∈ listS (packS l) ↔ y ∈ l := by
  cases l with
  | nil => simp [packS, listS]
  | cons x r =>
    unfold packS
    rw [mem_packC y r x 0 (hl x (by simp)) (fun z hz => hl z (by simp [hz])), List.mem_cons]
    have : y ∈ listP x 0 ↔ y = x := by rw [mem_listP]; simp
    rw [this]
theorem aft_lt (p m : Nat) : ∀ (n k : Nat), ∀ y ∈ aft p m k n, y < 65536 := fun n k y hy => by
  obtain ⟨j, _, _, _, rfl⟩ := (mem_aft p m y n k).1 hy
  exact Nat.mod_lt _ (by decide)
theorem listS_lt (l : List (Nat × Nat)) (hl : ∀ x ∈ l, x.1 < 65536) : ∀ y ∈ listS l, y < 65536 := by
  intro y hy
  obtain ⟨x, hx, hy⟩ := List.mem_flatMap.1 hy
  unfold listP at hy
  rcases List.mem_cons.1 hy with rfl | h
  · exact hl x hx
  · exact aft_lt _ _ _ _ _ h

/-! ### What is told twice on end -/
def twice : List Nat → List Nat
  | [] => []
  | x :: r => x :: x :: twice r
theorem farN_self (x : Nat) (_h : x < 65536) : farN x x = 0 := by unfold farN; omega
theorem packC_twice : ∀ (r : List Nat) (p m : Nat), p < 65536 → (∀ x ∈ r, x < 65536) → packC p m (twice r) = packC p m r
  | [], _, _, _, _ => rfl
  | x :: r, p, m, hp, hr => by
    have hx := hr x (by simp)
    have hr' : ∀ z ∈ r, z < 65536 := fun z hz => hr z (by simp [hz])
    show packC p m (x :: x :: twice r) = _
    rw [packC, packC.eq_2 p m x r]
    split
    · rename_i h16
      rw [packC, if_neg (by rw [farN_self x hx]; omega), if_pos (farN_self x hx), packC_twice r x 0 hx hr']
    · rename_i h16
      split
      · rename_i h0
        rw [packC, if_neg h16, if_pos h0, packC_twice r p m hp hr']
      · rename_i h0
        rw [packC, if_neg h16, if_neg h0, setb_same (by rw [setb_bit]; simp), packC_twice r p _ hp hr']
theorem packS_twice (l : List Nat) (hl : ∀ x ∈ l, x < 65536) : packS (twice l) = packS l := by
  cases l with
  | nil => rfl
  | cons x r =>
    have hx := hl x (by simp)
    show packC x 0 (x :: twice r) = packC x 0 r
    rw [packC, if_neg (by rw [farN_self x hx]; omega), if_pos (farN_self x hx), packC_twice r x 0 hx (fun z hz => hl z (by simp [hz]))]

/-! ### What rises by less than half of the way round -/
theorem aft_none (p m : Nat) : ∀ (n k : Nat), m < 2 ^ k → aft p m k n = []
  | 0, _, _ => rfl
  | n + 1, k, h => by
    unfold aft
    rw [Nat.testBit_lt_two_pow h, if_neg (by decide)]
    exact aft_none p m n (k + 1) (Nat.lt_of_lt_of_le h (Nat.pow_le_pow_right (by decide) (by omega)))
/-- One bit more, above all others. -/
theorem aft_set (p m j : Nat) (hm : m < 2 ^ j) : ∀ (n k : Nat), k ≤ j → j < k + n → aft p (setb m j) k n = aft p m k n ++ [(p + j + 1) % 65536]
  | 0, k, h1, h2 => by omega
  | n + 1, k, h1, h2 => by
    have hb := setb_bit m j k
    by_cases hk : j = k
    · subst hk
      unfold aft
      rw [hb, Nat.testBit_lt_two_pow hm, aft_none p m n (j + 1) (Nat.lt_of_lt_of_le hm (Nat.pow_le_pow_right (by decide) (by omega)))]
      have : setb m j < 2 ^ (j + 1) := Nat.or_lt_two_pow (Nat.lt_of_lt_of_le hm (Nat.pow_le_pow_right (by decide) (by omega))) (Nat.pow_lt_pow_right (by decide) (by omega))
      rw [aft_none p _ n (j + 1) this]
      simp
    · unfold aft
      rw [hb]
      rw [aft_set p m j hm n (k + 1) (by omega) (by omega)]
      simp only [hk, decide_false, Bool.or_false]
      split <;> simp
/-- Numbers, each some steps (1 to 256) behind the one ahead. -/
def risesN (now : Nat) : List Nat → List Nat
  | [] => []
  | s :: r => (now + s + 1) % 65536 :: risesN ((now + s + 1) % 65536) r
/-- How many pairs they want. -/
def pairsN (last now : Nat) : List Nat → Nat
  | [] => 1
  | s :: r => if 16 < farN last ((now + s + 1) % 65536) then pairsN ((now + s + 1) % 65536) ((now + s + 1) % 65536) r + 1 else pairsN last ((now + s + 1) % 65536) r
theorem pack_rises : ∀ (r : List Nat) (p m now f : Nat), p < 65536 → now < 65536 → (∀ s ∈ r, s < 256) → farN p now = f → f ≤ 16 → m < 2 ^ f →
    listS (packC p m (risesN now r)) = listP p m ++ risesN now r ∧ (packC p m (risesN now r)).length = pairsN p now r
  | [], p, m, now, f, _, _, _, _, _, _ => by simp [risesN, packC, listS, pairsN]
  | s :: r, p, m, now, f, hp, hn, hs, hf, h16, hm => by
    have hs0 := hs s (by simp)
    have hs' : ∀ z ∈ r, z < 256 := fun z hz => hs z (by simp [hz])
    obtain ⟨x, hx⟩ : ∃ x, x = (now + s + 1) % 65536 := ⟨_, rfl⟩
    have hx6 : x < 65536 := by omega
    have hfx : farN p x = f + s + 1 := by unfold farN at hf ⊢; omega
    unfold risesN pairsN
    rw [← hx]
    unfold packC
    rw [hfx]
    by_cases hbig : 16 < f + s + 1
    · rw [if_pos hbig, if_pos hbig]
      have ih := pack_rises r x 0 x 0 hx6 hx6 hs' (farN_self x hx6) (by omega) (by decide)
      rw [listS_cons, ih.1, List.length_cons, ih.2]
      refine ⟨?_, rfl⟩
      have : listP x 0 = [x] := by unfold listP; rw [aft_none x 0 16 0 (by decide)]
      rw [this]
      simp
    · rw [if_neg hbig, if_neg hbig, if_neg (by omega)]
      have hm2 : m < 2 ^ (f + s) := Nat.lt_of_lt_of_le hm (Nat.pow_le_pow_right (by decide) (by omega))
      have hsl : setb m (f + s) < 2 ^ (f + s + 1) := Nat.or_lt_two_pow (Nat.lt_of_lt_of_le hm2 (Nat.pow_le_pow_right (by decide) (by omega))) (Nat.pow_lt_pow_right (by decide) (by omega))
      have ih := pack_rises r p (setb m (f + s)) x (f + s + 1) hp hx6 hs' hfx (by omega) hsl
      rw [show f + s + 1 - 1 = f + s by omega, ih.1, ih.2]
      refine ⟨?_, rfl⟩
      unfold listP
      rw [aft_set p m (f + s) hm2 16 0 (by omega) (by omega)]
      have hb := farN_back hp hx6
      rw [hfx] at hb
      rw [show p + (f + s) + 1 = p + (f + s + 1) by omega, hb]
      simp

/-! ### The packets of one pair -/
theorem aft_steps (p m : Nat) (hp : p < 65536) : ∀ (n k i : Nat) (x : Nat), (aft p m k n)[i]? = some x → k + n ≤ 16 → k < farN p x ∧ farN p x ≤ k + n ∧ ∀ y, (aft p m k n)[i + 1]? = some y → farN p x < farN p y
  | 0, k, i, x, h, _ => by simp [aft] at h
  | n + 1, k, i, x, h, hk => by
    unfold aft at h ⊢
    split at h
    · rename_i hb
      rw [if_pos hb]
      have hfk : farN p ((p + k + 1) % 65536) = k + 1 := by unfold farN; omega
      cases i with
      | zero =>
        simp at h
        subst h
        rw [hfk]
        refine ⟨by omega, by omega, fun y hy => ?_⟩
        simp at hy
        exact (aft_steps p m hp n (k + 1) 0 y hy (by omega)).1
      | succ i =>
        simp only [List.getElem?_cons_succ] at h ⊢
        obtain ⟨h1, h2, h3⟩ := aft_steps p m hp n (k + 1) i x h (by omega)
        exact ⟨by omega, by omega, h3⟩
    · rename_i hb
      rw [if_neg hb]
      obtain ⟨h1, h2, h3⟩ := aft_steps p m hp n (k + 1) i x h (by omega)
      exact ⟨by omega, by omega, h3⟩
/-- How many bits are told, from k on, n of them. -/
def bitsN (m : Nat) : Nat → Nat → Nat
  | _, 0 => 0
  | k, n + 1 => m / 2 ^ k % 2 + bitsN m (k + 1) n
theorem aft_length (p m : Nat) : ∀ (n k : Nat), (aft p m k n).length = bitsN m k n
  | 0, _ => rfl
  | n + 1, k => by
    unfold aft bitsN
    have hb := Nat.testBit_eq_decide_div_mod_eq (x := m) (i := k)
    split
    · rename_i h
      rw [h] at hb
      have := of_decide_eq_true hb.symm
      rw [List.length_cons, aft_length p m n (k + 1), this]
      omega
    · rename_i h
      rw [Bool.not_eq_true] at h
      rw [h] at hb
      have := of_decide_eq_false hb.symm
      rw [aft_length p m n (k + 1)]
      omega
theorem aft_length_le (p m : Nat) : ∀ (n k : Nat), (aft p m k n).length ≤ n
  | 0, _ => Nat.le_refl _
  | n + 1, k => by
    have := aft_length_le p m n (k + 1)
    unfold aft
    split
    · simp; omega
    · omega
theorem listS_length (l : List (Nat × Nat)) : (listS l).length ≤ 17 * l.length := by
  induction l with
  | nil => simp [listS]
  | cons x l ih =>
    have := aft_length_le x.1 x.2 16 0
    rw [show x = (x.1, x.2) from rfl, listS_cons]
    simp [listP]
    omega
theorem packC_length : ∀ (r : List Nat) (p m : Nat), (packC p m r).length ≤ r.length + 1
  | [], _, _ => by simp [packC]
  | x :: r, p, m => by
    have h1 := packC_length r x 0
    have h2 := packC_length r p m
    have h3 := packC_length r p (setb m (farN p x - 1))
    unfold packC
    split
    · simp; omega
    · split <;> simp <;> omega
end Go.Proofs.Ytoooemmjfmdiaaa
