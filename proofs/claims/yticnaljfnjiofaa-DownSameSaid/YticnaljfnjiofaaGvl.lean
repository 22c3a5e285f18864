/-
  Several texts in one (VpL, VpP, VpR): what each of them says stands at its head.
-/
import Derived.Test.YticnaljfnjiofaaGoc
import Derived.Laws.BitsAllLaws
/-
  What stands ahead of frames' parts, as plain functions: a descriptor, its bytes, what any bytes begin with, other numbers in it. Nothing here names the program.
-/
namespace Go.Proofs.Yticnaljfnjiofaa
open Go.RowKit

/-- A descriptor. -/
structure Dsc where
  more : Bool
  lone : Bool
  start : Bool
  part : Nat
  hasPic : Bool
  wide : Bool
  pic : Nat
  hasTl0 : Bool
  tl0 : Nat
  hasTid : Bool
  tid : Nat
  sync : Bool
  hasKey : Bool
  key : Nat

/-- As the program has it. -/
def Dsc.cells (d : Dsc) : Array Value :=
  #[.bool d.more, .bool d.lone, .bool d.start, .int .u8 (d.part : Int), .bool d.hasPic, .bool d.wide, .int .u16 (d.pic : Int), .bool d.hasTl0, .int .u8 (d.tl0 : Int), .bool d.hasTid, .int .u8 (d.tid : Int), .bool d.sync, .bool d.hasKey, .int .u8 (d.key : Int)]
/-- As the document has it. -/
def Dsc.plain (d : Dsc) : Array Value :=
  #[.bool d.more, .bool d.lone, .bool d.start, .int .i64 (d.part : Int), .bool d.hasPic, .bool d.wide, .int .i64 (d.pic : Int), .bool d.hasTl0, .int .i64 (d.tl0 : Int), .bool d.hasTid, .int .i64 (d.tid : Int), .bool d.sync, .bool d.hasKey, .int .i64 (d.key : Int)]
/-- Nothing at all. -/
def dsc0 : Dsc := ⟨false, false, false, 0, false, false, 0, false, 0, false, 0, false, false, 0⟩
/-- Its numbers fit their kinds. -/
structure Dsc.Fits (d : Dsc) : Prop where
  part : d.part < 256
  pic : d.pic < 65536
  tl0 : d.tl0 < 256
  tid : d.tid < 256
  key : d.key < 256

/-- Is it right? -/
def Dsc.Right (d : Dsc) : Prop :=
  d.part ≤ 7 ∧ (d.more = false → d.hasPic = false ∧ d.hasTl0 = false ∧ d.hasTid = false ∧ d.hasKey = false) ∧
  (d.hasPic = false → d.wide = false ∧ d.pic = 0) ∧ d.pic ≤ 32767 ∧ (d.wide = false → d.pic ≤ 127) ∧ (d.hasTl0 = false → d.tl0 = 0) ∧
  (d.hasTid = false → d.tid = 0 ∧ d.sync = false) ∧ (d.hasKey = false → d.key = 0) ∧ d.tid ≤ 3 ∧ d.key ≤ 31 ∧ d.tl0 < 256

def one (b : Bool) (x : Nat) : Nat := if b then x else 0

/-- Its first byte, its second one, those of Pic, of Tl0, and the last one. -/
def Dsc.b1 (d : Dsc) : Nat := one d.more 128 + one d.lone 32 + one d.start 16 + d.part
def Dsc.b2 (d : Dsc) : Nat := one d.hasPic 128 + one d.hasTl0 64 + one d.hasTid 32 + one d.hasKey 16
def picB (wide : Bool) (x : Nat) : List UInt8 := if wide then [UInt8.ofNat (128 + x / 256 % 128), UInt8.ofNat x] else [UInt8.ofNat (x % 128)]
def Dsc.bp (d : Dsc) : List UInt8 := if d.hasPic then picB d.wide d.pic else []
def Dsc.bt (d : Dsc) : List UInt8 := if d.hasTl0 then [UInt8.ofNat d.tl0] else []
def Dsc.bl (d : Dsc) : List UInt8 := if d.hasTid || d.hasKey then [UInt8.ofNat (64 * d.tid + one d.sync 32 + d.key)] else []
/-- Its bytes. -/
def Dsc.enc (d : Dsc) : List UInt8 := UInt8.ofNat d.b1 :: if d.more then UInt8.ofNat d.b2 :: (d.bp ++ d.bt ++ d.bl) else []

/-! ### Bits -/
theorem and15 (x : Nat) (h : x < 65536) : bits .and .u16 (x : Int) 32767 = (x : Int) % 32768 := by
  rw [show (32767 : Int) = ((32767 : Nat) : Int) from rfl, u16_and_nat x 32767 h (by decide), show (32767 : Nat) = 2 ^ 15 - 1 from rfl, Nat.and_two_pow_sub_one_eq_mod]
  rfl
theorem and7 (x : Nat) (h : x < 65536) : bits .and .u16 (x : Int) 127 = (x : Int) % 128 := by
  rw [show (127 : Int) = ((127 : Nat) : Int) from rfl, u16_and_nat x 127 h (by decide), show (127 : Nat) = 2 ^ 7 - 1 from rfl, Nat.and_two_pow_sub_one_eq_mod]
  rfl

theorem and3 (x : Nat) (h : x < 256) : bits .and .u8 (x : Int) 3 = (x : Int) % 4 := by
  rw [show (3 : Int) = ((3 : Nat) : Int) from rfl, u8_and_nat x 3 h (by decide), show (3 : Nat) = 2 ^ 2 - 1 from rfl, Nat.and_two_pow_sub_one_eq_mod]
  rfl
theorem or_low (k a b : Nat) (hb : b < 2 ^ k) : (a * 2 ^ k) ||| b = a * 2 ^ k + b := by
  have := Nat.shiftLeft_add_eq_or_of_lt (i := k) (b := b) hb a
  rw [Nat.shiftLeft_eq] at this
  exact this.symm
theorem or_more (x : Nat) (h : x < 32768) : bits .or .u64 32768 (x : Int) = ((32768 + x : Nat) : Int) := by
  rw [show (32768 : Int) = ((32768 : Nat) : Int) from rfl, u64_or_nat 32768 x (by decide) (by omega)]
  have := or_low 15 1 x h
  rw [show 1 * 2 ^ 15 = 32768 from rfl] at this
  rw [this]
theorem join8 (a b : Nat) (ha : a < 32) (hb : b < 8) : bits .or .u8 ((a * 8 : Nat) : Int) (b : Int) = ((a * 8 + b : Nat) : Int) := by
  rw [u8_or_nat _ _ (by omega) (by omega)]
  have := or_low 3 a b hb
  rw [show (2 : Nat) ^ 3 = 8 from rfl] at this
  rw [this]
theorem join32 (a b : Nat) (ha : a < 8) (hb : b < 32) : bits .or .u8 ((a * 32 : Nat) : Int) (b : Int) = ((a * 32 + b : Nat) : Int) := by
  rw [u8_or_nat _ _ (by omega) (by omega)]
  have := or_low 5 a b hb
  rw [show (2 : Nat) ^ 5 = 32 from rfl] at this
  rw [this]
/-- A bit, if it is told. -/
def wh (b : Bool) (x : Int) : Int := if b then x else 0
/-- The first byte, as the program joins it. -/
theorem first_or (m l s : Bool) (p : Nat) (hp : p < 8) : bits .or .u8 (bits .or .u8 (bits .or .u8 (wh m 128) (wh l 32)) (wh s 16)) (p : Int) = ((one m 128 + one l 32 + one s 16 + p : Nat) : Int) := by
  have e : ∃ a : Nat, a < 32 ∧ bits .or .u8 (bits .or .u8 (wh m 128) (wh l 32)) (wh s 16) = ((a * 8 : Nat) : Int) ∧ a * 8 = one m 128 + one l 32 + one s 16 := by
    cases m <;> cases l <;> cases s
    · exact ⟨0, by decide, by decide, by decide⟩
    · exact ⟨2, by decide, by decide, by decide⟩
    · exact ⟨4, by decide, by decide, by decide⟩
    · exact ⟨6, by decide, by decide, by decide⟩
    · exact ⟨16, by decide, by decide, by decide⟩
    · exact ⟨18, by decide, by decide, by decide⟩
    · exact ⟨20, by decide, by decide, by decide⟩
    · exact ⟨22, by decide, by decide, by decide⟩
  obtain ⟨a, h1, h2, h3⟩ := e
  rw [h2, join8 a p h1 hp, h3]
theorem second_or (a b c e : Bool) : bits .or .u8 (bits .or .u8 (bits .or .u8 (wh a 128) (wh b 64)) (wh c 32)) (wh e 16) = ((one a 128 + one b 64 + one c 32 + one e 16 : Nat) : Int) := by
  cases a <;> cases b <;> cases c <;> cases e <;> decide
theorem last_or (t k : Nat) (s : Bool) (ht : t < 4) (hk : k < 32) : bits .or .u8 (bits .or .u8 ((t : Int) * 64) (wh s 32)) (k : Int) = ((64 * t + one s 32 + k : Nat) : Int) := by
  have e : ∃ a : Nat, a < 8 ∧ bits .or .u8 ((t : Int) * 64) (wh s 32) = ((a * 32 : Nat) : Int) ∧ a * 32 = 64 * t + one s 32 := by
    obtain rfl | rfl | rfl | rfl : t = 0 ∨ t = 1 ∨ t = 2 ∨ t = 3 := by omega
    all_goals cases s
    · exact ⟨0, by decide, by decide, by decide⟩
    · exact ⟨1, by decide, by decide, by decide⟩
    · exact ⟨2, by decide, by decide, by decide⟩
    · exact ⟨3, by decide, by decide, by decide⟩
    · exact ⟨4, by decide, by decide, by decide⟩
    · exact ⟨5, by decide, by decide, by decide⟩
    · exact ⟨6, by decide, by decide, by decide⟩
    · exact ⟨7, by decide, by decide, by decide⟩
  obtain ⟨a, h1, h2, h3⟩ := e
  rw [h2, join32 a k h1 hk, h3]

/-! ### What any bytes begin with -/
def bitN (x v : Nat) : Bool := decide (x / v % 2 = 1)
def takePicS : List UInt8 → Option (Bool × Nat × List UInt8)
  | [] => none
  | p :: r => if p.toNat < 128 then some (false, p.toNat, r) else
    match r with
    | [] => none
    | q :: r => some (true, (p.toNat - 128) * 256 + q.toNat, r)
def stPic (t : Nat) (d : Dsc) (l : List UInt8) : Option (Dsc × List UInt8) :=
  if bitN t 128 then (takePicS l).map fun x => ({ d with hasPic := true, wide := x.1, pic := x.2.1 }, x.2.2) else some (d, l)
def stTl0 (t : Nat) (d : Dsc) (l : List UInt8) : Option (Dsc × List UInt8) :=
  if bitN t 64 then
    match l with
    | [] => none
    | x :: r => some ({ d with hasTl0 := true, tl0 := x.toNat }, r)
  else some (d, l)
def setTid (t x : Nat) (d : Dsc) : Dsc := if bitN t 32 then { d with hasTid := true, tid := x / 64, sync := bitN x 32 } else d
def setKey (t x : Nat) (d : Dsc) : Dsc := if bitN t 16 then { d with hasKey := true, key := x % 32 } else d
def stLast (t : Nat) (d : Dsc) (l : List UInt8) : Option (Dsc × List UInt8) :=
  if bitN t 32 || bitN t 16 then
    match l with
    | [] => none
    | x :: r => some (setKey t x.toNat (setTid t x.toNat d), r)
  else some (d, l)
def firstD (f : Nat) : Dsc := { dsc0 with more := decide (128 ≤ f), lone := bitN f 32, start := bitN f 16, part := f % 8 }
def moreS (t : Nat) (d : Dsc) (l : List UInt8) : Option (Dsc × List UInt8) :=
  (stPic t d l).bind fun x => (stTl0 t x.1 x.2).bind fun y => stLast t y.1 y.2
/-- The descriptor that bytes begin with, and what is behind. -/
def parseS : List UInt8 → Option (Dsc × List UInt8)
  | [] => none
  | f :: r => if f.toNat < 128 then some (firstD f.toNat, r) else
    match r with
    | [] => none
    | t :: r => moreS t.toNat (firstD f.toNat) r

def Dsc.pw (d : Dsc) : Nat := if d.wide then 2 else if d.hasPic then 1 else 0
def Dsc.size (d : Dsc) : Nat := if d.more then 2 + d.pw + (if d.hasTl0 then 1 else 0) + (if d.hasTid || d.hasKey then 1 else 0) else 1
/-- Where Pic stands, and Tl0. -/
def Dsc.picAt (d : Dsc) : Nat := if d.hasPic then 2 else 0
def Dsc.tl0At (d : Dsc) : Nat := if d.hasTl0 then 2 + d.pw else 0
/-- Does a frame begin? -/
def Dsc.begins (d : Dsc) : Bool := d.start && decide (d.part = 0)
/-- With other numbers. -/
def Dsc.upd (d : Dsc) (pic tl0 : Nat) : Dsc :=
  { d with pic := if d.hasPic then (if d.wide then pic % 32768 else pic % 128) else d.pic, tl0 := if d.hasTl0 then tl0 else d.tl0 }
def writeS (d : Dsc) (pic tl0 : Nat) (b : List UInt8) : List UInt8 :=
  b.take 2 ++ (if d.hasPic then picB d.wide pic else []) ++ (if d.hasTl0 then [UInt8.ofNat tl0] else []) ++ b.drop (2 + d.pw + (if d.hasTl0 then 1 else 0))

end Go.Proofs.Yticnaljfnjiofaa
/-
  What follows of the plain functions of layer 7.
-/
namespace Go.Proofs.Yticnaljfnjiofaa
open Go.RowKit

theorem picForm {t : Nat} {d d1 : Dsc} {l l1 : List UInt8} (h : stPic t d l = some (d1, l1)) :
    bitN t 128 = false ∧ l = l1 ∧ d1 = d ∨ bitN t 128 = true ∧ (∃ p : UInt8, p.toNat < 128 ∧ l = p :: l1 ∧ d1 = { d with hasPic := true, wide := false, pic := p.toNat }) ∨
      bitN t 128 = true ∧ ∃ p q : UInt8, 128 ≤ p.toNat ∧ l = p :: q :: l1 ∧ d1 = { d with hasPic := true, wide := true, pic := (p.toNat - 128) * 256 + q.toNat } := by
  unfold stPic at h
  cases hb : bitN t 128 with
  | false =>
    rw [hb] at h
    simp at h
    exact .inl ⟨rfl, h.2, h.1.symm⟩
  | true =>
    rw [hb] at h
    simp only [if_true] at h
    cases l with
    | nil => simp [takePicS] at h
    | cons p r =>
      by_cases hp : p.toNat < 128
      · simp only [takePicS, if_pos hp, Option.map_some, Option.some.injEq, Prod.mk.injEq] at h
        exact .inr (.inl ⟨rfl, p, hp, by rw [h.2], h.1.symm⟩)
      · cases r with
        | nil => simp [takePicS, hp] at h
        | cons q r =>
          simp only [takePicS, if_neg hp, Option.map_some, Option.some.injEq, Prod.mk.injEq] at h
          exact .inr (.inr ⟨rfl, p, q, by omega, by rw [h.2], h.1.symm⟩)
theorem tl0Form {t : Nat} {d d1 : Dsc} {l l1 : List UInt8} (h : stTl0 t d l = some (d1, l1)) :
    bitN t 64 = false ∧ l = l1 ∧ d1 = d ∨ bitN t 64 = true ∧ ∃ x : UInt8, l = x :: l1 ∧ d1 = { d with hasTl0 := true, tl0 := x.toNat } := by
  unfold stTl0 at h
  cases hb : bitN t 64 with
  | false =>
    rw [hb] at h
    simp at h
    exact .inl ⟨rfl, h.2, h.1.symm⟩
  | true =>
    rw [hb] at h
    simp only [if_true] at h
    cases l with
    | nil => simp at h
    | cons p r =>
      simp only [Option.some.injEq, Prod.mk.injEq] at h
      exact .inr ⟨rfl, p, by rw [h.2], h.1.symm⟩
theorem lastForm {t : Nat} {d d1 : Dsc} {l l1 : List UInt8} (h : stLast t d l = some (d1, l1)) :
    (bitN t 32 || bitN t 16) = false ∧ l = l1 ∧ d1 = d ∨ (bitN t 32 || bitN t 16) = true ∧ ∃ x : UInt8, l = x :: l1 ∧ d1 = setKey t x.toNat (setTid t x.toNat d) := by
  unfold stLast at h
  cases hb : (bitN t 32 || bitN t 16) with
  | false =>
    rw [hb] at h
    simp at h
    exact .inl ⟨rfl, h.2, h.1.symm⟩
  | true =>
    rw [hb] at h
    simp only [if_true] at h
    cases l with
    | nil => simp at h
    | cons p r =>
      simp only [Option.some.injEq, Prod.mk.injEq] at h
      exact .inr ⟨rfl, p, by rw [h.2], h.1.symm⟩

/-- Bytes with a descriptor: one byte, or more. -/
theorem parse_cases {b : List UInt8} {d : Dsc} {r : List UInt8} (h : parseS b = some (d, r)) :
    (∃ f : UInt8, f.toNat < 128 ∧ b = f :: r ∧ d = firstD f.toNat) ∨ ∃ (f t : UInt8) (l l1 l2 : List UInt8) (d1 d2 : Dsc), 128 ≤ f.toNat ∧ b = f :: t :: l ∧ stPic t.toNat (firstD f.toNat) l = some (d1, l1) ∧ stTl0 t.toNat d1 l1 = some (d2, l2) ∧ stLast t.toNat d2 l2 = some (d, r) := by
  cases b with
  | nil => simp [parseS] at h
  | cons f r0 =>
    by_cases hf : f.toNat < 128
    · simp only [parseS, if_pos hf, Option.some.injEq, Prod.mk.injEq] at h
      exact .inl ⟨f, hf, by rw [h.2], h.1.symm⟩
    · cases r0 with
      | nil => simp [parseS, hf] at h
      | cons t l =>
        simp only [parseS, if_neg hf, moreS] at h
        obtain ⟨⟨d1, l1⟩, h1, h2⟩ := Option.bind_eq_some_iff.1 h
        obtain ⟨⟨d2, l2⟩, h2, h3⟩ := Option.bind_eq_some_iff.1 h2
        exact .inr ⟨f, t, l, l1, l2, d1, d2, by omega, rfl, h1, h2, h3⟩
theorem parse_of {f t : UInt8} {l l1 l2 r : List UInt8} {d1 d2 d : Dsc} (hf : 128 ≤ f.toNat) (h1 : stPic t.toNat (firstD f.toNat) l = some (d1, l1)) (h2 : stTl0 t.toNat d1 l1 = some (d2, l2)) (h3 : stLast t.toNat d2 l2 = some (d, r)) :
    parseS (f :: t :: l) = some (d, r) := by
  simp only [parseS, if_neg (show ¬ f.toNat < 128 by omega), moreS, h1, Option.bind_some, h2, h3]

theorem setT_more (t x : Nat) (d : Dsc) : (setKey t x (setTid t x d)).more = d.more ∧ (setKey t x (setTid t x d)).hasPic = d.hasPic ∧ (setKey t x (setTid t x d)).wide = d.wide ∧ (setKey t x (setTid t x d)).hasTl0 = d.hasTl0 ∧ (setKey t x (setTid t x d)).pic = d.pic ∧
    (setKey t x (setTid t x d)).tl0 = d.tl0 ∧ (setKey t x (setTid t x d)).hasTid = (bitN t 32 || d.hasTid) ∧ (setKey t x (setTid t x d)).hasKey = (bitN t 16 || d.hasKey) ∧ (setKey t x (setTid t x d)).part = d.part ∧ (setKey t x (setTid t x d)).start = d.start ∧ (setKey t x (setTid t x d)).lone = d.lone := by
  unfold setKey setTid
  cases bitN t 32 <;> cases bitN t 16 <;> simp

/-- How many bytes a descriptor has; it is right. -/
theorem parse_size {b : List UInt8} {d : Dsc} {r : List UInt8} (h : parseS b = some (d, r)) : ∃ pre, b = pre ++ r ∧ pre.length = d.size := by
  rcases parse_cases h with ⟨f, hf, rfl, rfl⟩ | ⟨f, t, l, l1, l2, d1, d2, hf, rfl, h1, h2, h3⟩
  · exact ⟨[f], rfl, by simp [Dsc.size, firstD]; omega⟩
  · rcases picForm h1 with ⟨_, rfl, rfl⟩ | ⟨_, p, hp, rfl, rfl⟩ | ⟨_, p, q, hp, rfl, rfl⟩ <;> rcases tl0Form h2 with ⟨_, rfl, rfl⟩ | ⟨_, x, rfl, rfl⟩ <;> rcases lastForm h3 with ⟨hb, rfl, rfl⟩ | ⟨hb, z, rfl, rfl⟩
    all_goals first
      | exact ⟨[f, t], rfl, by simp [Dsc.size, Dsc.pw, firstD, dsc0, setT_more, hb, hf]⟩
      | exact ⟨[f, t, _], rfl, by simp [Dsc.size, Dsc.pw, firstD, dsc0, setT_more, hb, hf]⟩
      | exact ⟨[f, t, _, _], rfl, by simp [Dsc.size, Dsc.pw, firstD, dsc0, setT_more, hb, hf]⟩
      | exact ⟨[f, t, _, _, _], rfl, by simp [Dsc.size, Dsc.pw, firstD, dsc0, setT_more, hb, hf]⟩
      | exact ⟨[f, t, _, _, _, _], rfl, by simp [Dsc.size, Dsc.pw, firstD, dsc0, setT_more, hb, hf]⟩
theorem parse_fits {b : List UInt8} {d : Dsc} {r : List UInt8} (h : parseS b = some (d, r)) : d.Fits := by
  rcases parse_cases h with ⟨f, hf, rfl, rfl⟩ | ⟨f, t, l, l1, l2, d1, d2, hf, rfl, h1, h2, h3⟩
  · exact ⟨by simp [firstD]; omega, by simp [firstD, dsc0], by simp [firstD, dsc0], by simp [firstD, dsc0], by simp [firstD, dsc0]⟩
  · have k1 : d1.part < 256 ∧ d1.pic < 65536 ∧ d1.tl0 < 256 ∧ d1.tid < 256 ∧ d1.key < 256 := by
      rcases picForm h1 with ⟨_, rfl, rfl⟩ | ⟨_, p, hp, rfl, rfl⟩ | ⟨_, p, q, hp, rfl, rfl⟩
      · simp [firstD, dsc0]; omega
      · simp [firstD, dsc0]; omega
      · have := p.toNat_lt
        have := q.toNat_lt
        simp [firstD, dsc0]; omega
    have k2 : d2.part < 256 ∧ d2.pic < 65536 ∧ d2.tl0 < 256 ∧ d2.tid < 256 ∧ d2.key < 256 := by
      rcases tl0Form h2 with ⟨_, rfl, rfl⟩ | ⟨_, x, rfl, rfl⟩
      · exact k1
      · have := x.toNat_lt
        exact ⟨k1.1, k1.2.1, by simpa using this, k1.2.2.2⟩
    rcases lastForm h3 with ⟨hb, rfl, rfl⟩ | ⟨hb, z, rfl, rfl⟩
    · exact ⟨k2.1, k2.2.1, k2.2.2.1, k2.2.2.2.1, k2.2.2.2.2⟩
    · have := z.toNat_lt
      obtain ⟨a1, a2, a3, a4, a5⟩ := k2
      unfold setKey setTid
      cases bitN t.toNat 32 <;> cases bitN t.toNat 16 <;> exact ⟨by simpa using a1, by simpa using a2, by simpa using a3, by first | (simpa using a4) | (simp; omega), by first | (simpa using a5) | (simp; omega)⟩

theorem pic_append {t : Nat} {d d1 : Dsc} {l l1 : List UInt8} (m : List UInt8) (h : stPic t d l = some (d1, l1)) : stPic t d (l ++ m) = some (d1, l1 ++ m) := by
  rcases picForm h with ⟨hb, rfl, rfl⟩ | ⟨hb, p, hp, rfl, rfl⟩ | ⟨hb, p, q, hp, rfl, rfl⟩
  · simp [stPic, hb]
  · simp [stPic, hb, takePicS, hp]
  · simp [stPic, hb, takePicS, show ¬ p.toNat < 128 by omega]
theorem tl0_append {t : Nat} {d d1 : Dsc} {l l1 : List UInt8} (m : List UInt8) (h : stTl0 t d l = some (d1, l1)) : stTl0 t d (l ++ m) = some (d1, l1 ++ m) := by
  rcases tl0Form h with ⟨hb, rfl, rfl⟩ | ⟨hb, p, rfl, rfl⟩
  · simp [stTl0, hb]
  · simp [stTl0, hb]
theorem last_append {t : Nat} {d d1 : Dsc} {l l1 : List UInt8} (m : List UInt8) (h : stLast t d l = some (d1, l1)) : stLast t d (l ++ m) = some (d1, l1 ++ m) := by
  rcases lastForm h with ⟨hb, rfl, rfl⟩ | ⟨hb, p, rfl, rfl⟩
  · simp [stLast, hb]
  · simp [stLast, hb]
theorem parse_append {b r : List UInt8} {d : Dsc} (m : List UInt8) (h : parseS b = some (d, r)) : parseS (b ++ m) = some (d, r ++ m) := by
  rcases parse_cases h with ⟨f, hf, rfl, rfl⟩ | ⟨f, t, l, l1, l2, d1, d2, hf, rfl, h1, h2, h3⟩
  · simp [parseS, hf]
  · exact parse_of hf (pic_append m h1) (tl0_append m h2) (last_append m h3)

theorem toNat_of {x : Nat} (h : x < 256) : (UInt8.ofNat x).toNat = x := by rw [UInt8.toNat_ofNat']; omega
theorem b1_facts (d : Dsc) (hp : d.part ≤ 7) : d.b1 < 256 ∧ firstD d.b1 = { dsc0 with more := d.more, lone := d.lone, start := d.start, part := d.part } ∧ (d.more = true → 128 ≤ d.b1) ∧ (d.more = false → d.b1 < 128) := by
  obtain ⟨more, lone, start, part, hasPic, wide, pic, hasTl0, tl0, hasTid, tid, sync, hasKey, key⟩ := d
  dsimp only at hp
  unfold Dsc.b1 one
  dsimp only
  cases more <;> cases lone <;> cases start <;> refine ⟨?_, ?_, ?_, ?_⟩ <;> simp [firstD, dsc0, bitN] <;> omega
theorem b2_facts (d : Dsc) : d.b2 < 256 ∧ bitN d.b2 128 = d.hasPic ∧ bitN d.b2 64 = d.hasTl0 ∧ bitN d.b2 32 = d.hasTid ∧ bitN d.b2 16 = d.hasKey := by
  have : ∀ a b c e : Bool, (one a 128 + one b 64 + one c 32 + one e 16) < 256 ∧ bitN (one a 128 + one b 64 + one c 32 + one e 16) 128 = a ∧ bitN (one a 128 + one b 64 + one c 32 + one e 16) 64 = b ∧ bitN (one a 128 + one b 64 + one c 32 + one e 16) 32 = c ∧ bitN (one a 128 + one b 64 + one c 32 + one e 16) 16 = e := by decide
  exact this _ _ _ _
theorem key_byte (tid key : Nat) (sync : Bool) (ht : tid ≤ 3) (hk : key ≤ 31) : 64 * tid + one sync 32 + key < 256 ∧ (64 * tid + one sync 32 + key) / 64 = tid ∧ bitN (64 * tid + one sync 32 + key) 32 = sync ∧ (64 * tid + one sync 32 + key) % 32 = key := by
  unfold one bitN
  cases sync <;> refine ⟨?_, ?_, ?_, ?_⟩ <;> simp <;> omega

/-- What is right is parsed as it was. -/
theorem parse_enc (d : Dsc) (h : d.Right) : parseS d.enc = some (d, []) := by
  obtain ⟨r1, r2, r3, r4, r5, r6, r7, r8, r9, r10, r11⟩ := h
  obtain ⟨f1, f2, f3, f4⟩ := b1_facts d r1
  obtain ⟨g1, g2, g3, g4, g5⟩ := b2_facts d
  have n1 := toNat_of f1
  have n2 := toNat_of g1
  unfold Dsc.enc
  cases hm : d.more with
  | false =>
    obtain ⟨p1, p2, p3, p4⟩ := r2 hm
    have q3 := r3 p1
    have q6 := r6 p2
    have q7 := r7 p3
    have q8 := r8 p4
    have hlt := f4 hm
    simp only [parseS, n1, if_pos hlt, f2, Option.some.injEq, Prod.mk.injEq]
    obtain ⟨more, lone, start, part, hasPic, wide, pic, hasTl0, tl0, hasTid, tid, sync, hasKey, key⟩ := d
    simp only [dsc0, Dsc.mk.injEq] at *
    simp_all
  | true =>
    have hge := f3 hm
    simp only [if_true, List.append_assoc]
    have e1 : stPic d.b2 (firstD d.b1) (d.bp ++ (d.bt ++ d.bl)) = some ({ firstD d.b1 with hasPic := d.hasPic, wide := d.wide, pic := d.pic }, d.bt ++ d.bl) := by
      unfold stPic Dsc.bp
      rw [g2]
      cases hp : d.hasPic with
      | false =>
        have q := r3 hp
        rw [q.1, q.2, f2]
        simp [dsc0]
      | true =>
        simp only [if_true, picB]
        cases hw : d.wide with
        | false =>
          have q := r5 hw
          have e : (UInt8.ofNat (d.pic % 128)).toNat = d.pic := by rw [toNat_of (by omega)]; omega
          simp [takePicS, e, show d.pic < 128 by omega]
        | true =>
          have e1 : (UInt8.ofNat (128 + d.pic / 256 % 128)).toNat = 128 + d.pic / 256 % 128 := toNat_of (by omega)
          have e2 : (UInt8.ofNat d.pic).toNat = d.pic % 256 := UInt8.toNat_ofNat' ..
          simp only [if_true, List.cons_append, List.nil_append, takePicS, e1, e2, show ¬ 128 + d.pic / 256 % 128 < 128 by omega, if_false, Option.map_some, Option.some.injEq, Prod.mk.injEq, Dsc.mk.injEq, and_true, true_and]
          omega
    have e2 : stTl0 d.b2 { firstD d.b1 with hasPic := d.hasPic, wide := d.wide, pic := d.pic } (d.bt ++ d.bl) = some ({ firstD d.b1 with hasPic := d.hasPic, wide := d.wide, pic := d.pic, hasTl0 := d.hasTl0, tl0 := d.tl0 }, d.bl) := by
      unfold stTl0 Dsc.bt
      rw [g3]
      cases hp : d.hasTl0 with
      | false =>
        have q := r6 hp
        rw [q, f2]
        simp [dsc0]
      | true => simp [toNat_of r11]
    have e3 : stLast d.b2 { firstD d.b1 with hasPic := d.hasPic, wide := d.wide, pic := d.pic, hasTl0 := d.hasTl0, tl0 := d.tl0 } d.bl = some (d, []) := by
      unfold stLast Dsc.bl
      rw [g4, g5]
      obtain ⟨z1, z2, z3, z4⟩ := key_byte d.tid d.key d.sync r9 r10
      have z5 := toNat_of z1
      obtain ⟨more, lone, start, part, hasPic, wide, pic, hasTl0, tl0, hasTid, tid, sync, hasKey, key⟩ := d
      dsimp only at *
      rw [f2]
      subst hm
      cases hasTid <;> cases hasKey
      · have q7 := r7 rfl
        have q8 := r8 rfl
        simp [dsc0, q7, q8]
      · have q7 := r7 rfl
        simp only [Bool.or_true, if_true]
        rw [z5]
        unfold setKey setTid
        rw [g4, g5]
        simp only [z4]
        simp [dsc0, q7]
      · have q8 := r8 rfl
        simp only [Bool.or_false, if_true]
        rw [z5]
        unfold setKey setTid
        rw [g4, g5]
        simp only [z2, z3]
        simp [dsc0, q8]
      · simp only [Bool.or_self, if_true]
        rw [z5]
        unfold setKey setTid
        rw [g4, g5]
        simp only [z2, z3, z4]
        simp [dsc0]
    refine parse_of (by rw [n1]; exact hge) ?_ ?_ ?_ (d1 := { firstD d.b1 with hasPic := d.hasPic, wide := d.wide, pic := d.pic }) (l1 := d.bt ++ d.bl) (d2 := { firstD d.b1 with hasPic := d.hasPic, wide := d.wide, pic := d.pic, hasTl0 := d.hasTl0, tl0 := d.tl0 }) (l2 := d.bl)
    · rw [n1, n2]; exact e1
    · rw [n2]; exact e2
    · rw [n2]; exact e3
theorem enc_length (d : Dsc) (h : d.Right) : d.enc.length = d.size := by
  obtain ⟨r1, r2, r3, r4, r5, r6, r7, r8, r9, r10, r11⟩ := h
  unfold Dsc.enc Dsc.size
  cases hm : d.more with
  | false => simp
  | true =>
    simp only [if_true, List.length_cons, List.length_append, Dsc.bp, Dsc.bt, Dsc.bl, Dsc.pw, picB]
    cases hp : d.hasPic <;> cases hw : d.wide <;> cases ht : d.hasTl0 <;> cases hi : d.hasTid <;> cases hk : d.hasKey <;> simp
    all_goals (have := r3 hp; simp [hw] at this)
/-- Cut anywhere it ends too early. -/
theorem parse_cut (d : Dsc) (h : d.Right) (k : Nat) (hk : k < d.enc.length) : parseS (d.enc.take k) = none := by
  cases hp : parseS (d.enc.take k) with
  | none => rfl
  | some x =>
    obtain ⟨d', r'⟩ := x
    have h1 := parse_append (d.enc.drop k) hp
    rw [List.take_append_drop, parse_enc d h] at h1
    injection h1 with h1
    injection h1 with _ h2
    have := congrArg List.length h2
    simp at this
    omega
end Go.Proofs.Yticnaljfnjiofaa
/-
  Bytes with other numbers, as plain functions; bits that say nothing.
-/
namespace Go.Proofs.Yticnaljfnjiofaa
open Go.RowKit

theorem pic_put {t : Nat} {d : Dsc} (hb : bitN t 128 = true) (wide : Bool) (x : Nat) (l : List UInt8) :
    stPic t d (picB wide x ++ l) = some ({ d with hasPic := true, wide := wide, pic := if wide then x % 32768 else x % 128 }, l) := by
  unfold stPic picB
  rw [hb]
  cases wide with
  | true =>
    have e1 : (UInt8.ofNat (128 + x / 256 % 128)).toNat = 128 + x / 256 % 128 := toNat_of (by omega)
    have e2 : (UInt8.ofNat x).toNat = x % 256 := UInt8.toNat_ofNat' ..
    simp only [if_true, List.cons_append, List.nil_append, takePicS, e1, e2, show ¬ 128 + x / 256 % 128 < 128 by omega, if_false, Option.map_some, Option.some.injEq, Prod.mk.injEq, Dsc.mk.injEq, and_true, true_and]
    omega
  | false =>
    have e1 : (UInt8.ofNat (x % 128)).toNat = x % 128 := toNat_of (by omega)
    simp only [if_true, Bool.false_eq_true, if_false, List.cons_append, List.nil_append, takePicS, e1, show x % 128 < 128 by omega, Option.map_some]
theorem pic_back (p : UInt8) (h : p.toNat < 128) : picB false p.toNat = [p] := by
  simp only [picB, Bool.false_eq_true, if_false]
  rw [show p.toNat % 128 = p.toNat by omega, UInt8.ofNat_toNat]
theorem pic_back2 (p q : UInt8) (h : 128 ≤ p.toNat) : picB true ((p.toNat - 128) * 256 + q.toNat) = [p, q] := by
  have hp := p.toNat_lt
  have hq := q.toNat_lt
  simp only [picB, if_true]
  have e1 : UInt8.ofNat (128 + ((p.toNat - 128) * 256 + q.toNat) / 256 % 128) = p := by
    apply UInt8.toNat_inj.1
    rw [toNat_of (by omega)]
    omega
  have e2 : UInt8.ofNat ((p.toNat - 128) * 256 + q.toNat) = q := by
    apply UInt8.toNat_inj.1
    rw [UInt8.toNat_ofNat']
    omega
  rw [e1, e2]

theorem upd_key (t x : Nat) (d : Dsc) (pic tl0 : Nat) : (setKey t x (setTid t x d)).upd pic tl0 = setKey t x (setTid t x (d.upd pic tl0)) := by
  unfold setKey setTid Dsc.upd
  cases bitN t 32 <;> cases bitN t 16 <;> rfl
theorem last_upd {t : Nat} {d d1 : Dsc} {l l1 : List UInt8} (pic tl0 : Nat) (h : stLast t d l = some (d1, l1)) : stLast t (d.upd pic tl0) l = some (d1.upd pic tl0, l1) := by
  rcases lastForm h with ⟨hb, rfl, rfl⟩ | ⟨hb, x, rfl, rfl⟩
  · simp [stLast, hb]
  · simp only [stLast, hb, if_true, upd_key]

/-- What is written is parsed as what was, with these numbers; and back. -/
theorem write_facts {b r : List UInt8} {d : Dsc} (h : parseS b = some (d, r)) (pic tl0 : Nat) (ht : tl0 < 256) :
    parseS (writeS d pic tl0 b) = some (d.upd pic tl0, r) ∧ (writeS d pic tl0 b).length = b.length ∧ writeS (d.upd pic tl0) d.pic d.tl0 (writeS d pic tl0 b) = b := by
  rcases parse_cases h with ⟨f, hf, rfl, rfl⟩ | ⟨f, t, l, l1, l2, d1, d2, hf, rfl, h1, h2, h3⟩
  · have e : writeS (firstD f.toNat) pic tl0 (f :: r) = f :: r := by rw [show writeS (firstD f.toNat) pic tl0 (f :: r) = (f :: r).take 2 ++ [] ++ [] ++ (f :: r).drop 2 from rfl, List.append_nil, List.append_nil, List.take_append_drop]
    have e2 : (firstD f.toNat).upd pic tl0 = firstD f.toNat := by simp [Dsc.upd, firstD, dsc0]
    have e3 : writeS (firstD f.toNat) (firstD f.toNat).pic (firstD f.toNat).tl0 (f :: r) = f :: r := by rw [show writeS (firstD f.toNat) (firstD f.toNat).pic (firstD f.toNat).tl0 (f :: r) = (f :: r).take 2 ++ [] ++ [] ++ (f :: r).drop 2 from rfl, List.append_nil, List.append_nil, List.take_append_drop]
    rw [e, e2, e3]
    exact ⟨h, rfl, rfl⟩
  · have T := setT_more
    have hd : d.hasPic = d2.hasPic ∧ d.wide = d2.wide ∧ d.hasTl0 = d2.hasTl0 ∧ d.pic = d2.pic ∧ d.tl0 = d2.tl0 := by
      rcases lastForm h3 with ⟨hb, rfl, rfl⟩ | ⟨hb, z, rfl, rfl⟩
      · exact ⟨rfl, rfl, rfl, rfl, rfl⟩
      · have := T t.toNat z.toNat d2
        exact ⟨this.2.1, this.2.2.1, this.2.2.2.1, this.2.2.2.2.1, this.2.2.2.2.2.1⟩
    obtain ⟨k1, k2, k3, k4, k5⟩ := hd
    have h3' := last_upd pic tl0 h3
    have ew : ∀ b, writeS d pic tl0 b = writeS d2 pic tl0 b := fun b => by unfold writeS Dsc.pw; rw [k1, k2, k3]
    have eu : ∀ b, writeS (d.upd pic tl0) d.pic d.tl0 b = writeS (d2.upd pic tl0) d2.pic d2.tl0 b := fun b => by unfold writeS Dsc.pw Dsc.upd; simp only [k1, k2, k3, k4, k5]
    rw [ew, eu]
    clear ew eu k1 k2 k3 k4 k5
    have u1 : (UInt8.ofNat tl0).toNat = tl0 := toNat_of ht
    rcases picForm h1 with ⟨hp, rfl, rfl⟩ | ⟨hp, p, hpp, rfl, rfl⟩ | ⟨hp, p, q, hpp, rfl, rfl⟩ <;> rcases tl0Form h2 with ⟨hq, rfl, rfl⟩ | ⟨hq, x, rfl, rfl⟩
    -- neither
    · have e2 : (firstD f.toNat).upd pic tl0 = firstD f.toNat := by simp [Dsc.upd, firstD, dsc0]
      rw [e2] at h3' ⊢
      exact ⟨parse_of hf h1 h2 h3', rfl, rfl⟩
    -- Tl0
    · refine ⟨?_, rfl, ?_⟩
      · refine parse_of (l := UInt8.ofNat tl0 :: l2) (l1 := UInt8.ofNat tl0 :: l2) (l2 := l2) (d1 := firstD f.toNat) hf (by simp [stPic, hp]) ?_ h3'
        simp [stTl0, hq, u1, Dsc.upd, firstD, dsc0]
      · simp [writeS, Dsc.upd, Dsc.pw, firstD, dsc0]
    -- Pic of a byte
    · refine ⟨?_, rfl, ?_⟩
      · exact parse_of (l := picB false pic ++ l1) hf (pic_put hp false pic l1) (by simp [stTl0, hq, Dsc.upd, firstD, dsc0]) h3'
      · simp [writeS, Dsc.upd, Dsc.pw, firstD, dsc0, pic_back p hpp]
        simp [picB]
    -- both
    · refine ⟨?_, rfl, ?_⟩
      · exact parse_of (l := picB false pic ++ (UInt8.ofNat tl0 :: l2)) hf (pic_put hp false pic _) (by simp [stTl0, hq, u1, Dsc.upd, firstD, dsc0]) h3'
      · simp [writeS, Dsc.upd, Dsc.pw, firstD, dsc0, pic_back p hpp]
        simp [picB]
    -- Pic of two bytes
    · refine ⟨?_, rfl, ?_⟩
      · exact parse_of (l := picB true pic ++ l1) hf (pic_put hp true pic l1) (by simp [stTl0, hq, Dsc.upd, firstD, dsc0]) h3'
      · simp [writeS, Dsc.upd, Dsc.pw, firstD, dsc0, pic_back2 p q hpp]
        simp [picB]
    -- both
    · refine ⟨?_, rfl, ?_⟩
      · exact parse_of (l := picB true pic ++ (UInt8.ofNat tl0 :: l2)) hf (pic_put hp true pic _) (by simp [stTl0, hq, u1, Dsc.upd, firstD, dsc0]) h3'
      · simp [writeS, Dsc.upd, Dsc.pw, firstD, dsc0, pic_back2 p q hpp]
        simp [picB]
end Go.Proofs.Yticnaljfnjiofaa
