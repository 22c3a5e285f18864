/-
  What stands ahead of frames' parts, as plain functions: a descriptor, its bytes, what any bytes begin with, other numbers in it. Nothing here names the program.
-/
import Derived.Test.YtliiodjcpkabmaaOctB
import Derived.Laws.BitsAllLaws
namespace Go.Proofs.Ytliiodjcpkabmaa
open Go.RowKit

/-- A descriptor. -/
structure Dsc where
  more : Bool
  lone : Bool
  start : Bool
  part : Nat
  hasPic : Bool
  wide : Bool
  pic : Nat
  hasTl0 : Bool
  tl0 : Nat
  hasTid : Bool
  tid : Nat
  sync : Bool
  hasKey : Bool
  key : Nat

/-- As the program has it. -/
def Dsc.cells (d : Dsc) : Array Value :=
  #[.bool d.more, .bool d.lone, .bool d.start, .int .u8 (d.part : Int), .bool d.hasPic, .bool d.wide, .int .u16 (d.pic : Int), .bool d.hasTl0, .int .u8 (d.tl0 : Int), .bool d.hasTid, .int .u8 (d.tid : Int), .bool d.sync, .bool d.hasKey, .int .u8 (d.key : Int)]
/-- As the document has it. -/
def Dsc.plain (d : Dsc) : Array Value :=
  #[.bool d.more, .bool d.lone, .bool d.start, .int .i64 (d.part : Int), .bool d.hasPic, .bool d.wide, .int .i64 (d.pic : Int), .bool d.hasTl0, .int .i64 (d.tl0 : Int), .bool d.hasTid, .int .i64 (d.tid : Int), .bool d.sync, .bool d.hasKey, .int .i64 (d.key : Int)]
/-- Nothing at all. -/
def dsc0 : Dsc := ⟨false, false, false, 0, false, false, 0, false, 0, false, 0, false, false, 0⟩
/-- Its numbers fit their kinds. -/
structure Dsc.Fits (d : Dsc) : Prop where
  part : d.part < 256
  pic : d.pic < 65536
  tl0 : d.tl0 < 256
  tid : d.tid < 256
  key : d.key < 256

/-- Is it right? -/
def Dsc.Right (d : Dsc) : Prop :=
  d.part ≤ 7 ∧ (d.more = false → d.hasPic = false ∧ d.hasTl0 = false ∧ d.hasTid = false ∧ d.hasKey = false) ∧
  (d.hasPic = false → d.wide = false ∧ d.pic = 0) ∧ d.pic ≤ 32767 ∧ (d.wide = false → d.pic ≤ 127) ∧ (d.hasTl0 = false → d.tl0 = 0) ∧
  (d.hasTid = false → d.tid = 0 ∧ d.sync = false) ∧ (d.hasKey = false → d.key = 0) ∧ d.tid ≤ 3 ∧ d.key ≤ 31 ∧ d.tl0 < 256

def one (b : Bool) (x : Nat) : Nat := if b then x else 0

/-- Its first byte, its second one, those of Pic, of Tl0, and the last one. -/
def Dsc.b1 (d : Dsc) : Nat := one d.more 128 + one d.lone 32 + one d.start 16 + d.part
def Dsc.b2 (d : Dsc) : Nat := one d.hasPic 128 + one d.hasTl0 64 + one d.hasTid 32 + one d.hasKey 16
def picB (wide : Bool) (x : Nat) : List UInt8 := if wide then [UInt8.ofNat (128 + x / 256 % 128), UInt8.ofNat x] else [UInt8.ofNat (x % 128)]
def Dsc.bp (d : Dsc) : List UInt8 := if d.hasPic then picB d.wide d.pic else []
def Dsc.bt (d : Dsc) : List UInt8 := if d.hasTl0 then [UInt8.ofNat d.tl0] else []
def Dsc.bl (d : Dsc) : List UInt8 := if d.hasTid || d.hasKey then [UInt8.ofNat (64 * d.tid + one d.sync 32 + d.key)] else []
/-- Its bytes. -/
def Dsc.enc (d : Dsc) : List UInt8 := UInt8.ofNat d.b1 :: if d.more then UInt8.ofNat d.b2 :: (d.bp ++ d.bt ++ d.bl) else []

/-! ### Bits -/
theorem and15 (x : Nat) (h : x < 65536) : bits .and .u16 (x : Int) 32767 = (x : Int) % 32768 := by
  rw [show (32767 : Int) = ((32767 : Nat) : Int) from rfl, u16_and_nat x 32767 h (by decide), show (32767 : Nat) = 2 ^ 15 - 1 from rfl, Nat.and_two_pow_sub_one_eq_mod]
  rfl
theorem and7 (x : Nat) (h : x < 65536) : bits .and .u16 (x : Int) 127 = (x : Int) % 128 := by
  rw [show (127 : Int) = ((127 : Nat) : Int) from rfl, u16_and_nat x 127 h (by decide), show (127 : Nat) = 2 ^ 7 - 1 from rfl, Nat.and_two_pow_sub_one_eq_mod]
  rfl

theorem and3 (x : Nat) (h : x < 256) : bits .and .u8 (x : Int) 3 = (x : Int) % 4 := by
  rw [show (3 : Int) = ((3 : Nat) : Int) from rfl, u8_and_nat x 3 h (by decide), show (3 : Nat) = 2 ^ 2 - 1 from rfl, Nat.and_two_pow_sub_one_eq_mod]
  rfl
theorem or_low (k a b : Nat) (hb : b < 2 ^ k) : (a * 2 ^ k) ||| b = a * 2 ^ k + b := by
  have := Nat.shiftLeft_add_eq_or_of_lt (i := k) (b := b) hb a
  rw [Nat.shiftLeft_eq] at this
  exact this.symm
theorem or_more (x : Nat) (h : x < 32768) : bits .or .u64 32768 (x : Int) = ((32768 + x : Nat) : Int) := by
  rw [show (32768 : Int) = ((32768 : Nat) : Int) from rfl, u64_or_nat 32768 x (by decide) (by omega)]
  have := or_low 15 1 x h
  rw [show 1 * 2 ^ 15 = 32768 from rfl] at this
  rw [this]
theorem join8 (a b : Nat) (ha : a < 32) (hb : b < 8) : bits .or .u8 ((a * 8 : Nat) : Int) (b : Int) = ((a * 8 + b : Nat) : Int) := by
  rw [u8_or_nat _ _ (by omega) (by omega)]
  have := or_low 3 a b hb
  rw [show (2 : Nat) ^ 3 = 8 from rfl] at this
  rw [this]
theorem join32 (a b : Nat) (ha : a < 8) (hb : b < 32) : bits .or .u8 ((a * 32 : Nat) : Int) (b : Int) = ((a * 32 + b : Nat) : Int) := by
  rw [u8_or_nat _ _ (by omega) (by omega)]
  have := or_low 5 a b hb
  rw [show (2 : Nat) ^ 5 = 32 from rfl] at this
  rw [this]
/-- A bit, if it is told. -/
def wh (b : Bool) (x : Int) : Int := if b then x else 0
/-- The first byte, as the program joins it. -/
theorem first_or (m l s : Bool) (p : Nat) (hp : p < 8) : bits .or .u8 (bits .or .u8 (bits .or .u8 (wh m 128) (wh l 32)) (wh s 16)) (p : Int) = ((one m 128 + one l 32 + one s 16 + p : Nat) : Int) := by
  have e : ∃ a : Nat, a < 32 ∧ bits .or .u8 (bits .or .u8 (wh m 128) (wh l 32)) (wh s 16) = ((a * 8 : Nat) : Int) ∧ a * 8 = one m 128 + one l 32 + one s 16 := by
    cases m <;> cases l <;> cases s
    · exact ⟨0, by decide, by decide, by decide⟩
    · exact ⟨2, by decide, by decide, by decide⟩
    · exact ⟨4, by decide, by decide, by decide⟩
    · exact ⟨6, by decide, by decide, by decide⟩
    · exact ⟨16, by decide, by decide, by decide⟩
    · exact ⟨18, by decide, by decide, by decide⟩
    · exact ⟨20, by decide, by decide, by decide⟩
    · exact ⟨22, by decide, by decide, by decide⟩
  obtain ⟨a, h1, h2, h3⟩ := e
  rw [h2, join8 a p h1 hp, h3]
theorem second_or (a b c e : Bool) : bits .or .u8 (bits .or .u8 (bits .or .u8 (wh a 128) (wh b 64)) (wh c 32)) (wh e 16) = ((one a 128 + one b 64 + one c 32 + one e 16 : Nat) : Int) := by
  cases a <;> cases b <;> cases c <;> cases e <;> decide
theorem last_or (t k : Nat) (s : Bool) (ht : t < 4) (hk : k < 32) : bits .or .u8 (bits .or .u8 ((t : Int) * 64) (wh s 32)) (k : Int) = ((64 * t + one s 32 + k : Nat) : Int) := by
  have e : ∃ a : Nat, a < 8 ∧ bits .or .u8 ((t : Int) * 64) (wh s 32) = ((a * 32 : Nat) : Int) ∧ a * 32 = 64 * t + one s 32 := by
    obtain rfl | rfl | rfl | rfl : t = 0 ∨ t = 1 ∨ t = 2 ∨ t = 3 := by omega
    all_goals cases s
    · exact ⟨0, by decide, by decide, by decide⟩
    · exact ⟨1, by decide, by decide, by decide⟩
    · exact ⟨2, by decide, by decide, by decide⟩
    · exact ⟨3, by decide, by decide, by decide⟩
    · exact ⟨4, by decide, by decide, by decide⟩
    · exact ⟨5, by decide, by decide, by decide⟩
    · exact ⟨6, by decide, by decide, by decide⟩
    · exact ⟨7, by decide, by decide, by decide⟩
  obtain ⟨a, h1, h2, h3⟩ := e
  rw [h2, join32 a k h1 hk, h3]

/-! ### What any bytes begin with -/
def bitN (x v : Nat) : Bool := decide (x / v % 2 = 1)
def takePicS : List UInt8 → Option (Bool × Nat × List UInt8)
  | [] => none
  | p :: r => if p.toNat < 128 then some (false, p.toNat, r) else
    match r with
    | [] => none
    | q :: r => some (true, (p.toNat - 128) * 256 + q.toNat, r)
def stPic (t : Nat) (d : Dsc) (l : List UInt8) : Option (Dsc × List UInt8) :=
  if bitN t 128 then (takePicS l).map fun x => ({ d with hasPic := true, wide := x.1, pic := x.2.1 }, x.2.2) else some (d, l)
def stTl0 (t : Nat) (d : Dsc) (l : List UInt8) : Option (Dsc × List UInt8) :=
  if bitN t 64 then
    match l with
    | [] => none
    | x :: r => some ({ d with hasTl0 := true, tl0 := x.toNat }, r)
  else some (d, l)
def setTid (t x : Nat) (d : Dsc) : Dsc := if bitN t 32 then { d with hasTid := true, tid := x / 64, sync := bitN x 32 } else d
def setKey (t x : Nat) (d : Dsc) : Dsc := if bitN t 16 then { d with hasKey := true, key := x % 32 } else d
def stLast (t : Nat) (d : Dsc) (l : List UInt8) : Option (Dsc × List UInt8) :=
  if bitN t 32 || bitN t 16 then
    match l with
    | [] => none
    | x :: r => some (setKey t x.toNat (setTid t x.toNat d), r)
  else some (d, l)
def firstD (f : Nat) : Dsc := { dsc0 with more := decide (128 ≤ f), lone := bitN f 32, start := bitN f 16, part := f % 8 }
def moreS (t : Nat) (d : Dsc) (l : List UInt8) : Option (Dsc × List UInt8) :=
  (stPic t d l).bind fun x => (stTl0 t x.1 x.2).bind fun y => stLast t y.1 y.2
/-- The descriptor that bytes begin with, and what is behind. -/
def parseS : List UInt8 → Option (Dsc × List UInt8)
  | [] => none
  | f :: r => if f.toNat < 128 then some (firstD f.toNat, r) else
    match r with
    | [] => none
    | t :: r => moreS t.toNat (firstD f.toNat) r

def Dsc.pw (d : Dsc) : Nat := if d.wide then 2 else if d.hasPic then 1 else 0
def Dsc.size (d : Dsc) : Nat := if d.more then 2 + d.pw + (if d.hasTl0 then 1 else 0) + (if d.hasTid || d.hasKey then 1 else 0) else 1
/-- Where Pic stands, and Tl0. -/
def Dsc.picAt (d : Dsc) : Nat := if d.hasPic then 2 else 0
def Dsc.tl0At (d : Dsc) : Nat := if d.hasTl0 then 2 + d.pw else 0
/-- Does a frame begin? -/
def Dsc.begins (d : Dsc) : Bool := d.start && decide (d.part = 0)
/-- With other numbers. -/
def Dsc.upd (d : Dsc) (pic tl0 : Nat) : Dsc :=
  { d with pic := if d.hasPic then (if d.wide then pic % 32768 else pic % 128) else d.pic, tl0 := if d.hasTl0 then tl0 else d.tl0 }
def writeS (d : Dsc) (pic tl0 : Nat) (b : List UInt8) : List UInt8 :=
  b.take 2 ++ (if d.hasPic then picB d.wide pic else []) ++ (if d.hasTl0 then [UInt8.ofNat tl0] else []) ++ b.drop (2 + d.pw + (if d.hasTl0 then 1 else 0))

end Go.Proofs.Ytliiodjcpkabmaa
