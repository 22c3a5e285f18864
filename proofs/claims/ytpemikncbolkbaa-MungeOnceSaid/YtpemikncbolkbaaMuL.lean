/-
  Numbers of packets that are sent on, as plain functions: numbers that go round, a state, what a switch, a packet that is sent, and one that is left out make of it. Nothing here names the program.
-/
import Derived.Test.YtpemikncbolkbaaWords
namespace Go.Proofs.Ytpemikncbolkbaa
open Go.RowKit

/-- Numbers. -/
structure Mn where
  seq : Int
  time : Int
  pic : Int
  tl0 : Int
deriving DecidableEq
/-- The program's cells, and the document's. -/
def Mn.cells (n : Mn) : Array Value := #[.int .u16 n.seq, .int .u32 n.time, .int .u16 n.pic, .int .u8 n.tl0]
def Mn.plain (n : Mn) : Array Value := #[.int .i64 n.seq, .int .i64 n.time, .int .i64 n.pic, .int .i64 n.tl0]
structure Mn.Fit (n : Mn) : Prop where
  seq : 0 ≤ n.seq ∧ n.seq < 65536
  time : 0 ≤ n.time ∧ n.time < 4294967296
  pic : 0 ≤ n.pic ∧ n.pic < 65536
  tl0 : 0 ≤ n.tl0 ∧ n.tl0 < 256
def Mn.zero : Mn := ⟨0, 0, 0, 0⟩
/-- Gone round. -/
def Mn.rnd (n : Mn) : Mn := ⟨n.seq % 65536, n.time % 4294967296, n.pic % 65536, n.tl0 % 256⟩
def Mn.less (a b : Mn) : Mn := Mn.rnd ⟨a.seq - b.seq, a.time - b.time, a.pic - b.pic, a.tl0 - b.tl0⟩
theorem Mn.rnd_fit (n : Mn) : n.rnd.Fit := ⟨by unfold Mn.rnd; dsimp only; omega, by unfold Mn.rnd; dsimp only; omega, by unfold Mn.rnd; dsimp only; omega, by unfold Mn.rnd; dsimp only; omega⟩
theorem Mn.less_fit (a b : Mn) : (a.less b).Fit := Mn.rnd_fit _
theorem Mn.zero_fit : Mn.zero.Fit := by constructor <;> decide

/-- How far it is from a to b. -/
def far16 (a b : Int) : Int := (b - a + 32768) % 65536 - 32768
def far32 (a b : Int) : Int := (b - a + 2147483648) % 4294967296 - 2147483648
def nearM (h s : Int) : Int := h + far16 h s
theorem nearM_bd (h s : Int) : h - 32768 ≤ nearM h s ∧ nearM h s ≤ h + 32767 := by unfold nearM far16; omega
theorem nearM_mod (h s : Int) : nearM h s % 65536 = s % 65536 := by unfold nearM far16; omega
theorem nearM_of (h n : Int) (h1 : h - 32768 ≤ n) (h2 : n ≤ h + 32767) : nearM h (n % 65536) = n := by unfold nearM far16; omega

/-- A state. -/
structure Mst where
  on : Bool
  high : Int
  since : Int
  off : Mn
  out : Mn
deriving DecidableEq
def Mst.cells (s : Mst) : Array Value := #[.bool s.on, .int .i64 s.high, .int .i64 s.since, .int .u16 s.off.seq, .int .u32 s.off.time, .int .u16 s.off.pic, .int .u8 s.off.tl0, .int .u16 s.out.seq, .int .u32 s.out.time, .int .u16 s.out.pic, .int .u8 s.out.tl0]
def Mst.plain (s : Mst) : Array Value := #[.bool s.on, .int .i64 s.high, .int .i64 s.since, .int .i64 s.off.seq, .int .i64 s.off.time, .int .i64 s.off.pic, .int .i64 s.off.tl0, .int .i64 s.out.seq, .int .i64 s.out.time, .int .i64 s.out.pic, .int .i64 s.out.tl0]
structure Mst.Fit (c : Int) (s : Mst) : Prop where
  high : -c ≤ s.high ∧ s.high ≤ c
  off : s.off.Fit
  out : s.out.Fit
/-- The parts of a state that have bounds. -/
def Mst.Parts (s : Mst) : Prop := (-9223372036854775808 ≤ s.high ∧ s.high < 9223372036854775808) ∧ s.off.Fit ∧ s.out.Fit
theorem Mst.Fit.parts {s : Mst} {c : Int} (h : s.Fit c) (hc : c ≤ 1000000000000000) : s.Parts := ⟨by have := h.high; omega, h.off, h.out⟩
def Mst.zero : Mst := ⟨false, 0, 0, Mn.zero, Mn.zero⟩
theorem Mst.zero_fit : Mst.zero.Fit 0 := ⟨by decide, Mn.zero_fit, Mn.zero_fit⟩

/-- What a switch tells. -/
def Mst.begins (s : Mst) (n : Mn) (step : Int) : Mn := if s.on = true then Mn.rnd ⟨s.out.seq + 1, s.out.time + step, s.out.pic + 1, s.out.tl0 + 1⟩ else n
def Mst.switchS (s : Mst) (n : Mn) (step : Int) : Mst := ⟨true, n.seq, n.seq, n.less (s.begins n step), s.begins n step⟩
/-- A packet's number; is it told? -/
def Mst.num (s : Mst) (n : Mn) : Int := nearM s.high n.seq
def Mst.tells (s : Mst) (n : Mn) : Bool := s.on && !(decide (s.num n ≤ s.high) && decide (s.num n ≤ s.since))
/-- What is told of one that is not behind. -/
def Mst.ahead (s : Mst) (n : Mn) : Mn := if 0 < far32 (n.less s.off).time s.out.time then { n.less s.off with time := s.out.time } else n.less s.off
def Mst.told (s : Mst) (n : Mn) : Mn := if s.tells n = true then if s.num n ≤ s.high then n.less s.off else s.ahead n else Mn.zero
def Mst.sendS (s : Mst) (n : Mn) : Mst := if s.tells n = true then if s.num n ≤ s.high then s else { s with high := s.num n, out := s.ahead n } else s
def Mst.dropS (s : Mst) (n : Mn) (b : Bool) : Mst :=
  if s.on = true then if s.num n ≤ s.high then s else ⟨true, s.num n, s.num n, ⟨(s.off.seq + 1) % 65536, s.off.time, if b = true then (s.off.pic + 1) % 65536 else s.off.pic, s.off.tl0⟩, s.out⟩ else s

section
variable {s : Mst} {n : Mn} {c : Int}
theorem Mst.num_bd (h : s.Fit c) (n : Mn) : -(c + 32768) ≤ s.num n ∧ s.num n ≤ c + 32767 := by
  have := nearM_bd s.high n.seq
  have := h.high
  unfold Mst.num
  omega
theorem Mst.begins_fit (hn : n.Fit) (step : Int) : (s.begins n step).Fit := by
  unfold Mst.begins
  split
  · exact Mn.rnd_fit _
  · exact hn
theorem Mst.switch_fit (hn : n.Fit) (step : Int) (hc : 65536 ≤ c) : (s.switchS n step).Fit c :=
  ⟨by have := hn.seq; unfold Mst.switchS; dsimp only; omega, Mn.less_fit _ _, Mst.begins_fit hn step⟩
theorem Mst.ahead_fit (h : s.Fit c) (n : Mn) : (s.ahead n).Fit := by
  unfold Mst.ahead
  have := Mn.less_fit n s.off
  split
  · exact ⟨this.seq, h.out.time, this.pic, this.tl0⟩
  · exact this
theorem Mst.told_fit (h : s.Fit c) (n : Mn) : (s.told n).Fit := by
  unfold Mst.told
  split
  · split
    · exact Mn.less_fit _ _
    · exact Mst.ahead_fit h n
  · exact Mn.zero_fit
theorem Mst.send_fit (h : s.Fit c) (n : Mn) : (s.sendS n).Fit (c + 32768) := by
  have hb := Mst.num_bd h n
  have := h.high
  have h' : s.Fit (c + 32768) := ⟨by omega, h.off, h.out⟩
  unfold Mst.sendS
  split
  · split
    · exact h'
    · exact ⟨by dsimp only; omega, h.off, Mst.ahead_fit h n⟩
  · exact h'
theorem Mst.drop_fit (h : s.Fit c) (n : Mn) (b : Bool) : (s.dropS n b).Fit (c + 32768) := by
  have hb := Mst.num_bd h n
  have := h.high
  have ho := h.off
  have h' : s.Fit (c + 32768) := ⟨by omega, h.off, h.out⟩
  unfold Mst.dropS
  split
  · split
    · exact h'
    · exact ⟨by dsimp only; omega, ⟨by dsimp only; omega, ho.time, by dsimp only; have := ho.pic; split <;> omega, ho.tl0⟩, h.out⟩
  · exact h'
end
end Go.Proofs.Ytpemikncbolkbaa
