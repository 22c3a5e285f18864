/-
  The contract of the document's Parse of layer 7.
-/
import Derived.Test.YtliiodjcpkabmaaVpI
import Derived.BigQuiet
import Derived.Deep.CutBlock
import Derived.Deep.DeepCutAuto
import Derived.RegionTactic
import Derived.Deep.RegionHeld3
import Derived.IntWalk
namespace Go.Proofs.Ytliiodjcpkabmaa
set_option linter.unusedSimpArgs false
open Go.RowKit

/-- What the document's Parse tells. -/
def RefParsed (b : List UInt8) (w : World) (e : Ending) (w' : World) : Prop :=
  (parseS b = none ∧ e = .returned (.tuple #[.agg dsc0.plain, .int .i64 0, .int .i64 0, .int .i64 0, .int .i64 10]) ∨
    ∃ d r, parseS b = some (d, r) ∧ e = .returned (.tuple #[.agg d.plain, .int .i64 ((b.length : Int) - r.length), .int .i64 (d.picAt : Int), .int .i64 (d.tl0At : Int), .int .i64 0])) ∧ Below w.heap.size w w'

theorem str_full (f : UInt8) (r : List UInt8) : (str (f :: r)).toList.isEmpty = false := by rw [ByteArray.toList_eq, str_data]; rfl
/-- Has a byte such a bit? Kept under a name, so that the walk does not part at it. -/
def bitI (x v : Int) : Bool := x / v % 2 == 1
theorem bitI_eq (x v : Nat) : bitI (x : Int) (v : Int) = bitN x v := by
  unfold bitN bitI
  rw [← Int.natCast_ediv, Bool.eq_iff_iff]
  simp
  omega
theorem bit_any (x v : Int) (w : World) (hx : 0 ≤ x) (hx2 : x < 256) (hv : 1 ≤ v) (hv2 : v ≤ 128) : Calls Try.prog 24 #[.int .u8 x, .int .i64 v] w fun e w' => e = .returned (.bool (bitI x v)) ∧ w = w' := by
  have hv0 : v ≠ 0 := by omega
  have hq : 0 ≤ x / v := Int.ediv_nonneg hx (by omega)
  have hq2 : x / v ≤ x := Int.ediv_le_self v hx
  go_enter Try.func24, Try.ntmps24
  go_wp2
  go_ret
  exact ⟨ret_bool rfl, rfl⟩

theorem run_at (b : List UInt8) (k : Nat) (x : UInt8) (h : b[k]? = some x) (w : World) : (Instr.index 9 (.string (str b)) (.int .i64 (k : Int))).run Try.prog w = .ok (.int .u8 (x.toNat : Int)) w := by
  obtain ⟨hk, he⟩ := List.getElem?_eq_some_iff.1 h
  rw [run_index_string (P := Try.prog) w 9 (str b) .i64 k Try.underlying9, dif_pos (by rw [str_size]; omega)]
  simp only [Int.toNat_natCast, str_get, he]
theorem run_at0 (b : List UInt8) (x : UInt8) (h : b[0]? = some x) (w : World) : (Instr.index 9 (.string (str b)) (.int .i64 0)).run Try.prog w = .ok (.int .u8 (x.toNat : Int)) w := run_at b 0 x h w
theorem run_at1 (b : List UInt8) (x : UInt8) (h : b[1]? = some x) (w : World) : (Instr.index 9 (.string (str b)) (.int .i64 1)).run Try.prog w = .ok (.int .u8 (x.toNat : Int)) w := run_at b 1 x h w

/-- The document's descriptor while it is read: the bits of both bytes, and what has been read so far. -/
def mem (lo st : Bool) (pa : Nat) (a wd : Bool) (pc : Nat) (b : Bool) (tl : Nat) (c : Bool) (ti : Nat) (sy e : Bool) (ke : Nat) : Array Value :=
  #[.bool true, .bool lo, .bool st, .int .i64 (pa : Int), .bool a, .bool wd, .int .i64 (pc : Int), .bool b, .int .i64 (tl : Int), .bool c, .int .i64 (ti : Int), .bool sy, .bool e, .int .i64 (ke : Int)]

/-! ### What the document's Parse picks, part by part -/
def pick1 (a : Bool) (l : List UInt8) : Option (Bool × Nat × List UInt8) := if a then takePicS l else some (false, 0, l)
def pick2 (b : Bool) (l : List UInt8) : Option (Nat × List UInt8) :=
  if b then
    match l with
    | [] => none
    | x :: r => some (x.toNat, r)
  else some (0, l)
def dscP (lo st : Bool) (pa : Nat) (a wd : Bool) (pc : Nat) (b : Bool) (tl : Nat) (c e : Bool) (z : Nat) : Dsc :=
  ⟨true, lo, st, pa, a, wd, pc, b, tl, c, if c then z / 64 else 0, c && bitN z 32, e, if e then z % 32 else 0⟩
theorem parse_picks (f t : UInt8) (l : List UInt8) (hf : 128 ≤ f.toNat) :
    parseS (f :: t :: l) = (pick1 (bitN t.toNat 128) l).bind fun x => (pick2 (bitN t.toNat 64) x.2.2).bind fun y => (pick2 (bitN t.toNat 32 || bitN t.toNat 16) y.2).map fun z =>
      (dscP (bitN f.toNat 32) (bitN f.toNat 16) (f.toNat % 8) (bitN t.toNat 128) x.1 x.2.1 (bitN t.toNat 64) y.1 (bitN t.toNat 32) (bitN t.toNat 16) z.1, z.2) := by
  have hd : decide (128 ≤ f.toNat) = true := by simpa using hf
  simp only [parseS, if_neg (show ¬ f.toNat < 128 by omega), moreS, stPic, stTl0, stLast, setTid, setKey, firstD, hd, pick1, pick2, dscP, dsc0]
  generalize bitN t.toNat 128 = a
  generalize bitN t.toNat 64 = b
  generalize bitN t.toNat 32 = c
  generalize bitN t.toNat 16 = e
  cases a
  · cases b
    · cases c <;> cases e <;> cases l <;> simp
    · cases l with
      | nil => simp
      | cons y r => cases c <;> cases e <;> cases r <;> simp
  · cases hp : takePicS l with
    | none => simp
    | some x =>
      obtain ⟨wd, pc, r⟩ := x
      cases b
      · cases c <;> cases e <;> cases r <;> simp
      · cases r with
        | nil => simp
        | cons y r => cases c <;> cases e <;> cases r <;> simp

/-- Behind Pic: where the text is read on, and what is in memory. -/
def Stage1 (b : List UInt8) (m : Nat) (l0 : List UInt8) (a : Bool) (w wx : World) (gr gd : Nat) (M : Bool → Nat → Array Value) (s8 s9 : Value) : Prop :=
  ∃ (wd : Bool) (pc k : Nat) (r : List UInt8), pick1 a l0 = some (wd, pc, r) ∧ s8 = .int .i64 (k : Int) ∧ k = 2 + (if wd then 2 else if a then 1 else 0) ∧ b.drop k = r ∧ k + r.length = m ∧ s9 = .int .i64 (((if a then 2 else 0 : Nat)) : Int) ∧
    Whole wx gd 31 (M wd pc) ∧ Whole wx gr 31 dsc0.plain ∧ Below w.heap.size w wx

/-- Behind Tl0. -/
def Stage2 (b : List UInt8) (m k : Nat) (r : List UInt8) (bb : Bool) (w wx : World) (gr gd : Nat) (M : Nat → Array Value) (s8 s10 : Value) : Prop :=
  ∃ (tl k2 : Nat) (r2 : List UInt8), pick2 bb r = some (tl, r2) ∧ s8 = .int .i64 (k2 : Int) ∧ b.drop k2 = r2 ∧ k2 + r2.length = m ∧ s10 = .int .i64 (((if bb then k else 0 : Nat)) : Int) ∧
    Whole wx gd 31 (M tl) ∧ Whole wx gr 31 dsc0.plain ∧ Below w.heap.size w wx
/-- Behind the last byte. -/
def Stage3 (m : Nat) (l : List UInt8) (ce : Bool) (w wx : World) (gr gd : Nat) (M : Nat → Array Value) (s8 : Value) : Prop :=
  ∃ (z k3 : Nat) (r3 : List UInt8), pick2 ce l = some (z, r3) ∧ s8 = .int .i64 (k3 : Int) ∧ k3 + r3.length = m ∧
    Whole wx gd 31 (M z) ∧ Whole wx gr 31 dsc0.plain ∧ Below w.heap.size w wx
theorem drop_at {b : List UInt8} {k : Nat} {x : UInt8} {r : List UInt8} (h : b.drop k = x :: r) : b[k]? = some x ∧ b.drop (k + 1) = r := by
  have h1 : (b.drop k)[0]? = some x := by rw [h]; rfl
  rw [List.getElem?_drop] at h1
  refine ⟨h1, ?_⟩
  have : (b.drop k).drop 1 = r := by rw [h]; rfl
  rwa [List.drop_drop] at this

end Go.Proofs.Ytliiodjcpkabmaa
