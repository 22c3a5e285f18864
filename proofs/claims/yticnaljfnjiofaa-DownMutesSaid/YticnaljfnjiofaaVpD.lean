/-
  What the program's reader comes to, read by read, as plain functions; a descriptor that is read, in memory.
-/
import Derived.Test.YticnaljfnjiofaaVpAb
import Derived.Deep.RegionHeld3
import Derived.RegionTactic
import Derived.Test.YticnaljfnjiofaaVpEb
namespace Go.Proofs.Yticnaljfnjiofaa
open Go.RowKit

/-- Num(1) of a cut. -/
def rdN (l : List UInt8) (e : Int) : Nat := be (headS l e 1 true)
def rdL (l : List UInt8) (e : Int) : List UInt8 := restS l e 1 true
def rdE (l : List UInt8) (e : Int) : Int := errS l e 1 true
theorem rd_lt (l : List UInt8) (e : Int) : rdN l e < 256 := by
  unfold rdN headS
  split
  · have h := be_lt (l.take (1 : Int).toNat)
    refine Nat.lt_of_lt_of_le h ?_
    have : (l.take (1 : Int).toNat).length ≤ 1 := by simp [List.length_take]; omega
    exact Nat.le_trans (Nat.pow_le_pow_right (by decide) this) (by decide)
  · decide
theorem rd_cons (b : UInt8) (l : List UInt8) : rdN (b :: l) 0 = b.toNat ∧ rdL (b :: l) 0 = l ∧ rdE (b :: l) 0 = 0 := by
  refine ⟨?_, ?_, ?_⟩
  · unfold rdN headS; rw [if_pos (by simp; omega)]; simp [be]
  · unfold rdL restS; rw [if_pos (by simp; omega)]; simp
  · simp [rdE, errS]; omega
theorem rd_nil : rdN [] 0 = 0 ∧ rdL [] 0 = [] ∧ rdE [] 0 = 10 := ⟨by decide, by decide, by decide⟩
theorem rd_err (l : List UInt8) {e : Int} (h : e ≠ 0) : rdN l e = 0 ∧ rdL l e = l ∧ rdE l e = e := by
  refine ⟨?_, ?_, ?_⟩
  · unfold rdN headS; rw [if_neg (by simp [h])]; rfl
  · unfold rdL restS; rw [if_neg (by simp [h])]
  · simp [rdE, errS, h]

/-- Where the reader has come to: the descriptor, what is left, what went wrong, and the last byte. -/
structure VS where
  d : Dsc
  l : List UInt8
  e : Int
  x : Nat
def picW (l : List UInt8) (e : Int) : Bool := decide (128 ≤ rdN l e)
def picX (l : List UInt8) (e : Int) : Nat := if 128 ≤ rdN l e then (rdN l e % 128) * 256 + rdN (rdL l e) (rdE l e) else rdN l e
def picL (l : List UInt8) (e : Int) : List UInt8 := if 128 ≤ rdN l e then rdL (rdL l e) (rdE l e) else rdL l e
def picE (l : List UInt8) (e : Int) : Int := if 128 ≤ rdN l e then rdE (rdL l e) (rdE l e) else rdE l e
def VS.s1 (s : VS) : VS := { s with d := { s.d with hasPic := true, wide := picW s.l s.e, pic := picX s.l s.e }, l := picL s.l s.e, e := picE s.l s.e }
def VS.s2 (s : VS) : VS := { s with d := { s.d with hasTl0 := true, tl0 := rdN s.l s.e }, l := rdL s.l s.e, e := rdE s.l s.e }
def VS.s3 (s : VS) : VS := { s with x := rdN s.l s.e, l := rdL s.l s.e, e := rdE s.l s.e }
def VS.s4 (s : VS) : VS := { s with d := { s.d with hasTid := true, tid := s.x / 64, sync := bitN s.x 32 } }
def VS.s5 (s : VS) : VS := { s with d := { s.d with hasKey := true, key := s.x % 32 } }
/-- Behind the k first fields. -/
def VS.a1 (t : Nat) (s : VS) : VS := if bitN t 128 then s.s1 else s
def VS.a2 (t : Nat) (s : VS) : VS := if bitN t 64 then (s.a1 t).s2 else s.a1 t
def VS.a3 (t : Nat) (s : VS) : VS := if bitN t 32 || bitN t 16 then (s.a2 t).s3 else s.a2 t
def VS.a4 (t : Nat) (s : VS) : VS := if bitN t 32 then (s.a3 t).s4 else s.a3 t
def VS.a5 (t : Nat) (s : VS) : VS := if bitN t 16 then (s.a4 t).s5 else s.a4 t
def VS.at (t : Nat) (s : VS) (k : Nat) : VS := match k with
  | 0 => s
  | 1 => s.a1 t
  | 2 => s.a2 t
  | 3 => s.a3 t
  | 4 => s.a4 t
  | _ => s.a5 t

/-- Of a reader: the descriptor in block gd, the cut in block g, the last byte in block gl, and what points to the first two. -/
structure TAt (w : World) (lo g gd bd bc gl : Nat) (s : VS) : Prop where
  d : Whole w gd 46 s.d.cells
  c : CutAt w lo g s.l s.e
  x : Whole w gl 5 #[.int .u8 (s.x : Int)]
  pd : Whole w bd 123 #[.pointer (some ⟨gd, 0, none⟩)]
  pc : Whole w bc 81 #[.pointer (some ⟨g, 0, none⟩)]
  xl : s.x < 256
  o1 : g < gd
  o2 : gd < bd
  o3 : bd < bc
  o4 : bc < gl
  o5 : gl < w.heap.size

/-- What one of its readings comes to. -/
def Stepped (lo g gd bd bc gl : Nat) (s : VS) (w : World) (e : Ending) (w' : World) : Prop :=
  e = .returned (.tuple #[]) ∧ TAt w' lo g gd bd bc gl s ∧ But (fun k => k = g ∨ k = gd ∨ k = gl) w w'

theorem num1_any {lo : Nat} (g : Nat) (l : List UInt8) (e : Int) (w : World) (h : CutAt w lo g l e) :
    Calls Try.prog 30 #[.pointer (some ⟨g, 0, none⟩), .int .i64 1] w fun en w' => en = .returned (.int .u64 (rdN l e : Int)) ∧ CutAt w' lo g (rdL l e) (rdE l e) ∧ w.grownBy w' (some g) := by
  have := num_any g l e 1 w h
  rw [show sizeB 1 = true from by decide] at this
  exact this
theorem but_grown {S : Nat → Prop} {w w' : World} {g : Nat} (h : w.grownBy w' (some g)) (hg : S g) : But S w w' :=
  ⟨h.os, h.tape, h.output, h.size, fun k hk hs => h.block k hk (fun e => hs (by injection e with e; rw [e]; exact hg))⟩

theorem TAt.num {w w' : World} {lo g gd bd bc gl : Nat} {s : VS} {l : List UInt8} {e : Int} (h : TAt w lo g gd bd bc gl s) (hc : CutAt w' lo g l e) (hg : w.grownBy w' (some g)) : TAt w' lo g gd bd bc gl { s with l := l, e := e } := by
  obtain ⟨h1, h2, h3, h4, h5, h6, o1, o2, o3, o4, o5⟩ := h
  exact ⟨h1.grown hg (by simp; omega), hc, h3.grown hg (by simp; omega), h4.grown hg (by simp; omega), h5.grown hg (by simp; omega), h6, o1, o2, o3, o4, Nat.lt_of_lt_of_le o5 hg.size⟩

end Go.Proofs.Yticnaljfnjiofaa
