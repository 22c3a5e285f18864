/-
  Package rtcp's takers: numbers off a cut, and what stands for them.
-/
import Derived.Test.YtcjmiidnhbmclaaDoorRcF
import Derived.Test.YtcjmiidnhbmclaaDoorOdY
namespace Go.Proofs.YtcjmiidnhbmclaaDoor
open Go.RowKit
set_option maxRecDepth 100000
variable {lo : Nat}

/-- z bytes are taken off l: all of them, or the cut goes wrong. -/
def Tk (z : Nat) (l : List UInt8) (e : Int) (l' : List UInt8) (e' : Int) : Prop :=
  (e' = 0 ∧ e = 0 ∧ z ≤ l.length ∧ l' = l.drop z) ∨ (e' ≠ 0 ∧ (e ≠ 0 ∧ e' = e ∨ e = 0 ∧ e' = 10 ∧ l.length < z) ∧ l'.length ≤ l.length)
theorem Tk.zero (l : List UInt8) (e : Int) : Tk 0 l e l e := by
  by_cases h : e = 0
  · exact .inl ⟨h, h, Nat.zero_le _, rfl⟩
  · exact .inr ⟨h, .inl ⟨h, rfl⟩, Nat.le_refl _⟩
theorem Tk.trans {y z : Nat} {l l1 l2 : List UInt8} {e e1 e2 : Int} (h : Tk y l e l1 e1) (k : Tk z l1 e1 l2 e2) : Tk (y + z) l e l2 e2 := by
  rcases h with ⟨a1, a2, a3, a4⟩ | ⟨a1, a2, a3⟩
  · subst a4
    rcases k with ⟨b1, b2, b3, b4⟩ | ⟨b1, b2, b3⟩
    · refine .inl ⟨b1, a2, ?_, ?_⟩
      · rw [List.length_drop] at b3; omega
      · rw [b4, List.drop_drop]
    · refine .inr ⟨b1, ?_, ?_⟩
      · rcases b2 with ⟨c1, _⟩ | ⟨_, c2, c3⟩
        · exact absurd a1 c1
        · rw [List.length_drop] at c3
          exact .inr ⟨a2, c2, by omega⟩
      · rw [List.length_drop] at b3; omega
  · rcases k with ⟨_, b2, _, _⟩ | ⟨b1, b2, b3⟩
    · exact absurd b2 a1
    · refine .inr ⟨b1, ?_, by omega⟩
      rcases b2 with ⟨c1, c2⟩ | ⟨c1, _⟩
      · subst c2
        rcases a2 with h | ⟨h1, h2, h3⟩
        · exact .inl h
        · exact .inr ⟨h1, h2, by omega⟩
      · exact absurd c1 a1
theorem Tk.le {z : Nat} {l l' : List UInt8} {e e' : Int} (h : Tk z l e l' e') : l'.length ≤ l.length := by
  rcases h with ⟨_, _, _, a⟩ | ⟨_, _, a⟩
  · rw [a, List.length_drop]; omega
  · exact a
theorem Tk.good {z : Nat} {l l' : List UInt8} {e e' : Int} (h : Tk z l e l' e') (h0 : e' = 0) : e = 0 ∧ z ≤ l.length ∧ l' = l.drop z := by
  rcases h with ⟨_, a⟩ | ⟨a, _⟩
  · exact a
  · exact absurd h0 a
theorem Tk.err {z : Nat} {l l' : List UInt8} {e' : Int} (h : Tk z l 0 l' e') : e' = (if z ≤ l.length then 0 else 10) := by
  rcases h with ⟨a, _, b, _⟩ | ⟨a, b, _⟩
  · rw [if_pos b, a]
  · rcases b with ⟨c, _⟩ | ⟨_, c, d⟩
    · exact absurd rfl c
    · rw [if_neg (by omega), c]
theorem num_tk_step (l : List UInt8) (e : Int) (n : Nat) (hn : 1 ≤ n ∧ n ≤ 8) : Tk n l e (restS l e n (sizeB n)) (errS l e n (sizeB n)) ∧ (errS l e n (sizeB n) = 0 → be (headS l e n (sizeB n)) = numAt l 0 n) ∧ be (headS l e n (sizeB n)) < 256 ^ n := by
  have hs : sizeB (n : Int) = true := sizeB_yes hn.1 hn.2
  have hlen : (headS l e n (sizeB n)).length ≤ n := by
    unfold headS; split
    · simp [List.length_take]; omega
    · simp
  refine ⟨?_, ?_, Nat.lt_of_lt_of_le (be_lt _) (Nat.pow_le_pow_right (by decide) hlen)⟩
  · unfold restS errS
    rw [hs]
    by_cases h0 : e = 0
    · subst h0
      by_cases h1 : n ≤ l.length
      · rw [if_pos ⟨rfl, rfl, by omega⟩, if_neg (by simp), if_neg (by simp), if_pos (by omega)]
        exact .inl ⟨rfl, rfl, h1, by simp⟩
      · rw [if_neg (by omega), if_neg (by simp), if_neg (by simp), if_neg (by omega)]
        exact .inr ⟨by decide, .inr ⟨rfl, rfl, by omega⟩, Nat.le_refl _⟩
    · rw [if_neg (by simp [h0]), if_pos h0]
      exact .inr ⟨h0, .inl ⟨h0, rfl⟩, Nat.le_refl _⟩
  · intro he
    unfold errS at he
    unfold headS numAt
    rw [hs] at he ⊢
    by_cases h0 : e = 0
    · by_cases h1 : (n : Int) ≤ l.length
      · rw [if_pos ⟨h0, rfl, h1⟩]; simp
      · simp [h0, h1] at he
    · simp [h0] at he

/-- What a taker tells: a value that is right if the cut is, and what the cut is behind it. -/
def TakeR {α : Type} (val : α → Value) (ok : α → Prop) (f : List UInt8 → α) (z lo g : Nat) (l : List UInt8) (e : Int) (w : World) (en : Ending) (w' : World) : Prop :=
  ∃ (x : α) (l' : List UInt8) (e' : Int), en = .returned (val x) ∧ ok x ∧ (e' = 0 → x = f l) ∧ Tk z l e l' e' ∧ CutAt w' lo g l' e' ∧ w.grownBy w' (some g)
theorem num_take (g : Nat) (l : List UInt8) (e : Int) (n : Nat) (w : World) (h : CutAt w lo g l e) (hn : 1 ≤ n ∧ n ≤ 8) :
    Calls Tryd.prog 38 #[.pointer (some ⟨g, 0, none⟩), .int .i64 (n : Int)] w (TakeR (fun x : Nat => .int .u64 (x : Int)) (fun x => x < 256 ^ n) (fun l => numAt l 0 n) n lo g l e w) := by
  obtain ⟨h1, h2, h3⟩ := num_tk_step l e n hn
  refine (onum_any g l e n w h).mono ?_
  rintro en w' ⟨rfl, hc, hg⟩
  exact ⟨_, _, _, rfl, h3, h2, h1, hc, hg⟩
/-- A cell of a block that is not the cut's. -/
theorem keepB {w w' : World} {b g i : Nat} {v : Value} (hg : w.grownBy w' (some g)) (h : w.cell? ⟨b, i, none⟩ = some v) (hlt : b < w.heap.size) (hne : b ≠ g) : w'.cell? ⟨b, i, none⟩ = some v :=
  (World.cell?_of_block (a := ⟨b, i, none⟩) (hg.block b hlt (fun e => hne (by injection e)))).trans h
theorem grown_belowG {w w' wz : World} {b : Nat} {r : Option Nat} (h : w.grownBy w' r) (hb : Below b w' wz) (hs : w.heap.size ≤ b) : w.grownBy wz r :=
  ⟨hb.os.trans h.os, hb.tape.trans h.tape, hb.output.trans h.output, Nat.le_trans h.size hb.size, fun i hi hne => (hb.block i (by omega)).trans (h.block i hi hne)⟩
theorem grown_from {w w1 w' : World} {r : Option Nat} (hb : Below w.heap.size w w1) (h : w1.grownBy w' r) : w.grownBy w' r :=
  ⟨h.os.trans hb.os, h.tape.trans hb.tape, h.output.trans hb.output, Nat.le_trans hb.size h.size, fun i hi hne => (h.block i (Nat.lt_of_lt_of_le hi hb.size) hne).trans (hb.block i hi)⟩

theorem word_take (g : Nat) (l : List UInt8) (e : Int) (w : World) (h : CutAt w lo g l e) :
    Calls Tryd.prog 62 #[.agg #[.pointer (some ⟨g, 0, none⟩)]] w (TakeR (fun x : Nat => .int .u32 (x : Int)) (fun x => x < 4294967296) (fun l => numAt l 0 4) 4 lo g l e w) := by
  have b0 := (Below.refl w.heap.size w).alloc (Nat.le_refl _) (.cells #[.pointer (some ⟨g, 0, none⟩)] 74)
  have hc := h.alloc (.cells #[.pointer (some ⟨g, 0, none⟩)] 74)
  have C := num_take g l e 4 _ hc (by decide)
  have HB := Lib.hid b0
  clear h b0 hc
  go_enter Tryd.func62, Tryd.ntmps62
  go_wp2_with fail
  refine C.mono ?_
  rintro en w1 ⟨x, l1, e1, rfl, hx, hv, ht, hc1, hg1⟩
  have hx4 : x < 4294967296 := by simpa using hx
  have HF : Hid (TakeR (fun x : Nat => .int .u32 (x : Int)) (fun x => x < 4294967296) (fun l => numAt l 0 4) 4 lo g l e w (.returned (.int .u32 (x : Int))) w1) := Lib.hid ⟨x, l1, e1, rfl, hx4, hv, ht, hc1, grown_from HB.out hg1⟩
  clear hx hv ht hc1 hg1 C
  go_wp2
  go_ret
  exact HF.out
end Go.Proofs.YtcjmiidnhbmclaaDoor
