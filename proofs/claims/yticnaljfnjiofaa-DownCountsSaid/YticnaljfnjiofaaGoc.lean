/-
  Several texts in one (OctA, OctW, OctB, OctY, Mem): what each of them says stands at its head.
-/
import Derived.Test.YticnaljfnjiofaaGpl
import Derived.Test.YticnaljfnjiofaaProg
import Derived.Test.YticnaljfnjiofaaWords
/-
  Contracts of package octet's calls on a Cut, and of slices.Clone at bytes.
-/
namespace Go.Proofs.Yticnaljfnjiofaa
open Go.RowKit
variable {lo : Nat}

theorem info_u8 : (Try.prog.info? 5).map (fun i => (i.zero, i.size, i.bytes)) = some (some (.int .u8 0), 1, 1) := by kernel_rfl

theorem isSize_any (n : Int) (w : World) : Calls Try.prog 47 #[.int .i64 n] w fun e w' => e = .returned (.bool (sizeB n)) ∧ w = w' := by
  by_cases h1 : 1 ≤ n <;> by_cases h8 : n ≤ 8
  all_goals
    go_enter Try.func47, Try.ntmps47
    go_wp2
    go_ret
    exact ⟨by simp [sizeB, h1, h8], rfl⟩

/-- Block g is a Cut whose bytes that are left are l, and whose error is e. -/
def CutAt (w : World) (lo g : Nat) (l : List UInt8) (e : Int) : Prop :=
  ∃ A n c, Whole w g 116 #[.slice A n c, .int .i64 e] ∧ Row w g 1 A n (u8s l) ∧ n ≤ c ∧ c ≤ maxLen ∧ ∀ a, A = some a → lo ≤ a.block

theorem CutAt.below {w w' : World} {g b : Nat} {l : List UInt8} {e : Int} (h : CutAt w lo g l e) (hb : Below b w w') (hg : g < b) : CutAt w' lo g l e := by
  obtain ⟨A, n, c, h1, h2, h3⟩ := h
  exact ⟨A, n, c, h1.below hb hg, h2.below hb (by omega), h3⟩
theorem CutAt.lt {w : World} {g : Nat} {l : List UInt8} {e : Int} (h : CutAt w lo g l e) : g < w.heap.size := by
  obtain ⟨A, n, c, h1, h2, h3⟩ := h
  exact h1.lt

theorem CutAt.alloc {w : World} {g : Nat} {l : List UInt8} {e : Int} (h : CutAt w lo g l e) (o : Obj) : CutAt (w.alloc o) lo g l e := by
  obtain ⟨A, n, c, h1, h2, h3⟩ := h
  exact ⟨A, n, c, h1.alloc o, h2.alloc (Nat.le_of_lt h1.lt) o, h3⟩
theorem CutAt.far {w : World} {g : Nat} {l : List UInt8} {e : Int} (h : CutAt w lo g l e) {p : Addr} (hp : g < p.block) (u : Value) : CutAt (w.setCell p u) lo g l e := by
  obtain ⟨A, n, c, h1, h2, h3⟩ := h
  exact ⟨A, n, c, h1.far (by omega) u, h2.set (by omega) u, h3⟩

/-- Nothing of it turns where older memory is written. -/
theorem CutAt.low {w : World} {g : Nat} {l : List UInt8} {e : Int} (h : CutAt w lo g l e) {p : Addr} (hp : p.block < lo) (hg : lo ≤ g) (u : Value) : CutAt (w.setCell p u) lo g l e := by
  obtain ⟨A, n, c, h1, h2, h3, h4, h5⟩ := h
  refine ⟨A, n, c, h1.far (by omega) u, ⟨h2.1, fun hn => ?_⟩, h3, h4, h5⟩
  obtain ⟨b, o, e, hb, hc⟩ := h2.2 hn
  have := h5 _ e
  refine ⟨b, o, e, hb, fun j v hv => ?_⟩
  rw [World.cell?_setCell_other w p ⟨b, o + j, none⟩ u (fun e => by subst e; simp at hp this; omega)]
  exact hc j v hv
theorem CutAt.grown {w w' : World} {g : Nat} {l : List UInt8} {e : Int} (h : CutAt w lo g l e) {row : Option Nat} (hg : w.grownBy w' row) (hr : ∀ q, row = some q → g < q) : CutAt w' lo g l e := by
  obtain ⟨A, n, c, h1, h2, h3⟩ := h
  exact ⟨A, n, c, h1.grown hg (fun e => by have := hr g e.symm; omega), h2.grown hg (Nat.le_of_lt h1.lt) (fun q hq => Nat.le_of_lt (hr q hq)), h3⟩

theorem CutAt.kept {w w' : World} {g : Nat} {l : List UInt8} {e : Int} (h : CutAt w lo g l e) {row : Option Nat} (hg : w.grownBy w' row) (hr : ∀ q, row = some q → q < lo) (hlo : lo ≤ g) : CutAt w' lo g l e := by
  obtain ⟨A, n, c, h1, h2, h3, h4, h5⟩ := h
  refine ⟨A, n, c, h1.grown hg (fun e => by have := hr g e.symm; omega), ⟨h2.1, fun hn => ?_⟩, h3, h4, h5⟩
  obtain ⟨b, o, e, hb, hc⟩ := h2.2 hn
  have := h5 _ e
  have hlt := h1.lt
  refine ⟨b, o, e, hb, fun j v hv => ?_⟩
  rw [World.cell?_of_block (a := ⟨b, o + j, none⟩) (hg.block b (by omega) (fun e => by have := hr b e.symm; simp at *; omega))]
  exact hc j v hv

theorem left_nil (w : World) : Calls Try.prog 28 #[.pointer none] w fun e w' => e = .returned (.int .i64 0) ∧ w = w' := by
  go_enter Try.func28, Try.ntmps28
  go_wp2
  go_ret
  exact ⟨rfl, rfl⟩

theorem left_any (g : Nat) (l : List UInt8) (e0 : Int) (w : World) (h : CutAt w lo g l e0) :
    Calls Try.prog 28 #[.pointer (some ⟨g, 0, none⟩)] w fun e w' => e = .returned (.int .i64 l.length) ∧ w = w' := by
  obtain ⟨A, n, c, h1, h2, h3⟩ := h
  have hl : n = l.length := by have := h2.1; rw [u8s_length] at this; omega
  subst hl
  have hc := h1.cell 0
  clear h1 h2
  go_enter Try.func28, Try.ntmps28
  go_wp2
  go_ret
  exact ⟨rfl, rfl⟩

theorem err_nil (w : World) : Calls Try.prog 32 #[.pointer none] w fun e w' => e = .returned (.int .i64 1) ∧ w = w' := by
  go_enter Try.func32, Try.ntmps32
  go_wp2
  go_ret
  exact ⟨rfl, rfl⟩

theorem err_any (g : Nat) (l : List UInt8) (e0 : Int) (w : World) (h : CutAt w lo g l e0) :
    Calls Try.prog 32 #[.pointer (some ⟨g, 0, none⟩)] w fun e w' => e = .returned (.int .i64 e0) ∧ w = w' := by
  obtain ⟨A, n, c, h1, h2, h3⟩ := h
  have hc := h1.cell 1
  clear h1 h2
  go_enter Try.func32, Try.ntmps32
  go_wp2
  go_ret
  exact ⟨rfl, rfl⟩

/-- take's outcome. -/
def Took (w : World) (lo g : Nat) (hd rs : List UInt8) (e' : Int) (en : Ending) (w' : World) : Prop :=
  ∃ A k c, en = .returned (.slice A k c) ∧ Row w' g 1 A k (u8s hd) ∧ CutAt w' lo g rs e' ∧ w.grownBy w' (some g)

theorem grown_set (w : World) (g : Nat) (j : Nat) (u : Value) : w.grownBy (w.setCell ⟨g, j, none⟩ u) (some g) :=
  ⟨rfl, rfl, rfl, by simp [World.setCell], fun k _ hne => Below.heap_setCell _ _ _ _ (fun e => hne (by simp [e]))⟩

theorem take_nil (n : Int) (b : Bool) (w : World) : Calls Try.prog 46 #[.pointer none, .int .i64 n, .bool b] w fun e w' => e = .returned (.slice none 0 0) ∧ w = w' := by
  go_enter Try.func46, Try.ntmps46
  go_wp2
  go_ret
  exact ⟨rfl, rfl⟩

theorem take_err (g : Nat) (l : List UInt8) (e n : Int) (may : Bool) (w : World) (h : CutAt w lo g l e) (he : e ≠ 0) :
    Calls Try.prog 46 #[.pointer (some ⟨g, 0, none⟩), .int .i64 n, .bool may] w (Took w lo g (headS l e n may) (restS l e n may) (errS l e n may)) := by
  have hfin : Took w lo g (headS l e n may) (restS l e n may) (errS l e n may) (.returned (.slice none 0 0)) w :=
    ⟨none, 0, 0, rfl, by simp [headS, he, u8s]; exact Row.nil, by simpa [restS, errS, he] using h, World.grownBy.refl _ _⟩
  have H := Lib.hid hfin
  obtain ⟨A, k, c, h1, h2, h3⟩ := h
  have hc := h1.cell 1
  have hb : (e != 0) = true := by simpa using he
  clear h1 h2 hfin he
  go_enter Try.func46, Try.ntmps46
  go_wp2
  go_ret
  exact H.out

theorem take_bad (g : Nat) (l : List UInt8) (n : Int) (w : World) (h : CutAt w lo g l 0) :
    Calls Try.prog 46 #[.pointer (some ⟨g, 0, none⟩), .int .i64 n, .bool false] w (Took w lo g (headS l 0 n false) (restS l 0 n false) (errS l 0 n false)) := by
  obtain ⟨A, k, c, h1, h2, h3⟩ := h
  have hfin : Took w lo g (headS l 0 n false) (restS l 0 n false) (errS l 0 n false) (.returned (.slice none 0 0)) (w.setCell ⟨g, 1, none⟩ (.int .i64 1)) :=
    ⟨none, 0, 0, rfl, by simp [headS, u8s]; exact Row.nil, ⟨A, k, c, by simpa [errS] using h1.set 1 (.int .i64 1), by simpa [restS] using h2.set (p := ⟨g, 1, none⟩) (Nat.le_refl _) _, h3⟩, grown_set _ _ _ _⟩
  have H := Lib.hid hfin
  have hc := h1.cell 1
  have hf := h1.free 1
  clear h1 h2 hfin
  go_enter Try.func46, Try.ntmps46
  go_wp2
  go_ret
  exact H.out

theorem take_short (g : Nat) (l : List UInt8) (n : Int) (w : World) (h : CutAt w lo g l 0) (hn : (l.length : Int) < n) :
    Calls Try.prog 46 #[.pointer (some ⟨g, 0, none⟩), .int .i64 n, .bool true] w (Took w lo g (headS l 0 n true) (restS l 0 n true) (errS l 0 n true)) := by
  obtain ⟨A, k, c, h1, h2, h3⟩ := h
  have hl : k = l.length := by have := h2.1; rw [u8s_length] at this; omega
  subst hl
  have hfin : Took w lo g (headS l 0 n true) (restS l 0 n true) (errS l 0 n true) (.returned (.slice none 0 0)) (w.setCell ⟨g, 1, none⟩ (.int .i64 10)) :=
    ⟨none, 0, 0, rfl, by simp [headS, u8s, show ¬ n ≤ (l.length : Int) by omega]; exact Row.nil, ⟨A, l.length, c, by simpa [errS, show ¬ n ≤ (l.length : Int) by omega] using h1.set 1 (.int .i64 10), by simpa [restS, show ¬ n ≤ (l.length : Int) by omega] using h2.set (p := ⟨g, 1, none⟩) (Nat.le_refl _) _, h3⟩, grown_set _ _ _ _⟩
  have H := Lib.hid hfin
  have hc := h1.cell 1
  have hc0 := h1.cell 0
  have hf := h1.free 1
  clear h1 h2 hfin
  go_enter Try.func46, Try.ntmps46
  go_wp2
  go_ret
  exact H.out

/-- What is left behind a cut of n. -/
theorem took_ok {g : Nat} {l : List UInt8} {n : Nat} {w : World} {A A' : Option Addr} {c : Nat} (h1 : Whole w g 116 #[.slice A l.length c, .int .i64 0]) (h2 : Row w g 1 A l.length (u8s l)) (h3 : l.length ≤ c) (h4 : c ≤ maxLen) (h5 : ∀ a, A = some a → lo ≤ a.block)
    (hn : n ≤ l.length) (hA : A' = if c = n then A else A.map fun x => x.add n) :
    Took w lo g (headS l 0 n true) (restS l 0 n true) (errS l 0 n true) (.returned (.slice A n n)) (w.setCell ⟨g, 0, none⟩ (.slice A' (l.length - n) (c - n))) := by
  have hn' : (n : Int) ≤ (l.length : Int) := by omega
  have hg : g ≤ (⟨g, 0, none⟩ : Addr).block := Nat.le_refl _
  refine ⟨A, n, n, rfl, ?_, ⟨A', l.length - n, c - n, ?_, ?_, by omega, by unfold maxLen at h4 ⊢; omega, ?_⟩, grown_set _ _ _ _⟩
  · simp only [headS, true_and, hn', if_true, Int.toNat_natCast, u8s_take]
    refine Row.set (p := ⟨g, 0, none⟩) ⟨by simp [u8s_length]; omega, fun h0 => ?_⟩ hg _
    obtain ⟨b, o, e, hb, hc⟩ := h2.2 (by omega)
    exact ⟨b, o, e, hb, fun j u hu => hc j u (by rw [List.getElem?_take] at hu; split at hu <;> simp_all)⟩
  · simpa [errS, hn'] using h1.set 0 (.slice A' (l.length - n) (c - n))
  · simp only [restS, true_and, hn', if_true, Int.toNat_natCast, u8s_drop]
    refine Row.set (p := ⟨g, 0, none⟩) ⟨by simp [u8s_length], fun h0 => ?_⟩ hg _
    obtain ⟨b, o, e, hb, hc⟩ := h2.2 (by omega)
    rw [if_neg (by omega)] at hA
    subst e
    refine ⟨b, o + n, by simpa [Addr.add_lit] using hA, hb, fun j u hu => ?_⟩
    rw [List.getElem?_drop] at hu
    rw [Nat.add_assoc]
    exact hc _ u hu
  · intro a ha
    rw [hA] at ha
    split at ha
    · exact h5 a ha
    · cases A with
      | none => simp at ha
      | some a0 =>
        simp at ha
        have := h5 a0 rfl
        subst ha
        unfold Addr.add
        split <;> simpa using this

theorem take_ok (g : Nat) (l : List UInt8) (n : Nat) (w : World) (h : CutAt w lo g l 0) (hn : n ≤ l.length) :
    Calls Try.prog 46 #[.pointer (some ⟨g, 0, none⟩), .int .i64 n, .bool true] w (Took w lo g (headS l 0 n true) (restS l 0 n true) (errS l 0 n true)) := by
  obtain ⟨A, k, c, h1, h2, h3, h4, h5⟩ := h
  have hl : k = l.length := by have := h2.1; rw [u8s_length] at this; omega
  subst hl
  have hc := h1.cell 1
  have hc0 := h1.cell 0
  have hf := h1.free 0
  have H := fun A' => took_ok (A' := A') h1 h2 h3 h4 h5 hn
  unfold maxLen at h4
  go_enter Try.func46, Try.ntmps46
  go_wp2
  · go_ret
    have hcn : c = n := by assumption
    subst hcn
    simpa using H A (by simp)
  · go_ret
    have hcn : ¬ c = n := by assumption
    exact H _ (by rw [if_neg hcn])

theorem take_any (g : Nat) (l : List UInt8) (e n : Int) (may : Bool) (w : World) (h : CutAt w lo g l e) (hn : may = true → 0 ≤ n) :
    Calls Try.prog 46 #[.pointer (some ⟨g, 0, none⟩), .int .i64 n, .bool may] w (Took w lo g (headS l e n may) (restS l e n may) (errS l e n may)) := by
  by_cases he : e = 0
  · subst he
    cases may with
    | false => exact take_bad g l n w h
    | true =>
      obtain ⟨k, rfl⟩ := Int.eq_ofNat_of_zero_le (hn rfl)
      by_cases hk : k ≤ l.length
      · exact take_ok g l k w h hk
      · exact take_short g l k w h (by omega)
  · exact take_err g l e n may w h he

/-- A copy of bytes, in new memory. -/
def Copied (w : World) (n : Nat) (l : List UInt8) (en : Ending) (w' : World) : Prop :=
  ∃ A c, en = .returned (.slice A n c) ∧ w'.ownsRow w.heap.size 5 1 (.slice A n c) n (u8s l) ∧ Below w.heap.size w w'

theorem clone_any (A : Option Addr) (n c : Nat) (l : List UInt8) (w : World) (h : Row w w.heap.size 1 A n (u8s l)) (hn : n ≤ 140737488355328) :
    Calls Try.prog 44 #[.slice A n c] w (Copied w n l) := by
  cases A with
  | none =>
    have h0 : n = 0 := by
      rcases Nat.eq_zero_or_pos n with h0 | h0
      · exact h0
      · obtain ⟨g, o, e, _⟩ := h.2 h0
        cases e
    subst h0
    obtain rfl : l = [] := List.eq_nil_of_length_eq_zero (by have := h.1; rw [u8s_length] at this; omega)
    have hnil : ∀ w, (binOp .eql 33 (.slice none 0 c) (.slice none 0 0)).run Try.prog w = .ok (.bool true) w := fun w => Lib.run_eql_slice_nil (P := Try.prog) w 33 5 none 0 c 0 0 Try.underlying33
    go_enter Try.func44, Try.ntmps44
    go_wp2
    go_ret
    exact ⟨none, 0, rfl, World.ownsRow_nil _ _ _ _, Below.refl _ _⟩
  | some a =>
    have hnil : ∀ w, (binOp .eql 33 (.slice (some a) n c) (.slice none 0 0)).run Try.prog w = .ok (.bool false) w := fun w => Lib.run_eql_slice_nil (P := Try.prog) w 33 5 (some a) n c 0 0 Try.underlying33
    go_enter Try.func44, Try.ntmps44
    go_wp2_with (at_builtin; go_loud (refine wpl_append _ rfl (.tmp 5) (.tmp 6) 33 rfl w.heap.size 5 (.int .u8 0) 1 1 Try.underlying33 info_u8 rfl (by decide) (.slice (some ⟨w.heap.size, 0, none⟩) 0 0) 0 [] rfl (World.ownsRow_made w #[] 0 (Nat.le_refl _) (by decide) rfl) w.heap.size (some a) n c (u8s l) rfl (h.alloc (Nat.le_refl _) _) (u8s_one l) (by unfold maxLen; omega) (by omega) (by simp) ?_); intro v' w1 hown hg _)
    obtain ⟨A', c', rfl⟩ := own_form hown
    go_ret
    exact ⟨A', c', by simp, by simpa using hown, ((Below.refl _ _).alloc (Nat.le_refl _) _).grown hg (by simp) (fun k hk => by simp [Value.ownBlock] at hk; omega)⟩

/-- A new Cut over the bytes l. -/
def Made (w : World) (l : List UInt8) (en : Ending) (w' : World) : Prop :=
  ∃ g, en = .returned (.pointer (some ⟨g, 0, none⟩)) ∧ w.heap.size ≤ g ∧ CutAt w' w.heap.size g l 0 ∧ Below w.heap.size w w'

theorem new_any (A : Option Addr) (n c : Nat) (l : List UInt8) (w : World) (h : Row w w.heap.size 1 A n (u8s l)) (hn : n ≤ 140737488355328) :
    Calls Try.prog 25 #[.slice A n c] w (Made w l) := by
  go_enter Try.func25, Try.ntmps25
  go_wp2_with (go_at_call 44; refine (clone_any A n c l _ h hn).mono ?_; rintro e w1 ⟨A', c', rfl, hown, hb⟩)
  go_ret
  exact ⟨w1.heap.size, rfl, hb.size, ⟨A', n, c', Whole.new _ _ _, (Row.of_own hown).alloc (Nat.le_refl _) _, (own_cap hown).1, (own_cap hown).2, own_lo hown⟩, hb.alloc hb.size _⟩

theorem only_trans {a b c : World} {g : Nat} (h : a.grownBy b (some g)) (k : b.grownBy c (some g)) : a.grownBy c (some g) :=
  ⟨k.os.trans h.os, k.tape.trans h.tape, k.output.trans h.output, Nat.le_trans h.size k.size, fun i hi hne => (k.block i (Nat.lt_of_lt_of_le hi h.size) hne).trans (h.block i hi hne)⟩
theorem only_below {a b : World} (h : Below a.heap.size a b) (row : Option Nat) : a.grownBy b row := ⟨h.os, h.tape, h.output, h.size, fun i hi _ => h.block i hi⟩

theorem head_le (l : List UInt8) (e n : Int) (may : Bool) : (headS l e n may).length ≤ l.length := by
  unfold headS; split <;> simp [List.length_take]; omega

end Go.Proofs.Yticnaljfnjiofaa
/-
  A cut and a draw.
-/
namespace Go.Proofs.Yticnaljfnjiofaa
open Go.RowKit

theorem grown_drew' {w w' : World} {row : Option Nat} (h : w.drew.grownBy w' row) : w.grownBy w' row := ⟨h.os, h.tape, h.output, h.size, h.block⟩

theorem CutAt.drew {w : World} {lo g : Nat} {l : List UInt8} {e : Int} (h : CutAt w lo g l e) : CutAt w.drew lo g l e := h
end Go.Proofs.Yticnaljfnjiofaa
/-
  Contracts of octet's Num and Put.
-/
namespace Go.Proofs.Yticnaljfnjiofaa
open Go.RowKit
variable {lo : Nat}

theorem join_byte (x b : Nat) (hx : x < 72057594037927936) (hb : b < 256) : bits .or .u64 ((x : Int) * 256) (b : Int) = ((x * 256 + b : Nat) : Int) := by
  have e : ((x : Int) * 256) = ((x * 256 : Nat) : Int) := by omega
  rw [e, u64_or_nat _ _ (by omega) (by omega)]
  rw [nat_join8 _ _ (by omega) hb]

/-- Num's outcome. -/
def Numbed (w : World) (lo g : Nat) (hd rs : List UInt8) (e' : Int) (en : Ending) (w' : World) : Prop :=
  en = .returned (.int .u64 (be hd : Int)) ∧ CutAt w' lo g rs e' ∧ w.grownBy w' (some g)

theorem num_nil (n : Int) (w : World) : Calls Try.prog 30 #[.pointer none, .int .i64 n] w fun e w' => e = .returned (.int .u64 0) ∧ w = w' := by
  go_enter Try.func30, Try.ntmps30
  go_wp2_with (first | (go_at_call 47; refine (isSize_any _ _).mono ?_; rintro e w' ⟨rfl, rfl⟩) | (go_at_call 46; refine (take_nil _ _ _).mono ?_; rintro e w' ⟨rfl, rfl⟩))
  refine wp_loop_rounds 1 ?_
  rw [rounds_succ]
  go_wp2
  go_ret
  exact ⟨rfl, rfl⟩

theorem num_any (g : Nat) (l : List UInt8) (e n : Int) (w : World) (h : CutAt w lo g l e) :
    Calls Try.prog 30 #[.pointer (some ⟨g, 0, none⟩), .int .i64 n] w (Numbed w lo g (headS l e n (sizeB n)) (restS l e n (sizeB n)) (errS l e n (sizeB n))) := by
  have hsz : (headS l e n (sizeB n)).length ≤ 8 := by
    unfold headS; split
    · rename_i hh; have := hh.2.1; simp [sizeB] at this; simp [List.length_take]; omega
    · simp
  generalize hhd : headS l e n (sizeB n) = hd at hsz ⊢
  have Hh := Lib.hid hhd
  clear hhd
  go_enter Try.func30, Try.ntmps30
  go_wp2_with (go_at_call 47; refine (isSize_any _ _).mono ?_; rintro e w' ⟨rfl, rfl⟩)
  refine (take_any g l e n (sizeB n) w h (by simp [sizeB]; omega)).mono ?_
  rintro e' w1 ⟨A, k, c, rfl, hr, hc, hg⟩
  rw [Hh.out] at hr
  have hk : k = hd.length := by have := hr.1; rw [u8s_length] at this; omega
  subst hk
  have hfin : Numbed w lo g hd (restS l e n (sizeB n)) (errS l e n (sizeB n)) (.returned (.int .u64 (be hd : Int))) w1 := ⟨rfl, hc, hg⟩
  have H := Lib.hid hfin
  clear hfin hc hg h Hh
  go_wp2
  go_loop [5, 14] (fun x i => ∃ k : Nat, k ≤ hd.length ∧ i = .int .i64 k ∧ x = .int .u64 (be (hd.take k) : Int)) (fun _ i => hd.length - (intOf i).toNat)
  case atStart => exact ⟨0, Nat.zero_le _, rfl, rfl⟩
  case round =>
    obtain ⟨k, hk, rfl, rfl⟩ := hrel
    by_cases hlt : k < hd.length
    · obtain ⟨b, o, hA, _, hcell⟩ := hr.2 (by omega)
      subst hA
      have hc1 := hcell k _ (u8s_get hd k hlt)
      have hb1 := be_small hd k (by omega)
      have hby := u8_lt hd[k]
      have Hs := Lib.hid (be_take hd k hlt)
      clear hcell hr
      go_wp2
      go_round
      case rel => exact ⟨k + 1, by omega, by go_num, by rw [Hs.out, join_byte _ _ hb1 hd[k].toNat_lt]⟩
      case measure => simp [intOf]; omega
    · have hk2 : k = hd.length := by omega
      subst hk2
      clear hr
      go_wp2
      go_ret
      simpa using H.out

/-- Parts as cells. -/
def partC (l : List (Nat × Int)) : List Value := l.flatMap fun p => [.int .u64 (p.1 : Int), .int .i64 p.2]
theorem partC_length (l : List (Nat × Int)) : (partC l).length = l.length * 2 := by induction l <;> simp_all [partC]; omega
theorem partC_get (l : List (Nat × Int)) (k : Nat) (hk : k < l.length) : (partC l)[k * 2]? = some (.int .u64 (l[k].1 : Int)) ∧ (partC l)[k * 2 + 1]? = some (.int .i64 l[k].2) := by
  induction l generalizing k with
  | nil => simp at hk
  | cons p l ih =>
    cases k with
    | zero => simp [partC]
    | succ k =>
      have h := ih k (by simpa using hk)
      have e : (k + 1) * 2 = k * 2 + 1 + 1 := by omega
      simpa [partC, e] using h

theorem byte_eq (x m : Nat) : (x : Int) / 2 ^ (8 * (m + 1) - 8) % 256 = ((UInt8.ofNat (x / 256 ^ m)).toNat : Int) := by
  have e : (2 : Int) ^ (8 * (m + 1) - 8) = ((256 ^ m : Nat) : Int) := by
    rw [show 8 * (m + 1) - 8 = 8 * m by omega, Int.pow_mul, Int.natCast_pow]
    rfl
  rw [e]
  generalize 256 ^ m = q
  rw [UInt8.toNat_ofNat', ← Int.natCast_ediv]
  omega

/-- One byte more, by the law on append. -/
theorem put_step {w wr w1 : World} {B gp : Nat} {v v' : Value} (x m s : Nat) (d acc : List UInt8) (hd : d ++ bytesN x (m + 1) = bytesN x s) {cs : Array Value}
    (hown : wr.ownsRow B 5 1 v (acc.length + d.length) (u8s (acc ++ d))) (hwh : Whole wr gp 154 cs) (hb : Below B w wr) (hB : B ≤ wr.heap.size) {o : Obj}
    (hown3 : w1.ownsRow B 5 1 v' (acc.length + d.length + 1) (u8s (acc ++ d) ++ [.int .u8 ((x : Int) / 2 ^ (8 * (m + 1) - 8) % 256)])) (hg : (wr.alloc o).grownBy w1 v.ownBlock) :
    Hid ((d ++ [UInt8.ofNat (x / 256 ^ m)]) ++ bytesN x m = bytesN x s) ∧ w1.ownsRow B 5 1 v' (acc.length + (d ++ [UInt8.ofNat (x / 256 ^ m)]).length) (u8s (acc ++ (d ++ [UInt8.ofNat (x / 256 ^ m)]))) ∧
      Whole w1 gp 154 cs ∧ Below B w w1 := by
  refine ⟨?_, ?_, ?_, ?_⟩
  · show _ = _
    rw [← hd]; simp [bytesN]
  · rw [byte_eq] at hown3
    rw [← List.append_assoc, u8s_append (acc ++ d)]
    simpa [u8s, Nat.add_assoc] using hown3
  · exact (hwh.alloc o).grown hg (own_far hown hwh (by decide))
  · exact (hb.alloc hB o).grown hg (by simp; omega) (fun k hk => (hown.lt k hk).1)

/-- Put's outcome. -/
def PutDone (w : World) (l : List (Nat × Int)) (en : Ending) (w' : World) : Prop :=
  ∃ A c, en = .returned (.slice A (putS l).length c) ∧ w'.ownsRow w.heap.size 5 1 (.slice A (putS l).length c) (putS l).length (u8s (putS l)) ∧ Below w.heap.size w w'

theorem put_any (A : Option Addr) (n c : Nat) (l : List (Nat × Int)) (w : World) (h : Row w w.heap.size 2 A n (partC l)) (hn : n ≤ 65536) (hx : ∀ p ∈ l, p.1 < 18446744073709551616) :
    Calls Try.prog 74 #[.slice A n c] w (PutDone w l) := by
  have hl : l.length = n := by have := h.1; rw [partC_length] at this; omega
  subst hl
  obtain ⟨B, hB⟩ : ∃ B, w.heap.size = B := ⟨_, rfl⟩
  have HB := Lib.hid hB
  clear hB
  go_enter Try.func74, Try.ntmps74
  go_wp2
  go_loopw [3, 9] (fun v i wr => ∃ k : Nat, k ≤ l.length ∧ i = .int .i64 k ∧ wr.ownsRow B 5 1 v (putS (l.take k)).length (u8s (putS (l.take k))) ∧ Below B w wr) (fun _ i _ => l.length - (intOf i).toNat)
  case atStart => exact ⟨0, Nat.zero_le _, rfl, World.ownsRow_nil _ _ _ _, Below.refl _ _⟩
  case round =>
    obtain ⟨k, hk, rfl, hown, hb⟩ := hrel
    by_cases hlt : k < l.length
    · obtain ⟨g, o, hA, hg, hcell⟩ := h.2 (by omega)
      subst hA
      have hc0 := (hb.cell (p := ⟨g, o + k * 2, none⟩) (by rw [← HB.out]; exact hg)).trans (hcell _ _ (partC_get l k hlt).1)
      have hc1 := (hb.cell (p := ⟨g, o + k * 2 + 1, none⟩) (by rw [← HB.out]; exact hg)).trans (hcell _ _ (partC_get l k hlt).2)
      clear hcell
      have htk := Lib.hid (putS_take l k hlt)
      generalize hp : l[k] = p at hc0 hc1 htk
      obtain ⟨x, size⟩ := p
      dsimp only at hc0 hc1
      have hxk : x < 18446744073709551616 := by have := hx l[k] (List.getElem_mem _); rw [hp] at this; exact this
      clear hp h
      cases hsz : sizeB size with
      | false =>
        have htk' := Lib.hid (show putS (l.take (k + 1)) = putS (l.take k) by rw [htk.out]; simp [putOne, hsz])
        have Hsz := Lib.hid hsz
        clear hsz htk
        go_wp2_with (go_at_call 47; refine (isSize_any _ _).mono ?_; rintro e w' ⟨rfl, rfl⟩; rw [Hsz.out])
        go_roundw
        case rel => exact ⟨k + 1, by omega, by go_num, by rw [htk'.out]; exact hown.alloc _, hb.alloc (by rw [← HB.out]; exact hb.size) _⟩
        case measure => simp [intOf]; omega
      | true =>
        have hs : 1 ≤ size ∧ size ≤ 8 := by simpa [sizeB] using hsz
        obtain ⟨s, rfl⟩ := Int.eq_ofNat_of_zero_le (show 0 ≤ size by omega)
        obtain ⟨hs1, hs8⟩ := hs
        have htk' := Lib.hid (show putS (l.take (k + 1)) = putS (l.take k) ++ bytesN x s by rw [htk.out]; simp [putOne, hsz])
        have Hsz := Lib.hid hsz
        have hacc : (putS (l.take k)).length ≤ 8 * 65536 := by have := putS_length (l.take k); simp only [List.length_take] at this; omega
        generalize putS (l.take k) = acc at hown htk' hacc
        clear hsz htk
        obtain ⟨wo, rfl⟩ : ∃ wo : World, wo = wr := ⟨_, rfl⟩
        go_wp2_with (go_at_call 47; refine (isSize_any _ _).mono ?_; rintro e w' ⟨rfl, rfl⟩; rw [Hsz.out])
        go_loopw [3, 6] (fun v low wi => ∃ (m : Nat) (d : List UInt8), m ≤ s ∧ low = .int .i64 (8 * (m : Int) - 8) ∧ Hid (d ++ bytesN x m = bytesN x s) ∧ wi.ownsRow B 5 1 v (acc.length + d.length) (u8s (acc ++ d)) ∧ Whole wi wo.heap.size 154 #[.int .u64 (x : Int), .int .i64 (s : Int)] ∧ Below B w wi)
          (fun _ low _ => (intOf low + 8).toNat)
        case atStart => exact ⟨s, [], Nat.le_refl _, by go_num, rfl, by simpa using hown.alloc _, Whole.new _ _ _, hb.alloc (by rw [← HB.out]; exact hb.size) _⟩
        case round =>
          obtain ⟨m, d, hm, rfl, hd, hown2, hwh, hb2⟩ := hrel
          rcases m with _ | m
          · have hd0 : d = bytesN x s := by simpa [bytesN] using hd.out
            subst hd0
            clear hd hwh
            go_wp2
            go_roundw
            case rel => exact ⟨k + 1, by omega, by go_num, by rw [htk'.out]; simpa [bytesN_length] using hown2, hb2⟩
            case measure => simp [intOf]; omega
          · have hcx := hwh.cell 0
            go_wp2_with (at_builtin; refine wpl_append _ rfl (.tmp 25) (.tmp 31) 33 rfl B 5 (.int .u8 0) 1 1 Try.underlying33 info_u8 rfl (by decide) _ _ _ rfl (hown2.alloc _) _ _ 1 1 [_] rfl (Row.one _ _ _) ?c1 ?c2 ?c3 ?c4 ?_)
            case c1 => intro u hu; simp at hu; subst hu; rfl
            case c2 => have : d.length ≤ s := by have := congrArg List.length hd.out; simp [bytesN_length] at this; omega
                       unfold maxLen; omega
            case c3 => have : d.length ≤ s := by have := congrArg List.length hd.out; simp [bytesN_length] at this; omega
                       omega
            case c4 => have := hb2.size; have := HB.out; simp; omega
            · intro v' w1 hown3 hg3 _
              have R := put_step x m s d acc hd.out hown2 hwh hb2 (by have := hb2.size; have := HB.out; omega) hown3 hg3
              clear hown3 hg3 hown2 hwh hb2 hd hcx
              go_wp2
              go_roundw
              case rel => exact ⟨m, _, by omega, by go_num, R.1, R.2.1, R.2.2.1, R.2.2.2⟩
              case measure => simp [intOf]; omega
    · have hk2 : k = l.length := by omega
      subst hk2
      obtain ⟨A', c', rfl⟩ := own_form hown
      have hfin : PutDone w l (.returned (.slice A' (putS l).length c')) wr := by
        rw [List.take_length] at hown
        exact ⟨A', c', rfl, by rw [HB.out]; exact hown, by rw [HB.out]; exact hb⟩
      have H := Lib.hid hfin
      clear hfin hown hb h
      go_wp2
      go_ret
      simpa using H.out
end Go.Proofs.Yticnaljfnjiofaa
/-
  The contract of octet's Bytes.
-/
namespace Go.Proofs.Yticnaljfnjiofaa
open Go.RowKit
variable {lo : Nat}

/-- Bytes's outcome: a copy of the head, in memory that is newer than the call. -/
def Byted (w : World) (lo g : Nat) (hd rs : List UInt8) (e' : Int) (en : Ending) (w' : World) : Prop :=
  ∃ A c, en = .returned (.slice A hd.length c) ∧ w'.ownsRow w.heap.size 5 1 (.slice A hd.length c) hd.length (u8s hd) ∧ CutAt w' lo g rs e' ∧ w.grownBy w' (some g)

theorem bytes_nil (n : Int) (w : World) : Calls Try.prog 29 #[.pointer none, .int .i64 n] w fun e w' => e = .returned (.slice none 0 0) ∧ w = w' := by
  have hnil : ∀ w, (binOp .eql 33 (.slice none 0 0) (.slice none 0 0)).run Try.prog w = .ok (.bool true) w := fun w => Lib.run_eql_slice_nil (P := Try.prog) w 33 5 none 0 0 0 0 Try.underlying33
  by_cases hn : 0 ≤ n
  all_goals
    go_enter Try.func29, Try.ntmps29
    go_wp2
    go_ret
    exact ⟨rfl, rfl⟩

theorem bytes_any (g : Nat) (l : List UInt8) (e n : Int) (w : World) (h : CutAt w lo g l e) (hl : l.length ≤ 140737488355328) :
    Calls Try.prog 29 #[.pointer (some ⟨g, 0, none⟩), .int .i64 n] w (Byted w lo g (headS l e n (decide (0 ≤ n))) (restS l e n (decide (0 ≤ n))) (errS l e n (decide (0 ≤ n)))) := by
  go_enter Try.func29, Try.ntmps29
  go_wp2_with fail
  refine (take_any g l e n (decide (0 ≤ n)) w h (by simp)).mono ?_
  rintro e' w1 ⟨A, k, c, rfl, hr, hc, hg⟩
  have hk : k = (headS l e n (decide (0 ≤ n))).length := by have := hr.1; rw [u8s_length] at this; omega
  have hle := head_le l e n (decide (0 ≤ n))
  subst hk
  go_wp2_with fail
  refine (clone_any A _ c _ w1 (hr.more (Nat.le_of_lt hc.lt)) (by omega)).mono ?_
  rintro e' w2 ⟨A', c', rfl, hown, hb⟩
  have hfin : Byted w lo g (headS l e n (decide (0 ≤ n))) (restS l e n (decide (0 ≤ n))) (errS l e n (decide (0 ≤ n))) (.returned (.slice A' (headS l e n (decide (0 ≤ n))).length c')) w2 :=
    ⟨A', c', rfl, own_base hown hg.size, hc.below hb hc.lt, only_trans hg (only_below hb _)⟩
  have H := Lib.hid hfin
  clear hfin hown hb hc hg hr
  go_wp2_with fail
  go_ret
  exact H.out
end Go.Proofs.Yticnaljfnjiofaa
/-
  The words on memory (MemW), with octet's contracts.
-/
