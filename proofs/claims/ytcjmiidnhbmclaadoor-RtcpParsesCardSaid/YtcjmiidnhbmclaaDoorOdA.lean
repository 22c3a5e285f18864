/-
  Contracts of package octet's calls on a Cut, and of slices.Clone at bytes.
-/
import Derived.Test.YtcjmiidnhbmclaaDoorProg
import Derived.Test.YtcjmiidnhbmclaaDoorWords
import Derived.Test.YtcjmiidnhbmclaaDoorOctP
namespace Go.Proofs.YtcjmiidnhbmclaaDoor
open Go.RowKit
variable {lo : Nat}

theorem info_u8 : (Tryd.prog.info? 5).map (fun i => (i.zero, i.size, i.bytes)) = some (some (.int .u8 0), 1, 1) := by kernel_rfl

theorem isSize_any (n : Int) (w : World) : Calls Tryd.prog 54 #[.int .i64 n] w fun e w' => e = .returned (.bool (sizeB n)) ∧ w = w' := by
  by_cases h1 : 1 ≤ n <;> by_cases h8 : n ≤ 8
  all_goals
    go_enter Tryd.func54, Tryd.ntmps54
    go_wp2
    go_ret
    exact ⟨by simp [sizeB, h1, h8], rfl⟩

/-- Block g is a Cut whose bytes that are left are l, and whose error is e. -/
def CutAt (w : World) (lo g : Nat) (l : List UInt8) (e : Int) : Prop :=
  ∃ A n c, Whole w g 99 #[.slice A n c, .int .i64 e] ∧ Row w g 1 A n (u8s l) ∧ n ≤ c ∧ c ≤ maxLen ∧ ∀ a, A = some a → lo ≤ a.block

theorem CutAt.below {w w' : World} {g b : Nat} {l : List UInt8} {e : Int} (h : CutAt w lo g l e) (hb : Below b w w') (hg : g < b) : CutAt w' lo g l e := by
  obtain ⟨A, n, c, h1, h2, h3⟩ := h
  exact ⟨A, n, c, h1.below hb hg, h2.below hb (by omega), h3⟩
theorem CutAt.lt {w : World} {g : Nat} {l : List UInt8} {e : Int} (h : CutAt w lo g l e) : g < w.heap.size := by
  obtain ⟨A, n, c, h1, h2, h3⟩ := h
  exact h1.lt

theorem CutAt.alloc {w : World} {g : Nat} {l : List UInt8} {e : Int} (h : CutAt w lo g l e) (o : Obj) : CutAt (w.alloc o) lo g l e := by
  obtain ⟨A, n, c, h1, h2, h3⟩ := h
  exact ⟨A, n, c, h1.alloc o, h2.alloc (Nat.le_of_lt h1.lt) o, h3⟩
theorem CutAt.far {w : World} {g : Nat} {l : List UInt8} {e : Int} (h : CutAt w lo g l e) {p : Addr} (hp : g < p.block) (u : Value) : CutAt (w.setCell p u) lo g l e := by
  obtain ⟨A, n, c, h1, h2, h3⟩ := h
  exact ⟨A, n, c, h1.far (by omega) u, h2.set (by omega) u, h3⟩

/-- Nothing of it turns where older memory is written. -/
theorem CutAt.low {w : World} {g : Nat} {l : List UInt8} {e : Int} (h : CutAt w lo g l e) {p : Addr} (hp : p.block < lo) (hg : lo ≤ g) (u : Value) : CutAt (w.setCell p u) lo g l e := by
  obtain ⟨A, n, c, h1, h2, h3, h4, h5⟩ := h
  refine ⟨A, n, c, h1.far (by omega) u, ⟨h2.1, fun hn => ?_⟩, h3, h4, h5⟩
  obtain ⟨b, o, e, hb, hc⟩ := h2.2 hn
  have := h5 _ e
  refine ⟨b, o, e, hb, fun j v hv => ?_⟩
  rw [World.cell?_setCell_other w p ⟨b, o + j, none⟩ u (fun e => by subst e; simp at hp this; omega)]
  exact hc j v hv
theorem CutAt.grown {w w' : World} {g : Nat} {l : List UInt8} {e : Int} (h : CutAt w lo g l e) {row : Option Nat} (hg : w.grownBy w' row) (hr : ∀ q, row = some q → g < q) : CutAt w' lo g l e := by
  obtain ⟨A, n, c, h1, h2, h3⟩ := h
  exact ⟨A, n, c, h1.grown hg (fun e => by have := hr g e.symm; omega), h2.grown hg (Nat.le_of_lt h1.lt) (fun q hq => Nat.le_of_lt (hr q hq)), h3⟩

theorem CutAt.kept {w w' : World} {g : Nat} {l : List UInt8} {e : Int} (h : CutAt w lo g l e) {row : Option Nat} (hg : w.grownBy w' row) (hr : ∀ q, row = some q → q < lo) (hlo : lo ≤ g) : CutAt w' lo g l e := by
  obtain ⟨A, n, c, h1, h2, h3, h4, h5⟩ := h
  refine ⟨A, n, c, h1.grown hg (fun e => by have := hr g e.symm; omega), ⟨h2.1, fun hn => ?_⟩, h3, h4, h5⟩
  obtain ⟨b, o, e, hb, hc⟩ := h2.2 hn
  have := h5 _ e
  have hlt := h1.lt
  refine ⟨b, o, e, hb, fun j v hv => ?_⟩
  rw [World.cell?_of_block (a := ⟨b, o + j, none⟩) (hg.block b (by omega) (fun e => by have := hr b e.symm; simp at *; omega))]
  exact hc j v hv

theorem left_nil (w : World) : Calls Tryd.prog 26 #[.pointer none] w fun e w' => e = .returned (.int .i64 0) ∧ w = w' := by
  go_enter Tryd.func26, Tryd.ntmps26
  go_wp2
  go_ret
  exact ⟨rfl, rfl⟩

theorem left_any (g : Nat) (l : List UInt8) (e0 : Int) (w : World) (h : CutAt w lo g l e0) :
    Calls Tryd.prog 26 #[.pointer (some ⟨g, 0, none⟩)] w fun e w' => e = .returned (.int .i64 l.length) ∧ w = w' := by
  obtain ⟨A, n, c, h1, h2, h3⟩ := h
  have hl : n = l.length := by have := h2.1; rw [u8s_length] at this; omega
  subst hl
  have hc := h1.cell 0
  clear h1 h2
  go_enter Tryd.func26, Tryd.ntmps26
  go_wp2
  go_ret
  exact ⟨rfl, rfl⟩

theorem err_nil (w : World) : Calls Tryd.prog 39 #[.pointer none] w fun e w' => e = .returned (.int .i64 1) ∧ w = w' := by
  go_enter Tryd.func39, Tryd.ntmps39
  go_wp2
  go_ret
  exact ⟨rfl, rfl⟩

theorem err_any (g : Nat) (l : List UInt8) (e0 : Int) (w : World) (h : CutAt w lo g l e0) :
    Calls Tryd.prog 39 #[.pointer (some ⟨g, 0, none⟩)] w fun e w' => e = .returned (.int .i64 e0) ∧ w = w' := by
  obtain ⟨A, n, c, h1, h2, h3⟩ := h
  have hc := h1.cell 1
  clear h1 h2
  go_enter Tryd.func39, Tryd.ntmps39
  go_wp2
  go_ret
  exact ⟨rfl, rfl⟩

/-- take's outcome. -/
def Took (w : World) (lo g : Nat) (hd rs : List UInt8) (e' : Int) (en : Ending) (w' : World) : Prop :=
  ∃ A k c, en = .returned (.slice A k c) ∧ Row w' g 1 A k (u8s hd) ∧ CutAt w' lo g rs e' ∧ w.grownBy w' (some g)

theorem grown_set (w : World) (g : Nat) (j : Nat) (u : Value) : w.grownBy (w.setCell ⟨g, j, none⟩ u) (some g) :=
  ⟨rfl, rfl, rfl, by simp [World.setCell], fun k _ hne => Below.heap_setCell _ _ _ _ (fun e => hne (by simp [e]))⟩

theorem take_nil (n : Int) (b : Bool) (w : World) : Calls Tryd.prog 55 #[.pointer none, .int .i64 n, .bool b] w fun e w' => e = .returned (.slice none 0 0) ∧ w = w' := by
  go_enter Tryd.func55, Tryd.ntmps55
  go_wp2
  go_ret
  exact ⟨rfl, rfl⟩

theorem take_err (g : Nat) (l : List UInt8) (e n : Int) (may : Bool) (w : World) (h : CutAt w lo g l e) (he : e ≠ 0) :
    Calls Tryd.prog 55 #[.pointer (some ⟨g, 0, none⟩), .int .i64 n, .bool may] w (Took w lo g (headS l e n may) (restS l e n may) (errS l e n may)) := by
  have hfin : Took w lo g (headS l e n may) (restS l e n may) (errS l e n may) (.returned (.slice none 0 0)) w :=
    ⟨none, 0, 0, rfl, by simp [headS, he, u8s]; exact Row.nil, by simpa [restS, errS, he] using h, World.grownBy.refl _ _⟩
  have H := Lib.hid hfin
  obtain ⟨A, k, c, h1, h2, h3⟩ := h
  have hc := h1.cell 1
  have hb : (e != 0) = true := by simpa using he
  clear h1 h2 hfin he
  go_enter Tryd.func55, Tryd.ntmps55
  go_wp2
  go_ret
  exact H.out

theorem take_bad (g : Nat) (l : List UInt8) (n : Int) (w : World) (h : CutAt w lo g l 0) :
    Calls Tryd.prog 55 #[.pointer (some ⟨g, 0, none⟩), .int .i64 n, .bool false] w (Took w lo g (headS l 0 n false) (restS l 0 n false) (errS l 0 n false)) := by
  obtain ⟨A, k, c, h1, h2, h3⟩ := h
  have hfin : Took w lo g (headS l 0 n false) (restS l 0 n false) (errS l 0 n false) (.returned (.slice none 0 0)) (w.setCell ⟨g, 1, none⟩ (.int .i64 1)) :=
    ⟨none, 0, 0, rfl, by simp [headS, u8s]; exact Row.nil, ⟨A, k, c, by simpa [errS] using h1.set 1 (.int .i64 1), by simpa [restS] using h2.set (p := ⟨g, 1, none⟩) (Nat.le_refl _) _, h3⟩, grown_set _ _ _ _⟩
  have H := Lib.hid hfin
  have hc := h1.cell 1
  have hf := h1.free 1
  clear h1 h2 hfin
  go_enter Tryd.func55, Tryd.ntmps55
  go_wp2
  go_ret
  exact H.out

theorem take_short (g : Nat) (l : List UInt8) (n : Int) (w : World) (h : CutAt w lo g l 0) (hn : (l.length : Int) < n) :
    Calls Tryd.prog 55 #[.pointer (some ⟨g, 0, none⟩), .int .i64 n, .bool true] w (Took w lo g (headS l 0 n true) (restS l 0 n true) (errS l 0 n true)) := by
  obtain ⟨A, k, c, h1, h2, h3⟩ := h
  have hl : k = l.length := by have := h2.1; rw [u8s_length] at this; omega
  subst hl
  have hfin : Took w lo g (headS l 0 n true) (restS l 0 n true) (errS l 0 n true) (.returned (.slice none 0 0)) (w.setCell ⟨g, 1, none⟩ (.int .i64 10)) :=
    ⟨none, 0, 0, rfl, by simp [headS, u8s, show ¬ n ≤ (l.length : Int) by omega]; exact Row.nil, ⟨A, l.length, c, by simpa [errS, show ¬ n ≤ (l.length : Int) by omega] using h1.set 1 (.int .i64 10), by simpa [restS, show ¬ n ≤ (l.length : Int) by omega] using h2.set (p := ⟨g, 1, none⟩) (Nat.le_refl _) _, h3⟩, grown_set _ _ _ _⟩
  have H := Lib.hid hfin
  have hc := h1.cell 1
  have hc0 := h1.cell 0
  have hf := h1.free 1
  clear h1 h2 hfin
  go_enter Tryd.func55, Tryd.ntmps55
  go_wp2
  go_ret
  exact H.out

/-- What is left behind a cut of n. -/
theorem took_ok {g : Nat} {l : List UInt8} {n : Nat} {w : World} {A A' : Option Addr} {c : Nat} (h1 : Whole w g 99 #[.slice A l.length c, .int .i64 0]) (h2 : Row w g 1 A l.length (u8s l)) (h3 : l.length ≤ c) (h4 : c ≤ maxLen) (h5 : ∀ a, A = some a → lo ≤ a.block)
    (hn : n ≤ l.length) (hA : A' = if c = n then A else A.map fun x => x.add n) :
    Took w lo g (headS l 0 n true) (restS l 0 n true) (errS l 0 n true) (.returned (.slice A n n)) (w.setCell ⟨g, 0, none⟩ (.slice A' (l.length - n) (c - n))) := by
  have hn' : (n : Int) ≤ (l.length : Int) := by omega
  have hg : g ≤ (⟨g, 0, none⟩ : Addr).block := Nat.le_refl _
  refine ⟨A, n, n, rfl, ?_, ⟨A', l.length - n, c - n, ?_, ?_, by omega, by unfold maxLen at h4 ⊢; omega, ?_⟩, grown_set _ _ _ _⟩
  · simp only [headS, true_and, hn', if_true, Int.toNat_natCast, u8s_take]
    refine Row.set (p := ⟨g, 0, none⟩) ⟨by simp [u8s_length]; omega, fun h0 => ?_⟩ hg _
    obtain ⟨b, o, e, hb, hc⟩ := h2.2 (by omega)
    exact ⟨b, o, e, hb, fun j u hu => hc j u (by rw [List.getElem?_take] at hu; split at hu <;> simp_all)⟩
  · simpa [errS, hn'] using h1.set 0 (.slice A' (l.length - n) (c - n))
  · simp only [restS, true_and, hn', if_true, Int.toNat_natCast, u8s_drop]
    refine Row.set (p := ⟨g, 0, none⟩) ⟨by simp [u8s_length], fun h0 => ?_⟩ hg _
    obtain ⟨b, o, e, hb, hc⟩ := h2.2 (by omega)
    rw [if_neg (by omega)] at hA
    subst e
    refine ⟨b, o + n, by simpa [Addr.add_lit] using hA, hb, fun j u hu => ?_⟩
    rw [List.getElem?_drop] at hu
    rw [Nat.add_assoc]
    exact hc _ u hu
  · intro a ha
    rw [hA] at ha
    split at ha
    · exact h5 a ha
    · cases A with
      | none => simp at ha
      | some a0 =>
        simp at ha
        have := h5 a0 rfl
        subst ha
        unfold Addr.add
        split <;> simpa using this

theorem take_ok (g : Nat) (l : List UInt8) (n : Nat) (w : World) (h : CutAt w lo g l 0) (hn : n ≤ l.length) :
    Calls Tryd.prog 55 #[.pointer (some ⟨g, 0, none⟩), .int .i64 n, .bool true] w (Took w lo g (headS l 0 n true) (restS l 0 n true) (errS l 0 n true)) := by
  obtain ⟨A, k, c, h1, h2, h3, h4, h5⟩ := h
  have hl : k = l.length := by have := h2.1; rw [u8s_length] at this; omega
  subst hl
  have hc := h1.cell 1
  have hc0 := h1.cell 0
  have hf := h1.free 0
  have H := fun A' => took_ok (A' := A') h1 h2 h3 h4 h5 hn
  unfold maxLen at h4
  go_enter Tryd.func55, Tryd.ntmps55
  go_wp2
  · go_ret
    have hcn : c = n := by assumption
    subst hcn
    simpa using H A (by simp)
  · go_ret
    have hcn : ¬ c = n := by assumption
    exact H _ (by rw [if_neg hcn])

theorem take_any (g : Nat) (l : List UInt8) (e n : Int) (may : Bool) (w : World) (h : CutAt w lo g l e) (hn : may = true → 0 ≤ n) :
    Calls Tryd.prog 55 #[.pointer (some ⟨g, 0, none⟩), .int .i64 n, .bool may] w (Took w lo g (headS l e n may) (restS l e n may) (errS l e n may)) := by
  by_cases he : e = 0
  · subst he
    cases may with
    | false => exact take_bad g l n w h
    | true =>
      obtain ⟨k, rfl⟩ := Int.eq_ofNat_of_zero_le (hn rfl)
      by_cases hk : k ≤ l.length
      · exact take_ok g l k w h hk
      · exact take_short g l k w h (by omega)
  · exact take_err g l e n may w h he

/-- A copy of bytes, in new memory. -/
def Copied (w : World) (n : Nat) (l : List UInt8) (en : Ending) (w' : World) : Prop :=
  ∃ A c, en = .returned (.slice A n c) ∧ w'.ownsRow w.heap.size 5 1 (.slice A n c) n (u8s l) ∧ Below w.heap.size w w'

theorem oown_form {w : World} {base : Nat} {e : TypeId} {z n : Nat} {v : Value} {xs : List Value} (h : w.ownsRow base e z v n xs) : ∃ A c, v = .slice A n c := by
  rcases h.2 with ⟨rfl, rfl⟩ | ⟨g, cap, cur, rfl, _⟩
  · exact ⟨_, _, rfl⟩
  · exact ⟨_, _, rfl⟩

theorem clone_any (A : Option Addr) (n c : Nat) (l : List UInt8) (w : World) (h : Row w w.heap.size 1 A n (u8s l)) (hn : n ≤ 140737488355328) :
    Calls Tryd.prog 37 #[.slice A n c] w (Copied w n l) := by
  cases A with
  | none =>
    have h0 : n = 0 := by
      rcases Nat.eq_zero_or_pos n with h0 | h0
      · exact h0
      · obtain ⟨g, o, e, _⟩ := h.2 h0
        cases e
    subst h0
    obtain rfl : l = [] := List.eq_nil_of_length_eq_zero (by have := h.1; rw [u8s_length] at this; omega)
    have hnil : ∀ w, (binOp .eql 25 (.slice none 0 c) (.slice none 0 0)).run Tryd.prog w = .ok (.bool true) w := fun w => Lib.run_eql_slice_nil (P := Tryd.prog) w 25 5 none 0 c 0 0 Tryd.underlying25
    go_enter Tryd.func37, Tryd.ntmps37
    go_wp2
    go_ret
    exact ⟨none, 0, rfl, World.ownsRow_nil _ _ _ _, Below.refl _ _⟩
  | some a =>
    have hnil : ∀ w, (binOp .eql 25 (.slice (some a) n c) (.slice none 0 0)).run Tryd.prog w = .ok (.bool false) w := fun w => Lib.run_eql_slice_nil (P := Tryd.prog) w 25 5 (some a) n c 0 0 Tryd.underlying25
    go_enter Tryd.func37, Tryd.ntmps37
    go_wp2_with (at_builtin; go_loud (refine wpl_append _ rfl (.tmp 5) (.tmp 6) 25 rfl w.heap.size 5 (.int .u8 0) 1 1 Tryd.underlying25 info_u8 rfl (by decide) (.slice (some ⟨w.heap.size, 0, none⟩) 0 0) 0 [] rfl (World.ownsRow_made w #[] 0 (Nat.le_refl _) (by decide) rfl) w.heap.size (some a) n c (u8s l) rfl (h.alloc (Nat.le_refl _) _) (u8s_one l) (by unfold maxLen; omega) (by omega) (by simp) ?_); intro v' w1 hown hg _)
    obtain ⟨A', c', rfl⟩ := oown_form hown
    go_ret
    exact ⟨A', c', by simp, by simpa using hown, ((Below.refl _ _).alloc (Nat.le_refl _) _).grown hg (by simp) (fun k hk => by simp [Value.ownBlock] at hk; omega)⟩

theorem oown_cap {w : World} {base : Nat} {e : TypeId} {z n c : Nat} {A : Option Addr} {xs : List Value} (h : w.ownsRow base e z (.slice A n c) n xs) : n ≤ c ∧ c ≤ maxLen := by
  rcases h.2 with ⟨hv, rfl⟩ | ⟨g, cap, cur, hv, _, _, h1, h2, _⟩
  · have : c = 0 := by injection hv
    subst this
    exact ⟨Nat.le_refl _, by decide⟩
  · have : c = cap := by injection hv
    subst this
    exact ⟨h1, h2⟩

theorem oown_lo {w : World} {base : Nat} {e : TypeId} {z n c : Nat} {A : Option Addr} {xs : List Value} (h : w.ownsRow base e z (.slice A n c) n xs) : ∀ a, A = some a → base ≤ a.block := by
  intro a ha
  subst ha
  exact (h.lt a.block rfl).1

theorem oown_base {w : World} {b b' : Nat} {e : TypeId} {z n : Nat} {v : Value} {xs : List Value} (h : w.ownsRow b e z v n xs) (hb : b' ≤ b) : w.ownsRow b' e z v n xs :=
  ⟨h.1, h.2.imp id fun ⟨g, cap, cur, h1, h2, h3⟩ => ⟨g, cap, cur, h1, Nat.le_trans hb h2, h3⟩⟩

/-- A new Cut over the bytes l. -/
def Made (w : World) (l : List UInt8) (en : Ending) (w' : World) : Prop :=
  ∃ g, en = .returned (.pointer (some ⟨g, 0, none⟩)) ∧ w.heap.size ≤ g ∧ CutAt w' w.heap.size g l 0 ∧ Below w.heap.size w w'

theorem new_any (A : Option Addr) (n c : Nat) (l : List UInt8) (w : World) (h : Row w w.heap.size 1 A n (u8s l)) (hn : n ≤ 140737488355328) :
    Calls Tryd.prog 25 #[.slice A n c] w (Made w l) := by
  go_enter Tryd.func25, Tryd.ntmps25
  go_wp2_with (go_at_call 37; refine (clone_any A n c l _ h hn).mono ?_; rintro e w1 ⟨A', c', rfl, hown, hb⟩)
  go_ret
  exact ⟨w1.heap.size, rfl, hb.size, ⟨A', n, c', Whole.new _ _ _, (Row.of_own hown).alloc (Nat.le_refl _) _, (oown_cap hown).1, (oown_cap hown).2, oown_lo hown⟩, hb.alloc hb.size _⟩

theorem only_trans {a b c : World} {g : Nat} (h : a.grownBy b (some g)) (k : b.grownBy c (some g)) : a.grownBy c (some g) :=
  ⟨k.os.trans h.os, k.tape.trans h.tape, k.output.trans h.output, Nat.le_trans h.size k.size, fun i hi hne => (k.block i (Nat.lt_of_lt_of_le hi h.size) hne).trans (h.block i hi hne)⟩
theorem only_below {a b : World} (h : Below a.heap.size a b) (row : Option Nat) : a.grownBy b row := ⟨h.os, h.tape, h.output, h.size, fun i hi _ => h.block i hi⟩

theorem head_le (l : List UInt8) (e n : Int) (may : Bool) : (headS l e n may).length ≤ l.length := by
  unfold headS; split <;> simp [List.length_take]; omega

end Go.Proofs.YtcjmiidnhbmclaaDoor
