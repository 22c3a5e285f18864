/-
  The contracts of package queue's calls once more, by what the queue holds (string).
-/
import Derived.Test.YtigimpnghecdiaaAllS
namespace Go.Proofs.Ytigimpnghecdiaa
open Go.RowKit

theorem types_ne_S : (56 : TypeId) ≠ 9 := by decide

/-- A call that answers v and leaves the queue with the things l. -/
def LeftS (g r room : Nat) (l : List ByteArray) (v : Value) (w : World) (e : Ending) (w' : World) : Prop := e = .returned v ∧ QS w' g r room l ∧ Two g r w w'

theorem told_leftS {g r room : Nat} {l : List ByteArray} {v : Value} {w w' : World} {e : Ending} (h : QS w g r room l) (k : ToldS v w e w') : LeftS g r room l v w e w' := by
  obtain ⟨rfl, m, rfl⟩ := k
  exact ⟨rfl, h.drewN m, (Two.refl g r w).drewN m⟩
theorem same_leftS {g r room : Nat} {l : List ByteArray} {v : Value} {w w' : World} {e : Ending} (h : QS w g r room l) (k : e = .returned v ∧ w = w') : LeftS g r room l v w e w' := by
  obtain ⟨rfl, rfl⟩ := k
  exact ⟨rfl, h, Two.refl g r w⟩

section
variable (g r room : Nat) (l : List ByteArray) (x : ByteArray) (w : World)
theorem lenS_any (h : QS w g r room l) : Calls Try.prog 21 #[.pointer (some ⟨g, 0, none⟩)] w fun e w' => e = .returned (.int .i64 l.length) ∧ w = w' := by
  obtain ⟨f, n, cs, hn, hg, hr, ring, h1, h2⟩ := h
  rw [List.length_map] at hn
  subst hn
  exact lenS_at g l.length w (hg.cell 2)
theorem roomS_any (h : QS w g r room l) : Calls Try.prog 22 #[.pointer (some ⟨g, 0, none⟩)] w (LeftS g r room l (.int .i64 ((room - l.length : Nat) : Int)) w) := by
  have h0 := h
  obtain ⟨f, n, cs, hn, hg, hr, ring, h1, h2⟩ := h
  rw [List.length_map] at hn
  subst hn
  have hf := ring.fits
  rw [List.length_map] at hf
  exact (roomS_at g r room l.length (room - l.length) w (hg.cell 0) (hg.cell 2) (by omega) h2).mono fun e w' h => told_leftS h0 h
theorem peekS_yes (h : QS w g r room (x :: l)) : Calls Try.prog 19 #[.pointer (some ⟨g, 0, none⟩)] w (LeftS g r room (x :: l) (.tuple #[Value.string x, .bool true]) w) := by
  have h0 := h
  obtain ⟨f, n, cs, hn, hg, hr, ring, h1, h2⟩ := h
  have hx : w.cell? ⟨r, f, none⟩ = some (Value.string x) := by rw [hr.cell]; exact Ring.head ring
  exact (peekS_at g r room f n x w (hg.cell 0) (hg.cell 1) (hg.cell 2) hx (by rw [hn]; simp) ring.2.1).mono fun e w' h => told_leftS h0 h
theorem peekS_no (h : QS w g r room []) : Calls Try.prog 19 #[.pointer (some ⟨g, 0, none⟩)] w (LeftS g r room [] (.tuple #[(.string ⟨#[]⟩), .bool false]) w) := by
  have h0 := h
  obtain ⟨f, n, cs, hn, hg, hr, ring, h1, h2⟩ := h
  obtain rfl : n = 0 := by simpa using hn
  exact (peekS_none g w (hg.cell 2)).mono fun e w' h => same_leftS h0 h
theorem popS_no (h : QS w g r room []) : Calls Try.prog 18 #[.pointer (some ⟨g, 0, none⟩)] w (LeftS g r room [] (.tuple #[(.string ⟨#[]⟩), .bool false]) w) := by
  have h0 := h
  obtain ⟨f, n, cs, hn, hg, hr, ring, h1, h2⟩ := h
  obtain rfl : n = 0 := by simpa using hn
  exact (popS_none g w (hg.cell 2)).mono fun e w' h => same_leftS h0 h
theorem pushS_no (h : QS w g r room l) (hl : l.length = room) : Calls Try.prog 20 #[.pointer (some ⟨g, 0, none⟩), Value.string x] w (LeftS g r room l (.bool false) w) := by
  have h0 := h
  obtain ⟨f, n, cs, hn, hg, hr, ring, h1, h2⟩ := h
  rw [List.length_map, hl] at hn
  subst hn
  exact (pushS_full g r n x w (hg.cell 0) (hg.cell 2) h2).mono fun e w' h => told_leftS h0 h
theorem popS_yes (h : QS w g r room (x :: l)) : Calls Try.prog 18 #[.pointer (some ⟨g, 0, none⟩)] w (LeftS g r room l (.tuple #[Value.string x, .bool true]) w) := by
  have hne := h.ne types_ne_S
  obtain ⟨f, n, cs, hn, hg, hr, ring, h1, h2⟩ := h
  have hx : w.cell? ⟨r, f, none⟩ = some (Value.string x) := by rw [hr.cell]; exact Ring.head ring
  have hf := ring.fits
  obtain ⟨p, hp⟩ : ∃ p, (f + 1) % room = p := ⟨_, rfl⟩
  refine (popS_at g r room f n p x w (hg.cell 0) (hg.cell 1) (hg.cell 2) hx (hg.free 1) (hg.free 2) (hr.free f) hne (by rw [hn]; simp) (by rw [hn]; exact hf) hp h2 ring.2.1).mono ?_
  rintro e w' ⟨rfl, hlk⟩
  refine ⟨rfl, ⟨p, n - 1, cs.setIfInBounds f (.string ⟨#[]⟩), by rw [hn]; simp, ?_, ?_, Ring.pop ring hp, h1, h2⟩, ?_⟩
  · have := (((hg.far (p := ⟨r, f, none⟩) hne (.string ⟨#[]⟩)).set 1 (.int .i64 (p : Nat))).set 2 (.int .i64 ((n : Int) - 1))).like hlk
    have e1 : ((n - 1 : Nat) : Int) = (n : Int) - 1 := by rw [hn]; simp
    rw [e1]
    simpa using this
  · exact (((hr.set f (.string ⟨#[]⟩)).far (p := ⟨g, 1, none⟩) (Ne.symm hne) _).far (p := ⟨g, 2, none⟩) (Ne.symm hne) _).like hlk
  · exact Two.like ((((Two.refl g r w).set (p := ⟨r, f, none⟩) (.inr rfl) _).set (p := ⟨g, 1, none⟩) (.inl rfl) _).set (p := ⟨g, 2, none⟩) (.inl rfl) _) hlk
theorem pushS_yes (h : QS w g r room l) (hl : l.length < room) : Calls Try.prog 20 #[.pointer (some ⟨g, 0, none⟩), Value.string x] w (LeftS g r room (l ++ [x]) (.bool true) w) := by
  have hne := h.ne types_ne_S
  obtain ⟨f, n, cs, hn, hg, hr, ring, h1, h2⟩ := h
  have hn' := hn
  rw [List.length_map] at hn
  obtain ⟨p, hp⟩ : ∃ p, (f + n) % room = p := ⟨_, rfl⟩
  have hpr : p < room := by rw [← hp]; exact Nat.mod_lt _ (by omega)
  obtain ⟨y, hy⟩ : ∃ y, cs[p]? = some y := ⟨cs[p]'(by rw [ring.1]; exact hpr), by simp [ring.1, hpr]⟩
  refine (pushS_at g r room f n (room - n) p x y w (hg.cell 0) (hg.cell 1) (hg.cell 2) (by rw [hr.cell]; exact hy) (hg.free 2) (hr.free p) hne (by omega) (by omega) hp h2 ring.2.1).mono ?_
  rintro e w' ⟨rfl, hlk⟩
  refine ⟨rfl, ⟨f, n + 1, cs.setIfInBounds p (Value.string x), by simp; omega, ?_, ?_, by rw [List.map_append]; exact Ring.push ring (by simpa using hl) _ (by rw [← hn']; exact hp), h1, h2⟩, ?_⟩
  · have := ((hg.far (p := ⟨r, p, none⟩) hne (Value.string x)).set 2 (.int .i64 ((n : Int) + 1))).like hlk
    rw [show ((n + 1 : Nat) : Int) = (n : Int) + 1 from by omega]
    simpa using this
  · exact ((hr.set p (Value.string x)).far (p := ⟨g, 2, none⟩) (Ne.symm hne) _).like hlk
  · exact Two.like (((Two.refl g r w).set (p := ⟨r, p, none⟩) (.inr rfl) _).set (p := ⟨g, 2, none⟩) (.inl rfl) _) hlk
theorem pushS_some (h : QS w g r room l) : Calls Try.prog 20 #[.pointer (some ⟨g, 0, none⟩), Value.string x] w fun e w' => ∃ b l', e = .returned (.bool b) ∧ QS w' g r room l' ∧ Two g r w w' := by
  have hl := h.len
  rw [List.length_map] at hl
  rcases Nat.lt_or_ge l.length room with h1 | h1
  · exact (pushS_yes g r room l x w h h1).mono fun e w' h => ⟨_, _, h⟩
  · exact (pushS_no g r room l x w h (by omega)).mono fun e w' h => ⟨_, _, h⟩
theorem pushS_either (h : QS w g r room l) : Calls Try.prog 20 #[.pointer (some ⟨g, 0, none⟩), Value.string x] w fun e w' => ∃ b : Bool, e = .returned (.bool b) ∧ QS w' g r room (l ++ if b then [x] else []) ∧ Two g r w w' := by
  have hl := h.len
  rw [List.length_map] at hl
  rcases Nat.lt_or_ge l.length room with h1 | h1
  · exact (pushS_yes g r room l x w h h1).mono fun e w' h => ⟨true, h.1, by simpa using h.2.1, h.2.2⟩
  · exact (pushS_no g r room l x w h (by omega)).mono fun e w' h => ⟨false, h.1, by simpa using h.2.1, h.2.2⟩
theorem popS_either (h : QS w g r room l) : Calls Try.prog 18 #[.pointer (some ⟨g, 0, none⟩)] w fun e w' => ∃ v l', ∃ b : Bool, e = .returned (.tuple #[Value.string v, .bool b]) ∧ l = (if b then [v] else []) ++ l' ∧ QS w' g r room l' ∧ Two g r w w' := by
  match l, h with
  | [], h => exact (popS_no g r room w h).mono fun e w' h => ⟨_, [], false, h.1, rfl, h.2⟩
  | x :: l, h => exact (popS_yes g r room l x w h).mono fun e w' h => ⟨x, l, true, h.1, rfl, h.2⟩
theorem popS_some (h : QS w g r room l) : Calls Try.prog 18 #[.pointer (some ⟨g, 0, none⟩)] w fun e w' => ∃ v b l', e = .returned (.tuple #[Value.string v, .bool b]) ∧ QS w' g r room l' ∧ Two g r w w' := by
  match l, h with
  | [], h => exact (popS_no g r room w h).mono fun e w' h => ⟨_, _, _, h⟩
  | x :: l, h => exact (popS_yes g r room l x w h).mono fun e w' h => ⟨_, _, _, h⟩
end
end Go.Proofs.Ytigimpnghecdiaa
