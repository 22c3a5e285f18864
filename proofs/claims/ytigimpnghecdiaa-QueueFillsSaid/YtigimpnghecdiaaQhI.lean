/-
  The contracts of package queue's calls once more, by what the queue holds (int).
-/
import Derived.Test.YtigimpnghecdiaaAllI
namespace Go.Proofs.Ytigimpnghecdiaa
open Go.RowKit

theorem types_ne_I : (53 : TypeId) ≠ 3 := by decide

/-- A call that answers v and leaves the queue with the things l. -/
def LeftI (g r room : Nat) (l : List Int) (v : Value) (w : World) (e : Ending) (w' : World) : Prop := e = .returned v ∧ QI w' g r room l ∧ Two g r w w'

theorem told_leftI {g r room : Nat} {l : List Int} {v : Value} {w w' : World} {e : Ending} (h : QI w g r room l) (k : ToldI v w e w') : LeftI g r room l v w e w' := by
  obtain ⟨rfl, m, rfl⟩ := k
  exact ⟨rfl, h.drewN m, (Two.refl g r w).drewN m⟩
theorem same_leftI {g r room : Nat} {l : List Int} {v : Value} {w w' : World} {e : Ending} (h : QI w g r room l) (k : e = .returned v ∧ w = w') : LeftI g r room l v w e w' := by
  obtain ⟨rfl, rfl⟩ := k
  exact ⟨rfl, h, Two.refl g r w⟩

section
variable (g r room : Nat) (l : List Int) (x : Int) (w : World)
theorem lenI_any (h : QI w g r room l) : Calls Try.prog 16 #[.pointer (some ⟨g, 0, none⟩)] w fun e w' => e = .returned (.int .i64 l.length) ∧ w = w' := by
  obtain ⟨f, n, cs, hn, hg, hr, ring, h1, h2⟩ := h
  rw [List.length_map] at hn
  subst hn
  exact lenI_at g l.length w (hg.cell 2)
theorem roomI_any (h : QI w g r room l) : Calls Try.prog 17 #[.pointer (some ⟨g, 0, none⟩)] w (LeftI g r room l (.int .i64 ((room - l.length : Nat) : Int)) w) := by
  have h0 := h
  obtain ⟨f, n, cs, hn, hg, hr, ring, h1, h2⟩ := h
  rw [List.length_map] at hn
  subst hn
  have hf := ring.fits
  rw [List.length_map] at hf
  exact (roomI_at g r room l.length (room - l.length) w (hg.cell 0) (hg.cell 2) (by omega) h2).mono fun e w' h => told_leftI h0 h
theorem peekI_yes (h : QI w g r room (x :: l)) : Calls Try.prog 14 #[.pointer (some ⟨g, 0, none⟩)] w (LeftI g r room (x :: l) (.tuple #[(Value.int .i64) x, .bool true]) w) := by
  have h0 := h
  obtain ⟨f, n, cs, hn, hg, hr, ring, h1, h2⟩ := h
  have hx : w.cell? ⟨r, f, none⟩ = some ((Value.int .i64) x) := by rw [hr.cell]; exact Ring.head ring
  exact (peekI_at g r room f n x w (hg.cell 0) (hg.cell 1) (hg.cell 2) hx (by rw [hn]; simp) ring.2.1).mono fun e w' h => told_leftI h0 h
theorem peekI_no (h : QI w g r room []) : Calls Try.prog 14 #[.pointer (some ⟨g, 0, none⟩)] w (LeftI g r room [] (.tuple #[(.int .i64 0), .bool false]) w) := by
  have h0 := h
  obtain ⟨f, n, cs, hn, hg, hr, ring, h1, h2⟩ := h
  obtain rfl : n = 0 := by simpa using hn
  exact (peekI_none g w (hg.cell 2)).mono fun e w' h => same_leftI h0 h
theorem popI_no (h : QI w g r room []) : Calls Try.prog 13 #[.pointer (some ⟨g, 0, none⟩)] w (LeftI g r room [] (.tuple #[(.int .i64 0), .bool false]) w) := by
  have h0 := h
  obtain ⟨f, n, cs, hn, hg, hr, ring, h1, h2⟩ := h
  obtain rfl : n = 0 := by simpa using hn
  exact (popI_none g w (hg.cell 2)).mono fun e w' h => same_leftI h0 h
theorem pushI_no (h : QI w g r room l) (hl : l.length = room) : Calls Try.prog 11 #[.pointer (some ⟨g, 0, none⟩), (Value.int .i64) x] w (LeftI g r room l (.bool false) w) := by
  have h0 := h
  obtain ⟨f, n, cs, hn, hg, hr, ring, h1, h2⟩ := h
  rw [List.length_map, hl] at hn
  subst hn
  exact (pushI_full g r n x w (hg.cell 0) (hg.cell 2) h2).mono fun e w' h => told_leftI h0 h
theorem popI_yes (h : QI w g r room (x :: l)) : Calls Try.prog 13 #[.pointer (some ⟨g, 0, none⟩)] w (LeftI g r room l (.tuple #[(Value.int .i64) x, .bool true]) w) := by
  have hne := h.ne types_ne_I
  obtain ⟨f, n, cs, hn, hg, hr, ring, h1, h2⟩ := h
  have hx : w.cell? ⟨r, f, none⟩ = some ((Value.int .i64) x) := by rw [hr.cell]; exact Ring.head ring
  have hf := ring.fits
  obtain ⟨p, hp⟩ : ∃ p, (f + 1) % room = p := ⟨_, rfl⟩
  refine (popI_at g r room f n p x w (hg.cell 0) (hg.cell 1) (hg.cell 2) hx (hg.free 1) (hg.free 2) (hr.free f) hne (by rw [hn]; simp) (by rw [hn]; exact hf) hp h2 ring.2.1).mono ?_
  rintro e w' ⟨rfl, hlk⟩
  refine ⟨rfl, ⟨p, n - 1, cs.setIfInBounds f (.int .i64 0), by rw [hn]; simp, ?_, ?_, Ring.pop ring hp, h1, h2⟩, ?_⟩
  · have := (((hg.far (p := ⟨r, f, none⟩) hne (.int .i64 0)).set 1 (.int .i64 (p : Nat))).set 2 (.int .i64 ((n : Int) - 1))).like hlk
    have e1 : ((n - 1 : Nat) : Int) = (n : Int) - 1 := by rw [hn]; simp
    rw [e1]
    simpa using this
  · exact (((hr.set f (.int .i64 0)).far (p := ⟨g, 1, none⟩) (Ne.symm hne) _).far (p := ⟨g, 2, none⟩) (Ne.symm hne) _).like hlk
  · exact Two.like ((((Two.refl g r w).set (p := ⟨r, f, none⟩) (.inr rfl) _).set (p := ⟨g, 1, none⟩) (.inl rfl) _).set (p := ⟨g, 2, none⟩) (.inl rfl) _) hlk
theorem pushI_yes (h : QI w g r room l) (hl : l.length < room) : Calls Try.prog 11 #[.pointer (some ⟨g, 0, none⟩), (Value.int .i64) x] w (LeftI g r room (l ++ [x]) (.bool true) w) := by
  have hne := h.ne types_ne_I
  obtain ⟨f, n, cs, hn, hg, hr, ring, h1, h2⟩ := h
  have hn' := hn
  rw [List.length_map] at hn
  obtain ⟨p, hp⟩ : ∃ p, (f + n) % room = p := ⟨_, rfl⟩
  have hpr : p < room := by rw [← hp]; exact Nat.mod_lt _ (by omega)
  obtain ⟨y, hy⟩ : ∃ y, cs[p]? = some y := ⟨cs[p]'(by rw [ring.1]; exact hpr), by simp [ring.1, hpr]⟩
  refine (pushI_at g r room f n (room - n) p x y w (hg.cell 0) (hg.cell 1) (hg.cell 2) (by rw [hr.cell]; exact hy) (hg.free 2) (hr.free p) hne (by omega) (by omega) hp h2 ring.2.1).mono ?_
  rintro e w' ⟨rfl, hlk⟩
  refine ⟨rfl, ⟨f, n + 1, cs.setIfInBounds p ((Value.int .i64) x), by simp; omega, ?_, ?_, by rw [List.map_append]; exact Ring.push ring (by simpa using hl) _ (by rw [← hn']; exact hp), h1, h2⟩, ?_⟩
  · have := ((hg.far (p := ⟨r, p, none⟩) hne ((Value.int .i64) x)).set 2 (.int .i64 ((n : Int) + 1))).like hlk
    rw [show ((n + 1 : Nat) : Int) = (n : Int) + 1 from by omega]
    simpa using this
  · exact ((hr.set p ((Value.int .i64) x)).far (p := ⟨g, 2, none⟩) (Ne.symm hne) _).like hlk
  · exact Two.like (((Two.refl g r w).set (p := ⟨r, p, none⟩) (.inr rfl) _).set (p := ⟨g, 2, none⟩) (.inl rfl) _) hlk
theorem pushI_some (h : QI w g r room l) : Calls Try.prog 11 #[.pointer (some ⟨g, 0, none⟩), (Value.int .i64) x] w fun e w' => ∃ b l', e = .returned (.bool b) ∧ QI w' g r room l' ∧ Two g r w w' := by
  have hl := h.len
  rw [List.length_map] at hl
  rcases Nat.lt_or_ge l.length room with h1 | h1
  · exact (pushI_yes g r room l x w h h1).mono fun e w' h => ⟨_, _, h⟩
  · exact (pushI_no g r room l x w h (by omega)).mono fun e w' h => ⟨_, _, h⟩
theorem pushI_either (h : QI w g r room l) : Calls Try.prog 11 #[.pointer (some ⟨g, 0, none⟩), (Value.int .i64) x] w fun e w' => ∃ b : Bool, e = .returned (.bool b) ∧ QI w' g r room (l ++ if b then [x] else []) ∧ Two g r w w' := by
  have hl := h.len
  rw [List.length_map] at hl
  rcases Nat.lt_or_ge l.length room with h1 | h1
  · exact (pushI_yes g r room l x w h h1).mono fun e w' h => ⟨true, h.1, by simpa using h.2.1, h.2.2⟩
  · exact (pushI_no g r room l x w h (by omega)).mono fun e w' h => ⟨false, h.1, by simpa using h.2.1, h.2.2⟩
theorem popI_either (h : QI w g r room l) : Calls Try.prog 13 #[.pointer (some ⟨g, 0, none⟩)] w fun e w' => ∃ v l', ∃ b : Bool, e = .returned (.tuple #[(Value.int .i64) v, .bool b]) ∧ l = (if b then [v] else []) ++ l' ∧ QI w' g r room l' ∧ Two g r w w' := by
  match l, h with
  | [], h => exact (popI_no g r room w h).mono fun e w' h => ⟨_, [], false, h.1, rfl, h.2⟩
  | x :: l, h => exact (popI_yes g r room l x w h).mono fun e w' h => ⟨x, l, true, h.1, rfl, h.2⟩
theorem popI_some (h : QI w g r room l) : Calls Try.prog 13 #[.pointer (some ⟨g, 0, none⟩)] w fun e w' => ∃ v b l', e = .returned (.tuple #[(Value.int .i64) v, .bool b]) ∧ QI w' g r room l' ∧ Two g r w w' := by
  match l, h with
  | [], h => exact (popI_no g r room w h).mono fun e w' h => ⟨_, _, _, h⟩
  | x :: l, h => exact (popI_yes g r room l x w h).mono fun e w' h => ⟨_, _, _, h⟩
end
end Go.Proofs.Ytigimpnghecdiaa
