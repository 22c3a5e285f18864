/-
  Contracts of package queue's calls, of queues of things of one kind (string).
-/
import Derived.Test.YtigimpnghecdiaaProg
import Derived.Test.YtigimpnghecdiaaQueL
import Derived.Deep.DeepCutAuto
import Derived.Deep.QuietTactic
import Derived.BigQuiet
import Derived.StillTailTactics
import Derived.IntWalk
import Derived.Deep.RegionHeld3
namespace Go.Proofs.Ytigimpnghecdiaa
open Go.RowKit

abbrev QS (w : World) (g r room : Nat) (l : List ByteArray) : Prop := QAt 56 9 w g r room (l.map Value.string)

theorem info_S : (Try.prog.info? 9).map (fun i => (i.zero, i.size, i.bytes)) = some (some (.string ⟨#[]⟩), 1, 16) := by kernel_rfl

theorem lenS_nil (w : World) : Calls Try.prog 21 #[.pointer none] w fun e w' => e = .returned (.int .i64 0) ∧ w = w' := by
  go_enter Try.func21, Try.ntmps21
  go_wp2
  go_ret
  exact ⟨rfl, rfl⟩
theorem roomS_nil (w : World) : Calls Try.prog 22 #[.pointer none] w fun e w' => e = .returned (.int .i64 0) ∧ w = w' := by
  go_enter Try.func22, Try.ntmps22
  go_wp2
  go_ret
  exact ⟨rfl, rfl⟩
theorem lenS_at (g n : Nat) (w : World) (hc : w.cell? ⟨g, 2, none⟩ = some (.int .i64 n)) : Calls Try.prog 21 #[.pointer (some ⟨g, 0, none⟩)] w fun e w' => e = .returned (.int .i64 n) ∧ w = w' := by
  go_enter Try.func21, Try.ntmps21
  go_wp2
  go_ret
  exact ⟨rfl, rfl⟩

theorem ret_intS {k : IntKind} {a b : Int} (h : a = b) : Ending.returned (.int k a) = .returned (.int k b) := by rw [h]

/-- It answers this, and has only looked. -/
def ToldS (v : Value) (w : World) (e : Ending) (w' : World) : Prop := e = .returned v ∧ ∃ m, w' = w.drewN m

theorem roomS_at (g r room n m : Nat) (w : World) (hc0 : w.cell? ⟨g, 0, none⟩ = some (.slice (some ⟨r, 0, none⟩) room room)) (hc2 : w.cell? ⟨g, 2, none⟩ = some (.int .i64 n)) (hn : n + m = room) (hr : room ≤ 4096) :
    Calls Try.prog 22 #[.pointer (some ⟨g, 0, none⟩)] w (ToldS (.int .i64 m) w) := by
  have hs : IntKind.i64.wrap ((room : Int) - n) = m := by rw [IntWalk.i64_in _ (by omega)]; omega
  have HN := Lib.hid hn
  clear hn
  go_enter Try.func22, Try.ntmps22
  go_wp2_with fail
  go_quiet (fail)
  go_wp2
  go_ret
  exact ⟨rfl, _, rfl⟩

theorem placeS_at (g r room f k p : Nat) (i : Int) (w : World) (hc0 : w.cell? ⟨g, 0, none⟩ = some (.slice (some ⟨r, 0, none⟩) room room)) (hc1 : w.cell? ⟨g, 1, none⟩ = some (.int .i64 f)) (hi : i = (k : Int)) (hp : (f + k) % room = p) (h1 : 1 ≤ room) (hr : room ≤ 4096) (hf : f < room) (hk : k ≤ 4096) :
    Calls Try.prog 26 #[.pointer (some ⟨g, 0, none⟩), .int .i64 i] w (ToldS (.int .i64 p) w) := by
  subst hi
  have hs : IntKind.i64.wrap ((f : Int) + k) = f + k := IntWalk.i64_in _ (by omega)
  have hm : IntKind.i64.wrap (((f : Int) + k).tmod room) = p := by
    have e : ((f : Int) + k).tmod room = p := by rw [← hp, Int.ofNat_tmod]; simp
    have hpr : p < room := by rw [← hp]; exact Nat.mod_lt _ (by omega)
    rw [e]; exact IntWalk.i64_in _ (by omega)
  have hne : ¬ (room : Int) = 0 := by omega
  have HP := Lib.hid hp
  clear hp
  go_enter Try.func26, Try.ntmps26
  go_wp2_with fail
  go_quiet (fail)
  go_wp2
  go_ret
  exact ⟨ret_intS (by rw [← HP.out]; simp), _, rfl⟩
theorem peekS_at (g r room f n : Nat) (x : ByteArray) (w : World) (hc0 : w.cell? ⟨g, 0, none⟩ = some (.slice (some ⟨r, 0, none⟩) room room)) (hc1 : w.cell? ⟨g, 1, none⟩ = some (.int .i64 f)) (hc2 : w.cell? ⟨g, 2, none⟩ = some (.int .i64 n)) (hx : w.cell? ⟨r, f, none⟩ = some (Value.string x)) (hn : 0 < n) (hf : f < room) :
    Calls Try.prog 19 #[.pointer (some ⟨g, 0, none⟩)] w (ToldS (.tuple #[Value.string x, .bool true]) w) := by
  have hi1 : (0 : Int) ≤ (f : Int) := by omega
  have hi2 : (f : Int) < (room : Int) := by omega
  have hb : ((n : Int) == 0) = false := by simp; omega
  go_enter Try.func19, Try.ntmps19
  go_wp2_with fail
  refine (lenS_at g n _ hc2).mono ?_
  rintro e w1 ⟨rfl, rfl⟩
  go_wp2_with fail
  go_quiet (fail)
  go_wp2
  go_ret2
  exact ⟨rfl, _, rfl⟩
theorem peekS_none (g : Nat) (w : World) (hc2 : w.cell? ⟨g, 2, none⟩ = some (.int .i64 (0 : Nat))) :
    Calls Try.prog 19 #[.pointer (some ⟨g, 0, none⟩)] w fun e w' => e = .returned (.tuple #[(.string ⟨#[]⟩), .bool false]) ∧ w = w' := by
  go_enter Try.func19, Try.ntmps19
  go_wp2_with fail
  refine (lenS_at g 0 _ hc2).mono ?_
  rintro e w1 ⟨rfl, rfl⟩
  go_wp2
  go_ret2
  exact ⟨rfl, rfl⟩
theorem peekS_nil (w : World) :
    Calls Try.prog 19 #[.pointer none] w fun e w' => e = .returned (.tuple #[(.string ⟨#[]⟩), .bool false]) ∧ w = w' := by
  go_enter Try.func19, Try.ntmps19
  go_wp2_with fail
  refine (lenS_nil _).mono ?_
  rintro e w1 ⟨rfl, rfl⟩
  go_wp2
  go_ret2
  exact ⟨rfl, rfl⟩

theorem pushS_nil (x : ByteArray) (w : World) : Calls Try.prog 20 #[.pointer none, Value.string x] w fun e w' => e = .returned (.bool false) ∧ w = w' := by
  go_enter Try.func20, Try.ntmps20
  go_wp2_with fail
  refine (roomS_nil _).mono ?_
  rintro e w1 ⟨rfl, rfl⟩
  go_wp2
  go_ret
  exact ⟨rfl, rfl⟩
theorem pushS_full (g r room : Nat) (x : ByteArray) (w : World) (hc0 : w.cell? ⟨g, 0, none⟩ = some (.slice (some ⟨r, 0, none⟩) room room)) (hc2 : w.cell? ⟨g, 2, none⟩ = some (.int .i64 room)) (hr : room ≤ 4096) :
    Calls Try.prog 20 #[.pointer (some ⟨g, 0, none⟩), Value.string x] w (ToldS (.bool false) w) := by
  go_enter Try.func20, Try.ntmps20
  go_wp2_with fail
  refine (roomS_at g r room room 0 _ hc0 hc2 (by omega) hr).mono ?_
  rintro e w1 ⟨rfl, q, rfl⟩
  go_wp2
  go_ret
  exact ⟨rfl, _, rfl⟩

/-- Pushed: x lies at p, and there is one more. -/
def PushedS (g r p n : Nat) (x : ByteArray) (w : World) (e : Ending) (w' : World) : Prop :=
  e = .returned (.bool true) ∧ Like w' ((w.setCell ⟨r, p, none⟩ (Value.string x)).setCell ⟨g, 2, none⟩ (.int .i64 ((n : Int) + 1)))
theorem pushS_at (g r room f n m p : Nat) (x : ByteArray) (y : Value) (w : World) (hc0 : w.cell? ⟨g, 0, none⟩ = some (.slice (some ⟨r, 0, none⟩) room room)) (hc1 : w.cell? ⟨g, 1, none⟩ = some (.int .i64 f)) (hc2 : w.cell? ⟨g, 2, none⟩ = some (.int .i64 n)) (hc3 : w.cell? ⟨r, p, none⟩ = some y)
    (hf1 : w.frozen? ⟨g, 2, none⟩ = false) (hf2 : w.frozen? ⟨r, p, none⟩ = false) (hgr : g ≠ r)
    (hn : n + m = room) (hm : 0 < m) (hp : (f + n) % room = p) (hr : room ≤ 4096) (hf : f < room) :
    Calls Try.prog 20 #[.pointer (some ⟨g, 0, none⟩), Value.string x] w (PushedS g r p n x w) := by
  have hi1 : (0 : Int) ≤ (p : Int) := by omega
  have hi2 : (p : Int) < (room : Int) := by
    have : p < room := by rw [← hp]; exact Nat.mod_lt _ (by omega)
    omega
  have hb : ((m : Int) == 0) = false := by simp; omega
  have h1 : 1 ≤ room := by omega
  have hn' : n ≤ 4096 := by omega
  have hrg : r ≠ g := Ne.symm hgr
  have HN := Lib.hid hn
  have HP := Lib.hid hp
  clear hn hp
  go_enter Try.func20, Try.ntmps20
  go_wp2_with fail
  refine (roomS_at g r room n m _ hc0 hc2 HN.out hr).mono ?_
  rintro e w1 ⟨rfl, q, rfl⟩
  go_wp2_with fail
  go_region_held3 (fun w' => w'.cell? ⟨g, 0, none⟩ = some (.slice (some ⟨r, 0, none⟩) room room) ∧ w'.cell? ⟨g, 1, none⟩ = some (.int .i64 f) ∧ w'.cell? ⟨g, 2, none⟩ = some (.int .i64 n)) (go_keep)
    ((go_at_call 26; refine (placeS_at g r room f n p _ _ ?_ ?_ rfl HP.out h1 hr hf hn').mono ?_; (simp [*]); (simp [*]); rintro e w' ⟨rfl, q', rfl⟩))
  go_wp2
  go_ret
  exact ⟨rfl, rfl, rfl, rfl, rfl⟩

/-- Popped: nothing lies at f, the next one is the first one, and there is one less. -/
def PoppedS (g r f p n : Nat) (x : ByteArray) (w : World) (e : Ending) (w' : World) : Prop :=
  e = .returned (.tuple #[Value.string x, .bool true]) ∧ Like w' (((w.setCell ⟨r, f, none⟩ (.string ⟨#[]⟩)).setCell ⟨g, 1, none⟩ (.int .i64 (p : Nat))).setCell ⟨g, 2, none⟩ (.int .i64 ((n : Int) - 1)))
theorem popS_at (g r room f n p : Nat) (x : ByteArray) (w : World) (hc0 : w.cell? ⟨g, 0, none⟩ = some (.slice (some ⟨r, 0, none⟩) room room)) (hc1 : w.cell? ⟨g, 1, none⟩ = some (.int .i64 f)) (hc2 : w.cell? ⟨g, 2, none⟩ = some (.int .i64 n)) (hx : w.cell? ⟨r, f, none⟩ = some (Value.string x))
    (hf1 : w.frozen? ⟨g, 1, none⟩ = false) (hf2 : w.frozen? ⟨g, 2, none⟩ = false) (hf3 : w.frozen? ⟨r, f, none⟩ = false) (hgr : g ≠ r)
    (hn : 0 < n) (hnr : n ≤ room) (hp : (f + 1) % room = p) (hr : room ≤ 4096) (hf : f < room) :
    Calls Try.prog 18 #[.pointer (some ⟨g, 0, none⟩)] w (PoppedS g r f p n x w) := by
  have hi1 : (0 : Int) ≤ (f : Int) := by omega
  have hi2 : (f : Int) < (room : Int) := by omega
  have h1 : 1 ≤ room := by omega
  have hrg : r ≠ g := Ne.symm hgr
  have HP := Lib.hid hp
  clear hp
  go_enter Try.func18, Try.ntmps18
  go_wp2_with fail
  refine (peekS_at g r room f n x _ hc0 hc1 hc2 hx hn hf).mono ?_
  rintro e w1 ⟨rfl, q, rfl⟩
  go_wp2_with fail
  go_region_held3 (fun w' => w'.cell? ⟨g, 0, none⟩ = some (.slice (some ⟨r, 0, none⟩) room room) ∧ w'.cell? ⟨g, 1, none⟩ = some (.int .i64 f) ∧ w'.cell? ⟨g, 2, none⟩ = some (.int .i64 n)) (go_keep)
    (fail)
  go_wp2_with fail
  refine (placeS_at g r room f 1 p 1 _ ?_ ?_ rfl HP.out h1 hr hf (by omega)).mono ?_
  · simp [*]
  · simp [*]
  rintro e w2 ⟨rfl, q', rfl⟩
  go_wp2
  go_ret2
  exact ⟨rfl, rfl, rfl, rfl, rfl⟩
theorem popS_none (g : Nat) (w : World) (hc2 : w.cell? ⟨g, 2, none⟩ = some (.int .i64 (0 : Nat))) :
    Calls Try.prog 18 #[.pointer (some ⟨g, 0, none⟩)] w fun e w' => e = .returned (.tuple #[(.string ⟨#[]⟩), .bool false]) ∧ w = w' := by
  go_enter Try.func18, Try.ntmps18
  go_wp2_with fail
  refine (peekS_none g _ hc2).mono ?_
  rintro e w1 ⟨rfl, rfl⟩
  go_wp2
  go_ret2
  exact ⟨rfl, rfl⟩
theorem popS_nil (w : World) :
    Calls Try.prog 18 #[.pointer none] w fun e w' => e = .returned (.tuple #[(.string ⟨#[]⟩), .bool false]) ∧ w = w' := by
  go_enter Try.func18, Try.ntmps18
  go_wp2_with fail
  refine (peekS_nil _).mono ?_
  rintro e w1 ⟨rfl, rfl⟩
  go_wp2
  go_ret2
  exact ⟨rfl, rfl⟩

theorem newS_bad (n : Int) (w : World) (h : n < 1 ∨ 4096 < n) : Calls Try.prog 24 #[.int .i64 n] w fun e w' => e = .returned (.pointer none) ∧ w = w' := by
  rcases h with h | h
  · go_enter Try.func24, Try.ntmps24
    go_wp2
    go_ret
    exact ⟨rfl, rfl⟩
  · have h' : ¬ n < 1 := by omega
    go_enter Try.func24, Try.ntmps24
    go_wp2
    go_ret
    exact ⟨rfl, rfl⟩
theorem makeS_at (n : Nat) (h2 : n ≤ 4096) (w : World) : ∃ cs : Array Value, cs.size = n ∧ (Instr.makeSlice 45 (.int .i64 n) (.int .i64 n)).run Try.prog w = .ok (.slice (some ⟨w.heap.size, 0, none⟩) n n) (w.alloc (.cells cs 9)) := by
  obtain ⟨i, hi0, hi1, hi2, hi3⟩ := info_parts info_S
  have h := run_make (P := Try.prog) w 45 9 i (.string ⟨#[]⟩) Try.underlying45 hi0 hi1 .i64 .i64 n n (by omega) (Int.le_refl _) (by rw [hi3]; omega) (by omega)
  rw [Int.toNat_natCast] at h
  exact ⟨_, by rw [size_madeCells, hi2]; omega, h⟩
def NewsS (w : World) (room : Nat) (Q : World → Nat → Nat → Nat → Prop) (e : Ending) (w' : World) : Prop :=
  ∃ g r, e = .returned (.pointer (some ⟨g, 0, none⟩)) ∧ Q w' g r room ∧ w.heap.size ≤ g ∧ w.heap.size ≤ r ∧ Below w.heap.size w w'
theorem newS_any (n : Nat) (w : World) (h1 : 1 ≤ n) (h2 : n ≤ 4096) : Calls Try.prog 24 #[.int .i64 n] w (NewsS w n fun w' g r room => QS w' g r room []) := by
  obtain ⟨cs, hs, hmk⟩ := makeS_at n h2 w
  have HS := Lib.hid hs
  clear hs
  have h1' : ¬ (n : Int) < 1 := by omega
  have h2' : ¬ 4096 < (n : Int) := by omega
  go_enter Try.func24, Try.ntmps24
  go_wp2
  go_ret
  refine ⟨w.heap.size + 1, w.heap.size, rfl, ⟨0, 0, cs, rfl, Whole.new2 _ _ _ _, (Whole.new w _ cs).alloc _, ?_, h1, h2⟩, by omega, Nat.le_refl _, ((Below.refl _ _).alloc (Nat.le_refl _) _).alloc (by simp) _⟩
  exact ⟨HS.out, by omega, by simp, by simp⟩
end Go.Proofs.Ytigimpnghecdiaa
