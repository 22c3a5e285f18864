/-
  Contracts of package queue's calls, of queues of things of one kind (int).
-/
import Derived.Test.YtigimpnghecdiaaProg
import Derived.Test.YtigimpnghecdiaaQueL
import Derived.Deep.DeepCutAuto
import Derived.Deep.QuietTactic
import Derived.BigQuiet
import Derived.StillTailTactics
import Derived.IntWalk
import Derived.Deep.RegionHeld3
namespace Go.Proofs.Ytigimpnghecdiaa
open Go.RowKit

abbrev QI (w : World) (g r room : Nat) (l : List Int) : Prop := QAt 53 3 w g r room (l.map (Value.int .i64))

theorem info_I : (Try.prog.info? 3).map (fun i => (i.zero, i.size, i.bytes)) = some (some (.int .i64 0), 1, 8) := by kernel_rfl

theorem lenI_nil (w : World) : Calls Try.prog 16 #[.pointer none] w fun e w' => e = .returned (.int .i64 0) ∧ w = w' := by
  go_enter Try.func16, Try.ntmps16
  go_wp2
  go_ret
  exact ⟨rfl, rfl⟩
theorem roomI_nil (w : World) : Calls Try.prog 17 #[.pointer none] w fun e w' => e = .returned (.int .i64 0) ∧ w = w' := by
  go_enter Try.func17, Try.ntmps17
  go_wp2
  go_ret
  exact ⟨rfl, rfl⟩
theorem lenI_at (g n : Nat) (w : World) (hc : w.cell? ⟨g, 2, none⟩ = some (.int .i64 n)) : Calls Try.prog 16 #[.pointer (some ⟨g, 0, none⟩)] w fun e w' => e = .returned (.int .i64 n) ∧ w = w' := by
  go_enter Try.func16, Try.ntmps16
  go_wp2
  go_ret
  exact ⟨rfl, rfl⟩

theorem ret_intI {k : IntKind} {a b : Int} (h : a = b) : Ending.returned (.int k a) = .returned (.int k b) := by rw [h]

/-- It answers this, and has only looked. -/
def ToldI (v : Value) (w : World) (e : Ending) (w' : World) : Prop := e = .returned v ∧ ∃ m, w' = w.drewN m

theorem roomI_at (g r room n m : Nat) (w : World) (hc0 : w.cell? ⟨g, 0, none⟩ = some (.slice (some ⟨r, 0, none⟩) room room)) (hc2 : w.cell? ⟨g, 2, none⟩ = some (.int .i64 n)) (hn : n + m = room) (hr : room ≤ 4096) :
    Calls Try.prog 17 #[.pointer (some ⟨g, 0, none⟩)] w (ToldI (.int .i64 m) w) := by
  have hs : IntKind.i64.wrap ((room : Int) - n) = m := by rw [IntWalk.i64_in _ (by omega)]; omega
  have HN := Lib.hid hn
  clear hn
  go_enter Try.func17, Try.ntmps17
  go_wp2_with fail
  go_quiet (fail)
  go_wp2
  go_ret
  exact ⟨rfl, _, rfl⟩

theorem placeI_at (g r room f k p : Nat) (i : Int) (w : World) (hc0 : w.cell? ⟨g, 0, none⟩ = some (.slice (some ⟨r, 0, none⟩) room room)) (hc1 : w.cell? ⟨g, 1, none⟩ = some (.int .i64 f)) (hi : i = (k : Int)) (hp : (f + k) % room = p) (h1 : 1 ≤ room) (hr : room ≤ 4096) (hf : f < room) (hk : k ≤ 4096) :
    Calls Try.prog 25 #[.pointer (some ⟨g, 0, none⟩), .int .i64 i] w (ToldI (.int .i64 p) w) := by
  subst hi
  have hs : IntKind.i64.wrap ((f : Int) + k) = f + k := IntWalk.i64_in _ (by omega)
  have hm : IntKind.i64.wrap (((f : Int) + k).tmod room) = p := by
    have e : ((f : Int) + k).tmod room = p := by rw [← hp, Int.ofNat_tmod]; simp
    have hpr : p < room := by rw [← hp]; exact Nat.mod_lt _ (by omega)
    rw [e]; exact IntWalk.i64_in _ (by omega)
  have hne : ¬ (room : Int) = 0 := by omega
  have HP := Lib.hid hp
  clear hp
  go_enter Try.func25, Try.ntmps25
  go_wp2_with fail
  go_quiet (fail)
  go_wp2
  go_ret
  exact ⟨ret_intI (by rw [← HP.out]; simp), _, rfl⟩
theorem peekI_at (g r room f n : Nat) (x : Int) (w : World) (hc0 : w.cell? ⟨g, 0, none⟩ = some (.slice (some ⟨r, 0, none⟩) room room)) (hc1 : w.cell? ⟨g, 1, none⟩ = some (.int .i64 f)) (hc2 : w.cell? ⟨g, 2, none⟩ = some (.int .i64 n)) (hx : w.cell? ⟨r, f, none⟩ = some ((Value.int .i64) x)) (hn : 0 < n) (hf : f < room) :
    Calls Try.prog 14 #[.pointer (some ⟨g, 0, none⟩)] w (ToldI (.tuple #[(Value.int .i64) x, .bool true]) w) := by
  have hi1 : (0 : Int) ≤ (f : Int) := by omega
  have hi2 : (f : Int) < (room : Int) := by omega
  have hb : ((n : Int) == 0) = false := by simp; omega
  go_enter Try.func14, Try.ntmps14
  go_wp2_with fail
  refine (lenI_at g n _ hc2).mono ?_
  rintro e w1 ⟨rfl, rfl⟩
  go_wp2_with fail
  go_quiet (fail)
  go_wp2
  go_ret2
  exact ⟨rfl, _, rfl⟩
theorem peekI_none (g : Nat) (w : World) (hc2 : w.cell? ⟨g, 2, none⟩ = some (.int .i64 (0 : Nat))) :
    Calls Try.prog 14 #[.pointer (some ⟨g, 0, none⟩)] w fun e w' => e = .returned (.tuple #[(.int .i64 0), .bool false]) ∧ w = w' := by
  go_enter Try.func14, Try.ntmps14
  go_wp2_with fail
  refine (lenI_at g 0 _ hc2).mono ?_
  rintro e w1 ⟨rfl, rfl⟩
  go_wp2
  go_ret2
  exact ⟨rfl, rfl⟩
theorem peekI_nil (w : World) :
    Calls Try.prog 14 #[.pointer none] w fun e w' => e = .returned (.tuple #[(.int .i64 0), .bool false]) ∧ w = w' := by
  go_enter Try.func14, Try.ntmps14
  go_wp2_with fail
  refine (lenI_nil _).mono ?_
  rintro e w1 ⟨rfl, rfl⟩
  go_wp2
  go_ret2
  exact ⟨rfl, rfl⟩

theorem pushI_nil (x : Int) (w : World) : Calls Try.prog 11 #[.pointer none, (Value.int .i64) x] w fun e w' => e = .returned (.bool false) ∧ w = w' := by
  go_enter Try.func11, Try.ntmps11
  go_wp2_with fail
  refine (roomI_nil _).mono ?_
  rintro e w1 ⟨rfl, rfl⟩
  go_wp2
  go_ret
  exact ⟨rfl, rfl⟩
theorem pushI_full (g r room : Nat) (x : Int) (w : World) (hc0 : w.cell? ⟨g, 0, none⟩ = some (.slice (some ⟨r, 0, none⟩) room room)) (hc2 : w.cell? ⟨g, 2, none⟩ = some (.int .i64 room)) (hr : room ≤ 4096) :
    Calls Try.prog 11 #[.pointer (some ⟨g, 0, none⟩), (Value.int .i64) x] w (ToldI (.bool false) w) := by
  go_enter Try.func11, Try.ntmps11
  go_wp2_with fail
  refine (roomI_at g r room room 0 _ hc0 hc2 (by omega) hr).mono ?_
  rintro e w1 ⟨rfl, q, rfl⟩
  go_wp2
  go_ret
  exact ⟨rfl, _, rfl⟩

/-- Pushed: x lies at p, and there is one more. -/
def PushedI (g r p n : Nat) (x : Int) (w : World) (e : Ending) (w' : World) : Prop :=
  e = .returned (.bool true) ∧ Like w' ((w.setCell ⟨r, p, none⟩ ((Value.int .i64) x)).setCell ⟨g, 2, none⟩ (.int .i64 ((n : Int) + 1)))
theorem pushI_at (g r room f n m p : Nat) (x : Int) (y : Value) (w : World) (hc0 : w.cell? ⟨g, 0, none⟩ = some (.slice (some ⟨r, 0, none⟩) room room)) (hc1 : w.cell? ⟨g, 1, none⟩ = some (.int .i64 f)) (hc2 : w.cell? ⟨g, 2, none⟩ = some (.int .i64 n)) (hc3 : w.cell? ⟨r, p, none⟩ = some y)
    (hf1 : w.frozen? ⟨g, 2, none⟩ = false) (hf2 : w.frozen? ⟨r, p, none⟩ = false) (hgr : g ≠ r)
    (hn : n + m = room) (hm : 0 < m) (hp : (f + n) % room = p) (hr : room ≤ 4096) (hf : f < room) :
    Calls Try.prog 11 #[.pointer (some ⟨g, 0, none⟩), (Value.int .i64) x] w (PushedI g r p n x w) := by
  have hi1 : (0 : Int) ≤ (p : Int) := by omega
  have hi2 : (p : Int) < (room : Int) := by
    have : p < room := by rw [← hp]; exact Nat.mod_lt _ (by omega)
    omega
  have hb : ((m : Int) == 0) = false := by simp; omega
  have h1 : 1 ≤ room := by omega
  have hn' : n ≤ 4096 := by omega
  have hrg : r ≠ g := Ne.symm hgr
  have HN := Lib.hid hn
  have HP := Lib.hid hp
  clear hn hp
  go_enter Try.func11, Try.ntmps11
  go_wp2_with fail
  refine (roomI_at g r room n m _ hc0 hc2 HN.out hr).mono ?_
  rintro e w1 ⟨rfl, q, rfl⟩
  go_wp2_with fail
  go_region_held3 (fun w' => w'.cell? ⟨g, 0, none⟩ = some (.slice (some ⟨r, 0, none⟩) room room) ∧ w'.cell? ⟨g, 1, none⟩ = some (.int .i64 f) ∧ w'.cell? ⟨g, 2, none⟩ = some (.int .i64 n)) (go_keep)
    ((go_at_call 25; refine (placeI_at g r room f n p _ _ ?_ ?_ rfl HP.out h1 hr hf hn').mono ?_; (simp [*]); (simp [*]); rintro e w' ⟨rfl, q', rfl⟩))
  go_wp2
  go_ret
  exact ⟨rfl, rfl, rfl, rfl, rfl⟩

/-- Popped: nothing lies at f, the next one is the first one, and there is one less. -/
def PoppedI (g r f p n : Nat) (x : Int) (w : World) (e : Ending) (w' : World) : Prop :=
  e = .returned (.tuple #[(Value.int .i64) x, .bool true]) ∧ Like w' (((w.setCell ⟨r, f, none⟩ (.int .i64 0)).setCell ⟨g, 1, none⟩ (.int .i64 (p : Nat))).setCell ⟨g, 2, none⟩ (.int .i64 ((n : Int) - 1)))
theorem popI_at (g r room f n p : Nat) (x : Int) (w : World) (hc0 : w.cell? ⟨g, 0, none⟩ = some (.slice (some ⟨r, 0, none⟩) room room)) (hc1 : w.cell? ⟨g, 1, none⟩ = some (.int .i64 f)) (hc2 : w.cell? ⟨g, 2, none⟩ = some (.int .i64 n)) (hx : w.cell? ⟨r, f, none⟩ = some ((Value.int .i64) x))
    (hf1 : w.frozen? ⟨g, 1, none⟩ = false) (hf2 : w.frozen? ⟨g, 2, none⟩ = false) (hf3 : w.frozen? ⟨r, f, none⟩ = false) (hgr : g ≠ r)
    (hn : 0 < n) (hnr : n ≤ room) (hp : (f + 1) % room = p) (hr : room ≤ 4096) (hf : f < room) :
    Calls Try.prog 13 #[.pointer (some ⟨g, 0, none⟩)] w (PoppedI g r f p n x w) := by
  have hi1 : (0 : Int) ≤ (f : Int) := by omega
  have hi2 : (f : Int) < (room : Int) := by omega
  have h1 : 1 ≤ room := by omega
  have hrg : r ≠ g := Ne.symm hgr
  have HP := Lib.hid hp
  clear hp
  go_enter Try.func13, Try.ntmps13
  go_wp2_with fail
  refine (peekI_at g r room f n x _ hc0 hc1 hc2 hx hn hf).mono ?_
  rintro e w1 ⟨rfl, q, rfl⟩
  go_wp2_with fail
  go_region_held3 (fun w' => w'.cell? ⟨g, 0, none⟩ = some (.slice (some ⟨r, 0, none⟩) room room) ∧ w'.cell? ⟨g, 1, none⟩ = some (.int .i64 f) ∧ w'.cell? ⟨g, 2, none⟩ = some (.int .i64 n)) (go_keep)
    (fail)
  go_wp2_with fail
  refine (placeI_at g r room f 1 p 1 _ ?_ ?_ rfl HP.out h1 hr hf (by omega)).mono ?_
  · simp [*]
  · simp [*]
  rintro e w2 ⟨rfl, q', rfl⟩
  go_wp2
  go_ret2
  exact ⟨rfl, rfl, rfl, rfl, rfl⟩
theorem popI_none (g : Nat) (w : World) (hc2 : w.cell? ⟨g, 2, none⟩ = some (.int .i64 (0 : Nat))) :
    Calls Try.prog 13 #[.pointer (some ⟨g, 0, none⟩)] w fun e w' => e = .returned (.tuple #[(.int .i64 0), .bool false]) ∧ w = w' := by
  go_enter Try.func13, Try.ntmps13
  go_wp2_with fail
  refine (peekI_none g _ hc2).mono ?_
  rintro e w1 ⟨rfl, rfl⟩
  go_wp2
  go_ret2
  exact ⟨rfl, rfl⟩
theorem popI_nil (w : World) :
    Calls Try.prog 13 #[.pointer none] w fun e w' => e = .returned (.tuple #[(.int .i64 0), .bool false]) ∧ w = w' := by
  go_enter Try.func13, Try.ntmps13
  go_wp2_with fail
  refine (peekI_nil _).mono ?_
  rintro e w1 ⟨rfl, rfl⟩
  go_wp2
  go_ret2
  exact ⟨rfl, rfl⟩

theorem newI_bad (n : Int) (w : World) (h : n < 1 ∨ 4096 < n) : Calls Try.prog 9 #[.int .i64 n] w fun e w' => e = .returned (.pointer none) ∧ w = w' := by
  rcases h with h | h
  · go_enter Try.func9, Try.ntmps9
    go_wp2
    go_ret
    exact ⟨rfl, rfl⟩
  · have h' : ¬ n < 1 := by omega
    go_enter Try.func9, Try.ntmps9
    go_wp2
    go_ret
    exact ⟨rfl, rfl⟩
theorem makeI_at (n : Nat) (h2 : n ≤ 4096) (w : World) : ∃ cs : Array Value, cs.size = n ∧ (Instr.makeSlice 26 (.int .i64 n) (.int .i64 n)).run Try.prog w = .ok (.slice (some ⟨w.heap.size, 0, none⟩) n n) (w.alloc (.cells cs 3)) := by
  obtain ⟨i, hi0, hi1, hi2, hi3⟩ := info_parts info_I
  have h := run_make (P := Try.prog) w 26 3 i (.int .i64 0) Try.underlying26 hi0 hi1 .i64 .i64 n n (by omega) (Int.le_refl _) (by rw [hi3]; omega) (by omega)
  rw [Int.toNat_natCast] at h
  exact ⟨_, by rw [size_madeCells, hi2]; omega, h⟩
def NewsI (w : World) (room : Nat) (Q : World → Nat → Nat → Nat → Prop) (e : Ending) (w' : World) : Prop :=
  ∃ g r, e = .returned (.pointer (some ⟨g, 0, none⟩)) ∧ Q w' g r room ∧ w.heap.size ≤ g ∧ w.heap.size ≤ r ∧ Below w.heap.size w w'
theorem newI_any (n : Nat) (w : World) (h1 : 1 ≤ n) (h2 : n ≤ 4096) : Calls Try.prog 9 #[.int .i64 n] w (NewsI w n fun w' g r room => QI w' g r room []) := by
  obtain ⟨cs, hs, hmk⟩ := makeI_at n h2 w
  have HS := Lib.hid hs
  clear hs
  have h1' : ¬ (n : Int) < 1 := by omega
  have h2' : ¬ 4096 < (n : Int) := by omega
  go_enter Try.func9, Try.ntmps9
  go_wp2
  go_ret
  refine ⟨w.heap.size + 1, w.heap.size, rfl, ⟨0, 0, cs, rfl, Whole.new2 _ _ _ _, (Whole.new w _ cs).alloc _, ?_, h1, h2⟩, by omega, Nat.le_refl _, ((Below.refl _ _).alloc (Nat.le_refl _) _).alloc (by simp) _⟩
  exact ⟨HS.out, by omega, by simp, by simp⟩
end Go.Proofs.Ytigimpnghecdiaa
