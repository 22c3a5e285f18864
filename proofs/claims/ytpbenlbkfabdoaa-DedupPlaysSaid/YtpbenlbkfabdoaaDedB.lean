/-
  Contracts of package dedup's calls that turn a table: makeRoom, Start, End; and New.
-/
import Derived.Test.YtpbenlbkfabdoaaDedA
namespace Go.Proofs.Ytpbenlbkfabdoaa
open Go.RowKit Go.Maps

theorem Ring.skip {cs : Array Value} {room f : Nat} {l : List Value} {x : Value} (h : Ring cs room f (x :: l)) {p : Nat} (hp : (f + 1) % room = p) : Ring cs room p l := by
  obtain ⟨h1, h2, h3, h4⟩ := h
  simp at h3
  have hpr : p < room := by rw [← hp]; exact Nat.mod_lt _ (by omega)
  refine ⟨h1, hpr, by omega, fun j v hj => ?_⟩
  have e : (p + j) % room = (f + (j + 1)) % room := by rw [← hp, Nat.mod_add_mod]; congr 1; omega
  rw [e]
  exact h4 (j + 1) v (by simpa using hj)

theorem field_done (s : ByteArray) (b : Bool) (w : World) : (Instr.field 55 (.agg #[.string s, .bool b]) 1).run Try.prog w = .ok (.bool b) w := by kernel_rfl

/-- It answers this, and has only looked. -/
def Told (v : Value) (w : World) (e : Ending) (w' : World) : Prop := e = .returned v ∧ ∃ m, w' = w.drewN m

theorem makeRoom_free (g m r room : Nat) (l : List Ent) (w : World) (h : DAt w g m r room l) (hl : l.length < room) : Calls Try.prog 20 #[.pointer (some ⟨g, 0, none⟩)] w (Told (.bool true) w) := by
  obtain ⟨nx, n, f, cs, rfl, _, h1, _, _, h2, _⟩ := h
  have hc0 := h1.cell 0
  have hc1 := h1.cell 1
  have hlen := fun i : Nat => Holds.len (w := w.drewN i) (h2.same rfl) Try.underlying47 3
  have hlen0 := h2.len Try.underlying47 3
  have ht : decide (l.length < room) = true := by simpa using hl
  clear h1 h2
  go_enter Try.func20, Try.ntmps20
  go_wp2_with fail
  go_quiet (fail)
  go_wp2
  go_ret
  exact ⟨rfl, _, rfl⟩
theorem makeRoom_full (g m r room : Nat) (x : Ent) (t : List Ent) (w : World) (h : DAt w g m r room (x :: t)) (hl : t.length + 1 = room) (hd : x.done = false) : Calls Try.prog 20 #[.pointer (some ⟨g, 0, none⟩)] w (Told (.bool false) w) := by
  obtain ⟨nx, n, f, cs, rfl, hnx, h1, h3, hr, h2, hap, hwf, hroom⟩ := h
  have hf : f = nx := by
    rw [← hnx, List.length_cons, hl, Nat.add_mod_right, Nat.mod_eq_of_lt hr.2.1]
  subst hf
  have hfr := hr.2.1
  have hx := (h3.cell f).trans hr.head
  dsimp only at hx
  have hc0 := h1.cell 0
  have hc1 := h1.cell 1
  have hc2 := h1.cell 2
  have hk := hwf x (by simp)
  have hlook := fun i : Nat => Holds.look1 (w := w.drewN i) (h2.same rfl) keyU Try.underlying47 (zeroReq _) (key_mk hk) (e := x) (by rw [fnd_cons, if_pos rfl])
  have hlen := fun i : Nat => Holds.len (w := w.drewN i) (h2.same rfl) Try.underlying47 3
  have hlen0 := h2.len Try.underlying47 3
  rw [List.length_cons, hl] at hlen0
  simp only [List.length_cons, hl] at hlen
  have ht : decide (room < room) = false := by simp
  have hfd := field_done x.ans x.done
  have hi1 : (0 : Int) ≤ (f : Int) := by omega
  have hi2 : (f : Int) < (room : Int) := by omega
  have hz : ((room : Int) == 0) = false := by simp; omega
  obtain ⟨id, ans, done⟩ := x
  dsimp only [reqV] at hlook hx hd hfd
  subst hd
  clear h1 h2 h3 hnx hl hr hap hwf hk
  go_enter Try.func20, Try.ntmps20
  go_wp2_with fail
  go_quiet (fail)
  go_wp2_with fail
  go_quiet (fail)
  go_wp2
  go_ret
  exact ⟨rfl, _, rfl⟩

/-- It lets the first one go. -/
def Gone (g m r room : Nat) (t : List Ent) (w : World) (e : Ending) (w' : World) : Prop := e = .returned (.bool true) ∧ DAt w' g m r room t ∧ w'.heap.size = w.heap.size ∧ But (fun k => k = g ∨ k = m ∨ k = r) w w'
theorem makeRoom_goes (g m r room : Nat) (x : Ent) (t : List Ent) (w : World) (h : DAt w g m r room (x :: t)) (hl : t.length + 1 = room) (hd : x.done = true) : Calls Try.prog 20 #[.pointer (some ⟨g, 0, none⟩)] w (Gone g m r room t w) := by
  obtain ⟨nx, n, f, cs, rfl, hnx, h1, h3, hr, h2, hap, hwf, hroom⟩ := h
  have hf : f = nx := by
    rw [← hnx, List.length_cons, hl, Nat.add_mod_right, Nat.mod_eq_of_lt hr.2.1]
  subst hf
  have hfr := hr.2.1
  have hx := (h3.cell f).trans hr.head
  dsimp only at hx
  have hc0 := h1.cell 0
  have hc1 := h1.cell 1
  have hc2 := h1.cell 2
  have hk := hwf x (by simp)
  have hlook := fun i : Nat => Holds.look1 (w := w.drewN i) (h2.same rfl) keyU Try.underlying47 (zeroReq _) (key_mk hk) (e := x) (by rw [fnd_cons, if_pos rfl])
  have hlen := fun i : Nat => Holds.len (w := w.drewN i) (h2.same rfl) Try.underlying47 3
  have hlen0 := h2.len Try.underlying47 3
  rw [List.length_cons, hl] at hlen0
  simp only [List.length_cons, hl] at hlen
  have ht : decide (room < room) = false := by simp
  have hfd := field_done x.ans x.done
  have hi1 : (0 : Int) ≤ (f : Int) := by omega
  have hi2 : (f : Int) < (room : Int) := by omega
  have hz : ((room : Int) == 0) = false := by simp; omega
  have hfin : ∀ (i : Nat) (w' : World), Holds Try.prog 29 w' m t → (w.drewN i).mapTurned w' m → Gone g m r room t w (.returned (.bool true)) w' := by
    intro i w' hh hturn
    have hmg : m ≠ g := h2.not_cells h1
    have hmr : m ≠ r := h2.not_cells h3
    refine ⟨rfl, ⟨f, _, (f + 1) % room, cs, rfl, ?_, Whole.turned (w := w.drewN i) ?_ hturn (Ne.symm hmg), Whole.turned (w := w.drewN i) h3 hturn (Ne.symm hmr), Ring.skip hr rfl, hh, hap.tail, fun e he => hwf e (by simp [he]), hroom⟩, turned_size (w := w.drewN i) hturn, ((But.refl _ w).drewN i).turned (by simp) hturn⟩
    · rw [Nat.mod_add_mod, show f + 1 + t.length = f + room by omega, Nat.add_mod_right, Nat.mod_eq_of_lt hfr]
    · rw [waits_cons, hd] at h1
      exact h1
  have HF := Lib.hid hfin
  have hdel := fun i : Nat => Holds.del (w := w.drewN i) (h2.same rfl) hap keyU Try.underlying47 (key_mk hk) 0
  have HD := Lib.hid hdel
  obtain ⟨id, ans, done⟩ := x
  dsimp only [reqV] at hlook hx hd hfd
  subst hd
  clear h1 h2 h3 hnx hl hr hap hwf hk hfin hdel
  go_enter Try.func20, Try.ntmps20
  go_wp2_with fail
  go_quiet (fail)
  obtain ⟨n1, rfl⟩ : ∃ n1, n1 = nq := ⟨_, rfl⟩
  go_wp2_with fail
  go_quiet (fail)
  obtain ⟨w', hrun, hh, hturn⟩ := HD.out (n1 + nq)
  have HH := Lib.hid (HF.out _ _ hh hturn)
  clear hh hturn
  go_wp2
  go_ret
  exact HH.out
end Go.Proofs.Ytpbenlbkfabdoaa
