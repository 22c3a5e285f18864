/-
  Contracts of package dedup's Start, End and New.
-/
import Derived.Test.YtpbenlbkfabdoaaDedB
import Derived.RegionTactic
import Derived.ChangeAlike
namespace Go.Proofs.Ytpbenlbkfabdoaa
open Go.RowKit Go.Maps

/-- It answers c, and the table holds l now. -/
def Leaves (g m r room : Nat) (c : Int) (l : List Ent) (w : World) (e : Ending) (w' : World) : Prop :=
  e = .returned (.int .i64 c) ∧ DAt w' g m r room l ∧ But (fun k => k = g ∨ k = m ∨ k = r) w w'

theorem start_nil (k : Int) (w : World) : Calls Try.prog 13 #[.pointer none, .int .u64 k] w fun e w' => e = .returned (.int .i64 1) ∧ w = w' := by
  go_enter Try.func13, Try.ntmps13
  go_wp2
  go_ret
  exact ⟨rfl, rfl⟩
theorem end_nil (k : Int) (s : ByteArray) (w : World) : Calls Try.prog 11 #[.pointer none, .int .u64 k, .string s] w fun e w' => e = .returned (.int .i64 1) ∧ w = w' := by
  go_enter Try.func11, Try.ntmps11
  go_wp2
  go_ret
  exact ⟨rfl, rfl⟩

theorem start_there (g m r room : Nat) (l : List Ent) (k : Int) (hk : (Lit.int .u64 k).wf = true) (x : Ent) (w : World) (h : DAt w g m r room l) (hf : fnd l k = some x) :
    Calls Try.prog 13 #[.pointer (some ⟨g, 0, none⟩), .int .u64 k] w (Leaves g m r room 22 l w) := by
  have hD := h
  obtain ⟨nx, n, f, cs, rfl, _, h1, _, _, h2, _⟩ := h
  have hc := h1.cell 0
  have hl := h2.look keyU Try.underlying47 (zeroReq w) (key_mk hk)
  rw [hf] at hl
  obtain ⟨id, ans, done⟩ := x
  dsimp only [reqV, Option.isSome_some] at hl
  have HF := Lib.hid (fun o : Obj => (show Leaves g m r room 22 l w (.returned (.int .i64 22)) (w.alloc o) from ⟨rfl, hD.alloc o, (But.refl _ _).alloc o⟩))
  clear h1 h2 hk hf hD
  go_enter Try.func13, Try.ntmps13
  go_wp2
  go_ret
  exact HF.out _

theorem start_full (g m r room : Nat) (x : Ent) (t : List Ent) (k : Int) (hk : (Lit.int .u64 k).wf = true) (w : World) (h : DAt w g m r room (x :: t)) (hf : fnd (x :: t) k = none) (hlen : t.length + 1 = room) (hd : x.done = false) :
    Calls Try.prog 13 #[.pointer (some ⟨g, 0, none⟩), .int .u64 k] w (Leaves g m r room 20 (x :: t) w) := by
  have hD := h
  obtain ⟨nx, n, f, cs, _, _, h1, _, _, h2, _⟩ := h
  have hc := h1.cell 0
  have hl := h2.look keyU Try.underlying47 (zeroReq w) (key_mk hk)
  rw [hf] at hl
  dsimp only [reqV, Option.isSome_none] at hl
  have HF := Lib.hid (fun (o : Obj) (i : Nat) => (show Leaves g m r room 20 (x :: t) w (.returned (.int .i64 20)) ((w.alloc o).drewN i) from ⟨rfl, hD.alloc o, ((But.refl _ _).alloc o).drewN i⟩))
  have HM := Lib.hid (fun o : Obj => makeRoom_full g m r room x t (w.alloc o) (hD.alloc o) hlen hd)
  clear h1 h2 hk hf hD hlen hd
  go_enter Try.func13, Try.ntmps13
  go_wp2_with fail
  refine (HM.out _).mono ?_
  rintro e w' ⟨rfl, i, rfl⟩
  go_wp2
  go_ret
  exact HF.out _ _

/-- A table of which room was made for one more. -/
theorem start_on (g m r room : Nat) (l t : List Ent) (k : Int) (hk : (Lit.int .u64 k).wf = true) (w : World) (h : DAt w g m r room l) (hf : fnd l k = none) (hft : fnd t k = none) (ht : t.length < room)
    (hM : ∀ w1, DAt w1 g m r room l → Calls Try.prog 20 #[.pointer (some ⟨g, 0, none⟩)] w1 (Gone g m r room t w1)) :
    Calls Try.prog 13 #[.pointer (some ⟨g, 0, none⟩), .int .u64 k] w (Leaves g m r room 0 (t ++ [fresh k]) w) := by
  have hD := h
  obtain ⟨nx, n, f, cs, _, _, h1, _, _, h2, _⟩ := h
  have hc := h1.cell 0
  have hl := h2.look keyU Try.underlying47 (zeroReq w) (key_mk hk)
  rw [hf] at hl
  dsimp only [reqV, Option.isSome_none] at hl
  have HM := Lib.hid (fun o : Obj => hM (w.alloc o) (hD.alloc o))
  have hb := fun o : Obj => (But.refl (fun k => k = g ∨ k = m ∨ k = r) w).alloc o
  have HB := Lib.hid hb
  have HK := Lib.hid hk
  clear h1 h2 hk hf hD hM hb
  go_enter Try.func13, Try.ntmps13
  go_wp2_with fail
  refine (HM.out _).mono ?_
  rintro e w1 ⟨rfl, hD1, hz1, b1⟩
  have B1 := (HB.out _).trans b1
  obtain ⟨nx, n, f, cs, rfl, hnx, h1, h3, hr, h2, hap, hwf, hroom⟩ := hD1
  have hmg : m ≠ g := h2.not_cells h1
  have hmr : m ≠ r := h2.not_cells h3
  have hgr : g ≠ r := by
    intro e
    subst e
    have a1 : w1.heap[g]? = _ := h1
    have a2 : w1.heap[g]? = _ := h3
    rw [a1] at a2
    injection a2 with a2
    injection a2 with _ a2
    exact absurd a2 (by decide)
  obtain ⟨w2, hrun, hh, hturn⟩ := h2.put_new keyU Try.underlying47 (by unfold maxLen; omega) (key_mk HK.out) hft
  have h1' := h1.turned hturn (Ne.symm hmg)
  have h3' := h3.turned hturn (Ne.symm hmr)
  have hc0 := h1.cell 0
  have hd0 := h1'.cell 0
  have hd1 := h1'.cell 1
  have hd2 := h1'.cell 2
  have hd3 := h1'.cell 3
  have hf1 := h1'.free 2
  have hf2 := h1'.free 3
  have hf3 := h3'.free nx
  have hnr : nx < room := by rw [← hnx]; exact Nat.mod_lt _ (by omega)
  have hcn : ∃ y, w2.cell? ⟨r, nx, none⟩ = some y := by
    rw [h3'.cell]
    exact ⟨cs[nx]'(by rw [hr.1]; exact hnr), by simp [hr.1, hnr]⟩
  obtain ⟨y, hcy⟩ := hcn
  obtain ⟨p, hp⟩ : ∃ p, (nx + 1) % room = p := ⟨_, rfl⟩
  have hm : IntKind.i64.wrap (((nx : Int) + 1).tmod room) = p := by
    have e : ((nx : Int) + 1).tmod room = p := by
      rw [← hp, show ((nx : Int) + 1) = ((nx + 1 : Nat) : Int) by omega, Int.ofNat_tmod]
    have hpr : p < room := by rw [← hp]; exact Nat.mod_lt _ (by omega)
    rw [e]; exact IntWalk.i64_in _ (by omega)
  have hwl := waits_le t
  have hfin : ∀ w', w'.os = w2.os → w'.tape = w2.tape → w'.output = w2.output → w'.heap = (((w2.setCell ⟨r, nx, none⟩ (.int .u64 k)).setCell ⟨g, 2, none⟩ (.int .i64 (p : Nat))).setCell ⟨g, 3, none⟩ (.int .i64 ((waits t : Nat) + 1))).heap → Leaves g m r room 0 (t ++ [fresh k]) w (.returned (.int .i64 0)) w' := by
    intro w' q1 q2 q3 q4
    refine ⟨rfl, ⟨p, _, f, cs.setIfInBounds nx (.int .u64 k), rfl, ?_, ?_, ?_, ?_, ?_, hap.snoc hft, ?_, hroom⟩, ?_⟩
    · rw [← hp, ← hnx, Nat.mod_add_mod]
      simp [Nat.add_assoc]
    · unfold Whole
      rw [q4]
      have := ((h1'.far (p := ⟨r, nx, none⟩) hgr (.int .u64 k)).set 2 (.int .i64 (p : Nat))).set 3 (.int .i64 ((waits t : Nat) + 1))
      rw [waits_snoc]
      simpa [Whole] using this
    · unfold Whole
      rw [q4]
      exact ((h3'.set nx (.int .u64 k)).far (p := ⟨g, 2, none⟩) (Ne.symm hgr) _).far (p := ⟨g, 3, none⟩) (Ne.symm hgr) _
    · rw [List.map_append]
      exact hr.push (by simpa using ht) (.int .u64 k) (by simpa using hnx)
    · refine hh.same ?_
      rw [q4]
      rw [Below.heap_setCell _ _ _ _ (by simpa using hmg), Below.heap_setCell _ _ _ _ (by simpa using hmg), Below.heap_setCell _ _ _ _ (by simpa using hmr)]
    · intro e he
      rcases List.mem_append.1 he with he | he
      · exact hwf e he
      · simp at he
        subst he
        exact HK.out
    · have b2 := ((((B1.turned (by simp) hturn).set (p := ⟨r, nx, none⟩) (by simp) (.int .u64 k)).set (p := ⟨g, 2, none⟩) (by simp) (.int .i64 (p : Nat))).set (p := ⟨g, 3, none⟩) (by simp) (.int .i64 ((waits t : Nat) + 1)))
      have b3 : But (fun k => k = g ∨ k = m ∨ k = r) (((w2.setCell ⟨r, nx, none⟩ (.int .u64 k)).setCell ⟨g, 2, none⟩ (.int .i64 (p : Nat))).setCell ⟨g, 3, none⟩ (.int .i64 ((waits t : Nat) + 1))) w' :=
        ⟨q1, q2, q3, by rw [q4]; exact Nat.le_refl _, fun _ _ _ => by rw [q4]⟩
      exact b2.trans b3
  have HF := Lib.hid hfin
  have hrg : r ≠ g := Ne.symm hgr
  have hne : ¬ (room : Int) = 0 := by omega
  have hi1 : (0 : Int) ≤ (nx : Int) := by omega
  have hi2 : (nx : Int) < (room : Int) := by omega
  have hs : IntKind.i64.wrap ((nx : Int) + 1) = nx + 1 := IntWalk.i64_in _ (by omega)
  have hpi : ((nx : Int) + 1) % (room : Int) = p := by rw [← hp]; simp
  have HPI := Lib.hid hpi
  have HP := Lib.hid hp
  have HT := Lib.hid ht
  obtain ⟨wn, hwn⟩ : ∃ wn : Nat, waits t = wn := ⟨_, rfl⟩
  have hwn' : wn ≤ 4096 := by omega
  rw [hwn] at hd0 hd1 hd2 hd3 hc0 HF
  clear h1 h2 h3 h1' h3' hh hturn hap hwf hr hnx hp hpi hfin HM HB HK hc hft hl hwl hwn b1 B1 hz1 ht
  dsimp only [reqV] at hrun
  go_wp2_with fail
  go_region_held3 (fun w' => w'.cell? ⟨g, 1, none⟩ = some (.slice (some ⟨r, 0, none⟩) room room) ∧ w'.cell? ⟨g, 2, none⟩ = some (.int .i64 nx) ∧ w'.cell? ⟨g, 3, none⟩ = some (.int .i64 wn)) (go_keep) (fail)
  go_wp2_with fail
  go_region
  go_wp2
  go_ret
  exact HF.out _ rfl rfl rfl (by rw [← HPI.out]; rfl)

theorem start_yes (g m r room : Nat) (l : List Ent) (k : Int) (hk : (Lit.int .u64 k).wf = true) (w : World) (h : DAt w g m r room l) (hf : fnd l k = none) (hl : l.length < room) :
    Calls Try.prog 13 #[.pointer (some ⟨g, 0, none⟩), .int .u64 k] w (Leaves g m r room 0 (l ++ [fresh k]) w) :=
  start_on g m r room l l k hk w h hf hf hl fun w1 h1 => (makeRoom_free g m r room l w1 h1 hl).mono fun e w' ⟨he, i, hw⟩ => by
    subst hw
    exact ⟨he, h1, rfl, (But.refl _ _).drewN i⟩
theorem start_goes (g m r room : Nat) (x : Ent) (t : List Ent) (k : Int) (hk : (Lit.int .u64 k).wf = true) (w : World) (h : DAt w g m r room (x :: t)) (hf : fnd (x :: t) k = none) (hl : t.length + 1 = room) (hd : x.done = true) :
    Calls Try.prog 13 #[.pointer (some ⟨g, 0, none⟩), .int .u64 k] w (Leaves g m r room 0 (t ++ [fresh k]) w) :=
  start_on g m r room (x :: t) t k hk w h hf (by rw [fnd_cons] at hf; split at hf <;> simp_all) (by omega) fun w1 h1 => makeRoom_goes g m r room x t w1 h1 hl hd
/-- Start, of any row. -/
theorem start_any (g m r room : Nat) (l : List Ent) (k : Int) (hk : (Lit.int .u64 k).wf = true) (w : World) (h : DAt w g m r room l) :
    Calls Try.prog 13 #[.pointer (some ⟨g, 0, none⟩), .int .u64 k] w (Leaves g m r room (startL room l k).1 (startL room l k).2 w) := by
  unfold startL
  have hlen := h.len
  cases hf : fnd l k with
  | some x => exact start_there g m r room l k hk x w h hf
  | none =>
    dsimp only
    by_cases hl : l.length < room
    · rw [if_pos hl]
      exact start_yes g m r room l k hk w h hf hl
    · rw [if_neg hl]
      cases l with
      | nil => simp at hl; omega
      | cons x t =>
        rw [List.length_cons] at hl hlen
        cases hd : x.done with
        | true =>
          dsimp only
          rw [if_pos hd]
          exact start_goes g m r room x t k hk w h hf (by omega) hd
        | false =>
          dsimp only
          rw [if_neg (by simp [hd])]
          exact start_full g m r room x t k hk w h hf (by omega) hd

theorem end_none (g m r room : Nat) (l : List Ent) (k : Int) (hk : (Lit.int .u64 k).wf = true) (s : ByteArray) (w : World) (h : DAt w g m r room l) (hf : fnd l k = none) :
    Calls Try.prog 11 #[.pointer (some ⟨g, 0, none⟩), .int .u64 k, .string s] w (Leaves g m r room 21 l w) := by
  have hD := h
  obtain ⟨nx, n, f, cs, rfl, _, h1, _, _, h2, _⟩ := h
  have hc := h1.cell 0
  have hl := h2.look keyU Try.underlying47 (zeroReq w) (key_mk hk)
  rw [hf] at hl
  dsimp only [reqV, Option.isSome_none] at hl
  have HF := Lib.hid (fun o : Obj => (show Leaves g m r room 21 l w (.returned (.int .i64 21)) (w.alloc o) from ⟨rfl, hD.alloc o, (But.refl _ _).alloc o⟩))
  clear h1 h2 hk hf hD
  go_enter Try.func11, Try.ntmps11
  go_wp2
  go_ret
  exact HF.out _
theorem end_done (g m r room : Nat) (l : List Ent) (k : Int) (hk : (Lit.int .u64 k).wf = true) (s : ByteArray) (x : Ent) (w : World) (h : DAt w g m r room l) (hf : fnd l k = some x) (hd : x.done = true) :
    Calls Try.prog 11 #[.pointer (some ⟨g, 0, none⟩), .int .u64 k, .string s] w (Leaves g m r room 23 l w) := by
  have hD := h
  obtain ⟨nx, n, f, cs, rfl, _, h1, _, _, h2, _⟩ := h
  have hc := h1.cell 0
  have hl := h2.look keyU Try.underlying47 (zeroReq w) (key_mk hk)
  rw [hf] at hl
  obtain ⟨id, ans, done⟩ := x
  dsimp only at hd
  subst hd
  dsimp only [reqV, Option.isSome_some] at hl
  have HF := Lib.hid (fun o : Obj => (show Leaves g m r room 23 l w (.returned (.int .i64 23)) (w.alloc o) from ⟨rfl, hD.alloc o, (But.refl _ _).alloc o⟩))
  clear h1 h2 hk hf hD
  go_enter Try.func11, Try.ntmps11
  go_wp2
  go_ret
  exact HF.out _
theorem end_yes (g m r room : Nat) (l : List Ent) (k : Int) (hk : (Lit.int .u64 k).wf = true) (s : ByteArray) (x : Ent) (w : World) (h : DAt w g m r room l) (hf : fnd l k = some x) (hd : x.done = false) :
    Calls Try.prog 11 #[.pointer (some ⟨g, 0, none⟩), .int .u64 k, .string s] w (Leaves g m r room 0 (upd l k s) w) := by
  have hD := h
  have hlt := h.lt
  obtain ⟨nx, n, f, cs, rfl, hnx, h1, h3, hr, h2, hap, hwf, hroom⟩ := h
  have hc := h1.cell 0
  have hl := h2.look keyU Try.underlying47 (zeroReq w) (key_mk hk)
  rw [hf] at hl
  have hmg : m ≠ g := h2.not_cells h1
  have hmr : m ≠ r := h2.not_cells h3
  have hfits := hr.fits
  rw [List.length_map] at hfits
  have hwu := waits_upd (s := s) hap hf hd
  obtain ⟨id, ans, done⟩ := x
  dsimp only at hd
  subst hd
  dsimp only [reqV, Option.isSome_some] at hl
  obtain ⟨w1, hw1⟩ : ∃ w1, w1 = w.alloc (.cells #[.string ans, .bool false] 55) := ⟨_, rfl⟩
  have h2' : Holds Try.prog 29 w1 m l := h2.same (by rw [hw1]; exact Below.heap_alloc _ _ _ hlt.2.1)
  obtain ⟨w2, hrun, hh, hturn⟩ := h2'.put_old keyU Try.underlying47 (by unfold maxLen; omega) (key_mk hk) s hf
  have h1' := (h1.alloc (.cells #[.string ans, .bool false] 55))
  have h3' := (h3.alloc (.cells #[.string ans, .bool false] 55))
  rw [← hw1] at h1' h3'
  have b1 := (But.refl (fun k => k = g ∨ k = m ∨ k = r) w).alloc (.cells #[.string ans, .bool false] 55)
  rw [← hw1] at b1
  have hd0 := h1'.cell 0
  have h1'' := h1'.turned hturn (Ne.symm hmg)
  have h3'' := h3'.turned hturn (Ne.symm hmr)
  have hd3 := h1''.cell 3
  have hf2 := h1''.free 3
  have hwl := waits_le l
  have hgr : g ≠ r := by
    intro e
    subst e
    have a1 : w.heap[g]? = _ := h1
    have a2 : w.heap[g]? = _ := h3
    rw [a1] at a2
    injection a2 with a2
    injection a2 with _ a2
    exact absurd a2 (by decide)
  have hfin : Leaves g m r room 0 (upd l k s) w (.returned (.int .i64 0)) (w2.setCell ⟨g, 3, none⟩ (.int .i64 ((waits l : Nat) - 1))) := by
    refine ⟨rfl, ⟨nx, _, f, cs, rfl, ?_, ?_, h3''.far (p := ⟨g, 3, none⟩) (Ne.symm hgr) _, ?_, hh.same (Below.heap_setCell _ _ _ _ (by simpa using hmg)), hap.upd k s, ?_, hroom⟩, ?_⟩
    · rw [upd_length]; exact hnx
    · have := h1''.set 3 (.int .i64 ((waits l : Nat) - 1))
      rw [show (((waits l : Nat) : Int) - 1) = ((waits (upd l k s) : Nat) : Int) by omega] at this ⊢
      simpa using this
    · have e : (upd l k s).map (fun e => Value.int .u64 e.id) = l.map fun e => Value.int .u64 e.id := by
        have := congrArg (List.map (Value.int .u64)) (upd_ids l k s)
        simpa [List.map_map, Function.comp_def] using this
      rw [e]
      exact hr
    · intro e he
      have : e.id ∈ (upd l k s).map Ent.id := List.mem_map.2 ⟨e, he, rfl⟩
      rw [upd_ids] at this
      obtain ⟨e', he', hid⟩ := List.mem_map.1 this
      rw [← hid]
      exact hwf e' he'
    · exact (b1.turned (by simp) hturn).set (p := ⟨g, 3, none⟩) (by simp) _
  obtain ⟨wn, hwn⟩ : ∃ wn : Nat, waits l = wn := ⟨_, rfl⟩
  have hwn1 : 1 ≤ wn := by omega
  have hwn2 : wn ≤ 4096 := by omega
  rw [hwn] at hd0 hd3 hc hfin
  have HF := Lib.hid hfin
  subst hw1
  dsimp only [reqV] at hrun
  clear h1 h2 h3 h1' h2' h3' h1'' h3'' hh hturn hap hwf hr hnx hfin hwl hwn b1 hD hf hk hwu hfits hroom
  go_enter Try.func11, Try.ntmps11
  go_wp2
  go_ret
  exact HF.out
/-- End, of any row. -/
theorem end_any (g m r room : Nat) (l : List Ent) (k : Int) (hk : (Lit.int .u64 k).wf = true) (s : ByteArray) (w : World) (h : DAt w g m r room l) :
    Calls Try.prog 11 #[.pointer (some ⟨g, 0, none⟩), .int .u64 k, .string s] w (Leaves g m r room (endL l k s).1 (endL l k s).2 w) := by
  unfold endL
  cases hf : fnd l k with
  | none => exact end_none g m r room l k hk s w h hf
  | some x =>
    dsimp only
    cases hd : x.done with
    | true => exact end_done g m r room l k hk s x w h hf hd
    | false => exact end_yes g m r room l k hk s x w h hf hd

theorem new_bad (n : Int) (w : World) (h : n < 1 ∨ 4096 < n) : Calls Try.prog 9 #[.int .i64 n] w fun e w' => e = .returned (.pointer none) ∧ w = w' := by
  rcases h with h | h
  · go_enter Try.func9, Try.ntmps9
    go_wp2
    go_ret
    exact ⟨rfl, rfl⟩
  · have h' : ¬ n < 1 := by omega
    go_enter Try.func9, Try.ntmps9
    go_wp2
    go_ret
    exact ⟨rfl, rfl⟩
theorem info_U : (Try.prog.info? 29).map (fun i => (i.zero, i.size, i.bytes)) = some (some (.int .u64 0), 1, 8) := by kernel_rfl
theorem make_at (n : Nat) (h2 : n ≤ 4096) (w : World) : ∃ cs : Array Value, cs.size = n ∧ (Instr.makeSlice 48 (.int .i64 n) (.int .i64 n)).run Try.prog w = .ok (.slice (some ⟨w.heap.size, 0, none⟩) n n) (w.alloc (.cells cs 29)) := by
  obtain ⟨i, hi0, hi1, hi2, hi3⟩ := info_parts info_U
  have h := run_make (P := Try.prog) w 48 29 i (.int .u64 0) Try.underlying48 hi0 hi1 .i64 .i64 n n (by omega) (Int.le_refl _) (by rw [hi3]; omega) (by omega)
  rw [Int.toNat_natCast] at h
  exact ⟨_, by rw [size_madeCells, hi2]; omega, h⟩
/-- A new table. -/
def Made (room : Nat) (w : World) (e : Ending) (w' : World) : Prop :=
  ∃ g m r, e = .returned (.pointer (some ⟨g, 0, none⟩)) ∧ DAt w' g m r room [] ∧ w.heap.size ≤ g ∧ w.heap.size ≤ m ∧ w.heap.size ≤ r ∧ Below w.heap.size w w'
theorem new_any (n : Nat) (w : World) (h1 : 1 ≤ n) (h2 : n ≤ 4096) : Calls Try.prog 9 #[.int .i64 n] w (Made n w) := by
  have hmm := @run_makeMap Try.prog
  obtain ⟨cs, hs, hmk⟩ := make_at n h2 (w.alloc (.map #[] 0))
  have HS := Lib.hid hs
  clear hs
  have h1' : ¬ (n : Int) < 1 := by omega
  have h2' : ¬ 4096 < (n : Int) := by omega
  go_enter Try.func9, Try.ntmps9
  go_wp2
  go_ret
  have hW := Whole.new2 (w.alloc (.map #[] 0)) (.cells cs 29) 50 #[.map (some w.heap.size), .slice (some ⟨w.heap.size + 1, 0, none⟩) n n, .int .i64 0, .int .i64 0]
  have hR := (Whole.new2 w (.map #[] 0) 29 cs).alloc (.cells #[.map (some w.heap.size), .slice (some ⟨w.heap.size + 1, 0, none⟩) n n, .int .i64 0, .int .i64 0] 50)
  have hM := (Holds.new Try.prog 29 w).same (w' := ((w.alloc (.map #[] 0)).alloc (.cells cs 29)).alloc (.cells #[.map (some w.heap.size), .slice (some ⟨w.heap.size + 1, 0, none⟩) n n, .int .i64 0, .int .i64 0] 50)) (by rw [Below.heap_alloc _ _ _ (by simp; omega), Below.heap_alloc _ _ _ (by simp)])
  refine ⟨w.heap.size + 1 + 1, w.heap.size, w.heap.size + 1, rfl, ⟨0, 0, 0, cs, rfl, by simp, by simpa using hW, hR, ⟨HS.out, by omega, by simp, by simp⟩, hM, List.Pairwise.nil, by simp, h1, h2⟩, by omega, by omega, by omega, (((Below.refl _ _).alloc (Nat.le_refl _) _).alloc (by simp) _).alloc (by simp; omega) _⟩

theorem leaves_fix {g m r room : Nat} {c c' : Int} {l l' : List Ent} {w : World} {e : Ending} {w' : World} (h : Leaves g m r room c l w e w') (hc : c = c') (hl : l = l') : e = .returned (.int .i64 c') ∧ DAt w' g m r room l' ∧ But (fun k => k = g ∨ k = m ∨ k = r) w w' := by
  subst hc
  subst hl
  exact h

set_option maxRecDepth 100000 in
theorem awake_any (w : World) : Calls Try.prog 8 #[] w fun e w' => e = .returned (.bool true) ∧ Below w.heap.size w w' := by
  go_enter Try.func8, Try.ntmps8
  go_wp2_with fail
  refine (new_any 1 _ (by decide) (by decide)).mono ?_
  rintro e w1 ⟨g, m, r, rfl, d1, hg, hm, hr, b1⟩
  go_wp2_with fail
  refine (start_yes g m r 1 [] 5 (by decide) _ d1 rfl (by decide)).mono ?_
  rintro e w2 ⟨rfl, d2, b2⟩
  go_wp2_with fail
  refine (start_full g m r 1 (fresh 5) [] 6 (by decide) _ d2 (by decide) rfl rfl).mono ?_
  rintro e w3 ⟨rfl, d3, b3⟩
  go_wp2_with fail
  refine (end_yes g m r 1 [fresh 5] 5 (by decide) ⟨#[120]⟩ (fresh 5) _ d3 (by rfl) rfl).mono ?_
  rintro e w4 ⟨rfl, d4, b4⟩
  rw [show upd [fresh 5] 5 ⟨#[120]⟩ = [⟨5, ⟨#[120]⟩, true⟩] from rfl] at d4
  go_wp2_with fail
  refine (find_any g m r 1 _ 5 (by decide) _ d4).mono ?_
  rintro e w5 ⟨rfl, b5⟩
  rw [show foundV (fnd [⟨5, ⟨#[120]⟩, true⟩] 5) = .tuple #[.string ⟨#[120]⟩, .bool true, .bool true] from rfl]
  have d5 := d4.next b5
  go_wp2_with fail
  refine (start_goes g m r 1 ⟨5, ⟨#[120]⟩, true⟩ [] 6 (by decide) _ d5 (by decide) rfl rfl).mono ?_
  rintro e w6 ⟨rfl, d6, b6⟩
  go_wp2_with fail
  refine (find_any g m r 1 _ 5 (by decide) _ d6).mono ?_
  rintro e w7 ⟨rfl, b7⟩
  rw [show foundV (fnd ([] ++ [fresh 6]) 5) = .tuple #[.string ⟨#[]⟩, .bool false, .bool false] from rfl]
  have d7 := d6.next b7
  go_wp2_with fail
  refine (len_any g m r 1 _ _ d7).mono ?_
  rintro e w8 ⟨rfl, rfl⟩
  rw [show ((([] ++ [fresh 6] : List Ent).length : Nat) : Int) = 1 from rfl]
  go_wp2_with fail
  refine (waits_any g m r 1 _ _ d7).mono ?_
  rintro e w8 ⟨rfl, rfl⟩
  rw [show (((waits ([] ++ [fresh 6])) : Nat) : Int) = 1 from rfl]
  go_wp2
  go_ret
  have hb := (((((b2.trans b3).trans b4).trans (but_of_below b5)).trans b6).trans (but_of_below b7)).below (B := w.heap.size) b1.size (by intro k hk; omega)
  exact ⟨rfl, b1.trans hb⟩
end Go.Proofs.Ytpbenlbkfabdoaa
