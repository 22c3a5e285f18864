/-
  Several texts in one (StoA, StoB): what each of them says stands at its head.
-/
import Derived.Test.YticnaljfnjiofaaProg
import Derived.Test.YticnaljfnjiofaaGst
import Derived.Deep.DeepCutAuto
import Derived.Deep.QuietTactic
import Derived.BigQuiet
import Derived.StillTailTactics
import Derived.IntWalk
import Derived.Deep.RegionHeld3
import Derived.Deep.WholeRow
import Derived.Laws.CopyOwn
import Derived.Laws.OwnMore
import Derived.RegionTactic
import Derived.ChangeAlike
/-
  Contracts of package store: new memory, what only looks, New.
-/
namespace Go.Proofs.Yticnaljfnjiofaa
open Go.RowKit Go.Maps

theorem keyS : Keyed Try.prog 28 := int_keyed Try.underlying28
theorem zeroI (w : World) : (zeroValue 3).run Try.prog w = .ok (.int .i64 0) w := by kernel_rfl
theorem skey_mk {k : Int} (h : (Lit.int .u16 k).wf = true) : keyOf Try.prog 28 (.int .u16 k) = some (.int .u16 k) := keyOf_int_mk Try.underlying28 h
theorem info_b : (Try.prog.info? 5).map (fun i => (i.zero, i.size, i.bytes)) = some (some (.int .u8 0), 1, 1) := by kernel_rfl
theorem info_p : (Try.prog.info? 134).map (fun i => (i.zero, i.size, i.bytes)) = some (some (.agg #[.int .u16 0, .slice none 0 0]), 2, 32) := by kernel_rfl

theorem make_bytes (n : Nat) (h2 : n ≤ 1048576) (w : World) : ∃ cs : Array Value, cs.size = n ∧
    (Instr.makeSlice 33 (.int .i64 n) (.int .i64 n)).run Try.prog w = .ok (.slice (some ⟨w.heap.size, 0, none⟩) n n) (w.alloc (.cells cs 5)) := by
  obtain ⟨i, hi0, hi1, hi2, hi3⟩ := info_parts info_b
  have h := run_make (P := Try.prog) w 33 5 i (.int .u8 0) Try.underlying33 hi0 hi1 .i64 .i64 n n (by omega) (Int.le_refl _) (by rw [hi3]; omega) (by omega)
  rw [Int.toNat_natCast, hi2, Nat.mul_one] at h
  exact ⟨_, by rw [size_madeCells], h⟩
theorem make_ring (n : Nat) (h2 : n ≤ 4096) (w : World) : ∃ cs : Array Value, cs.size = n * 2 ∧
    (Instr.makeSlice 97 (.int .i64 n) (.int .i64 n)).run Try.prog w = .ok (.slice (some ⟨w.heap.size, 0, none⟩) n n) (w.alloc (.cells cs 134)) := by
  obtain ⟨i, hi0, hi1, hi2, hi3⟩ := info_parts info_p
  have h := run_make (P := Try.prog) w 97 134 i (.agg #[.int .u16 0, .slice none 0 0]) Try.underlying97 hi0 hi1 .i64 .i64 n n (by omega) (Int.le_refl _) (by rw [hi3]; omega) (by omega)
  rw [Int.toNat_natCast, hi2] at h
  exact ⟨_, by rw [size_madeCells], h⟩

/-- It answers the same bytes in new memory, and nothing else turns. -/
def Anew (l : List UInt8) (w : World) (e : Ending) (w' : World) : Prop :=
  e = .returned (.slice (some ⟨w.heap.size, 0, none⟩) l.length l.length) ∧ w' = w.alloc (.cells (u8s l).toArray 5)
theorem anew_any (B : Nat) (A : Option Addr) (c : Nat) (l : List UInt8) (w : World) (hr : Row w B 1 A l.length (u8s l)) (hB : B ≤ w.heap.size) (hl : l.length ≤ 1048576) :
    Calls Try.prog 50 #[.slice A l.length c] w (Anew l w) := by
  obtain ⟨cs, hcs, hmk⟩ := make_bytes l.length hl w
  rcases Nat.eq_zero_or_pos l.length with h0 | h0
  · obtain rfl : l = [] := List.eq_nil_of_length_eq_zero h0
    obtain rfl : cs = #[] := Array.eq_empty_of_size_eq_zero hcs
    simp only [List.length_nil] at hmk ⊢
    rw [show ((0 : Nat) : Int) = 0 from rfl] at hmk
    clear hr hcs h0
    go_enter Try.func50, Try.ntmps50
    go_wp2_with (refine wpList_copy_nothing rfl (.tmp 7) (.tmp 8) 33 33 rfl 5 Try.underlying33 (by kernel_rfl) _ _ 0 0 0 c rfl rfl rfl ?_)
    go_wp2
    go_ret
    exact ⟨rfl, rfl⟩
  · obtain ⟨g, o, rfl, hg, hc⟩ := hr.2 h0
    have hgs : g < w.heap.size := by omega
    have hsrc : ∀ j v, (u8s l)[j]? = some v → (w.alloc (.cells cs 5)).cell? ((⟨g, o, none⟩ : Addr).add j) = some v := by
      intro j v hv
      rw [Addr.add_lit]
      exact (World.cell?_alloc_lt w _ ⟨g, o + j, none⟩ hgs).trans (hc j v hv)
    have hnew : (w.alloc (.cells cs 5)).heap[w.heap.size]? = some (.cells cs 5 (0, 0)) := Whole.new w _ cs
    have hrow : (w.alloc (.cells cs 5)).setRow w.heap.size (u8s l ++ cs.toList.drop (u8s l).length).toArray = w.alloc (.cells (u8s l).toArray 5) := by
      rw [World.setRow_alloc_new]
      have : cs.toList.drop (u8s l).length = [] := by
        rw [List.drop_eq_nil_iff, u8s_length]
        simp [hcs]
      rw [this]
      simp
    have hn : (u8s l).length = Nat.min l.length l.length := by rw [u8s_length]; simp
    have hfit : 0 + (u8s l).length ≤ cs.size := by rw [u8s_length, hcs]; omega
    have hone := u8s_one l
    have H := Lib.hid (And.intro hsrc (And.intro hnew (And.intro hrow (And.intro hn (And.intro hfit hone)))))
    clear hsrc hnew hrow hn hfit hone hc hg hgs hr hcs
    go_enter Try.func50, Try.ntmps50
    go_wp2_with (refine wpList_copy_own rfl (.tmp 7) (.tmp 8) 33 33 rfl 5 Try.underlying33 (by kernel_rfl) w.heap.size 0 l.length l.length ⟨g, o, none⟩ l.length c rfl rfl cs 5 H.out.2.1 (u8s l) H.out.2.2.2.1 H.out.1 H.out.2.2.2.2.1 H.out.2.2.2.2.2 ?_)
    rw [H.out.2.2.1]
    go_wp2
    go_ret
    exact ⟨rfl, rfl⟩

/-- Block g is a store (its ring's block r, its map's block m), of so much room, that keeps the packets l; their bytes lie in blocks of D. -/
def SAt (D : Nat → Prop) (w : World) (g m r room : Nat) (l : List Pk) : Prop :=
  ∃ nx f cs, (f + l.length) % room = nx ∧ f < room ∧ l.length ≤ room ∧ 1 ≤ room ∧ room ≤ 4096 ∧
    Whole w g 100 #[.slice (some ⟨r, 0, none⟩) room room, .int .i64 (nx : Nat), .int .i64 (l.length : Nat), .map (some m)] ∧
    Whole w r 134 cs ∧ cs.size = room * 2 ∧
    Spots Try.prog 28 w m (fun k => (lastAt l k).map fun i => (f + i) % room) (dis l) ∧
    (∀ i p, l[i]? = some p → (Lit.int .u16 p.seq).wf = true ∧ p.d.length ≤ 1048576 ∧ ∃ A c, cs[((f + i) % room) * 2]? = some (.int .u16 p.seq) ∧ cs[((f + i) % room) * 2 + 1]? = some (.slice A p.d.length c) ∧
      Row w w.heap.size 1 A p.d.length (u8s p.d) ∧ ∀ a, A = some a → a.block < w.heap.size ∧ D a.block) ∧
    ¬ D g ∧ ¬ D m ∧ ¬ D r

section
variable {D D' : Nat → Prop} {w w' : World} {g m r room : Nat} {l : List Pk}
theorem SAt.lt (h : SAt D w g m r room l) : g < w.heap.size ∧ m < w.heap.size ∧ r < w.heap.size := by
  obtain ⟨nx, f, cs, _, _, _, _, _, h1, h2, _, h3, _⟩ := h
  exact ⟨h1.lt, h3.lt, h2.lt⟩
theorem SAt.len (h : SAt D w g m r room l) : l.length ≤ room ∧ 1 ≤ room ∧ room ≤ 4096 := by
  obtain ⟨nx, f, cs, _, _, a, b, c, _⟩ := h
  exact ⟨a, b, c⟩
theorem SAt.keep (h : SAt D w g m r room l) (hs : w.heap.size ≤ w'.heap.size) (hk : ∀ k, k < w.heap.size → k = g ∨ k = m ∨ k = r ∨ D k → w'.heap[k]? = w.heap[k]?) : SAt D w' g m r room l := by
  have hlt := h.lt
  obtain ⟨nx, f, cs, e1, e2, e3, e4, e5, h1, h2, e6, h3, h4, h5⟩ := h
  refine ⟨nx, f, cs, e1, e2, e3, e4, e5, (hk g hlt.1 (by simp)).trans h1, (hk r hlt.2.2 (by simp)).trans h2, e6, h3.same (hk m hlt.2.1 (by simp)), fun i p hp => ?_, h5⟩
  obtain ⟨q1, q2, A, c, q3, q4, q5, q6⟩ := h4 i p hp
  refine ⟨q1, q2, A, c, q3, q4, ⟨q5.1, fun hn => ?_⟩, fun a ha => ⟨Nat.lt_of_lt_of_le (q6 a ha).1 hs, (q6 a ha).2⟩⟩
  obtain ⟨b, o, e, hb, hc⟩ := q5.2 hn
  have hd := (q6 _ e).2
  exact ⟨b, o, e, by omega, fun j u hu => (World.cell?_of_block (a := ⟨b, o + j, none⟩) (hk b hb (by simp [hd]))).trans (hc j u hu)⟩
theorem SAt.next (h : SAt D w g m r room l) (hb : Below w.heap.size w w') : SAt D w' g m r room l := h.keep hb.size fun k hk _ => hb.block k hk
theorem SAt.drewN (h : SAt D w g m r room l) (i : Nat) : SAt D (w.drewN i) g m r room l := h
theorem SAt.alloc (h : SAt D w g m r room l) (o : Obj) : SAt D (w.alloc o) g m r room l := h.next ((Below.refl _ _).alloc (Nat.le_refl _) o)
theorem SAt.set (h : SAt D w g m r room l) {p : Addr} (h1 : p.block ≠ g) (h2 : p.block ≠ m) (h3 : p.block ≠ r) (h4 : ¬ D p.block) (u : Value) : SAt D (w.setCell p u) g m r room l :=
  h.keep (by simp) fun k _ hk => Below.heap_setCell _ _ _ _ (by rintro rfl; rcases hk with e | e | e | e <;> contradiction)
theorem SAt.weak (h : SAt D w g m r room l) (hD : ∀ b, b < w.heap.size → D b → D' b) (hg : ¬ D' g) (hm : ¬ D' m) (hr : ¬ D' r) : SAt D' w g m r room l := by
  obtain ⟨nx, f, cs, e1, e2, e3, e4, e5, h1, h2, e6, h3, h4, h5⟩ := h
  refine ⟨nx, f, cs, e1, e2, e3, e4, e5, h1, h2, e6, h3, fun i p hp => ?_, hg, hm, hr⟩
  obtain ⟨q1, q2, A, c, q3, q4, q5, q6⟩ := h4 i p hp
  exact ⟨q1, q2, A, c, q3, q4, q5, fun a ha => ⟨(q6 a ha).1, hD _ (q6 a ha).1 (q6 a ha).2⟩⟩
end

theorem add_nil (k : Int) (A : Option Addr) (n c : Nat) (w : World) : Calls Try.prog 63 #[.pointer none, .int .u16 k, .slice A n c] w fun e w' => e = .returned (.tuple #[]) ∧ w = w' := by
  go_enter Try.func63, Try.ntmps63
  go_wp2
  exact bodyPost_ret (results_none rfl _ _ _) rfl ⟨rfl, rfl⟩
theorem get_nil (k : Int) (w : World) : Calls Try.prog 37 #[.pointer none, .int .u16 k] w fun e w' => e = .returned (.tuple #[.slice none 0 0, .bool false]) ∧ w = w' := by
  go_enter Try.func37, Try.ntmps37
  go_wp2
  go_ret2
  exact ⟨rfl, rfl⟩
theorem snew_bad (n : Int) (w : World) (h : n < 1 ∨ 4096 < n) : Calls Try.prog 22 #[.int .i64 n] w fun e w' => e = .returned (.pointer none) ∧ w = w' := by
  rcases h with h | h
  · go_enter Try.func22, Try.ntmps22
    go_wp2
    go_ret
    exact ⟨rfl, rfl⟩
  · have h' : ¬ n < 1 := by omega
    go_enter Try.func22, Try.ntmps22
    go_wp2
    go_ret
    exact ⟨rfl, rfl⟩
/-- A new store. -/
def SMade (room : Nat) (w : World) (e : Ending) (w' : World) : Prop :=
  ∃ g m r, e = .returned (.pointer (some ⟨g, 0, none⟩)) ∧ SAt (fun _ => False) w' g m r room [] ∧ w.heap.size ≤ g ∧ w.heap.size ≤ m ∧ w.heap.size ≤ r ∧ Below w.heap.size w w'
theorem snew_any (n : Nat) (w : World) (h1 : 1 ≤ n) (h2 : n ≤ 4096) : Calls Try.prog 22 #[.int .i64 n] w (SMade n w) := by
  have hmm := @run_makeMap Try.prog
  obtain ⟨cs, hs, hmk⟩ := make_ring n h2 w
  have HS := Lib.hid hs
  clear hs
  have h1' : ¬ (n : Int) < 1 := by omega
  have h2' : ¬ 4096 < (n : Int) := by omega
  go_enter Try.func22, Try.ntmps22
  go_wp2
  go_ret
  have hW := Whole.new2 (w.alloc (.cells cs 134)) (.map #[] 0) 100 #[.slice (some ⟨w.heap.size, 0, none⟩) n n, .int .i64 0, .int .i64 0, .map (some (w.heap.size + 1))]
  have hR := ((Whole.new w 134 cs).alloc (.map #[] 0)).alloc (.cells #[.slice (some ⟨w.heap.size, 0, none⟩) n n, .int .i64 0, .int .i64 0, .map (some (w.heap.size + 1))] 100)
  have hM := (Spots.new Try.prog 28 (w.alloc (.cells cs 134))).same (w' := ((w.alloc (.cells cs 134)).alloc (.map #[] 0)).alloc (.cells #[.slice (some ⟨w.heap.size, 0, none⟩) n n, .int .i64 0, .int .i64 0, .map (some (w.heap.size + 1))] 100)) (by rw [Below.heap_alloc _ _ _ (by simp)])
  rw [show (w.alloc (.cells cs 134)).heap.size = w.heap.size + 1 by simp] at hM
  have hM' := hM.as (G := fun k => (lastAt [] k).map fun i => (0 + i) % n) (fun _ => rfl)
  refine ⟨w.heap.size + 1 + 1, w.heap.size + 1, w.heap.size, rfl, ⟨0, 0, cs, by simp, by omega, by simp, h1, h2, by simpa using hW, hR, HS.out, hM', by simp, id, id, id⟩, by omega, by omega, by omega, (((Below.refl _ _).alloc (Nat.le_refl _) _).alloc (by simp) _).alloc (by simp; omega) _⟩
end Go.Proofs.Yticnaljfnjiofaa
/-
  Contracts of package store: Get, makeRoom, Add.
-/
namespace Go.Proofs.Yticnaljfnjiofaa
open Go.RowKit Go.Maps

theorem get_no (D : Nat → Prop) (g m r room : Nat) (l : List Pk) (k : Int) (hk : (Lit.int .u16 k).wf = true) (w : World) (h : SAt D w g m r room l) (hn : lastAt l k = none) :
    Calls Try.prog 37 #[.pointer (some ⟨g, 0, none⟩), .int .u16 k] w fun e w' => e = .returned (.tuple #[.slice none 0 0, .bool false]) ∧ w' = w := by
  obtain ⟨nx, f, cs, _, _, _, _, _, h1, _, _, h3, _⟩ := h
  have hc := h1.cell 3
  have hl := h3.look keyS Try.underlying98 (zeroI w) (skey_mk hk)
  rw [hn] at hl
  simp only [Option.map_none, Option.getD_none, Option.isSome_none] at hl
  rw [show ((0 : Nat) : Int) = 0 from rfl] at hl
  clear h1 h3 hk hn
  go_enter Try.func37, Try.ntmps37
  go_wp2
  go_ret2
  exact ⟨rfl, rfl⟩
theorem get_yes (D : Nat → Prop) (g m r room : Nat) (l : List Pk) (k : Int) (hk : (Lit.int .u16 k).wf = true) (i : Nat) (p : Pk) (w : World) (h : SAt D w g m r room l) (hn : lastAt l k = some i) (hp : l[i]? = some p) :
    Calls Try.prog 37 #[.pointer (some ⟨g, 0, none⟩), .int .u16 k] w fun e w' => e = .returned (.tuple #[.slice (some ⟨w.heap.size, 0, none⟩) p.d.length p.d.length, .bool true]) ∧ w' = w.alloc (.cells (u8s p.d).toArray 5) := by
  obtain ⟨nx, f, cs, _, hf, hlr, _, hr2, h1, h2, hcs, h3, h4, _⟩ := h
  obtain ⟨_, hpl, A, c, _, q4, q5, q6⟩ := h4 i p hp
  obtain ⟨q, hq⟩ : ∃ q, (f + i) % room = q := ⟨_, rfl⟩
  have hqr : q < room := by rw [← hq]; exact Nat.mod_lt _ (by omega)
  rw [hq] at q4
  have hl := h3.look keyS Try.underlying98 (zeroI w) (skey_mk hk)
  rw [hn] at hl
  simp only [Option.map_some, Option.getD_some, Option.isSome_some, hq] at hl
  have hc := h1.cell 3
  have hc0 := h1.cell 0
  have hcr := (h2.cell (q * 2 + 1)).trans q4
  have C := anew_any w.heap.size A c p.d w q5 (Nat.le_refl _) hpl
  have HC := Lib.hid C
  have hi1 : (0 : Int) ≤ (q : Int) := by omega
  have hi2 : (q : Int) < (room : Int) := by omega
  clear h1 h2 h3 h4 hk hn hq q4 q5 q6 C hp hcs hf hlr
  go_enter Try.func37, Try.ntmps37
  go_wp2_with fail
  refine HC.out.mono ?_
  rintro e w' ⟨rfl, rfl⟩
  go_wp2
  go_ret2
  exact ⟨rfl, rfl⟩

/-- What Get tells: the bytes in a new block, or nothing. -/
def GetTold (o : Option (List UInt8)) (w : World) (e : Ending) (w' : World) : Prop :=
  match o with
  | some d => e = .returned (.tuple #[.slice (some ⟨w.heap.size, 0, none⟩) d.length d.length, .bool true]) ∧ w' = w.alloc (.cells (u8s d).toArray 5)
  | none => e = .returned (.tuple #[.slice none 0 0, .bool false]) ∧ w' = w
theorem get_any (D : Nat → Prop) (g m r room : Nat) (l : List Pk) (k : Int) (hk : (Lit.int .u16 k).wf = true) (w : World) (h : SAt D w g m r room l) :
    Calls Try.prog 37 #[.pointer (some ⟨g, 0, none⟩), .int .u16 k] w (GetTold (getL l k) w) := by
  unfold getL
  cases hn : lastAt l k with
  | none => exact get_no D g m r room l k hk w h hn
  | some i =>
    obtain ⟨p, hp, _⟩ := lastAt_some hn
    have := get_yes D g m r room l k hk i p w h hn hp
    rw [Option.bind_some, hp]
    exact this

theorem smakeRoom_free (D : Nat → Prop) (g m r room : Nat) (l : List Pk) (w : World) (h : SAt D w g m r room l) (hl : l.length < room) :
    Calls Try.prog 84 #[.pointer (some ⟨g, 0, none⟩)] w fun e w' => e = .returned (.tuple #[]) ∧ ∃ i, w' = w.drewN i := by
  have hr := h.len
  obtain ⟨nx, f, cs, _, hf, hlr, _, hr2, h1, _⟩ := h
  have hc0 := h1.cell 0
  have hc2 := h1.cell 2
  have ht : decide (l.length < room) = true := by simpa using hl
  have hti : ((l.length : Nat) : Int) < (room : Int) := by omega
  clear h1 hf hlr hl
  go_enter Try.func84, Try.ntmps84
  go_wp2_with fail
  go_quiet (fail)
  go_wp2
  exact bodyPost_ret (results_none rfl _ _ _) rfl ⟨rfl, _, rfl⟩

/-- It lets the first one go. -/
def SGone (D : Nat → Prop) (g m r room : Nat) (t : List Pk) (w : World) (e : Ending) (w' : World) : Prop :=
  e = .returned (.tuple #[]) ∧ SAt D w' g m r room t ∧ w'.heap.size = w.heap.size ∧ But (fun k => k = g ∨ k = m ∨ k = r) w w'

theorem spots_tail (f room : Nat) (x : Pk) (t : List Pk) (k : Int) (h : x.seq ≠ k ∨ (lastAt t k).isSome = true) : (lastAt (x :: t) k).map (fun i => (f + i) % room) = (lastAt t k).map fun i => ((f + 1) % room + i) % room := by
  rw [lastAt_cons]
  cases ht : lastAt t k with
  | none =>
    rw [ht] at h
    simp at h
    simp [h]
  | some i =>
    simp only [Option.map_some]
    rw [Nat.mod_add_mod]
    congr 2
    omega

/-- What is there behind the first one's going. -/
theorem sat_tail {D : Nat → Prop} {w w' : World} {g m r room f : Nat} {x : Pk} {t : List Pk} {cs : Array Value} (hfr : f < room) (hl : t.length + 1 = room) (hr1 : 1 ≤ room) (hr2 : room ≤ 4096)
    (h1 : Whole w' g 100 #[.slice (some ⟨r, 0, none⟩) room room, .int .i64 (f : Nat), .int .i64 (t.length : Nat), .map (some m)]) (h2 : Whole w' r 134 cs) (hcs : cs.size = room * 2)
    (h3 : Spots Try.prog 28 w' m (fun k => (lastAt t k).map fun i => ((f + 1) % room + i) % room) (dis t))
    (h4 : ∀ i p, (x :: t)[i]? = some p → (Lit.int .u16 p.seq).wf = true ∧ p.d.length ≤ 1048576 ∧ ∃ A c, cs[((f + i) % room) * 2]? = some (.int .u16 p.seq) ∧ cs[((f + i) % room) * 2 + 1]? = some (.slice A p.d.length c) ∧
      Row w w.heap.size 1 A p.d.length (u8s p.d) ∧ ∀ a, A = some a → a.block < w.heap.size ∧ D a.block)
    (h5 : ¬ D g ∧ ¬ D m ∧ ¬ D r) (hb : But (fun k => k = g ∨ k = m ∨ k = r) w w') : SAt D w' g m r room t := by
  refine ⟨f, (f + 1) % room, cs, ?_, Nat.mod_lt _ (by omega), by omega, hr1, hr2, h1, h2, hcs, h3, fun i p hp => ?_, h5⟩
  · rw [Nat.mod_add_mod, show f + 1 + t.length = f + room by omega, Nat.add_mod_right, Nat.mod_eq_of_lt hfr]
  · obtain ⟨q1, q2, A, c, q3, q4, q5, q6⟩ := h4 (i + 1) p (by simpa using hp)
    have e : ((f + 1) % room + i) % room = (f + (i + 1)) % room := by rw [Nat.mod_add_mod]; congr 1; omega
    rw [e]
    refine ⟨q1, q2, A, c, q3, q4, ⟨q5.1, fun hn => ?_⟩, fun a ha => ⟨Nat.lt_of_lt_of_le (q6 a ha).1 hb.size, (q6 a ha).2⟩⟩
    obtain ⟨b, o, e, hbb, hc⟩ := q5.2 hn
    have hd := (q6 _ e).2
    have hs := hb.size
    exact ⟨b, o, e, by omega, fun j u hu => (World.cell?_of_block (a := ⟨b, o + j, none⟩) (hb.block b hbb (by
      dsimp only at hd
      rintro (rfl | rfl | rfl)
      · exact h5.1 hd
      · exact h5.2.1 hd
      · exact h5.2.2 hd))).trans (hc j u hu)⟩

theorem smakeRoom_goes (D : Nat → Prop) (g m r room : Nat) (x : Pk) (t : List Pk) (w : World) (h : SAt D w g m r room (x :: t)) (hl : t.length + 1 = room) :
    Calls Try.prog 84 #[.pointer (some ⟨g, 0, none⟩)] w (SGone D g m r room t w) := by
  obtain ⟨nx, f, cs, hnx, hfr, _, hr1, hr2, h1, h2, hcs, h3, h4, h5⟩ := h
  have hf : f = nx := by rw [← hnx, List.length_cons, hl, Nat.add_mod_right, Nat.mod_eq_of_lt hfr]
  subst hf
  obtain ⟨hwf, _, A, c, q3, _⟩ := h4 0 x rfl
  rw [Nat.add_zero, Nat.mod_eq_of_lt hfr] at q3
  have hcx := (h2.cell (f * 2)).trans q3
  have hc0 := h1.cell 0
  have hc1 := h1.cell 1
  have hc2 := h1.cell 2
  have hc3 := h1.cell 3
  have hmg : m ≠ g := h3.not_cells h1
  have hmr : m ≠ r := h3.not_cells h2
  have hgr : g ≠ r := by
    intro e
    subst e
    have a1 : w.heap[g]? = _ := h1
    have a2 : w.heap[g]? = _ := h2
    rw [a1] at a2
    injection a2 with a2
    injection a2 with _ a2
    exact absurd a2 (by decide)
  have ht : decide (room < room) = false := by simp
  have hti : ¬ (room : Int) < (room : Int) := by omega
  have hi1 : (0 : Int) ≤ (f : Int) := by omega
  have hi2 : (f : Int) < (room : Int) := by omega
  obtain ⟨p, hp⟩ : ∃ p, lastAt (x :: t) x.seq = some p := by
    have := lastAt_head x t
    cases hh : lastAt (x :: t) x.seq with
    | none => rw [hh] at this; cases this
    | some p => exact ⟨p, rfl⟩
  have hlook := fun i : Nat => Spots.look1 (w := w.drewN i) (i := (f + p) % room) (h3.same rfl) keyS Try.underlying98 (zeroI _) (skey_mk hwf) (by rw [hp]; rfl)
  have hfree : ∀ q, w.frozen? ⟨g, q, none⟩ = false := fun q => h1.free q
  have hg2 := hfree 2
  cases hj : lastAt t x.seq with
  | none =>
    have hp0 : p = 0 := by
      rw [lastAt_cons, hj] at hp
      simp at hp
      exact hp.symm
    subst hp0
    rw [Nat.add_zero, Nat.mod_eq_of_lt hfr] at hlook
    have hdel := fun i : Nat => Spots.del (w := w.drewN i) (h3.same rfl) keyS Try.underlying98 (skey_mk hwf) 0
    have HD := Lib.hid hdel
    have hfin : ∀ (i : Nat) (w2 : World), Spots Try.prog 28 w2 m (fun k' => if k' = x.seq then none else (lastAt (x :: t) k').map fun i => (f + i) % room) (dis (x :: t) - if ((lastAt (x :: t) x.seq).map fun i => (f + i) % room).isSome then 1 else 0) → (w.drewN i).mapTurned w2 m →
        SGone D g m r room t w (.returned (.tuple #[])) (w2.setCell ⟨g, 2, none⟩ (.int .i64 (t.length : Nat))) := by
      intro i w2 hs hturn
      have g1 := (Whole.turned (w := w.drewN i) h1 hturn (Ne.symm hmg)).set 2 (.int .i64 (t.length : Nat))
      have g2 := (Whole.turned (w := w.drewN i) h2 hturn (Ne.symm hmr)).far (p := ⟨g, 2, none⟩) (Ne.symm hgr) (.int .i64 (t.length : Nat))
      have hb : But (fun k => k = g ∨ k = m ∨ k = r) w (w2.setCell ⟨g, 2, none⟩ (.int .i64 (t.length : Nat))) := (((But.refl _ w).drewN i).turned (by simp) hturn).set (p := ⟨g, 2, none⟩) (by simp) _
      refine ⟨rfl, sat_tail hfr hl hr1 hr2 (by simpa using g1) g2 hcs ?_ h4 h5 hb, by simpa using turned_size (w := w.drewN i) hturn, hb⟩
      have e1 : (dis (x :: t) - if ((lastAt (x :: t) x.seq).map fun i => (f + i) % room).isSome then 1 else 0) = dis t := by
        rw [hp, dis_cons, hj]
        simp
      rw [e1] at hs
      refine (hs.same (Below.heap_setCell _ _ _ _ (by simpa using hmg))).as fun k => ?_
      by_cases e : k = x.seq
      · subst e
        simp [hj]
      · rw [if_neg e]
        exact spots_tail f room x t k (.inl fun e' => e e'.symm)
    have HF := Lib.hid hfin
    have hd : ∀ i w2, (w.drewN i).mapTurned w2 m → w2.cell? ⟨g, 2, none⟩ = some (.int .i64 ((t.length : Int) + 1)) ∧ w2.frozen? ⟨g, 2, none⟩ = false := by
      intro i w2 hturn
      have g1 := Whole.turned (w := w.drewN i) h1 hturn (Ne.symm hmg)
      exact ⟨(g1.cell 2).trans (by simp), g1.free 2⟩
    have HC := Lib.hid hd
    obtain ⟨seq, dd⟩ := x
    dsimp only at hcx hlook
    have hlen : ((List.length ((⟨seq, dd⟩ : Pk) :: t) : Nat) : Int) = (room : Int) := by rw [List.length_cons, hl]
    rw [hlen] at hc2
    have htl : t.length ≤ 4096 := by omega
    have hsub : (room : Int) - 1 = (t.length : Int) := by omega
    clear h1 h2 h3 h4 h5 hnx hcs hdel hfin hd hp hj hwf q3 hfree hlen hmg hmr hgr
    go_enter Try.func84, Try.ntmps84
    go_wp2_with fail
    go_quiet (fail)
    obtain ⟨n1, rfl⟩ : ∃ n1, n1 = nq := ⟨_, rfl⟩
    go_wp2_with fail
    go_quiet (fail)
    obtain ⟨n2, rfl⟩ : ∃ n2, n2 = nq := ⟨_, rfl⟩
    go_wp2_with fail
    go_quiet (fail)
    obtain ⟨n3, rfl⟩ : ∃ n3, n3 = nq := ⟨_, rfl⟩
    obtain ⟨w2, hrun, hh, hturn⟩ := HD.out (n1 + n2 + n3)
    obtain ⟨hd2, hd3⟩ := HC.out _ _ hturn
    have HH := Lib.hid (HF.out _ _ hh hturn)
    clear hh hturn
    go_wp2
    exact bodyPost_end (results_none rfl _ _ _) rfl HH.out
  | some j =>
    have hpj : p = j + 1 := by
      rw [lastAt_cons, hj] at hp
      simp at hp
      exact hp.symm
    have hjl := lastAt_lt hj
    obtain ⟨q, hq⟩ : ∃ q, (f + p) % room = q := ⟨_, rfl⟩
    have hqf : q ≠ f := by
      have := mod_ne (f := f) (room := room) (i := 0) (j := p) (by omega) (by omega) (by omega)
      rw [Nat.add_zero, Nat.mod_eq_of_lt hfr, hq] at this
      exact fun e => this e.symm
    have hqr : q < room := by rw [← hq]; exact Nat.mod_lt _ (by omega)
    have hb : ((q : Int) == (f : Int)) = false := by simp; omega
    rw [hq] at hlook
    have hfin : ∀ (i : Nat), SGone D g m r room t w (.returned (.tuple #[])) ((w.drewN i).setCell ⟨g, 2, none⟩ (.int .i64 (t.length : Nat))) := by
      intro i
      have g1 : Whole ((w.drewN i).setCell ⟨g, 2, none⟩ (.int .i64 (t.length : Nat))) g 100 #[.slice (some ⟨r, 0, none⟩) room room, .int .i64 (f : Nat), .int .i64 (t.length : Nat), .map (some m)] := Whole.set (w := w.drewN i) h1 2 (.int .i64 (t.length : Nat))
      have g2 := (Whole.far (w := w.drewN i) h2 (p := ⟨g, 2, none⟩) (Ne.symm hgr) (.int .i64 (t.length : Nat)))
      have hb : But (fun k => k = g ∨ k = m ∨ k = r) w ((w.drewN i).setCell ⟨g, 2, none⟩ (.int .i64 (t.length : Nat))) := ((But.refl _ w).drewN i).set (p := ⟨g, 2, none⟩) (by simp) _
      refine ⟨rfl, sat_tail hfr hl hr1 hr2 g1 g2 hcs ?_ h4 h5 hb, by simp, hb⟩
      have e1 : dis (x :: t) = dis t := by
        rw [dis_cons, hj]
        simp
      rw [e1] at h3
      refine (Spots.same (w := w) h3 (by rw [Below.heap_setCell _ _ _ _ (by simpa using hmg)]; rfl)).as fun k => ?_
      refine spots_tail f room x t k ?_
      by_cases e : x.seq = k
      · subst e
        exact .inr (by rw [hj]; rfl)
      · exact .inl e
    have HF := Lib.hid hfin
    obtain ⟨seq, dd⟩ := x
    dsimp only at hcx hlook
    have hlen : ((List.length ((⟨seq, dd⟩ : Pk) :: t) : Nat) : Int) = (room : Int) := by rw [List.length_cons, hl]
    rw [hlen] at hc2
    have htl : t.length ≤ 4096 := by omega
    have hsub : (room : Int) - 1 = (t.length : Int) := by omega
    clear h1 h2 h3 h4 h5 hnx hcs hfin hp hj hwf q3 hfree hlen hmg hmr hgr hpj hq hjl
    go_enter Try.func84, Try.ntmps84
    go_wp2_with fail
    go_quiet (fail)
    obtain ⟨n1, rfl⟩ : ∃ n1, n1 = nq := ⟨_, rfl⟩
    go_wp2_with fail
    go_quiet (fail)
    obtain ⟨n2, rfl⟩ : ∃ n2, n2 = nq := ⟨_, rfl⟩
    go_wp2_with fail
    go_quiet (fail)
    obtain ⟨n3, rfl⟩ : ∃ n3, n3 = nq := ⟨_, rfl⟩
    go_wp2
    exact bodyPost_end (results_none rfl _ _ _) rfl (HF.out _)

/-- Nothing but the store turns, and it keeps l. -/
def SKeeps (D : Nat → Prop) (g m r room : Nat) (l : List Pk) (w : World) (e : Ending) (w' : World) : Prop :=
  e = .returned (.tuple #[]) ∧ SAt D w' g m r room l ∧ But (fun k => k = g ∨ k = m ∨ k = r) w w'

/-- What is read of the bytes is none of the store's blocks. -/
def FarA (A : Option Addr) (n g m r : Nat) : Prop := 0 < n → ∀ a, A = some a → a.block ≠ g ∧ a.block ≠ m ∧ a.block ≠ r
theorem FarA.not {A : Option Addr} {n g m r : Nat} (h : FarA A n g m r) (hn : 0 < n) (a : Addr) (ha : A = some a) : ¬ (a.block = g ∨ a.block = m ∨ a.block = r) := by
  have := h hn a ha
  omega
theorem FarA.row {w : World} {B z n g m r : Nat} {A : Option Addr} {xs : List Value} (h : Row w B z A n xs) (hg : B ≤ g) (hm : B ≤ m) (hr : B ≤ r) : FarA A n g m r := by
  intro hn a ha
  obtain ⟨b, o, e, hb, _⟩ := h.2 hn
  rw [e] at ha
  injection ha with ha
  subst ha
  dsimp only
  omega
theorem Row.butA {w w' : World} {S : Nat → Prop} {B z n : Nat} {A : Option Addr} {xs : List Value} (h : Row w B z A n xs) (hB : B ≤ w.heap.size) (k : But S w w') (hA : 0 < n → ∀ a, A = some a → ¬ S a.block) : Row w' B z A n xs :=
  ⟨h.1, fun hn => by
    obtain ⟨b, o, e, hb, hc⟩ := h.2 hn
    exact ⟨b, o, e, hb, fun j u hu => (World.cell?_of_block (a := ⟨b, o + j, none⟩) (k.block b (by omega) (hA hn _ e))).trans (hc j u hu)⟩⟩

/-- Block r is as it was but for two cells, and nothing else that was is turned. -/
def RingIs (w1 : World) (r : Nat) (t : TypeId) (cs : Array Value) (n : Nat) (w : World) : Prop :=
  ∃ cs' : Array Value, cs'.size = cs.size ∧ (∀ j, j ≠ n → j ≠ n + 1 → cs'[j]? = cs[j]?) ∧ Whole w r t cs' ∧ But (fun k => k = r) w1 w
section
variable {w1 w w' : World} {r n g : Nat} {t : TypeId} {cs : Array Value}
theorem RingIs.start (h : Whole w r t cs) : RingIs w r t cs n w := ⟨cs, rfl, fun _ _ _ => rfl, h, But.refl _ _⟩
theorem RingIs.drew (h : RingIs w1 r t cs n w) : RingIs w1 r t cs n w.drew := by
  obtain ⟨cs', a, b, c, d⟩ := h
  exact ⟨cs', a, b, c, d.drew⟩
theorem RingIs.next (h : RingIs w1 r t cs n w) (hb : Below w.heap.size w w') : RingIs w1 r t cs n w' := by
  obtain ⟨cs', a, b, c, d⟩ := h
  exact ⟨cs', a, b, c.below hb c.lt, d.trans (but_of_below hb)⟩
theorem RingIs.set (h : RingIs w1 r t cs n w) (u0 u1 : Value) : RingIs w1 r t cs n ((w.setCell ⟨r, n, none⟩ u0).setCell ⟨r, n + 1, none⟩ u1) := by
  obtain ⟨cs', a, b, c, d⟩ := h
  refine ⟨(cs'.setIfInBounds n u0).setIfInBounds (n + 1) u1, by simpa using a, fun j h1 h2 => ?_, (c.set n u0).set (n + 1) u1, (d.set (p := ⟨r, n, none⟩) (by simp) u0).set (p := ⟨r, n + 1, none⟩) (by simp) u1⟩
  rw [Array.getElem?_setIfInBounds_ne (Ne.symm h2), Array.getElem?_setIfInBounds_ne (Ne.symm h1)]
  exact b j h1 h2
theorem RingIs.has (h : RingIs w1 r t cs n w) (i : Nat) (hi : i < cs.size) : ∃ y, w.cell? ⟨r, i, none⟩ = some y := by
  obtain ⟨cs', a, b, c, d⟩ := h
  rw [c.cell]
  exact ⟨cs'[i]'(by omega), Array.getElem?_eq_getElem _⟩
theorem RingIs.free (h : RingIs w1 r t cs n w) (i : Nat) : w.frozen? ⟨r, i, none⟩ = false := by
  obtain ⟨cs', a, b, c, d⟩ := h
  exact c.free i
theorem RingIs.keep {u v : Value} (h : RingIs w1 r t cs n w) (hg : g < w1.heap.size) (hgr : g ≠ r) (h0 : w1.cell? ⟨g, 0, none⟩ = some u) (h1 : w1.cell? ⟨g, 1, none⟩ = some v) : w.cell? ⟨g, 0, none⟩ = some u ∧ w.cell? ⟨g, 1, none⟩ = some v ∧ RingIs w1 r t cs n w := by
  obtain ⟨cs', a, b, c, d⟩ := h
  have hb := d.block g hg hgr
  exact ⟨(World.cell?_of_block (a := ⟨g, 0, none⟩) hb).trans h0, (World.cell?_of_block (a := ⟨g, 1, none⟩) hb).trans h1, cs', a, b, c, d⟩
end

/-- What is there behind one more. -/
theorem sat_push {D D' : Nat → Prop} {w w1 w3 w4 w' : World} {g m r room nx f p q9 : Nat} {t : List Pk} {k : Int} {d : List UInt8} {cs cs3 : Array Value}
    (hk : (Lit.int .u16 k).wf = true) (hd : d.length ≤ 1048576) (ht : t.length < room) (hr1 : 1 ≤ room) (hr2 : room ≤ 4096) (hfr : f < room) (hnx : (f + t.length) % room = nx) (hp : (nx + 1) % room = p)
    (hD : ∀ b, D b → D' b) (hD2 : ∀ b, w.heap.size ≤ b → D' b) (h5 : ¬ D' g ∧ ¬ D' m ∧ ¬ D' r)
    (hz1 : w1.heap.size = w.heap.size) (hgl : g < w1.heap.size) (hml : m < w1.heap.size) (hgr : g ≠ r) (hmg : m ≠ g) (hmr : m ≠ r) (hq9 : w1.heap.size ≤ q9)
    (b1 : But (fun k => k = g ∨ k = m ∨ k = r) w w1) (b3 : But (fun k => k = r) w1 w3) (hturn : w3.drew.mapTurned w4 m)
    (WG : Whole w3 g 100 #[.slice (some ⟨r, 0, none⟩) room room, .int .i64 (nx : Nat), .int .i64 (t.length : Nat), .map (some m)])
    (WR : Whole w3 r 134 cs3) (hcs : cs.size = room * 2) (hcs3 : cs3.size = cs.size) (hx0 : cs3[nx * 2]? = some (.int .u16 k)) (hx1 : cs3[nx * 2 + 1]? = some (.slice (some ⟨q9, 0, none⟩) d.length d.length))
    (hej : ∀ j, j ≠ nx * 2 → j ≠ nx * 2 + 1 → cs3[j]? = cs[j]?) (W3 : Whole w3 q9 5 (u8s d).toArray)
    (S4 : Spots Try.prog 28 w4 m (fun k' => if k' = k then some nx else (lastAt t k').map fun i => (f + i) % room) (if ((lastAt t k).map fun i => (f + i) % room).isSome then dis t else dis t + 1))
    (h4 : ∀ i p, t[i]? = some p → (Lit.int .u16 p.seq).wf = true ∧ p.d.length ≤ 1048576 ∧ ∃ A c, cs[((f + i) % room) * 2]? = some (.int .u16 p.seq) ∧ cs[((f + i) % room) * 2 + 1]? = some (.slice A p.d.length c) ∧
      Row w1 w1.heap.size 1 A p.d.length (u8s p.d) ∧ ∀ a, A = some a → a.block < w1.heap.size ∧ D a.block)
    (q1 : w'.os = w4.os) (q2 : w'.tape = w4.tape) (q3 : w'.output = w4.output) (q4 : w'.heap = ((w4.setCell ⟨g, 1, none⟩ (.int .i64 (p : Nat))).setCell ⟨g, 2, none⟩ (.int .i64 ((t.length : Int) + 1))).heap) :
    SAt D' w' g m r room (t ++ [⟨k, d⟩]) ∧ But (fun k => k = g ∨ k = m ∨ k = r) w w' := by
  have hgm : g ≠ m := Ne.symm hmg
  have hrm : r ≠ m := Ne.symm hmr
  have hrg : r ≠ g := Ne.symm hgr
  have bb : But (fun k => k = g ∨ k = m ∨ k = r) w1 w' := by
    have b4 := (((b3.drew.mono (S' := fun k => k = g ∨ k = m ∨ k = r) (fun k _ h => .inr (.inr h))).turned (m := m) (by simp) hturn).set (p := ⟨g, 1, none⟩) (by simp) (.int .i64 (p : Nat))).set (p := ⟨g, 2, none⟩) (by simp) (.int .i64 ((t.length : Int) + 1))
    exact b4.trans ⟨q1, q2, q3, by rw [q4]; exact Nat.le_refl _, fun _ _ _ => by rw [q4]⟩
  have hq9l : q9 < w3.heap.size := W3.lt
  have hsz := bb.size
  refine ⟨⟨p, f, cs3, ?_, hfr, ?_, hr1, hr2, ?_, ?_, by omega, ?_, fun i x hx => ?_, h5⟩, b1.trans bb⟩
  · rw [← hp, ← hnx, Nat.mod_add_mod, List.length_append]
    simp [Nat.add_assoc]
  · simp; omega
  · unfold Whole
    rw [q4]
    have := ((Whole.turned (w := w3.drew) WG hturn hgm).set 1 (.int .i64 (p : Nat))).set 2 (.int .i64 ((t.length : Int) + 1))
    rw [show (((t ++ [(⟨k, d⟩ : Pk)]).length : Nat) : Int) = (t.length : Int) + 1 by simp]
    exact this
  · unfold Whole
    rw [q4]
    exact ((Whole.turned (w := w3.drew) WR hturn hrm).far (p := ⟨g, 1, none⟩) hrg (.int .i64 (p : Nat))).far (p := ⟨g, 2, none⟩) hrg (.int .i64 ((t.length : Int) + 1))
  · have e1 : (if ((lastAt t k).map fun i => (f + i) % room).isSome then dis t else dis t + 1) = dis (t ++ [⟨k, d⟩]) := by
      rw [dis_snoc]
      cases lastAt t k <;> simp
    rw [e1] at S4
    refine (S4.same (by rw [q4]; exact (Below.heap_setCell _ _ _ _ (by simpa using hmg)).trans (Below.heap_setCell _ _ _ _ (by simpa using hmg)))).as fun k' => ?_
    rw [lastAt_snoc]
    dsimp only
    by_cases e : k' = k
    · rw [if_pos e, if_pos e.symm, Option.map_some, hnx]
    · rw [if_neg e, if_neg (fun h => e h.symm)]
  · rcases Nat.lt_or_ge i t.length with hi | hi
    · rw [List.getElem?_append_left hi] at hx
      obtain ⟨a1, a2, A, c, a3, a4, a5, a6⟩ := h4 i x hx
      have hne : (f + i) % room ≠ nx := by rw [← hnx]; exact mod_ne (by omega) (by omega) (by omega)
      refine ⟨a1, a2, A, c, by rw [hej _ (by omega) (by omega)]; exact a3, by rw [hej _ (by omega) (by omega)]; exact a4, ⟨a5.1, fun hn => ?_⟩, fun a ha => ⟨Nat.lt_of_lt_of_le (a6 a ha).1 hsz, hD _ (a6 a ha).2⟩⟩
      obtain ⟨b, o, e, hbb, hc⟩ := a5.2 hn
      have hdd := hD _ (a6 _ e).2
      exact ⟨b, o, e, by omega, fun j u hu => (World.cell?_of_block (a := ⟨b, o + j, none⟩) (bb.block b hbb (by
        dsimp only at hdd
        rintro (rfl | rfl | rfl)
        · exact h5.1 hdd
        · exact h5.2.1 hdd
        · exact h5.2.2 hdd))).trans (hc j u hu)⟩
    · have hil : i = t.length := by
        have := (List.getElem?_eq_some_iff.1 hx).1
        simp at this
        omega
      subst hil
      simp at hx
      subst hx
      have Wq : Whole w' q9 5 (u8s d).toArray := by
        unfold Whole
        rw [q4]
        exact ((Whole.turned (w := w3.drew) W3 hturn (by omega)).far (p := ⟨g, 1, none⟩) (by simp; omega) (.int .i64 (p : Nat))).far (p := ⟨g, 2, none⟩) (by simp; omega) (.int .i64 ((t.length : Int) + 1))
      rw [hnx]
      refine ⟨hk, hd, some ⟨q9, 0, none⟩, d.length, hx0, hx1, ⟨by rw [u8s_length]; simp, fun _ => ⟨q9, 0, rfl, Wq.lt, fun j u hu => ?_⟩⟩, fun a ha => ?_⟩
      · rw [Nat.zero_add, Wq.cell]
        simpa using hu
      · injection ha with ha
        subst ha
        exact ⟨Wq.lt, hD2 _ (by dsimp only; omega)⟩

theorem add_on (D D' : Nat → Prop) (g m r room : Nat) (l t : List Pk) (k : Int) (hk : (Lit.int .u16 k).wf = true) (B : Nat) (A : Option Addr) (c : Nat) (d : List UInt8) (hd : d.length ≤ 1048576) (w : World) (hr : Row w B 1 A d.length (u8s d)) (hB : B ≤ w.heap.size) (hBf : FarA A d.length g m r)
    (h : SAt D w g m r room l) (ht : t.length < room) (hD : ∀ b, D b → D' b) (hD2 : ∀ b, w.heap.size ≤ b → D' b) (hg : ¬ D' g) (hm : ¬ D' m) (hr' : ¬ D' r)
    (hM : Calls Try.prog 84 #[.pointer (some ⟨g, 0, none⟩)] w (SGone D g m r room t w)) :
    Calls Try.prog 63 #[.pointer (some ⟨g, 0, none⟩), .int .u16 k, .slice A d.length c] w (SKeeps D' g m r room (t ++ [⟨k, d⟩]) w) := by
  have hlen := h.len
  obtain ⟨_, _, _, _, _, _, _, _, h1, _⟩ := h
  have hc0 := h1.cell 0
  have hM' := Lib.hid hM
  have hne : ((room : Int) == 0) = false := by simp; omega
  clear h1 hM
  go_enter Try.func63, Try.ntmps63
  go_wp2_with fail
  refine hM'.out.mono ?_
  rintro e w1 ⟨rfl, hD1, hz1, b1⟩
  clear hM' hc0
  obtain ⟨nx, f, cs, hnx, hfr, htr, hr1, hr2, h1, h2, hcs, h3, h4, h5⟩ := hD1
  have hr1' := hr.butA hB b1 (fun hn a ha => hBf.not hn a ha)
  have hnr : nx < room := by rw [← hnx]; exact Nat.mod_lt _ (by omega)
  have C : ∀ w', RingIs w1 r 134 cs (nx * 2) w' → Calls Try.prog 50 #[.slice A d.length c] w' fun e w'' => ∃ q9, e = .returned (.slice (some ⟨q9, 0, none⟩) d.length d.length) ∧ w1.heap.size ≤ q9 ∧ Whole w'' q9 5 (u8s d).toArray ∧ RingIs w1 r 134 cs (nx * 2) w'' := by
    intro w' hb
    have hsz : w1.heap.size ≤ w'.heap.size := by
      obtain ⟨_, _, _, _, hh⟩ := hb
      exact hh.size
    have hrw : Row w' B 1 A d.length (u8s d) := by
      obtain ⟨_, _, _, _, hh⟩ := hb
      exact hr1'.butA (by rw [hz1]; exact hB) hh (fun hn a ha => (hBf hn a ha).2.2)
    refine (anew_any B A c d w' hrw (by omega) hd).mono ?_
    rintro e w'' ⟨rfl, rfl⟩
    exact ⟨_, rfl, hsz, Whole.new _ _ _, hb.next ((Below.refl _ _).alloc (Nat.le_refl _) _)⟩
  have hi1 : (0 : Int) ≤ (nx : Int) := by omega
  have hi2 : (nx : Int) < (room : Int) := by omega
  have hgl := h1.lt
  have hrl := h2.lt
  have hgr : g ≠ r := by
    intro e
    subst e
    have a1 : w1.heap[g]? = _ := h1
    have a2 : w1.heap[g]? = _ := h2
    rw [a1] at a2
    injection a2 with a2
    injection a2 with _ a2
    exact absurd a2 (by decide)
  have hc0 := h1.cell 0
  have hc1 := h1.cell 1
  have R1 : RingIs w1 r 134 cs (nx * 2) w1 := RingIs.start h2
  have H1 := Lib.hid h1
  have HC := Lib.hid C
  have HCS := Lib.hid hcs
  have hs0 : nx * 2 < cs.size := by omega
  have hs1 : nx * 2 + 1 < cs.size := by omega
  have HS0 := Lib.hid hs0
  have HS1 := Lib.hid hs1
  have HR := Lib.hid hnr
  have H3 := Lib.hid h3
  have H4 := Lib.hid h4
  have hmg : m ≠ g := h3.not_cells h1
  have hmr : m ≠ r := h3.not_cells h2
  have hml := h3.lt
  clear C h1 h2 hr1' hr h3 h4 hcs hs0 hs1 hnr
  go_wp2_with fail
  go_region_held3 (fun w' => w'.cell? ⟨g, 0, none⟩ = some (.slice (some ⟨r, 0, none⟩) room room) ∧ w'.cell? ⟨g, 1, none⟩ = some (.int .i64 nx) ∧ RingIs w1 r 134 cs (nx * 2) w')
    (first | exact ⟨hc0, hc1, R1.drew⟩ | exact R9.keep hgl hgr hc0 hc1 | exact (R9.set _ _).keep hgl hgr hc0 hc1 | exact ‹_ ∧ _ ∧ RingIs _ _ _ _ _ _› | go_keep)
    ((go_at_call 50; refine (HC.out _ ?_).mono ?_; (exact (‹_ ∧ _ ∧ RingIs _ _ _ _ _ _›).2.2); rintro e w9 ⟨q9, rfl, hq9, W9, R9⟩; obtain ⟨z0, y0⟩ := R9.has (nx * 2) HS0.out; obtain ⟨z1, y1⟩ := R9.has (nx * 2 + 1) HS1.out; have y2 := R9.free (nx * 2); have y3 := R9.free (nx * 2 + 1)))
  have R3 := R9.set (.int .u16 k) (.slice (some ⟨q9, 0, none⟩) d.length d.length)
  have W3 := (W9.far (p := ⟨r, nx * 2, none⟩) (by simp; omega) (.int .u16 k)).far (p := ⟨r, nx * 2 + 1, none⟩) (by simp; omega) (.slice (some ⟨q9, 0, none⟩) d.length d.length)
  have hx0 : ((w9.setCell ⟨r, nx * 2, none⟩ (.int .u16 k)).setCell ⟨r, nx * 2 + 1, none⟩ (.slice (some ⟨q9, 0, none⟩) d.length d.length)).cell? ⟨r, nx * 2, none⟩ = some (.int .u16 k) := by
    obtain ⟨cs', a, b, c, dd⟩ := R9
    rw [((c.set (nx * 2) _).set (nx * 2 + 1) _).cell]
    have := HS0.out
    rw [Array.getElem?_setIfInBounds_ne (by omega), Array.getElem?_setIfInBounds_self_of_lt (by omega)]
  have hx1 : ((w9.setCell ⟨r, nx * 2, none⟩ (.int .u16 k)).setCell ⟨r, nx * 2 + 1, none⟩ (.slice (some ⟨q9, 0, none⟩) d.length d.length)).cell? ⟨r, nx * 2 + 1, none⟩ = some (.slice (some ⟨q9, 0, none⟩) d.length d.length) := by
    obtain ⟨cs', a, b, c, dd⟩ := R9
    rw [((c.set (nx * 2) _).set (nx * 2 + 1) _).cell]
    have := HS1.out
    rw [Array.getElem?_setIfInBounds_self_of_lt (by simp; omega)]
  rename_i hHeld
  clear R9 W9 y0 y1 y2 y3 hHeld
  generalize (w9.setCell ⟨r, nx * 2, none⟩ (.int .u16 k)).setCell ⟨r, nx * 2 + 1, none⟩ (.slice (some ⟨q9, 0, none⟩) d.length d.length) = w3 at R3 W3 hx0 hx1 ⊢
  obtain ⟨cs3, ec3, ej3, WR, b3⟩ := R3
  rw [WR.cell] at hx0 hx1
  have WG := H1.out.but b3 hgr
  have S3 := H3.out.same (b3.block m hml hmr)
  obtain ⟨w4, hrun, S4, hturn⟩ := Spots.put (w := w3.drew) S3 keyS Try.underlying98 (by have := dis_le t; unfold maxLen; omega) (skey_mk hk) nx
  have hd0 := WG.cell 0
  have hd1 := WG.cell 1
  have hd3 := WG.cell 3
  obtain ⟨p, hp⟩ : ∃ p, (nx + 1) % room = p := ⟨_, rfl⟩
  have hfin : ∀ w', w'.os = w4.os → w'.tape = w4.tape → w'.output = w4.output → w'.heap = ((w4.setCell ⟨g, 1, none⟩ (.int .i64 (p : Nat))).setCell ⟨g, 2, none⟩ (.int .i64 ((t.length : Int) + 1))).heap → SKeeps D' g m r room (t ++ [⟨k, d⟩]) w (.returned (.tuple #[])) w' := by
    intro w' e1 e2 e3 e4
    obtain ⟨s1, s2⟩ := sat_push hk hd ht hr1 hr2 hfr hnx hp hD hD2 ⟨hg, hm, hr'⟩ hz1 hgl hml hgr hmg hmr hq9 b1 b3 hturn WG WR HCS.out ec3 hx0 hx1 ej3 W3 S4 H4.out e1 e2 e3 e4
    exact ⟨rfl, s1, s2⟩
  have HF := Lib.hid hfin
  have v4 := Whole.turned (w := w3.drew) WG hturn (Ne.symm hmg)
  have hpi : ((nx : Int) + 1) % (room : Int) = p := by rw [← hp]; simp
  have HPI := Lib.hid hpi
  have hrne : ¬ (room : Int) = 0 := by omega
  have hs : IntKind.i64.wrap ((nx : Int) + 1) = nx + 1 := IntWalk.i64_in _ (by omega)
  clear hx0 hx1 ec3 ej3 hc0 hc1 R1 hfin H1 HC HCS HS0 HS1 H3 H4 W3 WR WG b3 S3 S4 hturn hD hD2 hg hm hr' hz1 b1 h5 hk hmg hmr hml hrl hgl hgr hp hpi hnx
  have f0 := v4.cell 0
  have f1 := v4.cell 1
  have f2 := v4.cell 2
  have f4 := v4.free 1
  have f5 := v4.free 2
  clear v4
  go_wp2_with fail
  go_region
  go_wp2_with fail
  go_region
  go_wp2
  exact bodyPost_end (results_none rfl _ _ _) rfl (HF.out _ rfl rfl rfl (by rw [← HPI.out]; rfl))

/-- Add, of any packets. -/
theorem add_any (D D' : Nat → Prop) (g m r room : Nat) (l : List Pk) (k : Int) (hk : (Lit.int .u16 k).wf = true) (B : Nat) (A : Option Addr) (c : Nat) (d : List UInt8) (hd : d.length ≤ 1048576) (w : World) (hr : Row w B 1 A d.length (u8s d)) (hB : B ≤ w.heap.size) (hBf : FarA A d.length g m r)
    (h : SAt D w g m r room l) (hD : ∀ b, D b → D' b) (hD2 : ∀ b, w.heap.size ≤ b → D' b) (hg : ¬ D' g) (hm : ¬ D' m) (hr' : ¬ D' r) :
    Calls Try.prog 63 #[.pointer (some ⟨g, 0, none⟩), .int .u16 k, .slice A d.length c] w (SKeeps D' g m r room (addL room l ⟨k, d⟩) w) := by
  have hlen := h.len
  unfold addL
  by_cases hl : l.length < room
  · rw [if_pos hl]
    refine add_on D D' g m r room l l k hk B A c d hd w hr hB hBf h hl hD hD2 hg hm hr' ((smakeRoom_free D g m r room l w h hl).mono fun e w' ⟨he, i, hw⟩ => ?_)
    subst hw
    exact ⟨he, h, rfl, (But.refl _ _).drewN i⟩
  · rw [if_neg hl]
    cases l with
    | nil => simp at hl; omega
    | cons x t =>
      rw [List.length_cons] at hl hlen
      exact add_on D D' g m r room (x :: t) t k hk B A c d hd w hr hB hBf h (by omega) hD hD2 hg hm hr' (smakeRoom_goes D g m r room x t w h (by omega))

/-- Any block but the store's own. -/
def Off (g m r b : Nat) : Prop := b ≠ g ∧ b ≠ m ∧ b ≠ r
theorem add_off (g m r room : Nat) (l : List Pk) (k : Int) (hk : (Lit.int .u16 k).wf = true) (B : Nat) (A : Option Addr) (c : Nat) (d : List UInt8) (hd : d.length ≤ 1048576) (w : World) (hr : Row w B 1 A d.length (u8s d)) (hB : B ≤ w.heap.size) (hBf : FarA A d.length g m r)
    (h : SAt (Off g m r) w g m r room l) : Calls Try.prog 63 #[.pointer (some ⟨g, 0, none⟩), .int .u16 k, .slice A d.length c] w (SKeeps (Off g m r) g m r room (addL room l ⟨k, d⟩) w) := by
  have hlt := h.lt
  exact add_any (Off g m r) (Off g m r) g m r room l k hk B A c d hd w hr hB hBf h (fun _ h => h) (fun b hb => ⟨by omega, by omega, by omega⟩) (fun h => h.1 rfl) (fun h => h.2.1 rfl) (fun h => h.2.2 rfl)
end Go.Proofs.Yticnaljfnjiofaa
