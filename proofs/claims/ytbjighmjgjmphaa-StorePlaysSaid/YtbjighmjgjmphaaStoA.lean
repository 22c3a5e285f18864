/-
  Contracts of package store: new memory, what only looks, New.
-/
import Derived.Test.YtbjighmjgjmphaaProg
import Derived.Test.YtbjighmjgjmphaaStoL
import Derived.Deep.DeepCutAuto
import Derived.Deep.QuietTactic
import Derived.BigQuiet
import Derived.StillTailTactics
import Derived.IntWalk
import Derived.Deep.RegionHeld3
import Derived.Deep.WholeRow
import Derived.Laws.CopyOwn
import Derived.Laws.OwnMore
import Derived.RegionTactic
import Derived.ChangeAlike
namespace Go.Proofs.Ytbjighmjgjmphaa
open Go.RowKit Go.Maps

theorem keyS : Keyed Try.prog 29 := int_keyed Try.underlying29
theorem zeroI (w : World) : (zeroValue 3).run Try.prog w = .ok (.int .i64 0) w := by kernel_rfl
theorem skey_mk {k : Int} (h : (Lit.int .u16 k).wf = true) : keyOf Try.prog 29 (.int .u16 k) = some (.int .u16 k) := keyOf_int_mk Try.underlying29 h
theorem info_b : (Try.prog.info? 5).map (fun i => (i.zero, i.size, i.bytes)) = some (some (.int .u8 0), 1, 1) := by kernel_rfl
theorem info_p : (Try.prog.info? 51).map (fun i => (i.zero, i.size, i.bytes)) = some (some (.agg #[.int .u16 0, .slice none 0 0]), 2, 32) := by kernel_rfl

theorem make_bytes (n : Nat) (h2 : n ≤ 1048576) (w : World) : ∃ cs : Array Value, cs.size = n ∧
    (Instr.makeSlice 30 (.int .i64 n) (.int .i64 n)).run Try.prog w = .ok (.slice (some ⟨w.heap.size, 0, none⟩) n n) (w.alloc (.cells cs 5)) := by
  obtain ⟨i, hi0, hi1, hi2, hi3⟩ := info_parts info_b
  have h := run_make (P := Try.prog) w 30 5 i (.int .u8 0) Try.underlying30 hi0 hi1 .i64 .i64 n n (by omega) (Int.le_refl _) (by rw [hi3]; omega) (by omega)
  rw [Int.toNat_natCast, hi2, Nat.mul_one] at h
  exact ⟨_, by rw [size_madeCells], h⟩
theorem make_ring (n : Nat) (h2 : n ≤ 4096) (w : World) : ∃ cs : Array Value, cs.size = n * 2 ∧
    (Instr.makeSlice 45 (.int .i64 n) (.int .i64 n)).run Try.prog w = .ok (.slice (some ⟨w.heap.size, 0, none⟩) n n) (w.alloc (.cells cs 51)) := by
  obtain ⟨i, hi0, hi1, hi2, hi3⟩ := info_parts info_p
  have h := run_make (P := Try.prog) w 45 51 i (.agg #[.int .u16 0, .slice none 0 0]) Try.underlying45 hi0 hi1 .i64 .i64 n n (by omega) (Int.le_refl _) (by rw [hi3]; omega) (by omega)
  rw [Int.toNat_natCast, hi2] at h
  exact ⟨_, by rw [size_madeCells], h⟩

/-- It answers the same bytes in new memory, and nothing else turns. -/
def Anew (l : List UInt8) (w : World) (e : Ending) (w' : World) : Prop :=
  e = .returned (.slice (some ⟨w.heap.size, 0, none⟩) l.length l.length) ∧ w' = w.alloc (.cells (u8s l).toArray 5)
theorem anew_any (B : Nat) (A : Option Addr) (c : Nat) (l : List UInt8) (w : World) (hr : Row w B 1 A l.length (u8s l)) (hB : B ≤ w.heap.size) (hl : l.length ≤ 1048576) :
    Calls Try.prog 17 #[.slice A l.length c] w (Anew l w) := by
  obtain ⟨cs, hcs, hmk⟩ := make_bytes l.length hl w
  rcases Nat.eq_zero_or_pos l.length with h0 | h0
  · obtain rfl : l = [] := List.eq_nil_of_length_eq_zero h0
    obtain rfl : cs = #[] := Array.eq_empty_of_size_eq_zero hcs
    simp only [List.length_nil] at hmk ⊢
    rw [show ((0 : Nat) : Int) = 0 from rfl] at hmk
    clear hr hcs h0
    go_enter Try.func17, Try.ntmps17
    go_wp2_with (refine wpList_copy_nothing rfl (.tmp 7) (.tmp 8) 30 30 rfl 5 Try.underlying30 (by kernel_rfl) _ _ 0 0 0 c rfl rfl rfl ?_)
    go_wp2
    go_ret
    exact ⟨rfl, rfl⟩
  · obtain ⟨g, o, rfl, hg, hc⟩ := hr.2 h0
    have hgs : g < w.heap.size := by omega
    have hsrc : ∀ j v, (u8s l)[j]? = some v → (w.alloc (.cells cs 5)).cell? ((⟨g, o, none⟩ : Addr).add j) = some v := by
      intro j v hv
      rw [Addr.add_lit]
      exact (World.cell?_alloc_lt w _ ⟨g, o + j, none⟩ hgs).trans (hc j v hv)
    have hnew : (w.alloc (.cells cs 5)).heap[w.heap.size]? = some (.cells cs 5 (0, 0)) := Whole.new w _ cs
    have hrow : (w.alloc (.cells cs 5)).setRow w.heap.size (u8s l ++ cs.toList.drop (u8s l).length).toArray = w.alloc (.cells (u8s l).toArray 5) := by
      rw [World.setRow_alloc_new]
      have : cs.toList.drop (u8s l).length = [] := by
        rw [List.drop_eq_nil_iff, u8s_length]
        simp [hcs]
      rw [this]
      simp
    have hn : (u8s l).length = Nat.min l.length l.length := by rw [u8s_length]; simp
    have hfit : 0 + (u8s l).length ≤ cs.size := by rw [u8s_length, hcs]; omega
    have hone := u8s_one l
    have H := Lib.hid (And.intro hsrc (And.intro hnew (And.intro hrow (And.intro hn (And.intro hfit hone)))))
    clear hsrc hnew hrow hn hfit hone hc hg hgs hr hcs
    go_enter Try.func17, Try.ntmps17
    go_wp2_with (refine wpList_copy_own rfl (.tmp 7) (.tmp 8) 30 30 rfl 5 Try.underlying30 (by kernel_rfl) w.heap.size 0 l.length l.length ⟨g, o, none⟩ l.length c rfl rfl cs 5 H.out.2.1 (u8s l) H.out.2.2.2.1 H.out.1 H.out.2.2.2.2.1 H.out.2.2.2.2.2 ?_)
    rw [H.out.2.2.1]
    go_wp2
    go_ret
    exact ⟨rfl, rfl⟩

/-- Block g is a store (its ring's block r, its map's block m), of so much room, that keeps the packets l; their bytes lie in blocks of D. -/
def SAt (D : Nat → Prop) (w : World) (g m r room : Nat) (l : List Pk) : Prop :=
  ∃ nx f cs, (f + l.length) % room = nx ∧ f < room ∧ l.length ≤ room ∧ 1 ≤ room ∧ room ≤ 4096 ∧
    Whole w g 48 #[.slice (some ⟨r, 0, none⟩) room room, .int .i64 (nx : Nat), .int .i64 (l.length : Nat), .map (some m)] ∧
    Whole w r 51 cs ∧ cs.size = room * 2 ∧
    Spots Try.prog 29 w m (fun k => (lastAt l k).map fun i => (f + i) % room) (dis l) ∧
    (∀ i p, l[i]? = some p → (Lit.int .u16 p.seq).wf = true ∧ p.d.length ≤ 1048576 ∧ ∃ A c, cs[((f + i) % room) * 2]? = some (.int .u16 p.seq) ∧ cs[((f + i) % room) * 2 + 1]? = some (.slice A p.d.length c) ∧
      Row w w.heap.size 1 A p.d.length (u8s p.d) ∧ ∀ a, A = some a → a.block < w.heap.size ∧ D a.block) ∧
    ¬ D g ∧ ¬ D m ∧ ¬ D r

section
variable {D D' : Nat → Prop} {w w' : World} {g m r room : Nat} {l : List Pk}
theorem SAt.lt (h : SAt D w g m r room l) : g < w.heap.size ∧ m < w.heap.size ∧ r < w.heap.size := by
  obtain ⟨nx, f, cs, _, _, _, _, _, h1, h2, _, h3, _⟩ := h
  exact ⟨h1.lt, h3.lt, h2.lt⟩
theorem SAt.len (h : SAt D w g m r room l) : l.length ≤ room ∧ 1 ≤ room ∧ room ≤ 4096 := by
  obtain ⟨nx, f, cs, _, _, a, b, c, _⟩ := h
  exact ⟨a, b, c⟩
theorem SAt.keep (h : SAt D w g m r room l) (hs : w.heap.size ≤ w'.heap.size) (hk : ∀ k, k < w.heap.size → k = g ∨ k = m ∨ k = r ∨ D k → w'.heap[k]? = w.heap[k]?) : SAt D w' g m r room l := by
  have hlt := h.lt
  obtain ⟨nx, f, cs, e1, e2, e3, e4, e5, h1, h2, e6, h3, h4, h5⟩ := h
  refine ⟨nx, f, cs, e1, e2, e3, e4, e5, (hk g hlt.1 (by simp)).trans h1, (hk r hlt.2.2 (by simp)).trans h2, e6, h3.same (hk m hlt.2.1 (by simp)), fun i p hp => ?_, h5⟩
  obtain ⟨q1, q2, A, c, q3, q4, q5, q6⟩ := h4 i p hp
  refine ⟨q1, q2, A, c, q3, q4, ⟨q5.1, fun hn => ?_⟩, fun a ha => ⟨Nat.lt_of_lt_of_le (q6 a ha).1 hs, (q6 a ha).2⟩⟩
  obtain ⟨b, o, e, hb, hc⟩ := q5.2 hn
  have hd := (q6 _ e).2
  exact ⟨b, o, e, by omega, fun j u hu => (World.cell?_of_block (a := ⟨b, o + j, none⟩) (hk b hb (by simp [hd]))).trans (hc j u hu)⟩
theorem SAt.next (h : SAt D w g m r room l) (hb : Below w.heap.size w w') : SAt D w' g m r room l := h.keep hb.size fun k hk _ => hb.block k hk
theorem SAt.drewN (h : SAt D w g m r room l) (i : Nat) : SAt D (w.drewN i) g m r room l := h
theorem SAt.alloc (h : SAt D w g m r room l) (o : Obj) : SAt D (w.alloc o) g m r room l := h.next ((Below.refl _ _).alloc (Nat.le_refl _) o)
theorem SAt.set (h : SAt D w g m r room l) {p : Addr} (h1 : p.block ≠ g) (h2 : p.block ≠ m) (h3 : p.block ≠ r) (h4 : ¬ D p.block) (u : Value) : SAt D (w.setCell p u) g m r room l :=
  h.keep (by simp) fun k _ hk => Below.heap_setCell _ _ _ _ (by rintro rfl; rcases hk with e | e | e | e <;> contradiction)
theorem SAt.weak (h : SAt D w g m r room l) (hD : ∀ b, b < w.heap.size → D b → D' b) (hg : ¬ D' g) (hm : ¬ D' m) (hr : ¬ D' r) : SAt D' w g m r room l := by
  obtain ⟨nx, f, cs, e1, e2, e3, e4, e5, h1, h2, e6, h3, h4, h5⟩ := h
  refine ⟨nx, f, cs, e1, e2, e3, e4, e5, h1, h2, e6, h3, fun i p hp => ?_, hg, hm, hr⟩
  obtain ⟨q1, q2, A, c, q3, q4, q5, q6⟩ := h4 i p hp
  exact ⟨q1, q2, A, c, q3, q4, q5, fun a ha => ⟨(q6 a ha).1, hD _ (q6 a ha).1 (q6 a ha).2⟩⟩
end

theorem slen_nil (w : World) : Calls Try.prog 15 #[.pointer none] w fun e w' => e = .returned (.int .i64 0) ∧ w = w' := by
  go_enter Try.func15, Try.ntmps15
  go_wp2
  go_ret
  exact ⟨rfl, rfl⟩
theorem slen_any (D : Nat → Prop) (g m r room : Nat) (l : List Pk) (w : World) (h : SAt D w g m r room l) : Calls Try.prog 15 #[.pointer (some ⟨g, 0, none⟩)] w fun e w' => e = .returned (.int .i64 l.length) ∧ w = w' := by
  obtain ⟨nx, f, cs, _, _, _, _, _, h1, _⟩ := h
  have hc := h1.cell 2
  clear h1
  go_enter Try.func15, Try.ntmps15
  go_wp2
  go_ret
  exact ⟨rfl, rfl⟩
theorem add_nil (k : Int) (A : Option Addr) (n c : Nat) (w : World) : Calls Try.prog 11 #[.pointer none, .int .u16 k, .slice A n c] w fun e w' => e = .returned (.tuple #[]) ∧ w = w' := by
  go_enter Try.func11, Try.ntmps11
  go_wp2
  exact bodyPost_ret (results_none rfl _ _ _) rfl ⟨rfl, rfl⟩
theorem get_nil (k : Int) (w : World) : Calls Try.prog 13 #[.pointer none, .int .u16 k] w fun e w' => e = .returned (.tuple #[.slice none 0 0, .bool false]) ∧ w = w' := by
  go_enter Try.func13, Try.ntmps13
  go_wp2
  go_ret2
  exact ⟨rfl, rfl⟩
theorem snew_bad (n : Int) (w : World) (h : n < 1 ∨ 4096 < n) : Calls Try.prog 10 #[.int .i64 n] w fun e w' => e = .returned (.pointer none) ∧ w = w' := by
  rcases h with h | h
  · go_enter Try.func10, Try.ntmps10
    go_wp2
    go_ret
    exact ⟨rfl, rfl⟩
  · have h' : ¬ n < 1 := by omega
    go_enter Try.func10, Try.ntmps10
    go_wp2
    go_ret
    exact ⟨rfl, rfl⟩
/-- A new store. -/
def SMade (room : Nat) (w : World) (e : Ending) (w' : World) : Prop :=
  ∃ g m r, e = .returned (.pointer (some ⟨g, 0, none⟩)) ∧ SAt (fun _ => False) w' g m r room [] ∧ w.heap.size ≤ g ∧ w.heap.size ≤ m ∧ w.heap.size ≤ r ∧ Below w.heap.size w w'
theorem snew_any (n : Nat) (w : World) (h1 : 1 ≤ n) (h2 : n ≤ 4096) : Calls Try.prog 10 #[.int .i64 n] w (SMade n w) := by
  have hmm := @run_makeMap Try.prog
  obtain ⟨cs, hs, hmk⟩ := make_ring n h2 w
  have HS := Lib.hid hs
  clear hs
  have h1' : ¬ (n : Int) < 1 := by omega
  have h2' : ¬ 4096 < (n : Int) := by omega
  go_enter Try.func10, Try.ntmps10
  go_wp2
  go_ret
  have hW := Whole.new2 (w.alloc (.cells cs 51)) (.map #[] 0) 48 #[.slice (some ⟨w.heap.size, 0, none⟩) n n, .int .i64 0, .int .i64 0, .map (some (w.heap.size + 1))]
  have hR := ((Whole.new w 51 cs).alloc (.map #[] 0)).alloc (.cells #[.slice (some ⟨w.heap.size, 0, none⟩) n n, .int .i64 0, .int .i64 0, .map (some (w.heap.size + 1))] 48)
  have hM := (Spots.new Try.prog 29 (w.alloc (.cells cs 51))).same (w' := ((w.alloc (.cells cs 51)).alloc (.map #[] 0)).alloc (.cells #[.slice (some ⟨w.heap.size, 0, none⟩) n n, .int .i64 0, .int .i64 0, .map (some (w.heap.size + 1))] 48)) (by rw [Below.heap_alloc _ _ _ (by simp)])
  rw [show (w.alloc (.cells cs 51)).heap.size = w.heap.size + 1 by simp] at hM
  have hM' := hM.as (G := fun k => (lastAt [] k).map fun i => (0 + i) % n) (fun _ => rfl)
  refine ⟨w.heap.size + 1 + 1, w.heap.size + 1, w.heap.size, rfl, ⟨0, 0, cs, by simp, by omega, by simp, h1, h2, by simpa using hW, hR, HS.out, hM', by simp, id, id, id⟩, by omega, by omega, by omega, (((Below.refl _ _).alloc (Nat.le_refl _) _).alloc (by simp) _).alloc (by simp; omega) _⟩
end Go.Proofs.Ytbjighmjgjmphaa
