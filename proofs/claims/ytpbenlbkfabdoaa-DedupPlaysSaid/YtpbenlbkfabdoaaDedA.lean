/-
  Contracts of package dedup's calls that look alone, and of New.
-/
import Derived.Test.YtpbenlbkfabdoaaProg
import Derived.Test.YtpbenlbkfabdoaaDedL
import Derived.Deep.DeepCutAuto
import Derived.Deep.QuietTactic
import Derived.BigQuiet
import Derived.StillTailTactics
import Derived.IntWalk
import Derived.Deep.RegionHeld3
namespace Go.Proofs.Ytpbenlbkfabdoaa
open Go.RowKit Go.Maps

theorem keyU : Keyed Try.prog 29 := int_keyed Try.underlying29
theorem zeroReq (w : World) : (zeroValue 55).run Try.prog w = .ok (reqV ⟨#[]⟩ false) w := by kernel_rfl
theorem key_mk {k : Int} (h : (Lit.int .u64 k).wf = true) : keyOf Try.prog 29 (.int .u64 k) = some (.int .u64 k) := keyOf_int_mk Try.underlying29 h

/-- Block g is a table (its map's block m, its ring's block r), of so much room, that holds the row l. -/
def DAt (w : World) (g m r room : Nat) (l : List Ent) : Prop :=
  ∃ nx n f cs, n = waits l ∧ (f + l.length) % room = nx ∧ Whole w g 50 #[.map (some m), .slice (some ⟨r, 0, none⟩) room room, .int .i64 (nx : Nat), .int .i64 (n : Nat)] ∧
    Whole w r 29 cs ∧ Ring cs room f (l.map fun e => .int .u64 e.id) ∧ Holds Try.prog 29 w m l ∧ IdsApart l ∧ (∀ e ∈ l, (Lit.int .u64 e.id).wf = true) ∧ 1 ≤ room ∧ room ≤ 4096

section
variable {w w' : World} {g m r room : Nat} {l : List Ent}
theorem DAt.lt (h : DAt w g m r room l) : g < w.heap.size ∧ m < w.heap.size ∧ r < w.heap.size := by
  obtain ⟨nx, n, f, cs, _, _, h1, h2, _, h3, _⟩ := h
  exact ⟨h1.lt, h3.lt, h2.lt⟩
theorem DAt.len (h : DAt w g m r room l) : l.length ≤ room ∧ 1 ≤ room ∧ room ≤ 4096 := by
  obtain ⟨nx, n, f, cs, _, _, h1, h2, h4, h3, _, _, h5⟩ := h
  exact ⟨by simpa using h4.fits, h5⟩
theorem DAt.apart (h : DAt w g m r room l) : IdsApart l := by
  obtain ⟨nx, n, f, cs, _, _, h1, h2, h4, h3, h5, _⟩ := h
  exact h5
theorem DAt.keep (h : DAt w g m r room l) (hk : ∀ k, k = g ∨ k = m ∨ k = r → w'.heap[k]? = w.heap[k]?) : DAt w' g m r room l := by
  obtain ⟨nx, n, f, cs, e1, e2, h1, h2, h4, h3, h5⟩ := h
  exact ⟨nx, n, f, cs, e1, e2, (hk g (by simp)).trans h1, (hk r (by simp)).trans h2, h4, h3.same (hk m (by simp)), h5⟩
theorem DAt.next (h : DAt w g m r room l) (hb : Below w.heap.size w w') : DAt w' g m r room l :=
  h.keep fun k hk => hb.block k (by have := h.lt; omega)
theorem DAt.drewN (h : DAt w g m r room l) (i : Nat) : DAt (w.drewN i) g m r room l := h
theorem DAt.alloc (h : DAt w g m r room l) (o : Obj) : DAt (w.alloc o) g m r room l := h.next ((Below.refl _ _).alloc (Nat.le_refl _) o)
theorem DAt.set (h : DAt w g m r room l) {p : Addr} (h1 : g ≠ p.block) (h2 : m ≠ p.block) (h3 : r ≠ p.block) (u : Value) : DAt (w.setCell p u) g m r room l :=
  h.keep fun k hk => Below.heap_setCell _ _ _ _ (by rcases hk with rfl | rfl | rfl <;> assumption)
end

theorem len_nil (w : World) : Calls Try.prog 16 #[.pointer none] w fun e w' => e = .returned (.int .i64 0) ∧ w = w' := by
  go_enter Try.func16, Try.ntmps16
  go_wp2
  go_ret
  exact ⟨rfl, rfl⟩
theorem waits_nil (w : World) : Calls Try.prog 17 #[.pointer none] w fun e w' => e = .returned (.int .i64 0) ∧ w = w' := by
  go_enter Try.func17, Try.ntmps17
  go_wp2
  go_ret
  exact ⟨rfl, rfl⟩
theorem waits_any (g m r room : Nat) (l : List Ent) (w : World) (h : DAt w g m r room l) : Calls Try.prog 17 #[.pointer (some ⟨g, 0, none⟩)] w fun e w' => e = .returned (.int .i64 (waits l : Nat)) ∧ w = w' := by
  obtain ⟨nx, n, f, cs, rfl, _, h1, _⟩ := h
  have hc := h1.cell 3
  clear h1
  go_enter Try.func17, Try.ntmps17
  go_wp2
  go_ret
  exact ⟨rfl, rfl⟩
theorem len_any (g m r room : Nat) (l : List Ent) (w : World) (h : DAt w g m r room l) : Calls Try.prog 16 #[.pointer (some ⟨g, 0, none⟩)] w fun e w' => e = .returned (.int .i64 l.length) ∧ w = w' := by
  obtain ⟨nx, n, f, cs, rfl, _, h1, _, _, h2, _⟩ := h
  have hc := h1.cell 0
  have hl := h2.len Try.underlying47 3
  clear h1
  go_enter Try.func16, Try.ntmps16
  go_wp2
  go_ret
  exact ⟨rfl, rfl⟩
theorem find_nil (k : Int) (w : World) : Calls Try.prog 14 #[.pointer none, .int .u64 k] w fun e w' => e = .returned (.tuple #[.string ⟨#[]⟩, .bool false, .bool false]) ∧ w = w' := by
  go_enter Try.func14, Try.ntmps14
  go_wp2
  go_ret3
  exact ⟨rfl, rfl⟩

/-- What Find tells of a row. -/
def foundV (o : Option Ent) : Value := match o with | some e => .tuple #[.string e.ans, .bool e.done, .bool true] | none => .tuple #[.string ⟨#[]⟩, .bool false, .bool false]
theorem find_any (g m r room : Nat) (l : List Ent) (k : Int) (hk : (Lit.int .u64 k).wf = true) (w : World) (h : DAt w g m r room l) :
    Calls Try.prog 14 #[.pointer (some ⟨g, 0, none⟩), .int .u64 k] w fun e w' => e = .returned (foundV (fnd l k)) ∧ Below w.heap.size w w' := by
  obtain ⟨nx, n, f, cs, rfl, _, h1, _, _, h2, _⟩ := h
  have hc := h1.cell 0
  have hl := h2.look keyU Try.underlying47 (zeroReq w) (key_mk hk)
  clear h1 h2 hk
  cases hf : fnd l k with
  | none =>
    rw [hf] at hl
    clear hf
    dsimp only [reqV, Option.isSome_none] at hl
    go_enter Try.func14, Try.ntmps14
    go_wp2
    go_quiet (fail)
    go_wp2
    go_ret3
    exact ⟨rfl, bdrewN ((Below.refl _ _).alloc (Nat.le_refl _) _) _⟩
  | some e =>
    rw [hf] at hl
    clear hf
    obtain ⟨id, ans, done⟩ := e
    dsimp only [reqV, Option.isSome_some] at hl
    go_enter Try.func14, Try.ntmps14
    go_wp2
    go_quiet (fail)
    go_wp2
    go_ret3
    exact ⟨rfl, bdrewN ((Below.refl _ _).alloc (Nat.le_refl _) _) _⟩
end Go.Proofs.Ytpbenlbkfabdoaa
