/-
  Contracts of package pins: New, find, Install, Pin, Unpin, Waiting.
-/
import Derived.Test.YtgacejencnkpmaaPnCa
import Derived.Deep.CutBlock
import Derived.Deep.DeepCutAuto
import Derived.Deep.QuietTactic
import Derived.Deep.RegionHeld3
import Derived.RegionTactic
import Derived.Laws.OwnMore
import Derived.BigQuiet
import Derived.IntWalk
namespace Go.Proofs.Ytgacejencnkpmaa
open Go.RowKit
set_option linter.unusedSimpArgs false
set_option linter.unusedVariables false
set_option maxRecDepth 100000

theorem info_wk : (Try.prog.info? 71).map (fun i => (i.zero, i.size, i.bytes)) = some (some (.agg #[.int .u64 0, .int .u64 0, .bool false]), 3, 24) := by kernel_rfl
theorem make_wk (n : Nat) (h2 : n ≤ 4096) (w : World) : ∃ cs : Array Value, cs = wkP (freshK n) ∧ (Instr.makeSlice 60 (.int .i64 n) (.int .i64 n)).run Try.prog w = .ok (.slice (some ⟨w.heap.size, 0, none⟩) n n) (w.alloc (.cells cs 71)) := by
  obtain ⟨i, hi0, hi1, hi2, hi3⟩ := info_parts info_wk
  have h := run_make (P := Try.prog) w 60 71 i (.agg #[.int .u64 0, .int .u64 0, .bool false]) Try.underlying60 hi0 hi1 .i64 .i64 n n (by omega) (Int.le_refl _) (by rw [hi3]; omega) (by omega)
  rw [Int.toNat_natCast, hi2] at h
  exact ⟨_, made_wk n, h⟩
theorem behind_fresh (n : Nat) : Behind (freshK n) := by
  intro k hk s hs
  unfold freshK at hk
  rw [List.eq_of_mem_replicate hk] at hs
  cases hs
set_option maxHeartbeats 1600000 in
theorem pnew_any (w : World) (n : Nat) (h1 : 1 ≤ n) (h2 : n ≤ 4) : Calls Try.prog 9 #[.int .i64 (n : Int)] w (PMade n w) := by
  obtain ⟨cs, hcs, mk⟩ := make_wk n (by omega) w
  have d1 : ¬ (n : Int) < 1 := by omega
  have d2 : ¬ 4 < (n : Int) := by omega
  have hz : (w.alloc (.cells cs 71)).heap.size = w.heap.size + 1 := by simp
  have HF := Lib.hid (show ∃ g S, (Value.pointer (some ⟨w.heap.size + 1, 0, none⟩)) = (.pointer (some ⟨g, 0, none⟩)) ∧ PAt ((w.alloc (.cells cs 71)).alloc (.cells #[.slice (some ⟨w.heap.size, 0, none⟩) n n, .slice none 0 0] 63)) g S (freshK n) [] ∧ (∀ k, S k → w.heap.size ≤ k) ∧ Below w.heap.size w ((w.alloc (.cells cs 71)).alloc (.cells #[.slice (some ⟨w.heap.size, 0, none⟩) n n, .slice none 0 0] 63)) from
    ⟨w.heap.size + 1, fun k => k = w.heap.size + 1 ∨ k = w.heap.size, rfl, ⟨w.heap.size, none, 0, by omega, fun k => by simp [Value.ownBlock], by rw [freshK_length]; exact Whole.new2 w _ _ _, by rw [hcs]; exact (Whole.new w _ _).alloc _, World.ownsRow_nil _ _ _ _, by rw [freshK_length]; simp; omega, behind_fresh n⟩, fun k hk => by omega,
      ((Below.refl _ _).alloc (Nat.le_refl _) _).alloc (by simp) _⟩)
  clear hz hcs h1 h2
  go_enter Try.func9, Try.ntmps9
  go_wp2
  go_ret
  obtain ⟨g, S, e, h⟩ := HF.out
  exact ⟨g, S, congrArg Ending.returned e, h⟩
set_option maxHeartbeats 1600000 in
theorem pnew_none (w : World) (n : Int) (h : n < 1 ∨ 4 < n) : Calls Try.prog 9 #[.int .i64 n] w fun e w' => e = .returned (.pointer none) ∧ Below w.heap.size w w' := by
  have hd : n < 1 ∨ (¬ n < 1 ∧ 4 < n) := by omega
  clear h
  have HB := Lib.hid (Below.refl w.heap.size w)
  rcases hd with hd | ⟨hd1, hd⟩
  all_goals
    go_enter Try.func9, Try.ntmps9
    go_wp2
    go_ret
    exact ⟨rfl, HB.out⟩

/-- What find tells. -/
def foundK (l : List Wk) (r : Nat) (i : Int) : Value := .tuple #[.pointer (if (wkAt l i).isSome = true then some ⟨r, i.toNat * 3, none⟩ else none), .int .i64 (if (wkAt l i).isSome = true then 0 else 1)]
set_option maxHeartbeats 1600000 in
theorem pfind_nil (i : Int) (w : World) : Calls Try.prog 24 #[.pointer none, .int .i64 i] w fun e w' => e = .returned (.tuple #[.pointer none, .int .i64 1]) ∧ w' = w := by
  go_enter Try.func24, Try.ntmps24
  go_wp2
  go_ret2
  exact ⟨rfl, rfl⟩
set_option maxHeartbeats 1600000 in
theorem pfind_any (l : List Wk) (i : Int) (g r : Nat) (v : Value) (w : World) (hG : Whole w g 63 #[.slice (some ⟨r, 0, none⟩) l.length l.length, v]) (hl : l.length ≤ 4) :
    Calls Try.prog 24 #[.pointer (some ⟨g, 0, none⟩), .int .i64 i] w fun e w' => e = .returned (foundK l r i) ∧ w' = w := by
  have g0 := hG.cell 0
  have hgl := hG.lt
  obtain ⟨n, hn⟩ : ∃ n, l.length = n := ⟨_, rfl⟩
  by_cases h1 : i < 0
  · have HG := Lib.hid (show foundK l r i = .tuple #[.pointer none, .int .i64 1] by unfold foundK; rw [wkAt_low h1]; rfl)
    rw [hn] at hl g0
    rw [HG.out]
    clear hG hn HG
    go_enter Try.func24, Try.ntmps24
    go_wp2
    go_ret2
    exact ⟨rfl, rfl⟩
  obtain ⟨k, rfl⟩ : ∃ k : Nat, i = (k : Int) := ⟨i.toNat, by omega⟩
  by_cases h2 : n ≤ k
  · have HG := Lib.hid (show foundK l r k = .tuple #[.pointer none, .int .i64 1] by unfold foundK; rw [wkAt_high (by omega)]; rfl)
    rw [hn] at hl g0
    rw [HG.out]
    have h2' : (n : Int) ≤ (k : Int) := by omega
    clear hG hn HG
    go_enter Try.func24, Try.ntmps24
    go_wp2
    go_ret2
    exact ⟨rfl, rfl⟩
  · have HG := Lib.hid (show foundK l r k = .tuple #[.pointer (some ⟨r, k * 3, none⟩), .int .i64 0] by unfold foundK; rw [wkAt_nat, List.getElem?_eq_getElem (by omega)]; rfl)
    rw [hn] at hl g0
    rw [HG.out]
    have h2' : ¬ (n : Int) ≤ (k : Int) := by omega
    have i0 : (0 : Int) ≤ (k : Int) := by omega
    have i1 : (k : Int) < (n : Int) := by omega
    clear hG hn HG
    go_enter Try.func24, Try.ntmps24
    go_wp2
    go_ret2
    exact ⟨rfl, rfl⟩

/-- A call that turns workers alone. -/
theorem pdone_turn {w w' : World} {g : Nat} {S : Nat → Prop} {l l' : List Wk} {q : List Wt} {r c : Nat} {A : Option Addr} (hne : r ≠ g) (hS : ∀ k, S k ↔ (k = g ∨ k = r ∨ (Value.slice A q.length c).ownBlock = some k))
    (hG : Whole w g 63 #[.slice (some ⟨r, 0, none⟩) l.length l.length, .slice A q.length c]) (hR : Whole w r 71 (wkP l)) (hO : w.ownsRow 0 75 3 (.slice A q.length c) q.length (wtP q))
    (hL : 1 ≤ l.length ∧ l.length ≤ 4 ∧ q.length ≤ 64) (v : Value) (hl : l'.length = l.length) (hb : Behind l') (hR' : Whole w' r 71 (wkP l')) (hbut : But (fun k => k = r) w w') : PDone g S v l' q w (.returned v) w' := by
  have hf := own_far hO hR (by decide)
  refine ⟨S, rfl, ⟨r, A, c, hne, hS, ?_, hR', own_butX hO hbut (fun k hk e => hf (by rw [hk, e])), by rw [hl]; exact hL, hb⟩, hbut.mono fun k _ h => (hS k).2 (.inr (.inl h)), fun _ _ h => h⟩
  rw [hl]
  exact hG.but hbut (fun e => hne e.symm)
end Go.Proofs.Ytgacejencnkpmaa
