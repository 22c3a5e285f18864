/-
  Contracts of package pins: the closure that tells what goes, the search for the first that goes, and their going (slices.DeleteFunc).
-/
import Derived.Test.YtgacejencnkpmaaPnCe
import Derived.Laws.CopyRow
namespace Go.Proofs.Ytgacejencnkpmaa
open Go.RowKit
set_option linter.unusedSimpArgs false
set_option linter.unusedVariables false
set_option maxRecDepth 100000

/-- One goes by the oldest epoch o. -/
def goesB (o : Int) (t : Wt) : Bool := decide (t.ep ≤ o)
theorem goesB_any (t : Wt) (o : Int) (x : Nat) (w : World) (hc : w.cell? ⟨x, 0, none⟩ = some (.int .u64 o)) (hlt : x < w.heap.size) :
    Calls Try.prog 25 #[.agg #[.int .i64 t.slot, .int .u32 t.turn, .int .u64 t.ep], .pointer (some ⟨x, 0, none⟩)] w fun e w' => e = .returned (.bool (goesB o t)) ∧ Below w.heap.size w w' := by
  have hne : x ≠ w.heap.size := by omega
  have e : goesB o t = decide (t.ep ≤ o) := rfl
  rw [e]
  clear e
  obtain ⟨s, u, y⟩ := t
  dsimp only
  have HB := Lib.hid ((Below.refl w.heap.size w).alloc (Nat.le_refl _) (.cells #[.int .i64 s, .int .u32 u, .int .u64 y] 75))
  by_cases h0 : y ≤ o
  all_goals
    go_enter Try.func25, Try.ntmps25
    go_wp2
    go_ret
    exact ⟨ret_bool (by simp [*] <;> omega), HB.out⟩

/-- Where the first one is that goes, or -1. -/
def FstAt (o : Int) (q : List Wt) (r : Int) : Prop :=
  (r = -1 ∧ ∀ (j : Nat) t, q[j]? = some t → goesB o t = false) ∨ ∃ (k : Nat) (t : Wt), r = k ∧ q[k]? = some t ∧ goesB o t = true ∧ ∀ (j : Nat) t', j < k → q[j]? = some t' → goesB o t' = false
theorem fst_next {o : Int} {q : List Wt} {k : Nat} {t : Wt} (h : ∀ (j : Nat) t', j < k → q[j]? = some t' → goesB o t' = false) (ht : q[k]? = some t) (hq : goesB o t = false) : ∀ (j : Nat) t', j < k + 1 → q[j]? = some t' → goesB o t' = false := by
  intro j t' hj ht'
  rcases Nat.lt_or_ge j k with h1 | h1
  · exact h j t' h1 ht'
  · obtain rfl : j = k := by omega
    rw [ht] at ht'
    injection ht' with ht'
    rw [← ht']
    exact hq
set_option maxHeartbeats 1600000 in
theorem wfirst_any (A : Option Addr) (c : Nat) (q : List Wt) (o : Int) (x : Nat) (w : World) (h : Row w w.heap.size 3 A q.length (wtP q)) (hl : q.length ≤ 64) (hx : w.cell? ⟨x, 0, none⟩ = some (.int .u64 o)) (hxl : x < w.heap.size) :
    Calls Try.prog 31 #[.slice A q.length c, .func (.func 25) #[] #[.pointer (some ⟨x, 0, none⟩)]] w fun e w' => ∃ r : Int, e = .returned (.int .i64 r) ∧ FstAt o q r ∧ Below w.heap.size w w' := by
  have H := Lib.hid h
  obtain ⟨n, hn⟩ : ∃ n, q.length = n := ⟨_, rfl⟩
  rw [hn] at H hl ⊢
  have HN := Lib.hid hn
  clear h hn
  go_enter Try.func31, Try.ntmps31
  go_wp2_with fail
  go_loopw [8] (fun i wr => ∃ k : Nat, k ≤ n ∧ i = .int .i64 (k : Int) ∧ Hid (∀ (j : Nat) t, j < k → q[j]? = some t → goesB o t = false) ∧ Below w.heap.size w wr) (fun i _ => n - (intOf i).toNat)
  case atStart => exact ⟨0, Nat.zero_le _, rfl, fun j p hj => absurd hj (by omega), Below.refl _ _⟩
  case round =>
    obtain ⟨k, hk, rfl, hn, hb⟩ := hrel
    by_cases hlt : k < n
    · obtain ⟨y, hy⟩ : ∃ y, q[k]? = some y := ⟨_, List.getElem?_eq_getElem (by rw [HN.out]; exact hlt)⟩
      obtain ⟨g, p, rfl, hg, hc⟩ := H.out.2 (by omega)
      obtain ⟨e0, e1, e2⟩ := wtP_get hy
      have c0 := (hb.cell (p := ⟨g, p + k * 3, none⟩) hg).trans (hc _ _ e0)
      have c1 := (hb.cell (p := ⟨g, p + (k * 3 + 1), none⟩) hg).trans (hc _ _ e1)
      have c2 := (hb.cell (p := ⟨g, p + (k * 3 + 2), none⟩) hg).trans (hc _ _ e2)
      rw [← Nat.add_assoc] at c1 c2
      have i0 : (0 : Int) ≤ (k : Int) := by omega
      have i1 : (k : Int) < (n : Int) := by omega
      have C := goesB_any y o x wr ((hb.cell (p := ⟨x, 0, none⟩) hxl).trans hx) (Nat.lt_of_lt_of_le hxl hb.size)
      have hyes := Lib.hid (fun hq => show FstAt o q k from .inr ⟨k, y, rfl, hy, hq, hn.out⟩)
      have hnext := Lib.hid (fun hq => fst_next (o := o) hn.out hy hq)
      have HB := Lib.hid hb
      clear hn hb hy e0 e1 e2 hc
      obtain ⟨ys, yt, ye⟩ := y
      dsimp only at c0 c1 c2 C
      generalize hq : goesB o ⟨ys, yt, ye⟩ = t at C
      have HQ := Lib.hid hq
      have HC := Lib.hid C
      clear hq C
      cases t with
      | true =>
        go_wp2_with (go_at_call 25; refine HC.out.mono ?_; rintro e w2 ⟨rfl, b2⟩)
        go_ret
        exact ⟨_, rfl, hyes.out HQ.out, bnext HB.out b2⟩
      | false =>
        go_wp2_with (go_at_call 25; refine HC.out.mono ?_; rintro e w2 ⟨rfl, b2⟩)
        go_roundw
        case rel => exact ⟨k + 1, by omega, by go_num, hnext.out HQ.out, bnext HB.out b2⟩
        case measure => simp [intOf]; omega
    · obtain rfl : k = n := by omega
      have HF := Lib.hid (show FstAt o q (-1) from .inl ⟨rfl, fun j t ht => hn.out j t (by have := (List.getElem?_eq_some_iff.1 ht).1; rw [HN.out] at this; exact this) ht⟩)
      have HB := Lib.hid hb
      clear hn hb
      go_wp2_with fail
      go_ret
      exact ⟨_, rfl, HF.out, HB.out⟩
end Go.Proofs.Ytgacejencnkpmaa
