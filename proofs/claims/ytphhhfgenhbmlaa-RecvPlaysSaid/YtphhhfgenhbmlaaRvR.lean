/-
  Contracts of the document's answers of layer 11: High, Base, Has.
-/
import Derived.Test.YtphhhfgenhbmlaaRvC
namespace Go.Proofs.Ytphhhfgenhbmlaa
open Go.RowKit

theorem i64in (x : Int) (h1 : -9223372036854775808 ≤ x) (h2 : x ≤ 9223372036854775807) : IntKind.i64.wrap x = x := by
  simp only [IntKind.wrap, IntKind.bits, IntKind.signed]; simp; split <;> omega
/-- Numbers as the document has them. -/
def i64r (l : List Int) : List Value := l.map fun x => .int .i64 x
theorem i64r_length (l : List Int) : (i64r l).length = l.length := by simp [i64r]
theorem i64r_append (a b : List Int) : i64r (a ++ b) = i64r a ++ i64r b := by simp [i64r]
theorem i64r_get (l : List Int) (j : Nat) (x : Int) (h : l[j]? = some x) : (i64r l)[j]? = some (.int .i64 x) := by simp [i64r, h]
/-- Such a row, once more, at any later world: its cells. -/
theorem i64r_at {w : World} {B : Nat} {A : Option Addr} {l : List Int} {n : Nat} (h : Row w B 1 A n (i64r l)) (_hn : l.length = n) (hB : B ≤ w.heap.size) (h0 : 0 < n) :
    ∃ g o, A = some ⟨g, o, none⟩ ∧ g < B ∧ ∀ w', Below w.heap.size w w' → ∀ k x, l[k]? = some x → w'.cell? ⟨g, o + k, none⟩ = some (.int .i64 x) := by
  obtain ⟨g, o, hA, hg, hc⟩ := h.2 (by omega)
  exact ⟨g, o, hA, hg, fun w' hb k x hx => (hb.cell (p := ⟨g, o + k, none⟩) (by simp; omega)).trans (hc k _ (i64r_get _ _ _ hx))⟩

set_option maxRecDepth 100000 in
theorem refHigh_any (L : List Int) (n : Nat) (A : Option Addr) (c : Nat) (h : Int) (hm : h ∈ L) (hge : ∀ x ∈ L, x ≤ h) (hn : L.length = n) (hl : n ≤ 4096) (B : Nat) (w : World) (hr : Row w B 1 A n (i64r L)) (hB : B ≤ w.heap.size) :
    Calls Try.prog 14 #[.agg #[.slice A n c]] w fun e w' => e = .returned (.int .i64 h) ∧ Below w.heap.size w w' := by
  have h0 : 0 < n := by rw [← hn]; exact List.length_pos_of_mem hm
  obtain ⟨g, o, rfl, hg, hc⟩ := i64r_at hr hn hB h0
  have hb := (Below.refl w.heap.size w).alloc (Nat.le_refl _) (.cells #[.slice (some ⟨g, o, none⟩) n c] 29)
  have HC := Lib.hid (hc _ hb)
  have HB := Lib.hid hb
  have HM := Lib.hid hm
  have HGE := Lib.hid hge
  have HN := Lib.hid hn
  obtain ⟨x0, hx0⟩ : ∃ x, L[0]? = some x := ⟨L[0]'(by omega), by simp⟩
  have r0 := HC.out 0 x0 hx0
  rw [Nat.add_zero] at r0
  have HX0 := Lib.hid (And.intro hx0 (List.mem_of_getElem? hx0))
  have h0' : (0 : Int) < (n : Int) := by omega
  clear hc hb hm hge hn hr hx0
  go_enter Try.func14, Try.ntmps14
  go_wp2
  go_loopw [3, 4] (fun x i wr => ∃ (k : Nat) (y : Int), k ≤ n ∧ i = .int .i64 (k : Int) ∧ x = .int .i64 y ∧ Hid (y ∈ L ∧ ∀ j z, j < k → L[j]? = some z → z ≤ y) ∧ wr = w.alloc (.cells #[.slice (some ⟨g, o, none⟩) n c] 29)) (fun _ i _ => n - (intOf i).toNat)
  case atStart => exact ⟨0, x0, Nat.zero_le _, rfl, rfl, Lib.hid ⟨HX0.out.2, fun j z hj => by omega⟩, rfl⟩
  case round =>
    clear r0
    obtain ⟨k, y, hk, rfl, rfl, HY, rfl⟩ := hrel
    by_cases hlt : k < n
    · obtain ⟨x, hx⟩ : ∃ x, L[k]? = some x := ⟨L[k]'(by rw [HN.out]; exact hlt), by simp⟩
      have r1 := HC.out k x hx
      have HX := Lib.hid hx
      have hi1 : (0 : Int) ≤ (k : Int) := by omega
      have hi2 : (k : Int) < (n : Int) := by omega
      clear hx
      by_cases hc : y < x
      · go_wp2
        go_roundw
        case rel => exact ⟨k + 1, x, by omega, by go_num, rfl, Lib.hid ⟨List.mem_of_getElem? HX.out, fun j z hj hz => by
          by_cases hjk : j < k
          · have := HY.out.2 j z hjk hz; omega
          · obtain rfl : j = k := by omega
            have := HX.out.symm.trans hz; injection this with this; omega⟩, trivial⟩
        case measure => simp [intOf]; omega
      · go_wp2
        go_roundw
        case rel => exact ⟨k + 1, y, by omega, by go_num, rfl, Lib.hid ⟨HY.out.1, fun j z hj hz => by
          by_cases hjk : j < k
          · exact HY.out.2 j z hjk hz
          · obtain rfl : j = k := by omega
            have := HX.out.symm.trans hz; injection this with this; omega⟩, trivial⟩
        case measure => simp [intOf]; omega
    · obtain rfl : k = n := by omega
      have hy : y = h := by
        have e1 := HGE.out y HY.out.1
        obtain ⟨j, hj, hjh⟩ := List.getElem_of_mem HM.out
        have e2 := HY.out.2 j h (by rw [← HN.out]; exact hj) (by rw [List.getElem?_eq_getElem hj, hjh])
        omega
      subst hy
      go_wp2
      go_ret
      exact ⟨rfl, HB.out⟩

set_option maxRecDepth 100000 in
theorem refBase_any (L : List Int) (n : Nat) (A : Option Addr) (c : Nat) (h : Int) (hm : h ∈ L) (hge : ∀ x ∈ L, h ≤ x) (hn : L.length = n) (hl : n ≤ 4096) (B : Nat) (w : World) (hr : Row w B 1 A n (i64r L)) (hB : B ≤ w.heap.size) :
    Calls Try.prog 15 #[.agg #[.slice A n c]] w fun e w' => e = .returned (.int .i64 h) ∧ Below w.heap.size w w' := by
  have h0 : 0 < n := by rw [← hn]; exact List.length_pos_of_mem hm
  obtain ⟨g, o, rfl, hg, hc⟩ := i64r_at hr hn hB h0
  have hb := (Below.refl w.heap.size w).alloc (Nat.le_refl _) (.cells #[.slice (some ⟨g, o, none⟩) n c] 29)
  have HC := Lib.hid (hc _ hb)
  have HB := Lib.hid hb
  have HM := Lib.hid hm
  have HGE := Lib.hid hge
  have HN := Lib.hid hn
  obtain ⟨x0, hx0⟩ : ∃ x, L[0]? = some x := ⟨L[0]'(by omega), by simp⟩
  have r0 := HC.out 0 x0 hx0
  rw [Nat.add_zero] at r0
  have HX0 := Lib.hid (And.intro hx0 (List.mem_of_getElem? hx0))
  have h0' : (0 : Int) < (n : Int) := by omega
  clear hc hb hm hge hn hr hx0
  go_enter Try.func15, Try.ntmps15
  go_wp2
  go_loopw [3, 4] (fun x i wr => ∃ (k : Nat) (y : Int), k ≤ n ∧ i = .int .i64 (k : Int) ∧ x = .int .i64 y ∧ Hid (y ∈ L ∧ ∀ j z, j < k → L[j]? = some z → y ≤ z) ∧ wr = w.alloc (.cells #[.slice (some ⟨g, o, none⟩) n c] 29)) (fun _ i _ => n - (intOf i).toNat)
  case atStart => exact ⟨0, x0, Nat.zero_le _, rfl, rfl, Lib.hid ⟨HX0.out.2, fun j z hj => by omega⟩, rfl⟩
  case round =>
    clear r0
    obtain ⟨k, y, hk, rfl, rfl, HY, rfl⟩ := hrel
    by_cases hlt : k < n
    · obtain ⟨x, hx⟩ : ∃ x, L[k]? = some x := ⟨L[k]'(by rw [HN.out]; exact hlt), by simp⟩
      have r1 := HC.out k x hx
      have HX := Lib.hid hx
      have hi1 : (0 : Int) ≤ (k : Int) := by omega
      have hi2 : (k : Int) < (n : Int) := by omega
      clear hx
      by_cases hc : x < y
      · go_wp2
        go_roundw
        case rel => exact ⟨k + 1, x, by omega, by go_num, rfl, Lib.hid ⟨List.mem_of_getElem? HX.out, fun j z hj hz => by
          by_cases hjk : j < k
          · have := HY.out.2 j z hjk hz; omega
          · obtain rfl : j = k := by omega
            have := HX.out.symm.trans hz; injection this with this; omega⟩, trivial⟩
        case measure => simp [intOf]; omega
      · go_wp2
        go_roundw
        case rel => exact ⟨k + 1, y, by omega, by go_num, rfl, Lib.hid ⟨HY.out.1, fun j z hj hz => by
          by_cases hjk : j < k
          · exact HY.out.2 j z hjk hz
          · obtain rfl : j = k := by omega
            have := HX.out.symm.trans hz; injection this with this; omega⟩, trivial⟩
        case measure => simp [intOf]; omega
    · obtain rfl : k = n := by omega
      have hy : y = h := by
        have e1 := HGE.out y HY.out.1
        obtain ⟨j, hj, hjh⟩ := List.getElem_of_mem HM.out
        have e2 := HY.out.2 j h (by rw [← HN.out]; exact hj) (by rw [List.getElem?_eq_getElem hj, hjh])
        omega
      subst hy
      go_wp2
      go_ret
      exact ⟨rfl, HB.out⟩

set_option maxRecDepth 100000 in
theorem refHas_any (L : List Int) (n : Nat) (A : Option Addr) (c : Nat) (v : Int) (hn : L.length = n) (hl : n ≤ 4096) (h0 : 0 < n) (B : Nat) (w : World) (hr : Row w B 1 A n (i64r L)) (hB : B ≤ w.heap.size) :
    Calls Try.prog 22 #[.agg #[.slice A n c], .int .i64 v] w fun e w' => e = .returned (.bool (decide (v ∈ L))) ∧ Below w.heap.size w w' := by
  obtain ⟨g, o, rfl, hg, hc⟩ := i64r_at hr hn hB h0
  have hb := (Below.refl w.heap.size w).alloc (Nat.le_refl _) (.cells #[.slice (some ⟨g, o, none⟩) n c] 29)
  have HC := Lib.hid (hc _ hb)
  have HB := Lib.hid hb
  have HN := Lib.hid hn
  obtain ⟨b, hbv⟩ : ∃ b, decide (v ∈ L) = b := ⟨_, rfl⟩
  rw [hbv]
  have HV := Lib.hid hbv
  clear hc hb hn hr hbv
  go_enter Try.func22, Try.ntmps22
  go_wp2
  go_loopw [5] (fun i wr => ∃ k : Nat, k ≤ n ∧ i = .int .i64 (k : Int) ∧ Hid (∀ j, j < k → L[j]? ≠ some v) ∧ wr = w.alloc (.cells #[.slice (some ⟨g, o, none⟩) n c] 29)) (fun i _ => n - (intOf i).toNat)
  case atStart => exact ⟨0, Nat.zero_le _, rfl, Lib.hid (fun j hj => by omega), rfl⟩
  case round =>
    obtain ⟨k, hk, rfl, HY, rfl⟩ := hrel
    by_cases hlt : k < n
    · obtain ⟨x, hx⟩ : ∃ x, L[k]? = some x := ⟨L[k]'(by rw [HN.out]; exact hlt), by simp⟩
      have r1 := HC.out k x hx
      have HX := Lib.hid hx
      have hi1 : (0 : Int) ≤ (k : Int) := by omega
      have hi2 : (k : Int) < (n : Int) := by omega
      clear hx
      by_cases hc : x = v
      · subst hc
        obtain rfl : true = b := by rw [← HV.out]; exact (decide_eq_true (List.mem_of_getElem? HX.out)).symm
        go_wp2
        go_ret
        exact ⟨rfl, HB.out⟩
      · go_wp2
        go_roundw
        case rel => exact ⟨k + 1, by omega, by go_num, Lib.hid (fun j hj hz => by
          by_cases hjk : j < k
          · exact HY.out j hjk hz
          · obtain rfl : j = k := by omega
            have := HX.out.symm.trans hz; injection this with this; exact hc this), trivial⟩
        case measure => simp [intOf]; omega
    · obtain rfl : k = n := by omega
      obtain rfl : false = b := by
        rw [← HV.out]
        exact (decide_eq_false (fun hm => by
          obtain ⟨j, hj, hjh⟩ := List.getElem_of_mem hm
          exact HY.out j (by rw [← HN.out]; exact hj) (by rw [List.getElem?_eq_getElem hj, hjh]))).symm
      go_wp2
      go_ret
      exact ⟨rfl, HB.out⟩

end Go.Proofs.Ytphhhfgenhbmlaa
