/-
  Contracts of the document's answers of layer 18 (louverref18): person, track, sub.
-/
import Derived.Test.YtmmeceehfdbdoaaDeL
import Derived.Test.YtmmeceehfdbdoaaOwnX
import Derived.Test.YtmmeceehfdbdoaaProg
import Derived.Laws.OwnMore
import Derived.Deep.CutBlock
import Derived.Deep.DeepCutAuto
import Derived.Deep.QuietTactic
import Derived.Deep.RegionHeld3
import Derived.RegionTactic
import Derived.BigQuiet
import Derived.IntWalk
namespace Go.Proofs.Ytmmeceehfdbdoaa
open Go.RowKit
open Dl
set_option linter.unusedSimpArgs false
set_option linter.unusedVariables false
set_option maxRecDepth 100000

namespace Dl
/-- A track in memory: where its SSRCs lie. -/
structure Tm where
  t : Tk
  A : Option Addr
  c : Nat
def pnV (p : Pn) : List Value := [.int .i64 p.who, .int .i64 p.room, .int .i64 p.rights]
def tmV (x : Tm) : List Value := [.int .i64 x.t.id, .int .i64 x.t.owner, .int .i64 x.t.from', .slice x.A x.t.ss.length x.c]
def sbV (b : Sb) : List Value := [.int .i64 b.who, .int .i64 b.track, .int .i64 b.layer, .int .i64 b.tid, .bool b.muted]
def pnC (l : List Pn) : List Value := (l.map pnV).flatten
def tmC (l : List Tm) : List Value := (l.map tmV).flatten
def sbC (l : List Sb) : List Value := (l.map sbV).flatten
def n32 (l : List Int) : List Value := l.map fun x => .int .u32 x
theorem flat_get {α : Type} {f : α → List Value} {z : Nat} (hf : ∀ x, (f x).length = z) : ∀ {l : List α} {i : Nat} {x : α}, l[i]? = some x → ∀ j, j < z → (l.map f).flatten[i * z + j]? = (f x)[j]? := by
  intro l
  induction l with
  | nil => intro i x h; simp at h
  | cons a l ih =>
    intro i x h j hj
    rw [List.map_cons, List.flatten_cons]
    cases i with
    | zero =>
      simp at h; subst h
      rw [Nat.zero_mul, Nat.zero_add, List.getElem?_append_left (by rw [hf]; exact hj)]
    | succ i =>
      rw [List.getElem?_append_right (by rw [hf, Nat.succ_mul]; omega), hf]
      rw [show (i + 1) * z + j - z = i * z + j by rw [Nat.succ_mul]; omega]
      exact ih (by simpa using h) j hj
theorem flat_length {α : Type} {f : α → List Value} {z : Nat} (hf : ∀ x, (f x).length = z) (l : List α) : (l.map f).flatten.length = l.length * z := by
  induction l with
  | nil => simp
  | cons a l ih => rw [List.map_cons, List.flatten_cons, List.length_append, ih, hf, List.length_cons, Nat.succ_mul]; omega
theorem pnC_get {l : List Pn} {i : Nat} {x : Pn} (h : l[i]? = some x) (j : Nat) (hj : j < 3) : (pnC l)[i * 3 + j]? = (pnV x)[j]? := flat_get (z := 3) (fun _ => rfl) h j hj
theorem tmC_get {l : List Tm} {i : Nat} {x : Tm} (h : l[i]? = some x) (j : Nat) (hj : j < 4) : (tmC l)[i * 4 + j]? = (tmV x)[j]? := flat_get (z := 4) (fun _ => rfl) h j hj
theorem sbC_get {l : List Sb} {i : Nat} {x : Sb} (h : l[i]? = some x) (j : Nat) (hj : j < 5) : (sbC l)[i * 5 + j]? = (sbV x)[j]? := flat_get (z := 5) (fun _ => rfl) h j hj
/-- Where the first one that is meant stands; below 0: nowhere. -/
def ixS {α : Type} (f : α → Bool) (l : List α) : Int := match l.findIdx? f with | some i => (i : Int) | none => -1
theorem ixS_at {α : Type} {f : α → Bool} {l : List α} {k : Nat} {x : α} (h : ∀ (j : Nat) (x : α), j < k → l[j]? = some x → f x = false) (hk : l[k]? = some x) (hf : f x = true) : ixS f l = k := by
  unfold ixS
  obtain ⟨hl, e⟩ := List.getElem?_eq_some_iff.mp hk
  rw [List.findIdx?_eq_some_iff_getElem.mpr ⟨hl, by rw [e]; exact hf, fun j hj => by rw [h j _ hj (List.getElem?_eq_getElem (by omega))]; simp⟩]
theorem ixS_no {α : Type} {f : α → Bool} {l : List α} (h : ∀ (j : Nat) (x : α), l[j]? = some x → f x = false) : ixS f l = -1 := by
  unfold ixS
  rw [List.findIdx?_eq_none_iff.mpr fun x hx => by
    obtain ⟨j, hj, e⟩ := List.mem_iff_getElem.mp hx
    exact h j x (by rw [List.getElem?_eq_getElem hj, e])]
end Dl

set_option maxHeartbeats 3200000 in
theorem rperson18 (a1 a2 a3 a4 : Int) (T B : Value) (A : Option Addr) (c : Nat) (l : List Pn) (k1 : Int) (w : World) (hr : Row w w.heap.size 3 A l.length (pnC l)) (hl : l.length ≤ 4096) :
    Calls Try.prog 24 #[.agg #[.int .i64 a1, .int .i64 a2, .int .i64 a3, .int .i64 a4, .slice A l.length c, T, B], .int .i64 k1] w fun e w' => e = .returned (.int .i64 (ixS (isP k1) l)) ∧ Below w.heap.size w w' := by
  obtain ⟨n, hn⟩ : ∃ n, l.length = n := ⟨_, rfl⟩
  have HN := Lib.hid hn
  rw [hn] at hl hr ⊢
  obtain ⟨w1, hw1⟩ : ∃ z, z = w.alloc (.cells #[.int .i64 a1, .int .i64 a2, .int .i64 a3, .int .i64 a4, .slice A n c, T, B] 37) := ⟨_, rfl⟩
  have HB1 := Lib.hid (show Below w.heap.size w w1 by rw [hw1]; exact (Below.refl _ _).alloc (Nat.le_refl _) _)
  have HQ := Lib.hid (show Whole w1 w.heap.size 37 #[.int .i64 a1, .int .i64 a2, .int .i64 a3, .int .i64 a4, .slice A n c, T, B] by rw [hw1]; exact Whole.new w _ _)
  have HR := Lib.hid (hr.below HB1.out (Nat.le_refl _))
  have hz1 : w1.heap.size = w.heap.size + 1 := by rw [hw1]; simp
  have r4 := HQ.out.cell 4
  have lR := HQ.out.lt
  clear hr hn
  go_enter Try.func24, Try.ntmps24
  go_upto_region 1 with fail
  rw [← hw1]
  clear hw1
  go_wp2_with fail
  go_loopw [5] (fun i wr => ∃ k : Nat, k ≤ n ∧ i = .int .i64 (k : Int) ∧ wr = w1 ∧ ∀ (j : Nat) (x : Pn), j < k → l[j]? = some x → (isP k1) x = false) (fun i _ => n - (intOf i).toNat)
  case atStart => exact ⟨0, Nat.zero_le _, rfl, rfl, fun j x h => by omega⟩
  case round =>
    obtain ⟨k, hk, rfl, rfl, hno⟩ := hrel
    have HNO := Lib.hid hno
    clear hno
    by_cases hlt : k < n
    · obtain ⟨y, hy⟩ : ∃ y, l[k]? = some y := ⟨_, List.getElem?_eq_getElem (by rw [HN.out]; exact hlt)⟩
      obtain ⟨g, o, rfl, hg, hc⟩ := HR.out.2 (by omega)
      have c0 := hc _ _ ((pnC_get hy 0 (by decide)).trans rfl)
      rw [Nat.add_zero] at c0
      have i0 : (0 : Int) ≤ (k : Int) := by omega
      have i1 : (k : Int) < (n : Int) := by omega
      have lg : g < wr.heap.size := by omega
      have gq : g ≠ w.heap.size := by omega
      have HY := Lib.hid hy
      obtain ⟨xw, xr, xg⟩ := y
      dsimp only at c0
      clear hc hy
      by_cases hs : xw = k1
      · have HX := Lib.hid (show ixS (isP k1) l = k from ixS_at HNO.out HY.out (isP_iff.mpr hs))
        subst hs
        clear HY HNO HR HN HQ
        go_wp2_with fail
        exact bodyPost_ret (v := .int .i64 (k : Int)) (by simp [results, Try.results24, go_sem]) rfl ⟨by rw [HX.out], HB1.out⟩
      · go_wp2_with fail
        go_roundw
        case rel => exact ⟨k + 1, by omega, by go_num, (by first | exact True.intro | rfl), fun j x hj hx => by
          rcases Nat.lt_or_ge j k with h | h
          · exact HNO.out j x h hx
          · obtain rfl : j = k := by omega
            rw [HY.out] at hx
            injection hx with hx
            rw [← hx]
            exact isP_not.mpr hs⟩
        case measure => simp [intOf]; omega
    · obtain rfl : k = n := by omega
      have HX := Lib.hid (show ixS (isP k1) l = -1 from ixS_no (fun j x hx => HNO.out j x (by have := (List.getElem?_eq_some_iff.1 hx).1; rw [HN.out] at this; exact this) hx))
      clear HNO HR HN HQ
      go_wp2_with fail
      exact bodyPost_ret (v := .int .i64 (-1)) (by simp [results, Try.results24, go_sem]) rfl ⟨by rw [HX.out], HB1.out⟩

set_option maxHeartbeats 3200000 in
theorem rtrack18 (a1 a2 a3 a4 : Int) (P B : Value) (A : Option Addr) (c : Nat) (l : List Tm) (k1 : Int) (w : World) (hr : Row w w.heap.size 4 A l.length (tmC l)) (hl : l.length ≤ 4096) :
    Calls Try.prog 50 #[.agg #[.int .i64 a1, .int .i64 a2, .int .i64 a3, .int .i64 a4, P, .slice A l.length c, B], .int .i64 k1] w fun e w' => e = .returned (.int .i64 (ixS (fun x => isT k1 x.t) l)) ∧ Below w.heap.size w w' := by
  obtain ⟨n, hn⟩ : ∃ n, l.length = n := ⟨_, rfl⟩
  have HN := Lib.hid hn
  rw [hn] at hl hr ⊢
  obtain ⟨w1, hw1⟩ : ∃ z, z = w.alloc (.cells #[.int .i64 a1, .int .i64 a2, .int .i64 a3, .int .i64 a4, P, .slice A n c, B] 37) := ⟨_, rfl⟩
  have HB1 := Lib.hid (show Below w.heap.size w w1 by rw [hw1]; exact (Below.refl _ _).alloc (Nat.le_refl _) _)
  have HQ := Lib.hid (show Whole w1 w.heap.size 37 #[.int .i64 a1, .int .i64 a2, .int .i64 a3, .int .i64 a4, P, .slice A n c, B] by rw [hw1]; exact Whole.new w _ _)
  have HR := Lib.hid (hr.below HB1.out (Nat.le_refl _))
  have hz1 : w1.heap.size = w.heap.size + 1 := by rw [hw1]; simp
  have r4 := HQ.out.cell 5
  have lR := HQ.out.lt
  clear hr hn
  go_enter Try.func50, Try.ntmps50
  go_upto_region 1 with fail
  rw [← hw1]
  clear hw1
  go_wp2_with fail
  go_loopw [5] (fun i wr => ∃ k : Nat, k ≤ n ∧ i = .int .i64 (k : Int) ∧ wr = w1 ∧ ∀ (j : Nat) (x : Tm), j < k → l[j]? = some x → (fun x => isT k1 x.t) x = false) (fun i _ => n - (intOf i).toNat)
  case atStart => exact ⟨0, Nat.zero_le _, rfl, rfl, fun j x h => by omega⟩
  case round =>
    obtain ⟨k, hk, rfl, rfl, hno⟩ := hrel
    have HNO := Lib.hid hno
    clear hno
    by_cases hlt : k < n
    · obtain ⟨y, hy⟩ : ∃ y, l[k]? = some y := ⟨_, List.getElem?_eq_getElem (by rw [HN.out]; exact hlt)⟩
      obtain ⟨g, o, rfl, hg, hc⟩ := HR.out.2 (by omega)
      have c0 := hc _ _ ((tmC_get hy 0 (by decide)).trans rfl)
      rw [Nat.add_zero] at c0
      have i0 : (0 : Int) ≤ (k : Int) := by omega
      have i1 : (k : Int) < (n : Int) := by omega
      have lg : g < wr.heap.size := by omega
      have gq : g ≠ w.heap.size := by omega
      have HY := Lib.hid hy
      obtain ⟨⟨xi, xo, xf, xs⟩, xA, xc⟩ := y
      dsimp only at c0
      clear hc hy
      by_cases hs : xi = k1
      · have HX := Lib.hid (show ixS (fun x : Tm => isT k1 x.t) l = k from ixS_at HNO.out HY.out (isT_iff.mpr hs))
        subst hs
        clear HY HNO HR HN HQ
        go_wp2_with fail
        exact bodyPost_ret (v := .int .i64 (k : Int)) (by simp [results, Try.results50, go_sem]) rfl ⟨by rw [HX.out], HB1.out⟩
      · go_wp2_with fail
        go_roundw
        case rel => exact ⟨k + 1, by omega, by go_num, (by first | exact True.intro | rfl), fun j x hj hx => by
          rcases Nat.lt_or_ge j k with h | h
          · exact HNO.out j x h hx
          · obtain rfl : j = k := by omega
            rw [HY.out] at hx
            injection hx with hx
            rw [← hx]
            exact isT_not.mpr hs⟩
        case measure => simp [intOf]; omega
    · obtain rfl : k = n := by omega
      have HX := Lib.hid (show ixS (fun x => isT k1 x.t) l = -1 from ixS_no (fun j x hx => HNO.out j x (by have := (List.getElem?_eq_some_iff.1 hx).1; rw [HN.out] at this; exact this) hx))
      clear HNO HR HN HQ
      go_wp2_with fail
      exact bodyPost_ret (v := .int .i64 (-1)) (by simp [results, Try.results50, go_sem]) rfl ⟨by rw [HX.out], HB1.out⟩

set_option maxHeartbeats 3200000 in
theorem rsub18 (a1 a2 a3 a4 : Int) (P T : Value) (A : Option Addr) (c : Nat) (l : List Sb) (k1 k2 : Int) (w : World) (hr : Row w w.heap.size 5 A l.length (sbC l)) (hl : l.length ≤ 4096) :
    Calls Try.prog 34 #[.agg #[.int .i64 a1, .int .i64 a2, .int .i64 a3, .int .i64 a4, P, T, .slice A l.length c], .int .i64 k1, .int .i64 k2] w fun e w' => e = .returned (.int .i64 (ixS (isB k1 k2) l)) ∧ Below w.heap.size w w' := by
  obtain ⟨n, hn⟩ : ∃ n, l.length = n := ⟨_, rfl⟩
  have HN := Lib.hid hn
  rw [hn] at hl hr ⊢
  obtain ⟨w1, hw1⟩ : ∃ z, z = w.alloc (.cells #[.int .i64 a1, .int .i64 a2, .int .i64 a3, .int .i64 a4, P, T, .slice A n c] 37) := ⟨_, rfl⟩
  have HB1 := Lib.hid (show Below w.heap.size w w1 by rw [hw1]; exact (Below.refl _ _).alloc (Nat.le_refl _) _)
  have HQ := Lib.hid (show Whole w1 w.heap.size 37 #[.int .i64 a1, .int .i64 a2, .int .i64 a3, .int .i64 a4, P, T, .slice A n c] by rw [hw1]; exact Whole.new w _ _)
  have HR := Lib.hid (hr.below HB1.out (Nat.le_refl _))
  have hz1 : w1.heap.size = w.heap.size + 1 := by rw [hw1]; simp
  have r4 := HQ.out.cell 6
  have lR := HQ.out.lt
  clear hr hn
  go_enter Try.func34, Try.ntmps34
  go_upto_region 1 with fail
  rw [← hw1]
  clear hw1
  go_wp2_with fail
  go_loopw [7] (fun i wr => ∃ k : Nat, k ≤ n ∧ i = .int .i64 (k : Int) ∧ wr = w1 ∧ ∀ (j : Nat) (x : Sb), j < k → l[j]? = some x → (isB k1 k2) x = false) (fun i _ => n - (intOf i).toNat)
  case atStart => exact ⟨0, Nat.zero_le _, rfl, rfl, fun j x h => by omega⟩
  case round =>
    obtain ⟨k, hk, rfl, rfl, hno⟩ := hrel
    have HNO := Lib.hid hno
    clear hno
    by_cases hlt : k < n
    · obtain ⟨y, hy⟩ : ∃ y, l[k]? = some y := ⟨_, List.getElem?_eq_getElem (by rw [HN.out]; exact hlt)⟩
      obtain ⟨g, o, rfl, hg, hc⟩ := HR.out.2 (by omega)
      have c0 := hc _ _ ((sbC_get hy 0 (by decide)).trans rfl)
      have c1 := hc _ _ ((sbC_get hy 1 (by decide)).trans rfl)
      rw [Nat.add_zero] at c0
      rw [← Nat.add_assoc] at c1
      have i0 : (0 : Int) ≤ (k : Int) := by omega
      have i1 : (k : Int) < (n : Int) := by omega
      have lg : g < wr.heap.size := by omega
      have gq : g ≠ w.heap.size := by omega
      have HY := Lib.hid hy
      obtain ⟨xw, xt, xl, xd, xm⟩ := y
      dsimp only at c0 c1
      clear hc hy
      by_cases hs : xw = k1
      · by_cases ht : xt = k2
        · have HX := Lib.hid (show ixS (isB k1 k2) l = k from ixS_at HNO.out HY.out (isB_iff.mpr ⟨hs, ht⟩))
          subst hs ht
          clear HY HNO HR HN HQ
          go_wp2_with fail
          exact bodyPost_ret (v := .int .i64 (k : Int)) (by simp [results, Try.results34, go_sem]) rfl ⟨by rw [HX.out], HB1.out⟩
        · subst hs
          go_wp2_with fail
          go_roundw
          case rel => exact ⟨k + 1, by omega, by go_num, (by first | exact True.intro | rfl), fun j x hj hx => by
            rcases Nat.lt_or_ge j k with h | h
            · exact HNO.out j x h hx
            · obtain rfl : j = k := by omega
              rw [HY.out] at hx
              injection hx with hx
              rw [← hx]
              exact isB_not.mpr (fun e => ht e.2)⟩
          case measure => simp [intOf]; omega
      · go_wp2_with fail
        go_roundw
        case rel => exact ⟨k + 1, by omega, by go_num, (by first | exact True.intro | rfl), fun j x hj hx => by
          rcases Nat.lt_or_ge j k with h | h
          · exact HNO.out j x h hx
          · obtain rfl : j = k := by omega
            rw [HY.out] at hx
            injection hx with hx
            rw [← hx]
            exact isB_not.mpr (fun e => hs e.1)⟩
        case measure => simp [intOf]; omega
    · obtain rfl : k = n := by omega
      have HX := Lib.hid (show ixS (isB k1 k2) l = -1 from ixS_no (fun j x hx => HNO.out j x (by have := (List.getElem?_eq_some_iff.1 hx).1; rw [HN.out] at this; exact this) hx))
      clear HNO HR HN HQ
      go_wp2_with fail
      exact bodyPost_ret (v := .int .i64 (-1)) (by simp [results, Try.results34, go_sem]) rfl ⟨by rw [HX.out], HB1.out⟩
end Go.Proofs.Ytmmeceehfdbdoaa
