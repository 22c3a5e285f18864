/-
  The library's sort of downtracks by who is sent them: the closure that compares two, and what is there behind it.
-/
import Derived.Test.YtgjhcnpegaemoaaSrS
import Derived.Test.YtgjhcnpegaemoaaSrL
import Derived.Test.YtgjhcnpegaemoaaTbL
import Derived.Deep.CutBlock
import Derived.Deep.DeepCutAuto
import Derived.RegionTactic
namespace Go.Proofs.Ytgjhcnpegaemoaa
open Go.RowKit
set_option linter.unusedSimpArgs false
set_option linter.unusedVariables false
set_option maxRecDepth 100000

theorem isnan_int (a : Int) (w : World) : Calls Try.prog 36 #[.int .i64 a] w fun e w' => e = .returned (.bool false) ∧ w' = w := by
  go_enter Try.func36, Try.ntmps36
  go_wp2
  go_ret
  exact ⟨rfl, rfl⟩
/-- -1, 0 or 1. -/
def cmpI (a b : Int) : Int := if a < b then -1 else if b < a then 1 else 0
theorem cmpI_neg (a b : Int) : cmpI a b < 0 ↔ a < b := by
  unfold cmpI
  by_cases h : a < b
  · simp [h]
  · by_cases h2 : b < a <;> simp [h, h2]
theorem cmp_int (a b : Int) (w : World) : Calls Try.prog 28 #[.int .i64 a, .int .i64 b] w fun e w' => e = .returned (.int .i64 (cmpI a b)) ∧ w' = w := by
  unfold cmpI
  have C := Lib.hid (fun x wx => isnan_int x wx)
  by_cases h1 : a < b
  · rw [if_pos h1]
    go_enter Try.func28, Try.ntmps28
    go_wp2_with fail
    refine (C.out _ _).mono ?_
    rintro e w1 ⟨rfl, rfl⟩
    go_wp2_with fail
    refine (C.out _ _).mono ?_
    rintro e w2 ⟨rfl, rfl⟩
    go_wp2
    go_ret
    exact ⟨rfl, rfl⟩
  · rw [if_neg h1]
    by_cases h2 : b < a
    · rw [if_pos h2]
      go_enter Try.func28, Try.ntmps28
      go_wp2_with fail
      refine (C.out _ _).mono ?_
      rintro e w1 ⟨rfl, rfl⟩
      go_wp2_with fail
      refine (C.out _ _).mono ?_
      rintro e w2 ⟨rfl, rfl⟩
      go_wp2
      go_ret
      exact ⟨rfl, rfl⟩
    · rw [if_neg h2]
      go_enter Try.func28, Try.ntmps28
      go_wp2_with fail
      refine (C.out _ _).mono ?_
      rintro e w1 ⟨rfl, rfl⟩
      go_wp2_with fail
      refine (C.out _ _).mono ?_
      rintro e w2 ⟨rfl, rfl⟩
      go_wp2
      go_ret
      exact ⟨rfl, rfl⟩
/-- The closure. -/
theorem dcmp_any (x y : Dn) (w : World) : Calls Try.prog 27 #[.agg x.cells.toArray, .agg y.cells.toArray] w fun e w' => e = .returned (.int .i64 (cmpI x.who y.who)) ∧ ∃ q os', w' = Sort.grow (w.drewN q) os' := by
  have C := Lib.hid (fun a b wx => cmp_int a b wx)
  obtain ⟨x0, x1, x2, x3, x4, x5, x6, x7, x8, x9⟩ := x
  obtain ⟨y0, y1, y2, y3, y4, y5, y6, y7, y8, y9⟩ := y
  unfold Dn.cells
  dsimp only
  go_enter Try.func27, Try.ntmps27
  go_wp2_with fail
  refine (C.out _ _ _).mono ?_
  rintro e w2 ⟨rfl, rfl⟩
  go_wp2
  go_ret
  exact ⟨rfl, 0, _, by rw [Sort.alloc_eq_grow, Sort.alloc_eq_grow, Sort.grow_grow]; rfl⟩
instance : Inhabited Dn := ⟨zeroD⟩
theorem swo_who : Sort.SWO (ltOf fun x y : Dn => cmpI x.who y.who) where
  irrefl x := by unfold ltOf; rw [decide_eq_false]; rw [cmpI_neg]; omega
  trans x y z h1 h2 := by unfold ltOf at *; rw [decide_eq_true_iff, cmpI_neg] at *; omega
  ntrans x y z h1 h2 := by unfold ltOf at *; rw [decide_eq_false_iff_not, cmpI_neg] at *; omega
/-- Behind the sort: the same ones, none ahead of a lower one, in the same block. -/
def Sorted17 (base : Nat) (A : Option Addr) (c : Nat) (l : List Dn) (w : World) (e : Ending) (w' : World) : Prop :=
  e = .returned (.tuple #[]) ∧ ∃ l' : List Dn, l'.Perm l ∧ (l'.Pairwise fun a b => ¬ b.who < a.who) ∧ w'.ownsRow base 41 10 (.slice A l.length c) l.length (dnC l') ∧ But (fun q => (Value.slice A l.length c).ownBlock = some q) w w'
theorem tsort17 (base : Nat) (A : Option Addr) (c : Nat) (l : List Dn) (w : World) (h : w.ownsRow base 41 10 (.slice A l.length c) l.length (dnC l)) (hl : l.length ≤ 4096) :
    Calls Try.prog 26 #[.slice A l.length c, .func (.func 27) #[] #[]] w (Sorted17 base A c l w) := by
  rcases Nat.eq_zero_or_pos l.length with h0 | h0
  · have hcon := AnyF.slices_SortFunc_none sortD A c (.func (.func 27) #[] #[]) w
    change Calls Try.prog 26 _ _ _ at hcon
    obtain rfl : l = [] := List.eq_nil_of_length_eq_zero h0
    refine hcon.mono ?_
    rintro e w' ⟨rfl, rfl⟩
    exact ⟨rfl, [], .refl _, .nil, h, But.refl _ _⟩
  · obtain ⟨g, cur, rfl, _, hW, _⟩ := own_wholeX h h0
    have hk : ∀ x : Dn, x.cells.length = 10 := fun _ => rfl
    have eg : ∀ args w, (callFunc 27 args).run Try.prog w = .ok (.enter 27 args) w := enters_of Try.func27 (by kernel_rfl) rfl
    have hcon := AnyQ.slices_SortFunc sortD 10 Try.isAgg41 Try.sizeOf41 Dn.cells hk (fun x v hv => dn_one [x] v (by simpa [dnC] using hv)) (fun x y => cmpI x.who y.who) swo_who 27 #[] g 0 c l.toArray w eg (fun _ _ _ _ x y => dcmp_any x y _) (own_holds Dn.cells 10 w hk h h0) hW.lt (by simp; omega)
    change Calls Try.prog 26 _ _ _ at hcon
    rw [List.size_toArray] at hcon
    refine hcon.mono ?_
    rintro e w' ⟨rfl, d', m, os, ⟨hs, _, hp⟩, hsorted, rfl⟩
    have hs' : d'.size = l.length := by simpa using hs
    have e1 : (d'.extract 0 l.length).toList = d'.toList := by rw [← hs', Array.extract_size]
    have e2 : (l.toArray.extract 0 l.length).toList = l := by simp
    have hp' : d'.toList.Perm l := by rw [e1, e2] at hp; exact hp
    refine ⟨rfl, d'.toList, hp', ?_, sort_own Dn.cells 10 w hk h d' hs' os, ?_⟩
    · rw [List.pairwise_iff_getElem]
      intro i j hi hj hij
      have h1 := hsorted i j (Nat.zero_le _) hij (by rw [← hs']; simpa using hj)
      unfold ltOf at h1
      rw [decide_eq_false_iff_not, cmpI_neg] at h1
      rw [getElem!_pos d' j (by simpa using hj), getElem!_pos d' i (by simpa using hi)] at h1
      simpa using h1
    · exact (sortWorld_but Dn.cells 10 w g 0 m d' os).mono fun j _ h => by rw [h]; rfl
end Go.Proofs.Ytgjhcnpegaemoaa
