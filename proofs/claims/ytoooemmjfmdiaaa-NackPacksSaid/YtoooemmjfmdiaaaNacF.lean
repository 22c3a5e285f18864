/-
  The examples of layer 8; pairs and numbers that came in.
-/
import Derived.Test.YtoooemmjfmdiaaaNacD
import Derived.Test.YtoooemmjfmdiaaaNacE
import Derived.Test.YtoooemmjfmdiaaaLift
namespace Go.Proofs.Ytoooemmjfmdiaaa
open Go.RowKit

/-- Cells of a row of the call's own. -/
theorem own_cell {w : World} {base : Nat} {e : TypeId} {z n : Nat} {A : Option Addr} {c : Nat} {xs : List Value} (h : w.ownsRow base e z (.slice A n c) n xs) (hn : 0 < n) :
    ∃ g, A = some ⟨g, 0, none⟩ ∧ base ≤ g ∧ g < w.heap.size ∧ ∀ j, j < n * z → w.cell? ⟨g, j, none⟩ = xs[j]? := by
  obtain ⟨g, cap, hv, hb, hg⟩ := h.form hn
  have hA : A = some ⟨g, 0, none⟩ := by injection hv
  subst hA
  exact ⟨g, rfl, hb, hg, fun j hj => h.cellAt j hj⟩

/-- The contracts once more, with lengths under names of their own. -/
def Nums (xs : List Nat) (N : Nat) (w : World) (e : Ending) (w' : World) : Prop :=
  ∃ A c, e = .returned (.slice A N c) ∧ w'.ownsRow w.heap.size 25 1 (.slice A N c) N (n16 xs) ∧ Below w.heap.size w w'
theorem list_as (A : Option Addr) (c n N : Nat) (l : List (Nat × Nat)) (xs : List Nat) (w : World) (h : Row w w.heap.size 2 A n (prC l)) (hf : Fit l) (hn : l.length = n) (hl : n ≤ 4096) (hxs : listS l = xs) (hN : xs.length = N) :
    Calls Try.prog 10 #[.slice A n c] w (Nums xs N w) := by
  subst hn hN hxs
  exact list_any A c l w h hf hl
def Pairs (ps : List (Nat × Nat)) (N : Nat) (w : World) (e : Ending) (w' : World) : Prop :=
  ∃ A c, e = .returned (.slice A N c) ∧ w'.ownsRow w.heap.size 27 2 (.slice A N c) N (prC ps) ∧ Below w.heap.size w w'
theorem pack_as (A : Option Addr) (c n N : Nat) (l : List Nat) (ps : List (Nat × Nat)) (w : World) (h : Row w w.heap.size 1 A n (n16 l)) (hf : ∀ x ∈ l, x < 65536) (hn : l.length = n) (hl : n ≤ 4096) (hps : packS l = ps) (hN : ps.length = N) :
    Calls Try.prog 12 #[.slice A n c] w (Pairs ps N w) := by
  subst hn hN hps
  exact pack_any A c l w h hf hl
def Ints (xs : List Nat) (N : Nat) (w : World) (e : Ending) (w' : World) : Prop :=
  ∃ A c, e = .returned (.slice A N c) ∧ w'.ownsRow w.heap.size 3 1 (.slice A N c) N (i64s xs) ∧ Below w.heap.size w w'
theorem refList_as (A : Option Addr) (c n N : Nat) (l : List (Nat × Nat)) (xs : List Nat) (w : World) (h : Row w w.heap.size 2 A n (dpC l)) (hf : Fit l) (hn : l.length = n) (hl : n ≤ 4096) (hxs : listS l = xs) (hN : xs.length = N) :
    Calls Try.prog 11 #[.slice A n c] w (Ints xs N w) := by
  subst hn hN hxs
  exact refList_any A c l w h hf hl
def Ps (ps : List (Nat × Nat)) (N : Nat) (w : World) (e : Ending) (w' : World) : Prop :=
  ∃ A c, e = .returned (.slice A N c) ∧ w'.ownsRow w.heap.size 29 2 (.slice A N c) N (dpC ps) ∧ Below w.heap.size w w'
theorem refPack_as (A : Option Addr) (c n N : Nat) (l : List Nat) (ps : List (Nat × Nat)) (w : World) (h : Row w w.heap.size 1 A n (i64s l)) (hf : ∀ x ∈ l, x < 65536) (hn : l.length = n) (hl : n ≤ 4096) (hps : packS l = ps) (hN : ps.length = N) :
    Calls Try.prog 13 #[.slice A n c] w (Ps ps N w) := by
  subst hn hN hps
  exact refPack_any A c l w h hf hl

set_option maxRecDepth 100000 in
theorem awake_any (w : World) : Calls Try.prog 9 #[] w fun e w' => e = .returned (.bool true) ∧ Below w.heap.size w w' := by
  have hrow : Row (w.alloc (.cells #[.int .u16 5, .int .u16 6, .int .u16 8] 25)) (w.alloc (.cells #[.int .u16 5, .int .u16 6, .int .u16 8] 25)).heap.size 1 (some ⟨w.heap.size, 0, none⟩) 3 (n16 [5, 6, 8]) := Row.fresh _ _ _ _ _ _ rfl rfl
  have HR := Lib.hid hrow
  have HB := Lib.hid ((Below.refl w.heap.size w).alloc (Nat.le_refl _) (.cells #[.int .u16 5, .int .u16 6, .int .u16 8] 25))
  clear hrow
  go_enter Try.func9, Try.ntmps9
  go_wp2_with fail
  refine (pack_any _ 3 [5, 6, 8] _ HR.out (by decide) (by decide)).mono ?_
  rintro e w1 ⟨A1, c1, rfl, hown1, b1⟩
  rw [show packS [5, 6, 8] = [(5, 5)] from by decide] at hown1
  rw [show (packS [5, 6, 8]).length = 1 from by decide]
  have hown1' : w1.ownsRow w.heap.size 27 2 (.slice A1 1 c1) 1 (prC [(5, 5)]) := own_base hown1 (by simp)
  have HB1 := Lib.hid (HB.out.trans (b1.mono (by simp)))
  obtain ⟨g1, rfl, hg1, hg1', hc1⟩ := own_cell hown1' (by decide)
  have hrow1 := Row.of_own hown1'
  have HR1 := Lib.hid hrow1
  have HC1 := Lib.hid hc1
  clear hown1 hown1' b1 HB HR hrow1 hc1
  go_wp2_with fail
  refine (list_any _ c1 [(5, 5)] _ HR1.out (by unfold Fit; decide) (by decide)).mono ?_
  rintro e w2 ⟨A2, c2, rfl, hown2, b2⟩
  rw [show listS [(5, 5)] = [5, 6, 8] from by decide] at hown2
  rw [show (listS [(5, 5)]).length = 3 from by decide]
  obtain ⟨g2, rfl, hg2, hg2', hc2⟩ := own_cell hown2 (by decide)
  have k0 : w2.cell? ⟨g1, 0, none⟩ = some (.int .u16 5) := (b2.cell (p := ⟨g1, 0, none⟩) hg1').trans (HC1.out 0 (by decide))
  have k1 : w2.cell? ⟨g1, 1, none⟩ = some (.int .u16 5) := (b2.cell (p := ⟨g1, 1, none⟩) hg1').trans (HC1.out 1 (by decide))
  have k2 : w2.cell? ⟨g2, 1, none⟩ = some (.int .u16 6) := hc2 1 (by decide)
  have k3 : w2.cell? ⟨g2, 2, none⟩ = some (.int .u16 8) := hc2 2 (by decide)
  have HB2 := Lib.hid (HB1.out.trans (b2.mono HB1.out.size))
  clear HR1 HC1 HB1 hown2 b2 hc2
  go_wp2
  go_ret
  exact ⟨ret_bool (by simp), HB2.out⟩

section
open Go.ChangeShapes Go.WideShapes Go.ChangeAt
variable {H : Type} {enc : TypeId × Value → H} {W : World}

theorem u16_nat {l : List Int} (h : ∀ x ∈ l, (Lit.int .u16 x).wf = true) : ∃ m : List Nat, l = m.map (fun (x : Nat) => (x : Int)) ∧ ∀ x ∈ m, x < 65536 := by
  induction l with
  | nil => exact ⟨[], rfl, by simp⟩
  | cons a l ih =>
    obtain ⟨m, hm, hx⟩ := ih (fun x hx => h x (by simp [hx]))
    have ha := wf_u16 (h a (by simp))
    refine ⟨a.toNat :: m, by simp [hm, Int.toNat_of_nonneg ha.1], fun x hx' => ?_⟩
    rcases List.mem_cons.1 hx' with rfl | hx'
    · omega
    · exact hx x hx'
/-- Numbers of 16 bits that came in. -/
theorem open_u16s {r : Reach} {b0 : Nat} {v : Value} {d : DataW H} {p : List MemPlace} (hok : Value.okWide Try.prog W r b0 30 v) (h : DataW.Trod enc Try.prog W 0 (fun _ => true) true 30 v d p) :
    ∃ A c, ∃ l : List Nat, v = .slice A l.length c ∧ l.length ≤ maxLen ∧ Row W W.heap.size 1 A l.length (n16 l) ∧ ∀ x ∈ l, x < 65536 := by
  obtain ⟨A, c, l, rfl, hl, hr, _, _, hw⟩ := open_nums (k := .u16) Try.underlying30 Try.underlying25 (by kernel_rfl) hok h
  obtain ⟨m, rfl, hx⟩ := u16_nat hw
  refine ⟨A, c, m, by simp, by simpa using hl, ?_, hx⟩
  have e : (List.map (fun (x : Nat) => (x : Int)) m).map (Value.int .u16) = n16 m := by simp [n16, Function.comp_def]
  rw [e] at hr
  simpa using hr
/-- Pairs that came in. -/
theorem open_pairs {r : Reach} {b0 : Nat} {v : Value} {d : DataW H} {p : List MemPlace} (hok : Value.okWide Try.prog W r b0 22 v) (h : DataW.Trod enc Try.prog W 0 (fun _ => true) true 22 v d p) :
    ∃ A c, ∃ l : List (Nat × Nat), v = .slice A l.length c ∧ l.length ≤ maxLen ∧ Row W W.heap.size 2 A l.length (prC l) ∧ Fit l := by
  obtain ⟨A, n, c, xss, rfl, hn, hm, hl, hr, hx⟩ := open_rows (z := 2) Try.underlying22 (by kernel_rfl) (by decide) hok h
  obtain ⟨l, rfl, hw⟩ := typed_list (conv := fun p : Nat × Nat => [Value.int .u16 (p.1 : Int), Value.int .u16 (p.2 : Int)]) (Q := fun p => p.1 < 65536 ∧ p.2 < 65536) (xss := xss) (fun cs hcs => by
    obtain ⟨h1, k, y, h2⟩ := hx cs hcs
    obtain ⟨v0, v1, n0, y0, y1, rfl, g0, g1⟩ := trod_two Try.underlying27 rfl rfl (by kernel_rfl) (by kernel_rfl) h1 h2
    obtain ⟨a, ha, _, hwa⟩ := DataW.trod_int Try.underlying25 g0
    obtain ⟨b, hb, _, hwb⟩ := DataW.trod_int Try.underlying25 g1
    have h3 := wf_u16 hwa
    have h4 := wf_u16 hwb
    refine ⟨(a.toNat, b.toNat), ?_, by dsimp only; omega, by dsimp only; omega⟩
    simp only [List.cons.injEq, and_true] at ha hb
    rw [ha, hb]
    simp [Int.toNat_of_nonneg h3.1, Int.toNat_of_nonneg h4.1])
  simp only [List.length_map] at hl
  subst hl
  refine ⟨A, c, l, rfl, by omega, ?_, hw⟩
  have e : (l.map fun p : Nat × Nat => [Value.int .u16 (p.1 : Int), Value.int .u16 (p.2 : Int)]).flatten = prC l := by simp [prC, List.flatMap]
  rw [e] at hr
  exact hr
end
end Go.Proofs.Ytoooemmjfmdiaaa
