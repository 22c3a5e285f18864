/-
  Contracts of package arena: Take.
-/
import Derived.Test.YtejfjjgcajdjmaaArCb
import Derived.Test.YtejfjjgcajdjmaaArQ
import Derived.Deep.CutBlock
import Derived.Deep.DeepCutAuto
import Derived.Deep.QuietTactic
import Derived.Deep.RegionHeld3
import Derived.RegionTactic
import Derived.Laws.OwnMore
import Derived.BigQuiet
import Derived.IntWalk
namespace Go.Proofs.Ytejfjjgcajdjmaa
open Go.RowKit
set_option linter.unusedSimpArgs false
set_option linter.unusedVariables false
set_option maxRecDepth 100000

set_option maxHeartbeats 1600000 in
theorem atakeI_nil (x : Int) (w : World) : Calls Try.prog 10 #[.pointer none, .int .i64 x] w fun e w' => e = .returned (.tuple #[.agg #[.int .i64 0, .int .u32 0], .int .i64 1]) ∧ Below w.heap.size w w' := by
  have HB := Lib.hid ((Below.refl w.heap.size w).alloc (Nat.le_refl _) (.cells #[.int .i64 0, .int .u32 0] 30))
  have W0 := Whole.new w 30 #[.int .i64 0, .int .u32 0]
  have hwl := W0.lt
  clear W0
  go_enter Try.func10, Try.ntmps10
  go_wp2_with fail
  exact bodyPost_ret (v := .tuple #[.agg #[.int .i64 0, .int .u32 0], .int .i64 1]) (by simp [results, Try.results10, go_sem]) rfl ⟨rfl, HB.out⟩
set_option maxHeartbeats 3200000 in
theorem atakeI_any (l : List Sl) (x : Int) (g : Nat) (S : Nat → Prop) (w : World) (h : ArAt true w g S l) (ht : Turns 1000000 l) (hl : l.length ≤ 64) :
    Calls Try.prog 10 #[.pointer (some ⟨g, 0, none⟩), .int .i64 x] w (ArDone true g S (.tuple #[refV (slotA l) (turnT l), .int .i64 (errA l)]) (takeA l (.int .i64 x)) w) := by
  obtain ⟨r, hne, hS, hG, hR, hp⟩ := h
  have HS := Lib.hid hS
  have HP := Lib.hid hp
  rw [if_pos rfl] at hG hR
  obtain ⟨n, hn⟩ : ∃ n, l.length = n := ⟨_, rfl⟩
  have HN := Lib.hid hn
  have HT := Lib.hid ht
  rw [hn] at hG hl
  have hgl := hG.lt
  have hrl := hR.lt
  obtain ⟨w1, hw1⟩ : ∃ z, z = w.alloc (.cells #[.int .i64 0, .int .u32 0] 30) := ⟨_, rfl⟩
  have HG := Lib.hid (show Whole w1 g 62 #[.slice (some ⟨r, 0, none⟩) n n] by rw [hw1]; exact hG.alloc _)
  have HR := Lib.hid (show Whole w1 r 66 (slC l) by rw [hw1]; exact hR.alloc _)
  have HQ := Lib.hid (show Whole w1 w.heap.size 30 #[.int .i64 0, .int .u32 0] by rw [hw1]; exact Whole.new w _ _)
  have HB1 := Lib.hid (show But S w w1 by rw [hw1]; exact (But.refl S w).alloc _)
  have hz1 : w1.heap.size = w.heap.size + 1 := by rw [hw1]; simp
  have hrw : r ≠ w.heap.size := by omega
  have hgw : g ≠ w.heap.size := by omega
  have hrg : g ≠ r := fun h => hne h.symm
  clear hG hR hS hp hn ht
  have g0 := HG.out.cell 0
  rw [hw1] at g0
  go_enter Try.func10, Try.ntmps10
  go_wp2_with fail
  rw [← hw1] at g0 ⊢
  clear hw1
  go_loopw [16] (fun i wr => ∃ k : Nat, k ≤ n ∧ i = .int .i64 (k : Int) ∧ wr = w1 ∧ ∀ (j : Nat) (z : Sl), j < k → l[j]? = some z → z.used = true) (fun i _ => n - (intOf i).toNat)
  case atStart => exact ⟨0, Nat.zero_le _, rfl, rfl, fun j z hj => by omega⟩
  case round =>
    obtain ⟨k, hk, rfl, rfl, hall⟩ := hrel
    have HALL := Lib.hid hall
    clear hall
    by_cases hlt : k < n
    · obtain ⟨y, hy⟩ : ∃ y, l[k]? = some y := ⟨_, List.getElem?_eq_getElem (by rw [HN.out]; exact hlt)⟩
      have HY := Lib.hid hy
      obtain ⟨e0, e1, e2⟩ := slC_get hy
      have c0 := (HR.out.cell (k * 3)).trans e0
      have c1 := (HR.out.cell (k * 3 + 1)).trans e1
      have hty : y.turn ≤ 1000000 := HT.out y (List.mem_of_getElem? hy)
      have i0 : (0 : Int) ≤ (k : Int) := by omega
      have i1 : (k : Int) < (n : Int) := by omega
      have ikn : k < n := hlt
      obtain ⟨yx, yt, yu⟩ := y
      dsimp only at c0 c1 hty
      clear hy e0 e1 e2
      cases yu with
      | true =>
        clear c0 HT
        go_wp2_with fail
        go_roundw
        case rel => exact ⟨k + 1, by omega, by go_num, (by first | exact True.intro | rfl), fun j z hj hz => by
          rcases Nat.lt_or_ge j k with h | h
          · exact HALL.out j z h hz
          · obtain rfl : j = k := by omega
            rw [HY.out] at hz
            injection hz with hz
            rw [← hz]⟩
        case measure => simp [intOf]; omega
      | false =>
        have hlow : lowA l = k := lowA_eq HY.out rfl (fun j z hj hz => HALL.out j z hj hz)
        have hlt' : lowA l < l.length := by rw [hlow, HN.out]; exact hlt
        have hturn : turnA l = yt + 1 := turn_at (by rw [hlow]; exact HY.out)
        have htold := told_yes hlt'
        rw [htold.1, htold.2.1, htold.2.2, hlow, hturn, take_yes hlt', hlow, hturn]
        have hwr : IntKind.u32.wrap ((yt : Int) + 1) = ((yt + 1 : Nat) : Int) := by rw [IntWalk.u32_in _ (by omega)]; omega
        have F := HR.out.free
        have f0 := F (k * 3)
        have f1 := F (k * 3 + 1)
        have f2 := F (k * 3 + 2)
        have FQ := HQ.out.free
        have fq0 := FQ 0
        have fq1 := FQ 1
        have q0 := HQ.out.cell 0
        have q1 := HQ.out.cell 1
        have hrl1 : r < wr.heap.size := by omega
        have hgl1 : g < wr.heap.size := by omega
        have hql1 : w.heap.size < wr.heap.size := by omega
        have hsz : (slC l).size = n * 3 := by rw [slC_size, HN.out]
        obtain ⟨u2, c2⟩ : ∃ u, wr.cell? ⟨r, k * 3 + 2, none⟩ = some u := ⟨_, (HR.out.cell (k * 3 + 2)).trans (Array.getElem?_eq_getElem (by omega))⟩
        have HF := Lib.hid (show ArDone true g S (.tuple #[refV k (yt + 1), .int .i64 0]) (l.set k ⟨.int .i64 x, yt + 1, true⟩) w (.returned (.tuple #[.agg #[.int .i64 (k : Int), .int .u32 ((yt : Int) + 1)], .int .i64 0]))
            (((((wr.setCell ⟨r, k * 3, none⟩ (.int .u32 ((yt : Int) + 1))).setCell ⟨r, k * 3 + 1, none⟩ (.bool true)).setCell ⟨r, k * 3 + 2, none⟩ (.int .i64 x)).setCell ⟨w.heap.size, 0, none⟩ (.int .i64 (k : Int))).setCell ⟨w.heap.size, 1, none⟩ (.int .u32 ((yt : Int) + 1))) from
          ⟨S, rfl, ⟨r, hne, HS.out, by rw [if_pos rfl, List.length_set, HN.out]; exact ((((HG.out.far (p := ⟨r, k * 3, none⟩) hrg _).far (p := ⟨r, k * 3 + 1, none⟩) hrg _).far (p := ⟨r, k * 3 + 2, none⟩) hrg _).far (p := ⟨w.heap.size, 0, none⟩) hgw _).far (p := ⟨w.heap.size, 1, none⟩) hgw _,
            by rw [if_pos rfl, slC_set]; exact ((((HR.out.set (k * 3) _).set (k * 3 + 1) _).set (k * 3 + 2) _).far (p := ⟨w.heap.size, 0, none⟩) hrw _).far (p := ⟨w.heap.size, 1, none⟩) hrw _,
            fun z hz => (List.mem_or_eq_of_mem_set hz).elim (HP.out z) (fun h => by rw [h]; exact ⟨x, rfl⟩)⟩,
          ((((HB1.out.set (p := ⟨r, k * 3, none⟩) (.inl ((HS.out r).2 (.inr rfl))) _).set (p := ⟨r, k * 3 + 1, none⟩) (.inl ((HS.out r).2 (.inr rfl))) _).set (p := ⟨r, k * 3 + 2, none⟩) (.inl ((HS.out r).2 (.inr rfl))) _).set (p := ⟨w.heap.size, 0, none⟩) (.inr (Nat.le_refl _)) _).set (p := ⟨w.heap.size, 1, none⟩) (.inr (Nat.le_refl _)) _,
          fun _ _ h => h⟩)
        clear F FQ hlow hlt' hturn htold HALL HT hsz HS HP HB1
        go_wp2_with fail
        exact bodyPost_ret (v := .tuple #[.agg #[.int .i64 (k : Int), .int .u32 ((yt : Int) + 1)], .int .i64 0]) (by simp [results, Try.results10, go_sem, hql1, q0, q1]) rfl HF.out
    · obtain rfl : k = n := by omega
      have hno : lowA l = l.length := lowA_none (fun j z hz => HALL.out j z (by have := (List.getElem?_eq_some_iff.1 hz).1; rw [HN.out] at this; exact this) hz)
      have hno' : ¬ lowA l < l.length := by omega
      have htold := told_no hno'
      have FQ := HQ.out.free
      have fq0 := FQ 0
      have fq1 := FQ 1
      have q0 := HQ.out.cell 0
      have q1 := HQ.out.cell 1
      have hql1 : w.heap.size < wr.heap.size := by omega
      have HF := Lib.hid (show ArDone true g S (.tuple #[refV (slotA l) (turnT l), .int .i64 (errA l)]) (takeA l (.int .i64 x)) w (.returned (.tuple #[.agg #[.int .i64 0, .int .u32 0], .int .i64 20]))
            ((wr.setCell ⟨w.heap.size, 0, none⟩ (.int .i64 0)).setCell ⟨w.heap.size, 1, none⟩ (.int .u32 0)) from by
          rw [htold.1, htold.2.1, htold.2.2, take_no hno']
          exact ⟨S, rfl, ⟨r, hne, HS.out, by rw [if_pos rfl, HN.out]; exact (HG.out.far (p := ⟨w.heap.size, 0, none⟩) hgw _).far (p := ⟨w.heap.size, 1, none⟩) hgw _, by rw [if_pos rfl]; exact (HR.out.far (p := ⟨w.heap.size, 0, none⟩) hrw _).far (p := ⟨w.heap.size, 1, none⟩) hrw _, HP.out⟩,
          (HB1.out.set (p := ⟨w.heap.size, 0, none⟩) (.inr (Nat.le_refl _)) _).set (p := ⟨w.heap.size, 1, none⟩) (.inr (Nat.le_refl _)) _, fun _ _ h => h⟩)
      clear hno hno' htold HALL HT FQ HS HP HB1
      go_wp2_with fail
      exact bodyPost_ret (v := .tuple #[.agg #[.int .i64 0, .int .u32 0], .int .i64 20]) (by simp [results, Try.results10, go_sem, hql1, q0, q1]) rfl HF.out

set_option maxHeartbeats 1600000 in
theorem atakeS_nil (x : ByteArray) (w : World) : Calls Try.prog 18 #[.pointer none, .string x] w fun e w' => e = .returned (.tuple #[.agg #[.int .i64 0, .int .u32 0], .int .i64 1]) ∧ Below w.heap.size w w' := by
  have HB := Lib.hid ((Below.refl w.heap.size w).alloc (Nat.le_refl _) (.cells #[.int .i64 0, .int .u32 0] 30))
  have W0 := Whole.new w 30 #[.int .i64 0, .int .u32 0]
  have hwl := W0.lt
  clear W0
  go_enter Try.func18, Try.ntmps18
  go_wp2_with fail
  exact bodyPost_ret (v := .tuple #[.agg #[.int .i64 0, .int .u32 0], .int .i64 1]) (by simp [results, Try.results18, go_sem]) rfl ⟨rfl, HB.out⟩
set_option maxHeartbeats 3200000 in
theorem atakeS_any (l : List Sl) (x : ByteArray) (g : Nat) (S : Nat → Prop) (w : World) (h : ArAt false w g S l) (ht : Turns 1000000 l) (hl : l.length ≤ 64) :
    Calls Try.prog 18 #[.pointer (some ⟨g, 0, none⟩), .string x] w (ArDone false g S (.tuple #[refV (slotA l) (turnT l), .int .i64 (errA l)]) (takeA l (.string x)) w) := by
  obtain ⟨r, hne, hS, hG, hR, hp⟩ := h
  have HS := Lib.hid hS
  have HP := Lib.hid hp
  rw [if_neg (by decide)] at hG hR
  obtain ⟨n, hn⟩ : ∃ n, l.length = n := ⟨_, rfl⟩
  have HN := Lib.hid hn
  have HT := Lib.hid ht
  rw [hn] at hG hl
  have hgl := hG.lt
  have hrl := hR.lt
  obtain ⟨w1, hw1⟩ : ∃ z, z = w.alloc (.cells #[.int .i64 0, .int .u32 0] 30) := ⟨_, rfl⟩
  have HG := Lib.hid (show Whole w1 g 71 #[.slice (some ⟨r, 0, none⟩) n n] by rw [hw1]; exact hG.alloc _)
  have HR := Lib.hid (show Whole w1 r 74 (slC l) by rw [hw1]; exact hR.alloc _)
  have HQ := Lib.hid (show Whole w1 w.heap.size 30 #[.int .i64 0, .int .u32 0] by rw [hw1]; exact Whole.new w _ _)
  have HB1 := Lib.hid (show But S w w1 by rw [hw1]; exact (But.refl S w).alloc _)
  have hz1 : w1.heap.size = w.heap.size + 1 := by rw [hw1]; simp
  have hrw : r ≠ w.heap.size := by omega
  have hgw : g ≠ w.heap.size := by omega
  have hrg : g ≠ r := fun h => hne h.symm
  clear hG hR hS hp hn ht
  have g0 := HG.out.cell 0
  rw [hw1] at g0
  go_enter Try.func18, Try.ntmps18
  go_wp2_with fail
  rw [← hw1] at g0 ⊢
  clear hw1
  go_loopw [16] (fun i wr => ∃ k : Nat, k ≤ n ∧ i = .int .i64 (k : Int) ∧ wr = w1 ∧ ∀ (j : Nat) (z : Sl), j < k → l[j]? = some z → z.used = true) (fun i _ => n - (intOf i).toNat)
  case atStart => exact ⟨0, Nat.zero_le _, rfl, rfl, fun j z hj => by omega⟩
  case round =>
    obtain ⟨k, hk, rfl, rfl, hall⟩ := hrel
    have HALL := Lib.hid hall
    clear hall
    by_cases hlt : k < n
    · obtain ⟨y, hy⟩ : ∃ y, l[k]? = some y := ⟨_, List.getElem?_eq_getElem (by rw [HN.out]; exact hlt)⟩
      have HY := Lib.hid hy
      obtain ⟨e0, e1, e2⟩ := slC_get hy
      have c0 := (HR.out.cell (k * 3)).trans e0
      have c1 := (HR.out.cell (k * 3 + 1)).trans e1
      have hty : y.turn ≤ 1000000 := HT.out y (List.mem_of_getElem? hy)
      have i0 : (0 : Int) ≤ (k : Int) := by omega
      have i1 : (k : Int) < (n : Int) := by omega
      have ikn : k < n := hlt
      obtain ⟨yx, yt, yu⟩ := y
      dsimp only at c0 c1 hty
      clear hy e0 e1 e2
      cases yu with
      | true =>
        clear c0 HT
        go_wp2_with fail
        go_roundw
        case rel => exact ⟨k + 1, by omega, by go_num, (by first | exact True.intro | rfl), fun j z hj hz => by
          rcases Nat.lt_or_ge j k with h | h
          · exact HALL.out j z h hz
          · obtain rfl : j = k := by omega
            rw [HY.out] at hz
            injection hz with hz
            rw [← hz]⟩
        case measure => simp [intOf]; omega
      | false =>
        have hlow : lowA l = k := lowA_eq HY.out rfl (fun j z hj hz => HALL.out j z hj hz)
        have hlt' : lowA l < l.length := by rw [hlow, HN.out]; exact hlt
        have hturn : turnA l = yt + 1 := turn_at (by rw [hlow]; exact HY.out)
        have htold := told_yes hlt'
        rw [htold.1, htold.2.1, htold.2.2, hlow, hturn, take_yes hlt', hlow, hturn]
        have hwr : IntKind.u32.wrap ((yt : Int) + 1) = ((yt + 1 : Nat) : Int) := by rw [IntWalk.u32_in _ (by omega)]; omega
        have F := HR.out.free
        have f0 := F (k * 3)
        have f1 := F (k * 3 + 1)
        have f2 := F (k * 3 + 2)
        have FQ := HQ.out.free
        have fq0 := FQ 0
        have fq1 := FQ 1
        have q0 := HQ.out.cell 0
        have q1 := HQ.out.cell 1
        have hrl1 : r < wr.heap.size := by omega
        have hgl1 : g < wr.heap.size := by omega
        have hql1 : w.heap.size < wr.heap.size := by omega
        have hsz : (slC l).size = n * 3 := by rw [slC_size, HN.out]
        obtain ⟨u2, c2⟩ : ∃ u, wr.cell? ⟨r, k * 3 + 2, none⟩ = some u := ⟨_, (HR.out.cell (k * 3 + 2)).trans (Array.getElem?_eq_getElem (by omega))⟩
        have HF := Lib.hid (show ArDone false g S (.tuple #[refV k (yt + 1), .int .i64 0]) (l.set k ⟨.string x, yt + 1, true⟩) w (.returned (.tuple #[.agg #[.int .i64 (k : Int), .int .u32 ((yt : Int) + 1)], .int .i64 0]))
            (((((wr.setCell ⟨r, k * 3, none⟩ (.int .u32 ((yt : Int) + 1))).setCell ⟨r, k * 3 + 1, none⟩ (.bool true)).setCell ⟨r, k * 3 + 2, none⟩ (.string x)).setCell ⟨w.heap.size, 0, none⟩ (.int .i64 (k : Int))).setCell ⟨w.heap.size, 1, none⟩ (.int .u32 ((yt : Int) + 1))) from
          ⟨S, rfl, ⟨r, hne, HS.out, by rw [if_neg (by decide), List.length_set, HN.out]; exact ((((HG.out.far (p := ⟨r, k * 3, none⟩) hrg _).far (p := ⟨r, k * 3 + 1, none⟩) hrg _).far (p := ⟨r, k * 3 + 2, none⟩) hrg _).far (p := ⟨w.heap.size, 0, none⟩) hgw _).far (p := ⟨w.heap.size, 1, none⟩) hgw _,
            by rw [if_neg (by decide), slC_set]; exact ((((HR.out.set (k * 3) _).set (k * 3 + 1) _).set (k * 3 + 2) _).far (p := ⟨w.heap.size, 0, none⟩) hrw _).far (p := ⟨w.heap.size, 1, none⟩) hrw _,
            fun z hz => (List.mem_or_eq_of_mem_set hz).elim (HP.out z) (fun h => by rw [h]; exact ⟨x, rfl⟩)⟩,
          ((((HB1.out.set (p := ⟨r, k * 3, none⟩) (.inl ((HS.out r).2 (.inr rfl))) _).set (p := ⟨r, k * 3 + 1, none⟩) (.inl ((HS.out r).2 (.inr rfl))) _).set (p := ⟨r, k * 3 + 2, none⟩) (.inl ((HS.out r).2 (.inr rfl))) _).set (p := ⟨w.heap.size, 0, none⟩) (.inr (Nat.le_refl _)) _).set (p := ⟨w.heap.size, 1, none⟩) (.inr (Nat.le_refl _)) _,
          fun _ _ h => h⟩)
        clear F FQ hlow hlt' hturn htold HALL HT hsz HS HP HB1
        go_wp2_with fail
        exact bodyPost_ret (v := .tuple #[.agg #[.int .i64 (k : Int), .int .u32 ((yt : Int) + 1)], .int .i64 0]) (by simp [results, Try.results18, go_sem, hql1, q0, q1]) rfl HF.out
    · obtain rfl : k = n := by omega
      have hno : lowA l = l.length := lowA_none (fun j z hz => HALL.out j z (by have := (List.getElem?_eq_some_iff.1 hz).1; rw [HN.out] at this; exact this) hz)
      have hno' : ¬ lowA l < l.length := by omega
      have htold := told_no hno'
      have FQ := HQ.out.free
      have fq0 := FQ 0
      have fq1 := FQ 1
      have q0 := HQ.out.cell 0
      have q1 := HQ.out.cell 1
      have hql1 : w.heap.size < wr.heap.size := by omega
      have HF := Lib.hid (show ArDone false g S (.tuple #[refV (slotA l) (turnT l), .int .i64 (errA l)]) (takeA l (.string x)) w (.returned (.tuple #[.agg #[.int .i64 0, .int .u32 0], .int .i64 20]))
            ((wr.setCell ⟨w.heap.size, 0, none⟩ (.int .i64 0)).setCell ⟨w.heap.size, 1, none⟩ (.int .u32 0)) from by
          rw [htold.1, htold.2.1, htold.2.2, take_no hno']
          exact ⟨S, rfl, ⟨r, hne, HS.out, by rw [if_neg (by decide), HN.out]; exact (HG.out.far (p := ⟨w.heap.size, 0, none⟩) hgw _).far (p := ⟨w.heap.size, 1, none⟩) hgw _, by rw [if_neg (by decide)]; exact (HR.out.far (p := ⟨w.heap.size, 0, none⟩) hrw _).far (p := ⟨w.heap.size, 1, none⟩) hrw _, HP.out⟩,
          (HB1.out.set (p := ⟨w.heap.size, 0, none⟩) (.inr (Nat.le_refl _)) _).set (p := ⟨w.heap.size, 1, none⟩) (.inr (Nat.le_refl _)) _, fun _ _ h => h⟩)
      clear hno hno' htold HALL HT FQ HS HP HB1
      go_wp2_with fail
      exact bodyPost_ret (v := .tuple #[.agg #[.int .i64 0, .int .u32 0], .int .i64 20]) (by simp [results, Try.results18, go_sem, hql1, q0, q1]) rfl HF.out

end Go.Proofs.Ytejfjjgcajdjmaa
