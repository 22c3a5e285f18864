/-
  The document's Parse of layer 7: two bytes and more.
-/
import Derived.Test.YtliiodjcpkabmaaVpUd
import Derived.Test.YtliiodjcpkabmaaVpI
import Derived.BigQuiet
import Derived.Deep.CutBlock
import Derived.Deep.DeepCutAuto
import Derived.RegionTactic
import Derived.Deep.RegionHeld3
import Derived.IntWalk
namespace Go.Proofs.Ytliiodjcpkabmaa
open Go.RowKit
set_option linter.unusedSimpArgs false

set_option maxRecDepth 100000 in
set_option maxHeartbeats 12800000 in
theorem refParse_m20 (b : List UInt8) (m : Nat) (f : UInt8) (ll : List UInt8) (w : World) (hm : b.length = m) (hl : m ≤ 100000) (hb : b = f :: ll) (hA : 128 ≤ f.toNat) (hB : ll ≠ []) (hX : ∀ t l0, ll = t :: l0 → bitN t.toNat 128 = true ∧ ∃ p r, l0 = p :: r ∧ ¬ p.toNat < 128) (hY : ∀ t (l0 : List UInt8), ll = t :: l0 → bitN t.toNat 64 = false) : Calls Try.prog 12 #[.string (str b)] w (RefParsed b w) := by
  have HX0 := Lib.hid hX
  have HY0 := Lib.hid hY
  clear hX hY
  have hf := f.toNat_lt
  have hne : (str b).toList.isEmpty = false := by rw [hb]; exact str_full _ _
  have hsz : (str b).size = m := by rw [str_size, hm]
  have r0 := fun wx => run_at0 b f (by rw [hb]; rfl) wx
  have e1 : bitI (f.toNat : Int) 128 = bitN f.toNat 128 := bitI_eq f.toNat 128
  have e2 : bitI (f.toNat : Int) 32 = bitN f.toNat 32 := bitI_eq f.toNat 32
  have e3 : bitI (f.toNat : Int) 16 = bitN f.toNat 16 := bitI_eq f.toNat 16
  have e8 : (f.toNat : Int).tmod 8 = ((f.toNat % 8 : Nat) : Int) := by rw [Int.tmod_eq_emod_of_nonneg (by omega)]; omega
  have e9 : IntKind.i64.wrap ((f.toNat % 8 : Nat) : Int) = ((f.toNat % 8 : Nat) : Int) := IntWalk.i64_in _ (by omega)
  have hf0 : (0 : Int) ≤ (f.toNat : Int) := by omega
  have hf2 : (f.toNat : Int) < 256 := by omega
  have HB := Lib.hid hb
  have HM := Lib.hid hm
  clear hb hm
  generalize hmo : bitN f.toNat 128 = mo at e1
  generalize hlo : bitN f.toNat 32 = lo at e2
  generalize hst : bitN f.toNat 16 = st at e3
  have hpa8 : f.toNat % 8 < 8 := Nat.mod_lt _ (by decide)
  generalize hpa : f.toNat % 8 = pa at e8 e9 hpa8
  have HLO := Lib.hid hlo
  have HST := Lib.hid hst
  have HPA := Lib.hid hpa
  have HMO := Lib.hid hmo
  have HF8 := Lib.hid hf
  clear hlo hst hpa hmo hf
  go_enter Try.func12, Try.ntmps12
  go_upto_region 3 with fail
  go_cut [7] (fun s7 wx => s7 = .pointer (some ⟨w.heap.size + 1, 0, none⟩) ∧ wx = ((w.alloc (.cells dsc0.plain 31)).alloc (.cells #[.bool mo, .bool lo, .bool st, .int .i64 (pa : Int), .bool false, .bool false, .int .i64 0, .bool false, .int .i64 0, .bool false, .int .i64 0, .bool false, .bool false, .int .i64 0] 31)).drew)
  case first =>
    refine wp_region_noPanic ?_
    refine wp_region_any (by kernel_rfl) ?_
    (try (change wpAny _ _ _ _ _ _ _ (World.drew _)))
    refine wpAny_take (i := 0) (v := ?_) rfl (by kernel_rfl) (by kernel_rfl) (by kernel_rfl) (fun _ _ _ h => h) (Or.inl ⟨by kernel_rfl, ?_⟩) ?_
    rotate_left 1
    · (intro w; go_simp; try (with_reducible rfl))
    (try simp only [Act.put, List.getElem_toArray, List.getElem_cons_succ, List.getElem_cons_zero, List.setIfInBounds_toArray, List.set_cons_zero, List.set_cons_succ])
    refine wpAny_take (i := 1) (v := ?_) rfl (by kernel_rfl) (by kernel_rfl) (by kernel_rfl) (fun _ _ _ h => h) (Or.inl ⟨by kernel_rfl, ?_⟩) ?_
    rotate_left 1
    · (intro w; go_simp; try (with_reducible rfl))
    (try simp only [Act.put, List.getElem_toArray, List.getElem_cons_succ, List.getElem_cons_zero, List.setIfInBounds_toArray, List.set_cons_zero, List.set_cons_succ])
    refine wpAny_take (i := 3) (v := ?_) rfl (by kernel_rfl) (by kernel_rfl) (by kernel_rfl) (fun _ _ _ h => h) (Or.inl ⟨by kernel_rfl, ?_⟩) ?_
    rotate_left 1
    · (intro w; go_simp; try (with_reducible rfl))
    (try simp only [Act.put, List.getElem_toArray, List.getElem_cons_succ, List.getElem_cons_zero, List.setIfInBounds_toArray, List.set_cons_zero, List.set_cons_succ])
    refine wpAny_take (i := 4) (v := ?_) rfl (by kernel_rfl) (by kernel_rfl) (by kernel_rfl) (fun _ _ _ h => h) (Or.inl ⟨by kernel_rfl, ?_⟩) ?_
    rotate_left 1
    · (intro w; go_simp; try (with_reducible rfl))
    (try simp only [Act.put, List.getElem_toArray, List.getElem_cons_succ, List.getElem_cons_zero, List.setIfInBounds_toArray, List.set_cons_zero, List.set_cons_succ])
    refine wpAny_take (i := 6) (v := ?_) rfl (by kernel_rfl) (by kernel_rfl) (by kernel_rfl) (fun _ _ _ h => h) (Or.inl ⟨by kernel_rfl, ?_⟩) ?_
    rotate_left 1
    · (intro w; go_simp; try (with_reducible rfl))
    (try simp only [Act.put, List.getElem_toArray, List.getElem_cons_succ, List.getElem_cons_zero, List.setIfInBounds_toArray, List.set_cons_zero, List.set_cons_succ])
    refine wpAny_take (i := 7) (v := ?_) rfl (by kernel_rfl) (by kernel_rfl) (by kernel_rfl) (fun _ _ _ h => h) (Or.inl ⟨by kernel_rfl, ?_⟩) ?_
    rotate_left 1
    · (intro w; go_simp; try (with_reducible rfl))
    (try simp only [Act.put, List.getElem_toArray, List.getElem_cons_succ, List.getElem_cons_zero, List.setIfInBounds_toArray, List.set_cons_zero, List.set_cons_succ])
    refine wpAny_take (i := 9) (v := ?_) rfl (by kernel_rfl) (by kernel_rfl) (by kernel_rfl) (fun _ _ _ h => h) (Or.inl ⟨by kernel_rfl, ?_⟩) ?_
    rotate_left 1
    · (intro w; go_simp; try (with_reducible rfl))
    (try simp only [Act.put, List.getElem_toArray, List.getElem_cons_succ, List.getElem_cons_zero, List.setIfInBounds_toArray, List.set_cons_zero, List.set_cons_succ])
    refine wpAny_take (i := 10) (v := ?_) rfl (by kernel_rfl) (by kernel_rfl) (by kernel_rfl) (fun _ _ _ h => h) (Or.inl ⟨by kernel_rfl, ?_⟩) ?_
    rotate_left 1
    · (intro w; go_simp; try (with_reducible rfl))
    (try simp only [Act.put, List.getElem_toArray, List.getElem_cons_succ, List.getElem_cons_zero, List.setIfInBounds_toArray, List.set_cons_zero, List.set_cons_succ])
    refine wpAny_take (i := 11) (v := ?_) rfl (by kernel_rfl) (by kernel_rfl) (by kernel_rfl) (fun _ _ _ h => h) (Or.inl ⟨by kernel_rfl, ?_⟩) ?_
    rotate_left 1
    · (intro w; go_simp; try (with_reducible rfl))
    (try simp only [Act.put, List.getElem_toArray, List.getElem_cons_succ, List.getElem_cons_zero, List.setIfInBounds_toArray, List.set_cons_zero, List.set_cons_succ])
    refine wpAny_take (i := 12) (v := ?_) rfl (by kernel_rfl) (by kernel_rfl) (by kernel_rfl) (fun _ _ _ h => h) (Or.inl ⟨by kernel_rfl, ?_⟩) ?_
    rotate_left 1
    · (intro w; go_simp; try (with_reducible rfl))
    (try simp only [Act.put, List.getElem_toArray, List.getElem_cons_succ, List.getElem_cons_zero, List.setIfInBounds_toArray, List.set_cons_zero, List.set_cons_succ])
    refine wpAny_ready (rs := [2, 14]) (by kernel_rfl) (by simp) ?_
    refine AllReady.cons rfl (fun K hK => ?_) ?_
    · go_simp
      go_wp2_with (go_at_call 24; refine (bit_any _ _ _ hf0 hf2 (by decide) (by decide)).mono ?_; rintro e w' ⟨rfl, rfl⟩)
      (try (refine hK _ _ ?_))
      (try (clear hK K))
      (try simp only [Act.put, List.getElem_toArray, List.getElem_cons_succ, List.getElem_cons_zero, List.setIfInBounds_toArray, List.set_cons_zero, List.set_cons_succ])
      refine wpAny_ready (rs := [5, 14]) (by kernel_rfl) (by simp) ?_
      refine AllReady.cons rfl (fun K hK => ?_) ?_
      · go_simp
        go_wp2_with (go_at_call 24; refine (bit_any _ _ _ hf0 hf2 (by decide) (by decide)).mono ?_; rintro e w' ⟨rfl, rfl⟩)
        (try (refine hK _ _ ?_))
        (try (clear hK K))
        (try simp only [Act.put, List.getElem_toArray, List.getElem_cons_succ, List.getElem_cons_zero, List.setIfInBounds_toArray, List.set_cons_zero, List.set_cons_succ])
        refine wpAny_ready (rs := [8, 14]) (by kernel_rfl) (by simp) ?_
        refine AllReady.cons rfl (fun K hK => ?_) ?_
        · go_simp
          go_wp2_with (go_at_call 24; refine (bit_any _ _ _ hf0 hf2 (by decide) (by decide)).mono ?_; rintro e w' ⟨rfl, rfl⟩)
          (try (refine hK _ _ ?_))
          (try (clear hK K))
          (try simp only [Act.put, List.getElem_toArray, List.getElem_cons_succ, List.getElem_cons_zero, List.setIfInBounds_toArray, List.set_cons_zero, List.set_cons_succ])
          refine wpAny_take (i := 13) (v := ?_) rfl (by kernel_rfl) (by kernel_rfl) (by kernel_rfl) (fun _ _ _ h => h) (Or.inl ⟨by kernel_rfl, ?_⟩) ?_
          rotate_left 1
          · (intro w; go_simp; try (with_reducible rfl))
          (try simp only [Act.put, List.getElem_toArray, List.getElem_cons_succ, List.getElem_cons_zero, List.setIfInBounds_toArray, List.set_cons_zero, List.set_cons_succ])
          refine wpAny_ready (rs := [14]) (by kernel_rfl) (by simp) ?_
          refine AllReady.cons rfl (fun K hK => ?_) ?_
          · go_simp
            (try (refine hK _ _ ?_))
            (try (clear hK K))
            (try simp only [Act.put, List.getElem_toArray, List.getElem_cons_succ, List.getElem_cons_zero, List.setIfInBounds_toArray, List.set_cons_zero, List.set_cons_succ])
            refine wpAny_ready (rs := [15]) (by kernel_rfl) (by simp) ?_
            refine AllReady.cons rfl (fun K hK => ?_) ?_
            · go_simp
              (try (refine hK _ _ ?_))
              (try (clear hK K))
              (try simp only [Act.put, List.getElem_toArray, List.getElem_cons_succ, List.getElem_cons_zero, List.setIfInBounds_toArray, List.set_cons_zero, List.set_cons_succ])
              refine wpAny_done (by kernel_rfl) ?_ _
              refine NoPanic.normal ?_
              (try (go_wp2_with fail))
              go_meet
              exact ⟨rfl, rfl⟩
            exact AllReady.nil
          exact AllReady.nil
        refine AllReady.cons rfl (fun K hK => ?_) ?_
        · go_simp
          (try (refine hK _ _ ?_))
          (try (clear hK K))
          (try simp only [Act.put, List.getElem_toArray, List.getElem_cons_succ, List.getElem_cons_zero, List.setIfInBounds_toArray, List.set_cons_zero, List.set_cons_succ])
          refine wpAny_ready (rs := [8]) (by kernel_rfl) (by simp) ?_
          refine AllReady.cons rfl (fun K hK => ?_) ?_
          · go_simp
            go_wp2_with (go_at_call 24; refine (bit_any _ _ _ hf0 hf2 (by decide) (by decide)).mono ?_; rintro e w' ⟨rfl, rfl⟩)
            (try (refine hK _ _ ?_))
            (try (clear hK K))
            (try simp only [Act.put, List.getElem_toArray, List.getElem_cons_succ, List.getElem_cons_zero, List.setIfInBounds_toArray, List.set_cons_zero, List.set_cons_succ])
            refine wpAny_take (i := 13) (v := ?_) rfl (by kernel_rfl) (by kernel_rfl) (by kernel_rfl) (fun _ _ _ h => h) (Or.inl ⟨by kernel_rfl, ?_⟩) ?_
            rotate_left 1
            · (intro w; go_simp; try (with_reducible rfl))
            (try simp only [Act.put, List.getElem_toArray, List.getElem_cons_succ, List.getElem_cons_zero, List.setIfInBounds_toArray, List.set_cons_zero, List.set_cons_succ])
            refine wpAny_ready (rs := [15]) (by kernel_rfl) (by simp) ?_
            refine AllReady.cons rfl (fun K hK => ?_) ?_
            · go_simp
              (try (refine hK _ _ ?_))
              (try (clear hK K))
              (try simp only [Act.put, List.getElem_toArray, List.getElem_cons_succ, List.getElem_cons_zero, List.setIfInBounds_toArray, List.set_cons_zero, List.set_cons_succ])
              refine wpAny_done (by kernel_rfl) ?_ _
              refine NoPanic.normal ?_
              (try (go_wp2_with fail))
              go_meet
              exact ⟨rfl, rfl⟩
            exact AllReady.nil
          exact AllReady.nil
        exact AllReady.nil
      refine AllReady.cons rfl (fun K hK => ?_) ?_
      · go_simp
        (try (refine hK _ _ ?_))
        (try (clear hK K))
        (try simp only [Act.put, List.getElem_toArray, List.getElem_cons_succ, List.getElem_cons_zero, List.setIfInBounds_toArray, List.set_cons_zero, List.set_cons_succ])
        refine wpAny_ready (rs := [5]) (by kernel_rfl) (by simp) ?_
        refine AllReady.cons rfl (fun K hK => ?_) ?_
        · go_simp
          go_wp2_with (go_at_call 24; refine (bit_any _ _ _ hf0 hf2 (by decide) (by decide)).mono ?_; rintro e w' ⟨rfl, rfl⟩)
          (try (refine hK _ _ ?_))
          (try (clear hK K))
          (try simp only [Act.put, List.getElem_toArray, List.getElem_cons_succ, List.getElem_cons_zero, List.setIfInBounds_toArray, List.set_cons_zero, List.set_cons_succ])
          refine wpAny_ready (rs := [8]) (by kernel_rfl) (by simp) ?_
          refine AllReady.cons rfl (fun K hK => ?_) ?_
          · go_simp
            go_wp2_with (go_at_call 24; refine (bit_any _ _ _ hf0 hf2 (by decide) (by decide)).mono ?_; rintro e w' ⟨rfl, rfl⟩)
            (try (refine hK _ _ ?_))
            (try (clear hK K))
            (try simp only [Act.put, List.getElem_toArray, List.getElem_cons_succ, List.getElem_cons_zero, List.setIfInBounds_toArray, List.set_cons_zero, List.set_cons_succ])
            refine wpAny_take (i := 13) (v := ?_) rfl (by kernel_rfl) (by kernel_rfl) (by kernel_rfl) (fun _ _ _ h => h) (Or.inl ⟨by kernel_rfl, ?_⟩) ?_
            rotate_left 1
            · (intro w; go_simp; try (with_reducible rfl))
            (try simp only [Act.put, List.getElem_toArray, List.getElem_cons_succ, List.getElem_cons_zero, List.setIfInBounds_toArray, List.set_cons_zero, List.set_cons_succ])
            refine wpAny_ready (rs := [15]) (by kernel_rfl) (by simp) ?_
            refine AllReady.cons rfl (fun K hK => ?_) ?_
            · go_simp
              (try (refine hK _ _ ?_))
              (try (clear hK K))
              (try simp only [Act.put, List.getElem_toArray, List.getElem_cons_succ, List.getElem_cons_zero, List.setIfInBounds_toArray, List.set_cons_zero, List.set_cons_succ])
              refine wpAny_done (by kernel_rfl) ?_ _
              refine NoPanic.normal ?_
              (try (go_wp2_with fail))
              go_meet
              exact ⟨rfl, rfl⟩
            exact AllReady.nil
          exact AllReady.nil
        exact AllReady.nil
      exact AllReady.nil
    refine AllReady.cons rfl (fun K hK => ?_) ?_
    · go_simp
      (try (refine hK _ _ ?_))
      (try (clear hK K))
      (try simp only [Act.put, List.getElem_toArray, List.getElem_cons_succ, List.getElem_cons_zero, List.setIfInBounds_toArray, List.set_cons_zero, List.set_cons_succ])
      refine wpAny_ready (rs := [2]) (by kernel_rfl) (by simp) ?_
      refine AllReady.cons rfl (fun K hK => ?_) ?_
      · go_simp
        go_wp2_with (go_at_call 24; refine (bit_any _ _ _ hf0 hf2 (by decide) (by decide)).mono ?_; rintro e w' ⟨rfl, rfl⟩)
        (try (refine hK _ _ ?_))
        (try (clear hK K))
        (try simp only [Act.put, List.getElem_toArray, List.getElem_cons_succ, List.getElem_cons_zero, List.setIfInBounds_toArray, List.set_cons_zero, List.set_cons_succ])
        refine wpAny_ready (rs := [5]) (by kernel_rfl) (by simp) ?_
        refine AllReady.cons rfl (fun K hK => ?_) ?_
        · go_simp
          go_wp2_with (go_at_call 24; refine (bit_any _ _ _ hf0 hf2 (by decide) (by decide)).mono ?_; rintro e w' ⟨rfl, rfl⟩)
          (try (refine hK _ _ ?_))
          (try (clear hK K))
          (try simp only [Act.put, List.getElem_toArray, List.getElem_cons_succ, List.getElem_cons_zero, List.setIfInBounds_toArray, List.set_cons_zero, List.set_cons_succ])
          refine wpAny_ready (rs := [8]) (by kernel_rfl) (by simp) ?_
          refine AllReady.cons rfl (fun K hK => ?_) ?_
          · go_simp
            go_wp2_with (go_at_call 24; refine (bit_any _ _ _ hf0 hf2 (by decide) (by decide)).mono ?_; rintro e w' ⟨rfl, rfl⟩)
            (try (refine hK _ _ ?_))
            (try (clear hK K))
            (try simp only [Act.put, List.getElem_toArray, List.getElem_cons_succ, List.getElem_cons_zero, List.setIfInBounds_toArray, List.set_cons_zero, List.set_cons_succ])
            refine wpAny_take (i := 13) (v := ?_) rfl (by kernel_rfl) (by kernel_rfl) (by kernel_rfl) (fun _ _ _ h => h) (Or.inl ⟨by kernel_rfl, ?_⟩) ?_
            rotate_left 1
            · (intro w; go_simp; try (with_reducible rfl))
            (try simp only [Act.put, List.getElem_toArray, List.getElem_cons_succ, List.getElem_cons_zero, List.setIfInBounds_toArray, List.set_cons_zero, List.set_cons_succ])
            refine wpAny_ready (rs := [15]) (by kernel_rfl) (by simp) ?_
            refine AllReady.cons rfl (fun K hK => ?_) ?_
            · go_simp
              (try (refine hK _ _ ?_))
              (try (clear hK K))
              (try simp only [Act.put, List.getElem_toArray, List.getElem_cons_succ, List.getElem_cons_zero, List.setIfInBounds_toArray, List.set_cons_zero, List.set_cons_succ])
              refine wpAny_done (by kernel_rfl) ?_ _
              refine NoPanic.normal ?_
              (try (go_wp2_with fail))
              go_meet
              exact ⟨rfl, rfl⟩
            exact AllReady.nil
          exact AllReady.nil
        exact AllReady.nil
      exact AllReady.nil
    exact AllReady.nil
  case rest =>
    obtain ⟨rfl, hwx⟩ := hcut
    have hWd : Whole wc (w.heap.size + 1) 31 #[.bool mo, .bool lo, .bool st, .int .i64 (pa : Int), .bool false, .bool false, .int .i64 0, .bool false, .int .i64 0, .bool false, .int .i64 0, .bool false, .bool false, .int .i64 0] := by
      rw [hwx]
      exact (Whole.new2 _ _ _ _).drew
    have hWr : Whole wc w.heap.size 31 dsc0.plain := by
      rw [hwx]
      exact ((Whole.new _ _ _).alloc _).drew
    have hB : Below w.heap.size w wc := by
      rw [hwx]
      exact bdrewN (((Below.refl _ w).alloc (Nat.le_refl _) _).alloc (by simp) _) 1
    obtain ⟨gd, hgd⟩ : ∃ gd, gd = w.heap.size + 1 := ⟨_, rfl⟩
    obtain ⟨gr, hgr⟩ : ∃ gr, gr = w.heap.size := ⟨_, rfl⟩
    rw [← hgd] at hWd
    have hg1 : gr ≠ gd := by omega
    have hg2 : w.heap.size ≤ gd := by omega
    have hg3 : w.heap.size ≤ gr := by omega
    rw [← hgr] at hWr
    rw [← hgd, ← hgr]
    have HG := Lib.hid (show (gr ≠ gd ∧ w.heap.size ≤ gd ∧ w.heap.size ≤ gr) from ⟨hg1, hg2, hg3⟩)
    have HWD := Lib.hid hWd
    have HWR := Lib.hid hWr
    have HBW := Lib.hid hB
    have hlt := hWd.lt
    have hlr := hWr.lt
    cases mo with
    | false =>
      have h1 := HMO.out
      have h2 := HF8.out
      unfold bitN at h1
      simp at h1
      exfalso
      omega
    | true =>
    clear hA
    have hf1 : 128 ≤ f.toNat := by
      have h1 := HMO.out
      have h2 := HF8.out
      unfold bitN at h1
      simp at h1
      omega
    have kk0 : wc.cell? ⟨gd, 0, none⟩ = some (.bool true) := HWD.out.cell 0
    cases ll with
    | nil => exact absurd rfl hB
    | cons t l0 =>
    clear hB
    have HX := Lib.hid (HX0.out t l0 rfl)
    have HY := Lib.hid (HY0.out t l0 rfl)
    clear HX0 HY0
    have r1 := fun wx => run_at1 b t (by rw [HB.out]; rfl) wx
    have ht8 := t.toNat_lt
    have hm2 : ¬ (m : Int) < 2 := by rw [← HM.out, HB.out]; simp; omega
    have ht0 : (0 : Int) ≤ (t.toNat : Int) := by omega
    have ht2 : (t.toNat : Int) < 256 := by omega
    have e4 : bitI (t.toNat : Int) 128 = bitN t.toNat 128 := bitI_eq t.toNat 128
    have e5 : bitI (t.toNat : Int) 64 = bitN t.toNat 64 := bitI_eq t.toNat 64
    have e6 : bitI (t.toNat : Int) 32 = bitN t.toNat 32 := bitI_eq t.toNat 32
    have e7 : bitI (t.toNat : Int) 16 = bitN t.toNat 16 := bitI_eq t.toNat 16
    generalize ha : bitN t.toNat 128 = a at e4 HX
    generalize hbb : bitN t.toNat 64 = bb at e5 HY
    generalize hc : bitN t.toNat 32 = c at e6
    generalize he : bitN t.toNat 16 = e at e7
    have HA := Lib.hid ha
    have HBB := Lib.hid hbb
    have HC := Lib.hid hc
    have HE := Lib.hid he
    clear ha hbb hc he ht8 kk0 hlt
    have k0 : wc.cell? ⟨gd, 0, none⟩ = some (.bool true) := hWd.cell 0
    have k4 : wc.cell? ⟨gd, 4, none⟩ = some (.bool false) := hWd.cell 4
    have k7 : wc.cell? ⟨gd, 7, none⟩ = some (.bool false) := hWd.cell 7
    have k9 : wc.cell? ⟨gd, 9, none⟩ = some (.bool false) := hWd.cell 9
    have k12 : wc.cell? ⟨gd, 12, none⟩ = some (.bool false) := hWd.cell 12
    have m4 := hWd.free 4
    have m7 := hWd.free 7
    have m9 := hWd.free 9
    have m12 := hWd.free 12
    have hlt := hWd.lt
    clear hwx hgd hgr hWd hWr hB hg1 hg2 hg3 r0
    go_wp2_with fail
    refine (bit_any _ _ _ ht0 ht2 (by decide) (by decide)).mono ?_
    rintro e' w' ⟨rfl, rfl⟩
    rw [e4]
    go_wp2_with fail
    refine (bit_any _ _ _ ht0 ht2 (by decide) (by decide)).mono ?_
    rintro e' w' ⟨rfl, rfl⟩
    rw [e5]
    go_wp2_with fail
    refine (bit_any _ _ _ ht0 ht2 (by decide) (by decide)).mono ?_
    rintro e' w' ⟨rfl, rfl⟩
    rw [e6]
    go_wp2_with fail
    refine (bit_any _ _ _ ht0 ht2 (by decide) (by decide)).mono ?_
    rintro e' w' ⟨rfl, rfl⟩
    rw [e7]
    go_upto_if 53 with fail
    obtain ⟨w5, hw5⟩ : ∃ w5, w5 = (((wc.setCell ⟨gd, 4, none⟩ (.bool a)).setCell ⟨gd, 7, none⟩ (.bool bb)).setCell ⟨gd, 9, none⟩ (.bool c)).setCell ⟨gd, 12, none⟩ (.bool e) := ⟨_, rfl⟩
    rw [← hw5]
    have HW5 := Lib.hid (show Whole w5 gd 31 (mem lo st pa a false 0 bb 0 c 0 false e 0) from by
      rw [hw5]
      exact (((HWD.out.set 4 (.bool a)).set 7 (.bool bb)).set 9 (.bool c)).set 12 (.bool e))
    have HR5 := Lib.hid (show Whole w5 gr 31 dsc0.plain from by
      rw [hw5]
      exact (((HWR.out.far (p := ⟨gd, 4, none⟩) HG.out.1 _).far (p := ⟨gd, 7, none⟩) HG.out.1 _).far (p := ⟨gd, 9, none⟩) HG.out.1 _).far (p := ⟨gd, 12, none⟩) HG.out.1 _)
    have HB5 := Lib.hid (show Below w.heap.size w w5 from by
      rw [hw5]
      exact (((HBW.out.setCell (p := ⟨gd, 4, none⟩) HG.out.2.1 _).setCell (p := ⟨gd, 7, none⟩) HG.out.2.1 _).setCell (p := ⟨gd, 9, none⟩) HG.out.2.1 _).setCell (p := ⟨gd, 12, none⟩) HG.out.2.1 _)
    clear hw5 k0 k4 k7 k9 k12 m4 m7 m9 m12 hlt HWD HWR HBW r1 hm2
    have HF := Lib.hid (show parseS b = none → ∀ wx, Below w.heap.size w wx → RefParsed b w (.returned (.tuple #[.agg dsc0.plain, .int .i64 0, .int .i64 0, .int .i64 0, .int .i64 10])) wx from fun hp wx h => ⟨.inl ⟨hp, rfl⟩, h⟩)
    have hpp := parse_picks f t l0 hf1
    rw [← HB.out, HA.out, HBB.out, HC.out, HE.out, HLO.out, HST.out, HPA.out] at hpp
    have HPP := Lib.hid hpp
    clear hpp e1 e2 e3 e4 e5 e6 e7 e8 e9 hf0 hf2 ht0 ht2 HA HBB HC HE HLO HST HPA hf1
    have k0 : w5.cell? ⟨gd, 0, none⟩ = some (.bool true) := HW5.out.cell 0
    have k4 : w5.cell? ⟨gd, 4, none⟩ = some (.bool a) := HW5.out.cell 4
    have k5 : w5.cell? ⟨gd, 5, none⟩ = some (.bool false) := HW5.out.cell 5
    have k6 : w5.cell? ⟨gd, 6, none⟩ = some (.int .i64 0) := HW5.out.cell 6
    have m5 := HW5.out.free 5
    have m6 := HW5.out.free 6
    have r0 : w5.cell? ⟨gr, 0, none⟩ = some (.bool false) := HR5.out.cell 0
    have z0 := HR5.out.free 0
    have r1 : w5.cell? ⟨gr, 1, none⟩ = some (.bool false) := HR5.out.cell 1
    have z1 := HR5.out.free 1
    have r2 : w5.cell? ⟨gr, 2, none⟩ = some (.bool false) := HR5.out.cell 2
    have z2 := HR5.out.free 2
    have r3 : w5.cell? ⟨gr, 3, none⟩ = some (.int .i64 0) := HR5.out.cell 3
    have z3 := HR5.out.free 3
    have r4 : w5.cell? ⟨gr, 4, none⟩ = some (.bool false) := HR5.out.cell 4
    have z4 := HR5.out.free 4
    have r5 : w5.cell? ⟨gr, 5, none⟩ = some (.bool false) := HR5.out.cell 5
    have z5 := HR5.out.free 5
    have r6 : w5.cell? ⟨gr, 6, none⟩ = some (.int .i64 0) := HR5.out.cell 6
    have z6 := HR5.out.free 6
    have r7 : w5.cell? ⟨gr, 7, none⟩ = some (.bool false) := HR5.out.cell 7
    have z7 := HR5.out.free 7
    have r8 : w5.cell? ⟨gr, 8, none⟩ = some (.int .i64 0) := HR5.out.cell 8
    have z8 := HR5.out.free 8
    have r9 : w5.cell? ⟨gr, 9, none⟩ = some (.bool false) := HR5.out.cell 9
    have z9 := HR5.out.free 9
    have r10 : w5.cell? ⟨gr, 10, none⟩ = some (.int .i64 0) := HR5.out.cell 10
    have z10 := HR5.out.free 10
    have r11 : w5.cell? ⟨gr, 11, none⟩ = some (.bool false) := HR5.out.cell 11
    have z11 := HR5.out.free 11
    have r12 : w5.cell? ⟨gr, 12, none⟩ = some (.bool false) := HR5.out.cell 12
    have z12 := HR5.out.free 12
    have r13 : w5.cell? ⟨gr, 13, none⟩ = some (.int .i64 0) := HR5.out.cell 13
    have z13 := HR5.out.free 13
    have hlt := HW5.out.lt
    have hlr := HR5.out.lt
    have hmge : 2 ≤ m := by rw [← HM.out, HB.out]; simp
    go_cut [8, 9] (fun s8 s9 wx => Stage1 b m l0 a w wx gr gd (fun wd pc => mem lo st pa a wd pc bb 0 c 0 false e 0) s8 s9)
    case first =>
      cases a with
      | false => exact absurd HX.out (by simp)
      | true =>
        cases l0 with
        | nil =>
          obtain ⟨_, p, r, h, _⟩ := HX.out
          exact absurd h (by simp)
        | cons p l1 =>
          have hp8 := p.toNat_lt
          have h3 : ¬ (m : Int) < 3 := by rw [← HM.out, HB.out]; simp; omega
          have r2 := fun wx => run_at b 2 p (by rw [HB.out]; rfl) wx
          rw [show (((2 : Nat)) : Int) = 2 from rfl] at r2
          by_cases hp : p.toNat < 128
          · obtain ⟨_, p', r', h, h'⟩ := HX.out
            injection h with h _
            subst h
            exact absurd hp h'
          · have hp1 : (127 : Int) < (p.toNat : Int) := by omega
            cases l1 with
            | nil =>
              have hm4 : (m : Int) < 4 := by rw [← HM.out, HB.out]; simp
              have hF := HF.out (by rw [HPP.out]; simp [pick1, takePicS, hp])
              have HFF := Lib.hid hF
              clear hF HF HPP hmge hp
              go_wp2_with fail
              have hWe := Lib.hid (whole_all HR5.out (.bool false) (.bool false) (.bool false) (.int .i64 0) (.bool false) (.bool false) (.int .i64 0) (.bool false) (.int .i64 0) (.bool false) (.int .i64 0) (.bool false) (.bool false) (.int .i64 0))
              have hBe := Lib.hid (below_all HB5.out HG.out.2.2 (.bool false) (.bool false) (.bool false) (.int .i64 0) (.bool false) (.bool false) (.int .i64 0) (.bool false) (.int .i64 0) (.bool false) (.int .i64 0) (.bool false) (.bool false) (.int .i64 0))
              obtain ⟨we, hwe⟩ : ∃ we, we = ((((((((((((((w5.setCell ⟨gr, 0, none⟩ (.bool false)).setCell ⟨gr, 1, none⟩ (.bool false)).setCell ⟨gr, 2, none⟩ (.bool false)).setCell ⟨gr, 3, none⟩ (.int .i64 0)).setCell ⟨gr, 4, none⟩ (.bool false)).setCell ⟨gr, 5, none⟩ (.bool false)).setCell ⟨gr, 6, none⟩ (.int .i64 0)).setCell ⟨gr, 7, none⟩ (.bool false)).setCell ⟨gr, 8, none⟩ (.int .i64 0)).setCell ⟨gr, 9, none⟩ (.bool false)).setCell ⟨gr, 10, none⟩ (.int .i64 0)).setCell ⟨gr, 11, none⟩ (.bool false)).setCell ⟨gr, 12, none⟩ (.bool false)).setCell ⟨gr, 13, none⟩ (.int .i64 0)) := ⟨_, rfl⟩
              rw [← hwe] at hWe hBe ⊢
              have g0 : we.cell? ⟨gr, 0, none⟩ = some (.bool false) := hWe.out.cell 0
              have g1 : we.cell? ⟨gr, 1, none⟩ = some (.bool false) := hWe.out.cell 1
              have g2 : we.cell? ⟨gr, 2, none⟩ = some (.bool false) := hWe.out.cell 2
              have g3 : we.cell? ⟨gr, 3, none⟩ = some (.int .i64 0) := hWe.out.cell 3
              have g4 : we.cell? ⟨gr, 4, none⟩ = some (.bool false) := hWe.out.cell 4
              have g5 : we.cell? ⟨gr, 5, none⟩ = some (.bool false) := hWe.out.cell 5
              have g6 : we.cell? ⟨gr, 6, none⟩ = some (.int .i64 0) := hWe.out.cell 6
              have g7 : we.cell? ⟨gr, 7, none⟩ = some (.bool false) := hWe.out.cell 7
              have g8 : we.cell? ⟨gr, 8, none⟩ = some (.int .i64 0) := hWe.out.cell 8
              have g9 : we.cell? ⟨gr, 9, none⟩ = some (.bool false) := hWe.out.cell 9
              have g10 : we.cell? ⟨gr, 10, none⟩ = some (.int .i64 0) := hWe.out.cell 10
              have g11 : we.cell? ⟨gr, 11, none⟩ = some (.bool false) := hWe.out.cell 11
              have g12 : we.cell? ⟨gr, 12, none⟩ = some (.bool false) := hWe.out.cell 12
              have g13 : we.cell? ⟨gr, 13, none⟩ = some (.int .i64 0) := hWe.out.cell 13
              clear hwe
              exact bodyPost_ret (v := .tuple #[.agg #[.bool false, .bool false, .bool false, .int .i64 0, .bool false, .bool false, .int .i64 0, .bool false, .int .i64 0, .bool false, .int .i64 0, .bool false, .bool false, .int .i64 0], .int .i64 0, .int .i64 0, .int .i64 0, .int .i64 10]) (by simp [results, Try.results12, go_sem, g0, g1, g2, g3, g4, g5, g6, g7, g8, g9, g10, g11, g12, g13]) rfl (HFF.out we hBe.out)
            | cons q l2 =>
              have h4 : ¬ (m : Int) < 4 := by rw [← HM.out, HB.out]; simp; omega
              have hq8 := q.toNat_lt
              have r3 := fun wx => run_at b 3 q (by rw [HB.out]; rfl) wx
              rw [show (((3 : Nat)) : Int) = 3 from rfl] at r3
              obtain ⟨P, hP⟩ : ∃ P : Nat, P = p.toNat - 128 := ⟨_, rfl⟩
              have hpq : (p.toNat : Int) % 128 = (P : Int) := by omega
              have hP128 : P < 128 := by omega
              have HS := Lib.hid (fun wx (hx : wx = ((w5.setCell ⟨gd, 6, none⟩ (.int .i64 (P : Int))).setCell ⟨gd, 5, none⟩ (.bool true)).setCell ⟨gd, 6, none⟩ (.int .i64 ((P * 256 + q.toNat : Nat) : Int))) => show Stage1 b m (p :: q :: l2) true w wx.drew gr gd (fun wd pc => mem lo st pa true wd pc bb 0 c 0 false e 0) (.int .i64 4) (.int .i64 2) from
                ⟨true, P * 256 + q.toNat, 4, l2, by simp [pick1, takePicS, hp, hP], rfl, rfl, by rw [HB.out]; rfl, by rw [← HM.out, HB.out]; simp; omega, rfl,
                  by rw [hx]; exact (((HW5.out.set 6 _).set 5 _).set 6 _).drew, by rw [hx]; exact (((HR5.out.far (p := ⟨gd, 6, none⟩) HG.out.1 _).far (p := ⟨gd, 5, none⟩) HG.out.1 _).far (p := ⟨gd, 6, none⟩) HG.out.1 _).drew, by rw [hx]; exact bdrewN (((HB5.out.setCell (p := ⟨gd, 6, none⟩) HG.out.2.1 _).setCell (p := ⟨gd, 5, none⟩) HG.out.2.1 _).setCell (p := ⟨gd, 6, none⟩) HG.out.2.1 _) 1⟩)
              have s1 : IntKind.i64.wrap (256 * (P : Int)) = 256 * (P : Int) := IntWalk.i64_in _ (by omega)
              have s2 : IntKind.i64.wrap (256 * (P : Int) + (q.toNat : Int)) = ((P * 256 + q.toNat : Nat) : Int) := (IntWalk.i64_in _ (by omega)).trans (by omega)
              have s3 : IntKind.i64.wrap (q.toNat : Int) = (q.toNat : Int) := IntWalk.i64_in _ (by omega)
              have S1 := Lib.hid s1
              have S2 := Lib.hid s2
              have S3 := Lib.hid s3
              clear hp HPP HF hP s1 s2 s3
              go_upto_region 23 with fail
              have s1 := S1.out
              have s2 := S2.out
              have s3 := S3.out
              clear S1 S2 S3
              go_region
              all_goals
                clear s1 s2 s3
                go_wp2_with fail
                go_meet
                exact HS.out _ rfl
    case rest =>
      clear k0 k4 k5 k6 m5 m6 hlt hlr hmge r0 z0 r1 z1 r2 z2 r3 z3 r4 z4 r5 z5 r6 z6 r7 z7 r8 z8 r9 z9 r10 z10 r11 z11 r12 z12 r13 z13 HW5 HR5 HB5
      obtain ⟨wd, pc, k, r, hpk, rfl, hk, hdr, hkr, rfl, HW6, HR6, HB6⟩ := hcut
      obtain ⟨PA, hPA⟩ : ∃ PA : Nat, PA = if a then 2 else 0 := ⟨_, rfl⟩
      rw [← hPA]
      have HPK := Lib.hid hpk
      have HK := Lib.hid hk
      have HDR := Lib.hid hdr
      have HPA := Lib.hid hPA
      have HWW := Lib.hid HW6
      have HRR := Lib.hid HR6
      have HBB := Lib.hid HB6
      have k7 : wc.cell? ⟨gd, 7, none⟩ = some (.bool bb) := HW6.cell 7
      have k8 : wc.cell? ⟨gd, 8, none⟩ = some (.int .i64 0) := HW6.cell 8
      have m8 := HW6.free 8
      have k9 : wc.cell? ⟨gd, 9, none⟩ = some (.bool c) := HW6.cell 9
      have r0 : wc.cell? ⟨gr, 0, none⟩ = some (.bool false) := HR6.cell 0
      have z0 := HR6.free 0
      have r1 : wc.cell? ⟨gr, 1, none⟩ = some (.bool false) := HR6.cell 1
      have z1 := HR6.free 1
      have r2 : wc.cell? ⟨gr, 2, none⟩ = some (.bool false) := HR6.cell 2
      have z2 := HR6.free 2
      have r3 : wc.cell? ⟨gr, 3, none⟩ = some (.int .i64 0) := HR6.cell 3
      have z3 := HR6.free 3
      have r4 : wc.cell? ⟨gr, 4, none⟩ = some (.bool false) := HR6.cell 4
      have z4 := HR6.free 4
      have r5 : wc.cell? ⟨gr, 5, none⟩ = some (.bool false) := HR6.cell 5
      have z5 := HR6.free 5
      have r6 : wc.cell? ⟨gr, 6, none⟩ = some (.int .i64 0) := HR6.cell 6
      have z6 := HR6.free 6
      have r7 : wc.cell? ⟨gr, 7, none⟩ = some (.bool false) := HR6.cell 7
      have z7 := HR6.free 7
      have r8 : wc.cell? ⟨gr, 8, none⟩ = some (.int .i64 0) := HR6.cell 8
      have z8 := HR6.free 8
      have r9 : wc.cell? ⟨gr, 9, none⟩ = some (.bool false) := HR6.cell 9
      have z9 := HR6.free 9
      have r10 : wc.cell? ⟨gr, 10, none⟩ = some (.int .i64 0) := HR6.cell 10
      have z10 := HR6.free 10
      have r11 : wc.cell? ⟨gr, 11, none⟩ = some (.bool false) := HR6.cell 11
      have z11 := HR6.free 11
      have r12 : wc.cell? ⟨gr, 12, none⟩ = some (.bool false) := HR6.cell 12
      have z12 := HR6.free 12
      have r13 : wc.cell? ⟨gr, 13, none⟩ = some (.int .i64 0) := HR6.cell 13
      have z13 := HR6.free 13
      have hlt := HW6.lt
      have hlr := HR6.lt
      have hkm : k ≤ m := by omega
      have HF2 := Lib.hid (show ∀ tl r2, pick2 bb r = some (tl, r2) → (c || e) = true → r2 = [] → ∀ wx, Below w.heap.size w wx → RefParsed b w (.returned (.tuple #[.agg dsc0.plain, .int .i64 0, .int .i64 0, .int .i64 0, .int .i64 10])) wx from fun tl r2 h1 h2 h3 => HF.out (by rw [HPP.out, HPK.out]; show ((pick2 bb r).bind _) = _; rw [h1]; show (pick2 (c || e) r2).map _ = _; rw [h2, h3]; rfl))
      have HKR := Lib.hid hkr
      clear hpk hk hdr hPA HW6 HR6 HB6 hkr
      go_upto_if 99 with fail
      go_cut [8, 10] (fun s8 s10 wx => Stage2 b m k r bb w wx gr gd (fun tl => mem lo st pa a wd pc bb tl c 0 false e 0) s8 s10)
      case first =>
        cases bb with
        | false =>
          have HS := Lib.hid (show Stage2 b m k r false w wc gr gd (fun tl => mem lo st pa a wd pc false tl c 0 false e 0) (.int .i64 (k : Int)) (.int .i64 0) from
            ⟨0, k, r, rfl, rfl, HDR.out, HKR.out, rfl, HWW.out, HRR.out, HBB.out⟩)
          go_wp2_with fail
          go_meet
          exact HS.out
        | true => exact absurd HY.out (by simp)
      case rest =>
        obtain ⟨tl, kp, l3, hpk, rfl, hdr, hkr, rfl, HW6, HR6, HB6⟩ := hcut
        obtain ⟨wB, rfl⟩ : ∃ wB : World, wB = wc := ⟨_, rfl⟩
        clear k7 k8 m8 k9 hlt hlr hkm HKR HDR HWW HRR HBB r0 z0 r1 z1 r2 z2 r3 z3 r4 z4 r5 z5 r6 z6 r7 z7 r8 z8 r9 z9 r10 z10 r11 z11 r12 z12 r13 z13
        obtain ⟨TA, hTA⟩ : ∃ TA : Nat, TA = if bb then k else 0 := ⟨_, rfl⟩
        rw [← hTA]
        have HPK2 := Lib.hid hpk
        have HTA := Lib.hid hTA
        have HDR := Lib.hid hdr
        have HWW := Lib.hid HW6
        have HRR := Lib.hid HR6
        have HBB := Lib.hid HB6
        have hz : ∀ (z : Nat) (l4 : List UInt8), pick2 (c || e) l3 = some (z, l4) → ∀ wx, Below w.heap.size w wx → RefParsed b w (.returned (.tuple #[.agg (dscP lo st pa a wd pc bb tl c e z).plain, .int .i64 ((m : Int) - l4.length), .int .i64 (PA : Int), .int .i64 (TA : Int), .int .i64 0])) wx := fun z l4 h wx hb => by
          refine ⟨.inr ⟨dscP lo st pa a wd pc bb tl c e z, l4, ?_, ?_⟩, hb⟩
          · rw [HPP.out, HPK.out]
            show ((pick2 bb r).bind _) = _
            rw [HPK2.out]
            show (pick2 (c || e) l3).map _ = _
            rw [h]
            rfl
          · rw [HM.out, HPA.out, HTA.out, HK.out]
            rfl
        have hkm : kp ≤ m := by omega
        have HZ := Lib.hid hz
        have HKR := Lib.hid hkr
        have kk0 : wB.cell? ⟨gd, 0, none⟩ = some (.bool true) := HW6.cell 0
        have kk1 : wB.cell? ⟨gd, 1, none⟩ = some (.bool lo) := HW6.cell 1
        have kk2 : wB.cell? ⟨gd, 2, none⟩ = some (.bool st) := HW6.cell 2
        have kk3 : wB.cell? ⟨gd, 3, none⟩ = some (.int .i64 (pa : Int)) := HW6.cell 3
        have kk4 : wB.cell? ⟨gd, 4, none⟩ = some (.bool a) := HW6.cell 4
        have kk5 : wB.cell? ⟨gd, 5, none⟩ = some (.bool wd) := HW6.cell 5
        have kk6 : wB.cell? ⟨gd, 6, none⟩ = some (.int .i64 (pc : Int)) := HW6.cell 6
        have kk7 : wB.cell? ⟨gd, 7, none⟩ = some (.bool bb) := HW6.cell 7
        have kk8 : wB.cell? ⟨gd, 8, none⟩ = some (.int .i64 (tl : Int)) := HW6.cell 8
        have kk9 : wB.cell? ⟨gd, 9, none⟩ = some (.bool c) := HW6.cell 9
        have kk10 : wB.cell? ⟨gd, 10, none⟩ = some (.int .i64 0) := HW6.cell 10
        have kk11 : wB.cell? ⟨gd, 11, none⟩ = some (.bool false) := HW6.cell 11
        have kk12 : wB.cell? ⟨gd, 12, none⟩ = some (.bool e) := HW6.cell 12
        have kk13 : wB.cell? ⟨gd, 13, none⟩ = some (.int .i64 0) := HW6.cell 13
        have m10 := HW6.free 10
        have m11 := HW6.free 11
        have m13 := HW6.free 13
        have r0 : wB.cell? ⟨gr, 0, none⟩ = some (.bool false) := HR6.cell 0
        have z0 := HR6.free 0
        have r1 : wB.cell? ⟨gr, 1, none⟩ = some (.bool false) := HR6.cell 1
        have z1 := HR6.free 1
        have r2 : wB.cell? ⟨gr, 2, none⟩ = some (.bool false) := HR6.cell 2
        have z2 := HR6.free 2
        have r3 : wB.cell? ⟨gr, 3, none⟩ = some (.int .i64 0) := HR6.cell 3
        have z3 := HR6.free 3
        have r4 : wB.cell? ⟨gr, 4, none⟩ = some (.bool false) := HR6.cell 4
        have z4 := HR6.free 4
        have r5 : wB.cell? ⟨gr, 5, none⟩ = some (.bool false) := HR6.cell 5
        have z5 := HR6.free 5
        have r6 : wB.cell? ⟨gr, 6, none⟩ = some (.int .i64 0) := HR6.cell 6
        have z6 := HR6.free 6
        have r7 : wB.cell? ⟨gr, 7, none⟩ = some (.bool false) := HR6.cell 7
        have z7 := HR6.free 7
        have r8 : wB.cell? ⟨gr, 8, none⟩ = some (.int .i64 0) := HR6.cell 8
        have z8 := HR6.free 8
        have r9 : wB.cell? ⟨gr, 9, none⟩ = some (.bool false) := HR6.cell 9
        have z9 := HR6.free 9
        have r10 : wB.cell? ⟨gr, 10, none⟩ = some (.int .i64 0) := HR6.cell 10
        have z10 := HR6.free 10
        have r11 : wB.cell? ⟨gr, 11, none⟩ = some (.bool false) := HR6.cell 11
        have z11 := HR6.free 11
        have r12 : wB.cell? ⟨gr, 12, none⟩ = some (.bool false) := HR6.cell 12
        have z12 := HR6.free 12
        have r13 : wB.cell? ⟨gr, 13, none⟩ = some (.int .i64 0) := HR6.cell 13
        have z13 := HR6.free 13
        have hlt := HW6.lt
        have hlr := HR6.lt
        clear hpk hdr hTA hz HW6 HR6 HB6 hkr HPP HPK
        go_upto_region 31 with fail
        go_cut [119] (fun s wx => s = .bool (c || e) ∧ wx = wB)
        case first =>
          clear HF2 HZ
          cases c
          all_goals
            go_wp2_with fail
            go_meet
            exact ⟨by simp, rfl⟩
        case rest =>
        obtain ⟨rfl, hwx⟩ := hcut
        rw [hwx]
        clear hwx
        go_upto_if 119 with fail
        go_cut [8] (fun s8 wx => Stage3 m l3 (c || e) w wx gr gd (fun z => (dscP lo st pa a wd pc bb tl c e z).plain) s8)
        case first =>
          cases hce : (c || e) with
          | false =>
            obtain ⟨rfl, rfl⟩ : c = false ∧ e = false := by revert hce; cases c <;> cases e <;> decide
            have HS := Lib.hid (show Stage3 m l3 false w wB gr gd (fun z => (dscP lo st pa a wd pc bb tl false false z).plain) (.int .i64 (kp : Int)) from
              ⟨0, kp, l3, rfl, rfl, HKR.out, HWW.out, HRR.out, HBB.out⟩)
            clear hce HF2 HZ
            go_wp2_with fail
            go_meet
            exact HS.out
          | true =>
          cases l3 with
          | nil =>
            have hmk : (m : Int) < (kp : Int) + 1 := by have := HKR.out; simp at this; omega
            have HFF := Lib.hid (HF2.out tl [] HPK2.out hce rfl)
            clear HZ HF2 hce
            go_wp2_with fail
            have hWe := Lib.hid (whole_all HRR.out (.bool false) (.bool false) (.bool false) (.int .i64 0) (.bool false) (.bool false) (.int .i64 0) (.bool false) (.int .i64 0) (.bool false) (.int .i64 0) (.bool false) (.bool false) (.int .i64 0))
            have hBe := Lib.hid (below_all HBB.out HG.out.2.2 (.bool false) (.bool false) (.bool false) (.int .i64 0) (.bool false) (.bool false) (.int .i64 0) (.bool false) (.int .i64 0) (.bool false) (.int .i64 0) (.bool false) (.bool false) (.int .i64 0))
            obtain ⟨we, hwe⟩ : ∃ we, we = ((((((((((((((wB.setCell ⟨gr, 0, none⟩ (.bool false)).setCell ⟨gr, 1, none⟩ (.bool false)).setCell ⟨gr, 2, none⟩ (.bool false)).setCell ⟨gr, 3, none⟩ (.int .i64 0)).setCell ⟨gr, 4, none⟩ (.bool false)).setCell ⟨gr, 5, none⟩ (.bool false)).setCell ⟨gr, 6, none⟩ (.int .i64 0)).setCell ⟨gr, 7, none⟩ (.bool false)).setCell ⟨gr, 8, none⟩ (.int .i64 0)).setCell ⟨gr, 9, none⟩ (.bool false)).setCell ⟨gr, 10, none⟩ (.int .i64 0)).setCell ⟨gr, 11, none⟩ (.bool false)).setCell ⟨gr, 12, none⟩ (.bool false)).setCell ⟨gr, 13, none⟩ (.int .i64 0)) := ⟨_, rfl⟩
            rw [← hwe] at hWe hBe ⊢
            have g0 : we.cell? ⟨gr, 0, none⟩ = some (.bool false) := hWe.out.cell 0
            have g1 : we.cell? ⟨gr, 1, none⟩ = some (.bool false) := hWe.out.cell 1
            have g2 : we.cell? ⟨gr, 2, none⟩ = some (.bool false) := hWe.out.cell 2
            have g3 : we.cell? ⟨gr, 3, none⟩ = some (.int .i64 0) := hWe.out.cell 3
            have g4 : we.cell? ⟨gr, 4, none⟩ = some (.bool false) := hWe.out.cell 4
            have g5 : we.cell? ⟨gr, 5, none⟩ = some (.bool false) := hWe.out.cell 5
            have g6 : we.cell? ⟨gr, 6, none⟩ = some (.int .i64 0) := hWe.out.cell 6
            have g7 : we.cell? ⟨gr, 7, none⟩ = some (.bool false) := hWe.out.cell 7
            have g8 : we.cell? ⟨gr, 8, none⟩ = some (.int .i64 0) := hWe.out.cell 8
            have g9 : we.cell? ⟨gr, 9, none⟩ = some (.bool false) := hWe.out.cell 9
            have g10 : we.cell? ⟨gr, 10, none⟩ = some (.int .i64 0) := hWe.out.cell 10
            have g11 : we.cell? ⟨gr, 11, none⟩ = some (.bool false) := hWe.out.cell 11
            have g12 : we.cell? ⟨gr, 12, none⟩ = some (.bool false) := hWe.out.cell 12
            have g13 : we.cell? ⟨gr, 13, none⟩ = some (.int .i64 0) := hWe.out.cell 13
            clear hwe
            exact bodyPost_ret (v := .tuple #[.agg #[.bool false, .bool false, .bool false, .int .i64 0, .bool false, .bool false, .int .i64 0, .bool false, .int .i64 0, .bool false, .int .i64 0, .bool false, .bool false, .int .i64 0], .int .i64 0, .int .i64 0, .int .i64 0, .int .i64 10]) (by simp [results, Try.results12, go_sem, g0, g1, g2, g3, g4, g5, g6, g7, g8, g9, g10, g11, g12, g13]) rfl (HFF.out we hBe.out)
          | cons y l4 =>
            have hy8 := y.toNat_lt
            have hy0 : (0 : Int) ≤ (y.toNat : Int) := by omega
            have hy2 : (y.toNat : Int) < 256 := by omega
            have hmk : ¬ (m : Int) < (kp : Int) + 1 := by have := HKR.out; simp at this; omega
            have ry := fun wx => run_at b kp y (drop_at HDR.out).1 wx
            have ebit : bitI (y.toNat : Int) 32 = bitN y.toNat 32 := bitI_eq y.toNat 32
            have EB := Lib.hid ebit
            clear HZ HF2 ebit
            cases c <;> cases e
            · exact absurd hce (by decide)
            · clear hce
              have HS := Lib.hid (fun wx (hx : wx = (wB.setCell ⟨gd, 13, none⟩ (.int .i64 ((y.toNat : Int) % 32)))) => show Stage3 m (y :: l4) true w wx gr gd (fun z => (dscP lo st pa a wd pc bb tl false true z).plain) (.int .i64 ((kp : Int) + 1)) from
                ⟨y.toNat, kp + 1, l4, rfl, rfl, by have := HKR.out; simp at this; omega, by rw [hx]; exact (HWW.out.set 13 _), by rw [hx]; exact (HRR.out.far (p := ⟨gd, 13, none⟩) HG.out.1 _), by rw [hx]; exact (HBB.out.setCell (p := ⟨gd, 13, none⟩) HG.out.2.1 _)⟩)
              go_wp2_with fail
              go_meet
              exact HS.out _ rfl
            · clear hce
              have HS := Lib.hid (fun wx (hx : wx = ((wB.setCell ⟨gd, 10, none⟩ (.int .i64 ((y.toNat : Int) / 64))).setCell ⟨gd, 11, none⟩ (.bool (bitN y.toNat 32)))) => show Stage3 m (y :: l4) true w wx gr gd (fun z => (dscP lo st pa a wd pc bb tl true false z).plain) (.int .i64 ((kp : Int) + 1)) from
                ⟨y.toNat, kp + 1, l4, rfl, rfl, by have := HKR.out; simp at this; omega, by rw [hx]; exact ((HWW.out.set 10 _).set 11 _), by rw [hx]; exact ((HRR.out.far (p := ⟨gd, 10, none⟩) HG.out.1 _).far (p := ⟨gd, 11, none⟩) HG.out.1 _), by rw [hx]; exact ((HBB.out.setCell (p := ⟨gd, 10, none⟩) HG.out.2.1 _).setCell (p := ⟨gd, 11, none⟩) HG.out.2.1 _)⟩)
              go_wp2_with fail
              refine (bit_any _ _ _ hy0 hy2 (by decide) (by decide)).mono ?_
              rintro e' w' ⟨rfl, rfl⟩
              rw [EB.out]
              go_wp2_with fail
              go_meet
              exact HS.out _ rfl
            · clear hce
              have HS := Lib.hid (fun wx (hx : wx = (((wB.setCell ⟨gd, 10, none⟩ (.int .i64 ((y.toNat : Int) / 64))).setCell ⟨gd, 11, none⟩ (.bool (bitN y.toNat 32))).setCell ⟨gd, 13, none⟩ (.int .i64 ((y.toNat : Int) % 32)))) => show Stage3 m (y :: l4) true w wx gr gd (fun z => (dscP lo st pa a wd pc bb tl true true z).plain) (.int .i64 ((kp : Int) + 1)) from
                ⟨y.toNat, kp + 1, l4, rfl, rfl, by have := HKR.out; simp at this; omega, by rw [hx]; exact (((HWW.out.set 10 _).set 11 _).set 13 _), by rw [hx]; exact (((HRR.out.far (p := ⟨gd, 10, none⟩) HG.out.1 _).far (p := ⟨gd, 11, none⟩) HG.out.1 _).far (p := ⟨gd, 13, none⟩) HG.out.1 _), by rw [hx]; exact (((HBB.out.setCell (p := ⟨gd, 10, none⟩) HG.out.2.1 _).setCell (p := ⟨gd, 11, none⟩) HG.out.2.1 _).setCell (p := ⟨gd, 13, none⟩) HG.out.2.1 _)⟩)
              go_wp2_with fail
              refine (bit_any _ _ _ hy0 hy2 (by decide) (by decide)).mono ?_
              rintro e' w' ⟨rfl, rfl⟩
              rw [EB.out]
              go_wp2_with fail
              go_meet
              exact HS.out _ rfl
        case rest =>
          obtain ⟨z, k3, l4, hpk, rfl, hkr, HW7, HR7, HB7⟩ := hcut
          clear kk0 kk1 kk2 kk3 kk4 kk5 kk6 kk7 kk8 kk9 kk10 kk11 kk12 kk13 m10 m11 m13 r0 z0 r1 z1 r2 z2 r3 z3 r4 z4 r5 z5 r6 z6 r7 z7 r8 z8 r9 z9 r10 z10 r11 z11 r12 z12 r13 z13 hlt hlr HKR HDR HWW HRR HBB HF2
          have hzz := HZ.out z l4 hpk
          have hk3 : (m : Int) - (l4.length : Int) = (k3 : Int) := by omega
          rw [hk3] at hzz
          have HFIN := Lib.hid hzz
          replace HW7 : Whole wc gd 31 (dscP lo st pa a wd pc bb tl c e z).plain := HW7
          generalize dscP lo st pa a wd pc bb tl c e z = d at HW7 HFIN
          obtain ⟨more, lone, start, part, hasPic, wide, pic, hasTl0, tl0, hasTid, tid, sync, hasKey, key⟩ := d
          have kk0 : wc.cell? ⟨gd, 0, none⟩ = some (.bool more) := HW7.cell 0
          have kk1 : wc.cell? ⟨gd, 1, none⟩ = some (.bool lone) := HW7.cell 1
          have kk2 : wc.cell? ⟨gd, 2, none⟩ = some (.bool start) := HW7.cell 2
          have kk3 : wc.cell? ⟨gd, 3, none⟩ = some (.int .i64 (part : Int)) := HW7.cell 3
          have kk4 : wc.cell? ⟨gd, 4, none⟩ = some (.bool hasPic) := HW7.cell 4
          have kk5 : wc.cell? ⟨gd, 5, none⟩ = some (.bool wide) := HW7.cell 5
          have kk6 : wc.cell? ⟨gd, 6, none⟩ = some (.int .i64 (pic : Int)) := HW7.cell 6
          have kk7 : wc.cell? ⟨gd, 7, none⟩ = some (.bool hasTl0) := HW7.cell 7
          have kk8 : wc.cell? ⟨gd, 8, none⟩ = some (.int .i64 (tl0 : Int)) := HW7.cell 8
          have kk9 : wc.cell? ⟨gd, 9, none⟩ = some (.bool hasTid) := HW7.cell 9
          have kk10 : wc.cell? ⟨gd, 10, none⟩ = some (.int .i64 (tid : Int)) := HW7.cell 10
          have kk11 : wc.cell? ⟨gd, 11, none⟩ = some (.bool sync) := HW7.cell 11
          have kk12 : wc.cell? ⟨gd, 12, none⟩ = some (.bool hasKey) := HW7.cell 12
          have kk13 : wc.cell? ⟨gd, 13, none⟩ = some (.int .i64 (key : Int)) := HW7.cell 13
          have r0 : wc.cell? ⟨gr, 0, none⟩ = some (.bool false) := HR7.cell 0
          have z0 := HR7.free 0
          have r1 : wc.cell? ⟨gr, 1, none⟩ = some (.bool false) := HR7.cell 1
          have z1 := HR7.free 1
          have r2 : wc.cell? ⟨gr, 2, none⟩ = some (.bool false) := HR7.cell 2
          have z2 := HR7.free 2
          have r3 : wc.cell? ⟨gr, 3, none⟩ = some (.int .i64 0) := HR7.cell 3
          have z3 := HR7.free 3
          have r4 : wc.cell? ⟨gr, 4, none⟩ = some (.bool false) := HR7.cell 4
          have z4 := HR7.free 4
          have r5 : wc.cell? ⟨gr, 5, none⟩ = some (.bool false) := HR7.cell 5
          have z5 := HR7.free 5
          have r6 : wc.cell? ⟨gr, 6, none⟩ = some (.int .i64 0) := HR7.cell 6
          have z6 := HR7.free 6
          have r7 : wc.cell? ⟨gr, 7, none⟩ = some (.bool false) := HR7.cell 7
          have z7 := HR7.free 7
          have r8 : wc.cell? ⟨gr, 8, none⟩ = some (.int .i64 0) := HR7.cell 8
          have z8 := HR7.free 8
          have r9 : wc.cell? ⟨gr, 9, none⟩ = some (.bool false) := HR7.cell 9
          have z9 := HR7.free 9
          have r10 : wc.cell? ⟨gr, 10, none⟩ = some (.int .i64 0) := HR7.cell 10
          have z10 := HR7.free 10
          have r11 : wc.cell? ⟨gr, 11, none⟩ = some (.bool false) := HR7.cell 11
          have z11 := HR7.free 11
          have r12 : wc.cell? ⟨gr, 12, none⟩ = some (.bool false) := HR7.cell 12
          have z12 := HR7.free 12
          have r13 : wc.cell? ⟨gr, 13, none⟩ = some (.int .i64 0) := HR7.cell 13
          have z13 := HR7.free 13
          have hlt := HW7.lt
          have hlr := HR7.lt
          have HRR := Lib.hid HR7
          have HBB := Lib.hid HB7
          clear hzz hk3 hpk HZ HW7 HR7 HB7 hkr
          go_wp2_with fail
          have hWe := Lib.hid (whole_all HRR.out (.bool more) (.bool lone) (.bool start) (.int .i64 (part : Int)) (.bool hasPic) (.bool wide) (.int .i64 (pic : Int)) (.bool hasTl0) (.int .i64 (tl0 : Int)) (.bool hasTid) (.int .i64 (tid : Int)) (.bool sync) (.bool hasKey) (.int .i64 (key : Int)))
          have hBe := Lib.hid (below_all HBB.out HG.out.2.2 (.bool more) (.bool lone) (.bool start) (.int .i64 (part : Int)) (.bool hasPic) (.bool wide) (.int .i64 (pic : Int)) (.bool hasTl0) (.int .i64 (tl0 : Int)) (.bool hasTid) (.int .i64 (tid : Int)) (.bool sync) (.bool hasKey) (.int .i64 (key : Int)))
          obtain ⟨we, hwe⟩ : ∃ we, we = ((((((((((((((wc.setCell ⟨gr, 0, none⟩ (.bool more)).setCell ⟨gr, 1, none⟩ (.bool lone)).setCell ⟨gr, 2, none⟩ (.bool start)).setCell ⟨gr, 3, none⟩ (.int .i64 (part : Int))).setCell ⟨gr, 4, none⟩ (.bool hasPic)).setCell ⟨gr, 5, none⟩ (.bool wide)).setCell ⟨gr, 6, none⟩ (.int .i64 (pic : Int))).setCell ⟨gr, 7, none⟩ (.bool hasTl0)).setCell ⟨gr, 8, none⟩ (.int .i64 (tl0 : Int))).setCell ⟨gr, 9, none⟩ (.bool hasTid)).setCell ⟨gr, 10, none⟩ (.int .i64 (tid : Int))).setCell ⟨gr, 11, none⟩ (.bool sync)).setCell ⟨gr, 12, none⟩ (.bool hasKey)).setCell ⟨gr, 13, none⟩ (.int .i64 (key : Int))) := ⟨_, rfl⟩
          rw [← hwe] at hWe hBe ⊢
          have g0 : we.cell? ⟨gr, 0, none⟩ = some (.bool more) := hWe.out.cell 0
          have g1 : we.cell? ⟨gr, 1, none⟩ = some (.bool lone) := hWe.out.cell 1
          have g2 : we.cell? ⟨gr, 2, none⟩ = some (.bool start) := hWe.out.cell 2
          have g3 : we.cell? ⟨gr, 3, none⟩ = some (.int .i64 (part : Int)) := hWe.out.cell 3
          have g4 : we.cell? ⟨gr, 4, none⟩ = some (.bool hasPic) := hWe.out.cell 4
          have g5 : we.cell? ⟨gr, 5, none⟩ = some (.bool wide) := hWe.out.cell 5
          have g6 : we.cell? ⟨gr, 6, none⟩ = some (.int .i64 (pic : Int)) := hWe.out.cell 6
          have g7 : we.cell? ⟨gr, 7, none⟩ = some (.bool hasTl0) := hWe.out.cell 7
          have g8 : we.cell? ⟨gr, 8, none⟩ = some (.int .i64 (tl0 : Int)) := hWe.out.cell 8
          have g9 : we.cell? ⟨gr, 9, none⟩ = some (.bool hasTid) := hWe.out.cell 9
          have g10 : we.cell? ⟨gr, 10, none⟩ = some (.int .i64 (tid : Int)) := hWe.out.cell 10
          have g11 : we.cell? ⟨gr, 11, none⟩ = some (.bool sync) := hWe.out.cell 11
          have g12 : we.cell? ⟨gr, 12, none⟩ = some (.bool hasKey) := hWe.out.cell 12
          have g13 : we.cell? ⟨gr, 13, none⟩ = some (.int .i64 (key : Int)) := hWe.out.cell 13
          clear hwe
          exact bodyPost_ret (v := .tuple #[.agg #[.bool more, .bool lone, .bool start, .int .i64 (part : Int), .bool hasPic, .bool wide, .int .i64 (pic : Int), .bool hasTl0, .int .i64 (tl0 : Int), .bool hasTid, .int .i64 (tid : Int), .bool sync, .bool hasKey, .int .i64 (key : Int)], .int .i64 (k3 : Int), .int .i64 (PA : Int), .int .i64 (TA : Int), .int .i64 0]) (by simp [results, Try.results12, go_sem, g0, g1, g2, g3, g4, g5, g6, g7, g8, g9, g10, g11, g12, g13]) rfl (HFIN.out we hBe.out)

end Go.Proofs.Ytliiodjcpkabmaa
