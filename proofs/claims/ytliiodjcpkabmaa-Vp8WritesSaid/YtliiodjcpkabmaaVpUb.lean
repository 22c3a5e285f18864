/-
  The document's Parse of layer 7: a first byte that wants one more.
-/
import Derived.Test.YtliiodjcpkabmaaVpUd
import Derived.Test.YtliiodjcpkabmaaVpI
import Derived.BigQuiet
import Derived.Deep.CutBlock
import Derived.Deep.DeepCutAuto
import Derived.RegionTactic
import Derived.Deep.RegionHeld3
import Derived.IntWalk
namespace Go.Proofs.Ytliiodjcpkabmaa
open Go.RowKit
set_option linter.unusedSimpArgs false

set_option maxRecDepth 100000 in
set_option maxHeartbeats 12800000 in
theorem refParse_one (b : List UInt8) (m : Nat) (f : UInt8) (ll : List UInt8) (w : World) (hm : b.length = m) (_hl : m ≤ 100000) (hb : b = f :: ll) (hA : 128 ≤ f.toNat) (hB : ll = []) : Calls Try.prog 12 #[.string (str b)] w (RefParsed b w) := by
  have hf := f.toNat_lt
  have hne : (str b).toList.isEmpty = false := by rw [hb]; exact str_full _ _
  have hsz : (str b).size = m := by rw [str_size, hm]
  have r0 := fun wx => run_at0 b f (by rw [hb]; rfl) wx
  have e1 : bitI (f.toNat : Int) 128 = bitN f.toNat 128 := bitI_eq f.toNat 128
  have e2 : bitI (f.toNat : Int) 32 = bitN f.toNat 32 := bitI_eq f.toNat 32
  have e3 : bitI (f.toNat : Int) 16 = bitN f.toNat 16 := bitI_eq f.toNat 16
  have e8 : (f.toNat : Int).tmod 8 = ((f.toNat % 8 : Nat) : Int) := by rw [Int.tmod_eq_emod_of_nonneg (by omega)]; omega
  have e9 : IntKind.i64.wrap ((f.toNat % 8 : Nat) : Int) = ((f.toNat % 8 : Nat) : Int) := IntWalk.i64_in _ (by omega)
  have hf0 : (0 : Int) ≤ (f.toNat : Int) := by omega
  have hf2 : (f.toNat : Int) < 256 := by omega
  have HB := Lib.hid hb
  have HM := Lib.hid hm
  clear hb hm
  generalize hmo : bitN f.toNat 128 = mo at e1
  generalize hlo : bitN f.toNat 32 = lo at e2
  generalize hst : bitN f.toNat 16 = st at e3
  have hpa8 : f.toNat % 8 < 8 := Nat.mod_lt _ (by decide)
  generalize hpa : f.toNat % 8 = pa at e8 e9 hpa8
  have HLO := Lib.hid hlo
  have HST := Lib.hid hst
  have HPA := Lib.hid hpa
  have HMO := Lib.hid hmo
  have HF8 := Lib.hid hf
  clear hlo hst hpa hmo hf
  go_enter Try.func12, Try.ntmps12
  go_upto_region 3 with fail
  go_cut [7] (fun s7 wx => s7 = .pointer (some ⟨w.heap.size + 1, 0, none⟩) ∧ wx = ((w.alloc (.cells dsc0.plain 31)).alloc (.cells #[.bool mo, .bool lo, .bool st, .int .i64 (pa : Int), .bool false, .bool false, .int .i64 0, .bool false, .int .i64 0, .bool false, .int .i64 0, .bool false, .bool false, .int .i64 0] 31)).drew)
  case first =>
    refine wp_region_noPanic ?_
    refine wp_region_any (by kernel_rfl) ?_
    (try (change wpAny _ _ _ _ _ _ _ (World.drew _)))
    refine wpAny_take (i := 0) (v := ?_) rfl (by kernel_rfl) (by kernel_rfl) (by kernel_rfl) (fun _ _ _ h => h) (Or.inl ⟨by kernel_rfl, ?_⟩) ?_
    rotate_left 1
    · (intro w; go_simp; try (with_reducible rfl))
    (try simp only [Act.put, List.getElem_toArray, List.getElem_cons_succ, List.getElem_cons_zero, List.setIfInBounds_toArray, List.set_cons_zero, List.set_cons_succ])
    refine wpAny_take (i := 1) (v := ?_) rfl (by kernel_rfl) (by kernel_rfl) (by kernel_rfl) (fun _ _ _ h => h) (Or.inl ⟨by kernel_rfl, ?_⟩) ?_
    rotate_left 1
    · (intro w; go_simp; try (with_reducible rfl))
    (try simp only [Act.put, List.getElem_toArray, List.getElem_cons_succ, List.getElem_cons_zero, List.setIfInBounds_toArray, List.set_cons_zero, List.set_cons_succ])
    refine wpAny_take (i := 3) (v := ?_) rfl (by kernel_rfl) (by kernel_rfl) (by kernel_rfl) (fun _ _ _ h => h) (Or.inl ⟨by kernel_rfl, ?_⟩) ?_
    rotate_left 1
    · (intro w; go_simp; try (with_reducible rfl))
    (try simp only [Act.put, List.getElem_toArray, List.getElem_cons_succ, List.getElem_cons_zero, List.setIfInBounds_toArray, List.set_cons_zero, List.set_cons_succ])
    refine wpAny_take (i := 4) (v := ?_) rfl (by kernel_rfl) (by kernel_rfl) (by kernel_rfl) (fun _ _ _ h => h) (Or.inl ⟨by kernel_rfl, ?_⟩) ?_
    rotate_left 1
    · (intro w; go_simp; try (with_reducible rfl))
    (try simp only [Act.put, List.getElem_toArray, List.getElem_cons_succ, List.getElem_cons_zero, List.setIfInBounds_toArray, List.set_cons_zero, List.set_cons_succ])
    refine wpAny_take (i := 6) (v := ?_) rfl (by kernel_rfl) (by kernel_rfl) (by kernel_rfl) (fun _ _ _ h => h) (Or.inl ⟨by kernel_rfl, ?_⟩) ?_
    rotate_left 1
    · (intro w; go_simp; try (with_reducible rfl))
    (try simp only [Act.put, List.getElem_toArray, List.getElem_cons_succ, List.getElem_cons_zero, List.setIfInBounds_toArray, List.set_cons_zero, List.set_cons_succ])
    refine wpAny_take (i := 7) (v := ?_) rfl (by kernel_rfl) (by kernel_rfl) (by kernel_rfl) (fun _ _ _ h => h) (Or.inl ⟨by kernel_rfl, ?_⟩) ?_
    rotate_left 1
    · (intro w; go_simp; try (with_reducible rfl))
    (try simp only [Act.put, List.getElem_toArray, List.getElem_cons_succ, List.getElem_cons_zero, List.setIfInBounds_toArray, List.set_cons_zero, List.set_cons_succ])
    refine wpAny_take (i := 9) (v := ?_) rfl (by kernel_rfl) (by kernel_rfl) (by kernel_rfl) (fun _ _ _ h => h) (Or.inl ⟨by kernel_rfl, ?_⟩) ?_
    rotate_left 1
    · (intro w; go_simp; try (with_reducible rfl))
    (try simp only [Act.put, List.getElem_toArray, List.getElem_cons_succ, List.getElem_cons_zero, List.setIfInBounds_toArray, List.set_cons_zero, List.set_cons_succ])
    refine wpAny_take (i := 10) (v := ?_) rfl (by kernel_rfl) (by kernel_rfl) (by kernel_rfl) (fun _ _ _ h => h) (Or.inl ⟨by kernel_rfl, ?_⟩) ?_
    rotate_left 1
    · (intro w; go_simp; try (with_reducible rfl))
    (try simp only [Act.put, List.getElem_toArray, List.getElem_cons_succ, List.getElem_cons_zero, List.setIfInBounds_toArray, List.set_cons_zero, List.set_cons_succ])
    refine wpAny_take (i := 11) (v := ?_) rfl (by kernel_rfl) (by kernel_rfl) (by kernel_rfl) (fun _ _ _ h => h) (Or.inl ⟨by kernel_rfl, ?_⟩) ?_
    rotate_left 1
    · (intro w; go_simp; try (with_reducible rfl))
    (try simp only [Act.put, List.getElem_toArray, List.getElem_cons_succ, List.getElem_cons_zero, List.setIfInBounds_toArray, List.set_cons_zero, List.set_cons_succ])
    refine wpAny_take (i := 12) (v := ?_) rfl (by kernel_rfl) (by kernel_rfl) (by kernel_rfl) (fun _ _ _ h => h) (Or.inl ⟨by kernel_rfl, ?_⟩) ?_
    rotate_left 1
    · (intro w; go_simp; try (with_reducible rfl))
    (try simp only [Act.put, List.getElem_toArray, List.getElem_cons_succ, List.getElem_cons_zero, List.setIfInBounds_toArray, List.set_cons_zero, List.set_cons_succ])
    refine wpAny_ready (rs := [2, 14]) (by kernel_rfl) (by simp) ?_
    refine AllReady.cons rfl (fun K hK => ?_) ?_
    · go_simp
      go_wp2_with (go_at_call 24; refine (bit_any _ _ _ hf0 hf2 (by decide) (by decide)).mono ?_; rintro e w' ⟨rfl, rfl⟩)
      (try (refine hK _ _ ?_))
      (try (clear hK K))
      (try simp only [Act.put, List.getElem_toArray, List.getElem_cons_succ, List.getElem_cons_zero, List.setIfInBounds_toArray, List.set_cons_zero, List.set_cons_succ])
      refine wpAny_ready (rs := [5, 14]) (by kernel_rfl) (by simp) ?_
      refine AllReady.cons rfl (fun K hK => ?_) ?_
      · go_simp
        go_wp2_with (go_at_call 24; refine (bit_any _ _ _ hf0 hf2 (by decide) (by decide)).mono ?_; rintro e w' ⟨rfl, rfl⟩)
        (try (refine hK _ _ ?_))
        (try (clear hK K))
        (try simp only [Act.put, List.getElem_toArray, List.getElem_cons_succ, List.getElem_cons_zero, List.setIfInBounds_toArray, List.set_cons_zero, List.set_cons_succ])
        refine wpAny_ready (rs := [8, 14]) (by kernel_rfl) (by simp) ?_
        refine AllReady.cons rfl (fun K hK => ?_) ?_
        · go_simp
          go_wp2_with (go_at_call 24; refine (bit_any _ _ _ hf0 hf2 (by decide) (by decide)).mono ?_; rintro e w' ⟨rfl, rfl⟩)
          (try (refine hK _ _ ?_))
          (try (clear hK K))
          (try simp only [Act.put, List.getElem_toArray, List.getElem_cons_succ, List.getElem_cons_zero, List.setIfInBounds_toArray, List.set_cons_zero, List.set_cons_succ])
          refine wpAny_take (i := 13) (v := ?_) rfl (by kernel_rfl) (by kernel_rfl) (by kernel_rfl) (fun _ _ _ h => h) (Or.inl ⟨by kernel_rfl, ?_⟩) ?_
          rotate_left 1
          · (intro w; go_simp; try (with_reducible rfl))
          (try simp only [Act.put, List.getElem_toArray, List.getElem_cons_succ, List.getElem_cons_zero, List.setIfInBounds_toArray, List.set_cons_zero, List.set_cons_succ])
          refine wpAny_ready (rs := [14]) (by kernel_rfl) (by simp) ?_
          refine AllReady.cons rfl (fun K hK => ?_) ?_
          · go_simp
            (try (refine hK _ _ ?_))
            (try (clear hK K))
            (try simp only [Act.put, List.getElem_toArray, List.getElem_cons_succ, List.getElem_cons_zero, List.setIfInBounds_toArray, List.set_cons_zero, List.set_cons_succ])
            refine wpAny_ready (rs := [15]) (by kernel_rfl) (by simp) ?_
            refine AllReady.cons rfl (fun K hK => ?_) ?_
            · go_simp
              (try (refine hK _ _ ?_))
              (try (clear hK K))
              (try simp only [Act.put, List.getElem_toArray, List.getElem_cons_succ, List.getElem_cons_zero, List.setIfInBounds_toArray, List.set_cons_zero, List.set_cons_succ])
              refine wpAny_done (by kernel_rfl) ?_ _
              refine NoPanic.normal ?_
              (try (go_wp2_with fail))
              go_meet
              exact ⟨rfl, rfl⟩
            exact AllReady.nil
          exact AllReady.nil
        refine AllReady.cons rfl (fun K hK => ?_) ?_
        · go_simp
          (try (refine hK _ _ ?_))
          (try (clear hK K))
          (try simp only [Act.put, List.getElem_toArray, List.getElem_cons_succ, List.getElem_cons_zero, List.setIfInBounds_toArray, List.set_cons_zero, List.set_cons_succ])
          refine wpAny_ready (rs := [8]) (by kernel_rfl) (by simp) ?_
          refine AllReady.cons rfl (fun K hK => ?_) ?_
          · go_simp
            go_wp2_with (go_at_call 24; refine (bit_any _ _ _ hf0 hf2 (by decide) (by decide)).mono ?_; rintro e w' ⟨rfl, rfl⟩)
            (try (refine hK _ _ ?_))
            (try (clear hK K))
            (try simp only [Act.put, List.getElem_toArray, List.getElem_cons_succ, List.getElem_cons_zero, List.setIfInBounds_toArray, List.set_cons_zero, List.set_cons_succ])
            refine wpAny_take (i := 13) (v := ?_) rfl (by kernel_rfl) (by kernel_rfl) (by kernel_rfl) (fun _ _ _ h => h) (Or.inl ⟨by kernel_rfl, ?_⟩) ?_
            rotate_left 1
            · (intro w; go_simp; try (with_reducible rfl))
            (try simp only [Act.put, List.getElem_toArray, List.getElem_cons_succ, List.getElem_cons_zero, List.setIfInBounds_toArray, List.set_cons_zero, List.set_cons_succ])
            refine wpAny_ready (rs := [15]) (by kernel_rfl) (by simp) ?_
            refine AllReady.cons rfl (fun K hK => ?_) ?_
            · go_simp
              (try (refine hK _ _ ?_))
              (try (clear hK K))
              (try simp only [Act.put, List.getElem_toArray, List.getElem_cons_succ, List.getElem_cons_zero, List.setIfInBounds_toArray, List.set_cons_zero, List.set_cons_succ])
              refine wpAny_done (by kernel_rfl) ?_ _
              refine NoPanic.normal ?_
              (try (go_wp2_with fail))
              go_meet
              exact ⟨rfl, rfl⟩
            exact AllReady.nil
          exact AllReady.nil
        exact AllReady.nil
      refine AllReady.cons rfl (fun K hK => ?_) ?_
      · go_simp
        (try (refine hK _ _ ?_))
        (try (clear hK K))
        (try simp only [Act.put, List.getElem_toArray, List.getElem_cons_succ, List.getElem_cons_zero, List.setIfInBounds_toArray, List.set_cons_zero, List.set_cons_succ])
        refine wpAny_ready (rs := [5]) (by kernel_rfl) (by simp) ?_
        refine AllReady.cons rfl (fun K hK => ?_) ?_
        · go_simp
          go_wp2_with (go_at_call 24; refine (bit_any _ _ _ hf0 hf2 (by decide) (by decide)).mono ?_; rintro e w' ⟨rfl, rfl⟩)
          (try (refine hK _ _ ?_))
          (try (clear hK K))
          (try simp only [Act.put, List.getElem_toArray, List.getElem_cons_succ, List.getElem_cons_zero, List.setIfInBounds_toArray, List.set_cons_zero, List.set_cons_succ])
          refine wpAny_ready (rs := [8]) (by kernel_rfl) (by simp) ?_
          refine AllReady.cons rfl (fun K hK => ?_) ?_
          · go_simp
            go_wp2_with (go_at_call 24; refine (bit_any _ _ _ hf0 hf2 (by decide) (by decide)).mono ?_; rintro e w' ⟨rfl, rfl⟩)
            (try (refine hK _ _ ?_))
            (try (clear hK K))
            (try simp only [Act.put, List.getElem_toArray, List.getElem_cons_succ, List.getElem_cons_zero, List.setIfInBounds_toArray, List.set_cons_zero, List.set_cons_succ])
            refine wpAny_take (i := 13) (v := ?_) rfl (by kernel_rfl) (by kernel_rfl) (by kernel_rfl) (fun _ _ _ h => h) (Or.inl ⟨by kernel_rfl, ?_⟩) ?_
            rotate_left 1
            · (intro w; go_simp; try (with_reducible rfl))
            (try simp only [Act.put, List.getElem_toArray, List.getElem_cons_succ, List.getElem_cons_zero, List.setIfInBounds_toArray, List.set_cons_zero, List.set_cons_succ])
            refine wpAny_ready (rs := [15]) (by kernel_rfl) (by simp) ?_
            refine AllReady.cons rfl (fun K hK => ?_) ?_
            · go_simp
              (try (refine hK _ _ ?_))
              (try (clear hK K))
              (try simp only [Act.put, List.getElem_toArray, List.getElem_cons_succ, List.getElem_cons_zero, List.setIfInBounds_toArray, List.set_cons_zero, List.set_cons_succ])
              refine wpAny_done (by kernel_rfl) ?_ _
              refine NoPanic.normal ?_
              (try (go_wp2_with fail))
              go_meet
              exact ⟨rfl, rfl⟩
            exact AllReady.nil
          exact AllReady.nil
        exact AllReady.nil
      exact AllReady.nil
    refine AllReady.cons rfl (fun K hK => ?_) ?_
    · go_simp
      (try (refine hK _ _ ?_))
      (try (clear hK K))
      (try simp only [Act.put, List.getElem_toArray, List.getElem_cons_succ, List.getElem_cons_zero, List.setIfInBounds_toArray, List.set_cons_zero, List.set_cons_succ])
      refine wpAny_ready (rs := [2]) (by kernel_rfl) (by simp) ?_
      refine AllReady.cons rfl (fun K hK => ?_) ?_
      · go_simp
        go_wp2_with (go_at_call 24; refine (bit_any _ _ _ hf0 hf2 (by decide) (by decide)).mono ?_; rintro e w' ⟨rfl, rfl⟩)
        (try (refine hK _ _ ?_))
        (try (clear hK K))
        (try simp only [Act.put, List.getElem_toArray, List.getElem_cons_succ, List.getElem_cons_zero, List.setIfInBounds_toArray, List.set_cons_zero, List.set_cons_succ])
        refine wpAny_ready (rs := [5]) (by kernel_rfl) (by simp) ?_
        refine AllReady.cons rfl (fun K hK => ?_) ?_
        · go_simp
          go_wp2_with (go_at_call 24; refine (bit_any _ _ _ hf0 hf2 (by decide) (by decide)).mono ?_; rintro e w' ⟨rfl, rfl⟩)
          (try (refine hK _ _ ?_))
          (try (clear hK K))
          (try simp only [Act.put, List.getElem_toArray, List.getElem_cons_succ, List.getElem_cons_zero, List.setIfInBounds_toArray, List.set_cons_zero, List.set_cons_succ])
          refine wpAny_ready (rs := [8]) (by kernel_rfl) (by simp) ?_
          refine AllReady.cons rfl (fun K hK => ?_) ?_
          · go_simp
            go_wp2_with (go_at_call 24; refine (bit_any _ _ _ hf0 hf2 (by decide) (by decide)).mono ?_; rintro e w' ⟨rfl, rfl⟩)
            (try (refine hK _ _ ?_))
            (try (clear hK K))
            (try simp only [Act.put, List.getElem_toArray, List.getElem_cons_succ, List.getElem_cons_zero, List.setIfInBounds_toArray, List.set_cons_zero, List.set_cons_succ])
            refine wpAny_take (i := 13) (v := ?_) rfl (by kernel_rfl) (by kernel_rfl) (by kernel_rfl) (fun _ _ _ h => h) (Or.inl ⟨by kernel_rfl, ?_⟩) ?_
            rotate_left 1
            · (intro w; go_simp; try (with_reducible rfl))
            (try simp only [Act.put, List.getElem_toArray, List.getElem_cons_succ, List.getElem_cons_zero, List.setIfInBounds_toArray, List.set_cons_zero, List.set_cons_succ])
            refine wpAny_ready (rs := [15]) (by kernel_rfl) (by simp) ?_
            refine AllReady.cons rfl (fun K hK => ?_) ?_
            · go_simp
              (try (refine hK _ _ ?_))
              (try (clear hK K))
              (try simp only [Act.put, List.getElem_toArray, List.getElem_cons_succ, List.getElem_cons_zero, List.setIfInBounds_toArray, List.set_cons_zero, List.set_cons_succ])
              refine wpAny_done (by kernel_rfl) ?_ _
              refine NoPanic.normal ?_
              (try (go_wp2_with fail))
              go_meet
              exact ⟨rfl, rfl⟩
            exact AllReady.nil
          exact AllReady.nil
        exact AllReady.nil
      exact AllReady.nil
    exact AllReady.nil
  case rest =>
    obtain ⟨rfl, hwx⟩ := hcut
    have hWd : Whole wc (w.heap.size + 1) 31 #[.bool mo, .bool lo, .bool st, .int .i64 (pa : Int), .bool false, .bool false, .int .i64 0, .bool false, .int .i64 0, .bool false, .int .i64 0, .bool false, .bool false, .int .i64 0] := by
      rw [hwx]
      exact (Whole.new2 _ _ _ _).drew
    have hWr : Whole wc w.heap.size 31 dsc0.plain := by
      rw [hwx]
      exact ((Whole.new _ _ _).alloc _).drew
    have hB : Below w.heap.size w wc := by
      rw [hwx]
      exact bdrewN (((Below.refl _ w).alloc (Nat.le_refl _) _).alloc (by simp) _) 1
    obtain ⟨gd, hgd⟩ : ∃ gd, gd = w.heap.size + 1 := ⟨_, rfl⟩
    obtain ⟨gr, hgr⟩ : ∃ gr, gr = w.heap.size := ⟨_, rfl⟩
    rw [← hgd] at hWd
    have hg1 : gr ≠ gd := by omega
    have hg2 : w.heap.size ≤ gd := by omega
    have hg3 : w.heap.size ≤ gr := by omega
    rw [← hgr] at hWr
    rw [← hgd, ← hgr]
    have HG := Lib.hid (show (gr ≠ gd ∧ w.heap.size ≤ gd ∧ w.heap.size ≤ gr) from ⟨hg1, hg2, hg3⟩)
    have HWD := Lib.hid hWd
    have HWR := Lib.hid hWr
    have HBW := Lib.hid hB
    have hlt := hWd.lt
    have hlr := hWr.lt
    cases mo with
    | false =>
      have h1 := HMO.out
      have h2 := HF8.out
      unfold bitN at h1
      simp at h1
      exfalso
      omega
    | true =>
    clear hA
    have hf1 : 128 ≤ f.toNat := by
      have h1 := HMO.out
      have h2 := HF8.out
      unfold bitN at h1
      simp at h1
      omega
    have kk0 : wc.cell? ⟨gd, 0, none⟩ = some (.bool true) := HWD.out.cell 0
    cases ll with
    | nil =>
      have hm1 : (m : Int) < 2 := by rw [← HM.out, HB.out]; simp
      have HFF := Lib.hid (show ∀ wx, Below w.heap.size w wx → RefParsed b w (.returned (.tuple #[.agg dsc0.plain, .int .i64 0, .int .i64 0, .int .i64 0, .int .i64 10])) wx from fun wx h => ⟨.inl ⟨by rw [HB.out]; simp [parseS]; omega, rfl⟩, h⟩)
      have r0 : wc.cell? ⟨gr, 0, none⟩ = some (.bool false) := HWR.out.cell 0
      have z0 := HWR.out.free 0
      have r1 : wc.cell? ⟨gr, 1, none⟩ = some (.bool false) := HWR.out.cell 1
      have z1 := HWR.out.free 1
      have r2 : wc.cell? ⟨gr, 2, none⟩ = some (.bool false) := HWR.out.cell 2
      have z2 := HWR.out.free 2
      have r3 : wc.cell? ⟨gr, 3, none⟩ = some (.int .i64 0) := HWR.out.cell 3
      have z3 := HWR.out.free 3
      have r4 : wc.cell? ⟨gr, 4, none⟩ = some (.bool false) := HWR.out.cell 4
      have z4 := HWR.out.free 4
      have r5 : wc.cell? ⟨gr, 5, none⟩ = some (.bool false) := HWR.out.cell 5
      have z5 := HWR.out.free 5
      have r6 : wc.cell? ⟨gr, 6, none⟩ = some (.int .i64 0) := HWR.out.cell 6
      have z6 := HWR.out.free 6
      have r7 : wc.cell? ⟨gr, 7, none⟩ = some (.bool false) := HWR.out.cell 7
      have z7 := HWR.out.free 7
      have r8 : wc.cell? ⟨gr, 8, none⟩ = some (.int .i64 0) := HWR.out.cell 8
      have z8 := HWR.out.free 8
      have r9 : wc.cell? ⟨gr, 9, none⟩ = some (.bool false) := HWR.out.cell 9
      have z9 := HWR.out.free 9
      have r10 : wc.cell? ⟨gr, 10, none⟩ = some (.int .i64 0) := HWR.out.cell 10
      have z10 := HWR.out.free 10
      have r11 : wc.cell? ⟨gr, 11, none⟩ = some (.bool false) := HWR.out.cell 11
      have z11 := HWR.out.free 11
      have r12 : wc.cell? ⟨gr, 12, none⟩ = some (.bool false) := HWR.out.cell 12
      have z12 := HWR.out.free 12
      have r13 : wc.cell? ⟨gr, 13, none⟩ = some (.int .i64 0) := HWR.out.cell 13
      have z13 := HWR.out.free 13
      clear hwx hgd hgr hWd hWr hB hg1 hg2 hg3 e1 e2 e3 e8 e9 hf1
      go_wp2_with fail
      have hWe := Lib.hid (whole_all HWR.out (.bool false) (.bool false) (.bool false) (.int .i64 0) (.bool false) (.bool false) (.int .i64 0) (.bool false) (.int .i64 0) (.bool false) (.int .i64 0) (.bool false) (.bool false) (.int .i64 0))
      have hBe := Lib.hid (below_all HBW.out HG.out.2.2 (.bool false) (.bool false) (.bool false) (.int .i64 0) (.bool false) (.bool false) (.int .i64 0) (.bool false) (.int .i64 0) (.bool false) (.int .i64 0) (.bool false) (.bool false) (.int .i64 0))
      obtain ⟨we, hwe⟩ : ∃ we, we = ((((((((((((((wc.setCell ⟨gr, 0, none⟩ (.bool false)).setCell ⟨gr, 1, none⟩ (.bool false)).setCell ⟨gr, 2, none⟩ (.bool false)).setCell ⟨gr, 3, none⟩ (.int .i64 0)).setCell ⟨gr, 4, none⟩ (.bool false)).setCell ⟨gr, 5, none⟩ (.bool false)).setCell ⟨gr, 6, none⟩ (.int .i64 0)).setCell ⟨gr, 7, none⟩ (.bool false)).setCell ⟨gr, 8, none⟩ (.int .i64 0)).setCell ⟨gr, 9, none⟩ (.bool false)).setCell ⟨gr, 10, none⟩ (.int .i64 0)).setCell ⟨gr, 11, none⟩ (.bool false)).setCell ⟨gr, 12, none⟩ (.bool false)).setCell ⟨gr, 13, none⟩ (.int .i64 0)) := ⟨_, rfl⟩
      rw [← hwe] at hWe hBe ⊢
      have g0 : we.cell? ⟨gr, 0, none⟩ = some (.bool false) := hWe.out.cell 0
      have g1 : we.cell? ⟨gr, 1, none⟩ = some (.bool false) := hWe.out.cell 1
      have g2 : we.cell? ⟨gr, 2, none⟩ = some (.bool false) := hWe.out.cell 2
      have g3 : we.cell? ⟨gr, 3, none⟩ = some (.int .i64 0) := hWe.out.cell 3
      have g4 : we.cell? ⟨gr, 4, none⟩ = some (.bool false) := hWe.out.cell 4
      have g5 : we.cell? ⟨gr, 5, none⟩ = some (.bool false) := hWe.out.cell 5
      have g6 : we.cell? ⟨gr, 6, none⟩ = some (.int .i64 0) := hWe.out.cell 6
      have g7 : we.cell? ⟨gr, 7, none⟩ = some (.bool false) := hWe.out.cell 7
      have g8 : we.cell? ⟨gr, 8, none⟩ = some (.int .i64 0) := hWe.out.cell 8
      have g9 : we.cell? ⟨gr, 9, none⟩ = some (.bool false) := hWe.out.cell 9
      have g10 : we.cell? ⟨gr, 10, none⟩ = some (.int .i64 0) := hWe.out.cell 10
      have g11 : we.cell? ⟨gr, 11, none⟩ = some (.bool false) := hWe.out.cell 11
      have g12 : we.cell? ⟨gr, 12, none⟩ = some (.bool false) := hWe.out.cell 12
      have g13 : we.cell? ⟨gr, 13, none⟩ = some (.int .i64 0) := hWe.out.cell 13
      clear hwe
      exact bodyPost_ret (v := .tuple #[.agg #[.bool false, .bool false, .bool false, .int .i64 0, .bool false, .bool false, .int .i64 0, .bool false, .int .i64 0, .bool false, .int .i64 0, .bool false, .bool false, .int .i64 0], .int .i64 0, .int .i64 0, .int .i64 0, .int .i64 10]) (by simp [results, Try.results12, go_sem, g0, g1, g2, g3, g4, g5, g6, g7, g8, g9, g10, g11, g12, g13]) rfl (HFF.out we hBe.out)
    | cons t l0 => exact absurd hB (by simp)

end Go.Proofs.Ytliiodjcpkabmaa
