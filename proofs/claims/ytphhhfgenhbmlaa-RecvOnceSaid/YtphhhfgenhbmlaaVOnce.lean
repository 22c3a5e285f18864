/-
  Proved: RecvOnce returns true for every row of packets: one that is told again at once is there already, and changes nothing. Conditions: none.
-/
import Derived.Test.YtphhhfgenhbmlaaRvD
import Derived.Test.YtphhhfgenhbmlaaRvO
import Derived.Test.YtphhhfgenhbmlaaHang
import Derived.Test.YtphhhfgenhbmlaaLift
import Derived.Deep.CutBlock
namespace Go.Proofs.Ytphhhfgenhbmlaa.VOnce
open Go.ChangeShapes Go.WideShapes Go.ChangeAt Go.RowKit
set_option linter.unusedSimpArgs false

/-- A packet, and the same one at once again: what it is, the track behind it, and how many came. -/
theorem again (t : Trk) (s : Int) (ht : t.on = false → t = Trk.zero) :
    (∃ k, (k = 2 ∨ k = 3) ∧ Tk t s t (t.num s) k) ∨ ∃ k, ∃ u : Trk, (k = 0 ∨ k = 1) ∧ Tk t s u (t.num s) k ∧ Tk u s u (t.num s) 2 ∧ u.got = t.got + 1 ∧ u.on = true := by
  by_cases h : t.kind (t.num s) = 3 ∨ t.kind (t.num s) = 2
  · exact .inl ⟨_, h.symm, rfl, rfl, Trk.again_old _ _ h⟩
  · obtain ⟨h1, h2, h3, h4⟩ := Trk.again_new t s ⟨fun e => h (.inl e), fun e => h (.inr e)⟩
    refine .inr ⟨_, _, ?_, ⟨rfl, rfl, rfl⟩, ⟨h1, h2, h3⟩, ?_, Trk.take_on _ _⟩
    · have := t.kind_bd (t.num s)
      omega
    · by_cases ho : t.on = true
      · exact h4 ho
      · obtain rfl := ht (by simpa using ho)
        rfl
theorem num_low (t : Trk) (s : Int) (h0 : 0 ≤ s) (h1 : s < 65536) : IntKind.u16.wrap (t.num s) = s := by
  rw [IntKind.wrap_u16]
  unfold Trk.num
  split
  · rw [nearS_mod]; omega
  · omega

set_option maxRecDepth 100000 in
set_option maxHeartbeats 3200000 in
theorem walk (w : World) (A : Option Addr) (c : Nat) (l : List Nat) (hl : l.length ≤ maxLen) (hr : Row w w.heap.size 1 A l.length (n16 l)) (hx : ∀ x ∈ l, x < 65536) :
    Calls Try.prog 4 #[.slice A l.length c] w fun e w' => e = .returned (.bool true) ∧ Below w.heap.size w w' := by
  unfold maxLen at hl
  obtain ⟨n, hn⟩ : ∃ n, l.length = n := ⟨_, rfl⟩
  rw [hn] at hl hr ⊢
  have CA := Lib.hid (awake_any w)
  by_cases h1 : 300 < n
  · clear hr hn hx
    go_enter Try.func4, Try.ntmps4
    go_wp2_with fail
    refine CA.out.mono ?_
    rintro e w1 ⟨rfl, b1⟩
    go_wp2
    go_ret
    exact ⟨rfl, b1⟩
  have H := Lib.hid hr
  have HN := Lib.hid hn
  have HX := Lib.hid hx
  clear hr hn hx
  go_enter Try.func4, Try.ntmps4
  go_wp2_with fail
  refine CA.out.mono ?_
  rintro e w1 ⟨rfl, b1⟩
  have HW := Lib.hid (Whole.new w1 26 #[.bool false, .int .i64 0, .int .i64 0, .int .i64 0, .int .u64 0])
  have HB := Lib.hid (b1.alloc b1.size (.cells #[.bool false, .int .i64 0, .int .i64 0, .int .i64 0, .int .u64 0] 26))
  obtain ⟨gt, hgt⟩ : ∃ g, g = w1.heap.size := ⟨_, rfl⟩
  have hg := b1.size
  rw [← hgt] at hg HW
  clear b1 CA
  go_wp2_with fail
  rw [← hgt]
  go_loopw [5] (fun i wr => ∃ (k : Nat) (t : Trk), k ≤ n ∧ i = .int .i64 (k : Int) ∧ Hid (t.Ok (k * 65536) ∧ (t.on = false → t = Trk.zero)) ∧ Hid (Whole wr gt 26 t.cells) ∧ Below w.heap.size w wr) (fun i _ => n - (intOf i).toNat)
  case atStart => exact ⟨0, Trk.zero, Nat.zero_le _, rfl, Lib.hid ⟨Trk.Ok.zero, fun _ => rfl⟩, HW, HB.out⟩
  case round =>
    clear HW HB hgt
    obtain ⟨k, t, hk, rfl, HT, HW, hb⟩ := hrel
    obtain ⟨wo, rfl⟩ : ∃ wo : World, wo = wr := ⟨_, rfl⟩
    have HB := Lib.hid hb
    have hsz := hb.size
    clear hb
    by_cases hlt : k < n
    · obtain ⟨x, hx⟩ : ∃ x, l[k]? = some x := ⟨l[k]'(by rw [HN.out]; exact hlt), by simp⟩
      have hx6 := HX.out x (List.mem_of_getElem? hx)
      obtain ⟨g, o, rfl, hg0, hcell⟩ := H.out.2 (by omega)
      have ROW := Lib.hid (fun w' (b' : Below w.heap.size w w') => show w'.cell? ⟨g, o + k, none⟩ = some (.int .u16 (x : Int)) from (b'.cell (p := ⟨g, o + k, none⟩) hg0).trans (hcell k _ (n16_get _ _ _ hx)))
      clear hcell hx
      have ht := HT.out.1
      have hnb := Trk.num_bd ht (x : Int) (by omega) (by omega)
      have HLOW := Lib.hid (num_low t (x : Int) (by omega) (by omega))
      have HAG := again t (x : Int) HT.out.2
      obtain ⟨m, hm⟩ : ∃ m, t.num (x : Int) = m := ⟨_, rfl⟩
      have HOK := Lib.hid (ht.take m (by rw [← hm]; exact hnb.1) (by rw [← hm]; exact hnb.2))
      rw [hm] at HLOW HAG hnb
      have hFt : t.Fit := ht.more (by omega)
      have hFu : (t.take m).Fit := HOK.out.more (by omega)
      clear hm ht
      have hi1 : (0 : Int) ≤ (k : Int) := by omega
      have hi2 : (k : Int) < (n : Int) := by omega
      have hR1 := Lib.hid (fun w' (b' : Below wo.heap.size wo w') => ROW.out w' (HB.out.trans (b'.mono hsz)))
      have HB1 := Lib.hid (fun w' (b' : Below wo.heap.size wo w') => HB.out.trans (b'.mono hsz))
      rcases HAG with HAG | HAG
      · obtain ⟨kd, hkd, h1⟩ := HAG
        have HT2 : Hid (t.Ok ((k + 1 : Nat) * 65536) ∧ (t.on = false → t = Trk.zero)) := Lib.hid ⟨HT.out.1.more (by omega), HT.out.2⟩
        clear HOK hFu HT
        obtain ⟨on, base, high, got, seen⟩ := t
        have C := fun w => tk_lit _ _ _ _ _ _ _ _ _ h1 hFt (by omega) (by omega) w
        clear h1 hFt
        have HE := fun w => neq_trk w ⟨on, base, high, got, seen⟩
        simp only [Trk.cells] at C HE HW
        have C := Lib.hid C
        have K6 := Lib.hid (fun w' (b' : Below wo.heap.size wo w') => show (fun w' => w'.cell? ⟨gt, 0, none⟩ = some (.bool on) ∧ w'.cell? ⟨gt, 1, none⟩ = some (.int .i64 base) ∧ w'.cell? ⟨gt, 2, none⟩ = some (.int .i64 high) ∧ w'.cell? ⟨gt, 3, none⟩ = some (.int .i64 got) ∧ w'.cell? ⟨gt, 4, none⟩ = some (.int .u64 (seen : Int)) ∧ w'.cell? ⟨g, o + k, none⟩ = some (.int .u16 (x : Int))) w' from ⟨(HW.out.below b' HW.out.lt).cell 0, (HW.out.below b' HW.out.lt).cell 1, (HW.out.below b' HW.out.lt).cell 2, (HW.out.below b' HW.out.lt).cell 3, (HW.out.below b' HW.out.lt).cell 4, hR1.out _ b'⟩)
        have hgw := HW.out.lt
        go_upto_region 10 with fail
        go_cut [6, 7, 8] (fun s6 s7 s8 wx => ∃ gq : Nat, s6 = .pointer (some ⟨gq, 0, none⟩) ∧ wo.heap.size ≤ gq ∧ s7 = .int .i64 m ∧ s8 = .int .i64 kd ∧ Whole wx gq 26 #[.bool on, .int .i64 base, .int .i64 high, .int .i64 got, .int .u64 (seen : Int)] ∧ Below wo.heap.size wo wx)
        case first =>
          refine wp_region_X (S := fun w' => w'.cell? ⟨gt, 0, none⟩ = some (.bool on) ∧ w'.cell? ⟨gt, 1, none⟩ = some (.int .i64 base) ∧ w'.cell? ⟨gt, 2, none⟩ = some (.int .i64 high) ∧ w'.cell? ⟨gt, 3, none⟩ = some (.int .i64 got) ∧ w'.cell? ⟨gt, 4, none⟩ = some (.int .u64 (seen : Int)) ∧ w'.cell? ⟨g, o + k, none⟩ = some (.int .u16 (x : Int))) [] (by kernel_rfl) (K6.out _ (Below.refl _ _).drew) (fun hHeld0 => ?_)
          refine wpAnyX_take (i := 0) [] (v := ?_) rfl (by kernel_rfl) (by kernel_rfl) (by kernel_rfl) (by kernel_rfl) (fun _ _ _ h => h) (Or.inl ⟨by kernel_rfl, ?_⟩) (by assumption) ?_
          rotate_left 1
          · (intro w hSw; obtain ⟨q0, q1, q2, q3, q4, q5⟩ := hSw; go_simp; try (with_reducible rfl))
          (try simp only [Act.put, List.getElem_toArray, List.getElem_cons_succ, List.getElem_cons_zero, List.setIfInBounds_toArray, List.set_cons_zero, List.set_cons_succ])
          refine wpAnyX_take (i := 1) [] (v := ?_) rfl (by kernel_rfl) (by kernel_rfl) (by kernel_rfl) (by kernel_rfl) (fun _ _ _ h => h) (Or.inl ⟨by kernel_rfl, ?_⟩) (by assumption) ?_
          rotate_left 1
          · (intro w hSw; obtain ⟨q0, q1, q2, q3, q4, q5⟩ := hSw; go_simp; try (with_reducible rfl))
          (try simp only [Act.put, List.getElem_toArray, List.getElem_cons_succ, List.getElem_cons_zero, List.setIfInBounds_toArray, List.set_cons_zero, List.set_cons_succ])
          refine wpAnyX_take (i := 2) [] (v := ?_) rfl (by kernel_rfl) (by kernel_rfl) (by kernel_rfl) (by kernel_rfl) (fun _ _ _ h => h) (Or.inl ⟨by kernel_rfl, ?_⟩) (by assumption) ?_
          rotate_left 1
          · (intro w hSw; obtain ⟨q0, q1, q2, q3, q4, q5⟩ := hSw; go_simp; try (with_reducible rfl))
          (try simp only [Act.put, List.getElem_toArray, List.getElem_cons_succ, List.getElem_cons_zero, List.setIfInBounds_toArray, List.set_cons_zero, List.set_cons_succ])
          refine wpAnyX_take (i := 3) [] (v := ?_) rfl (by kernel_rfl) (by kernel_rfl) (by kernel_rfl) (by kernel_rfl) (fun _ _ _ h => h) (Or.inl ⟨by kernel_rfl, ?_⟩) (by assumption) ?_
          rotate_left 1
          · (intro w hSw; obtain ⟨q0, q1, q2, q3, q4, q5⟩ := hSw; go_simp; try (with_reducible rfl))
          (try simp only [Act.put, List.getElem_toArray, List.getElem_cons_succ, List.getElem_cons_zero, List.setIfInBounds_toArray, List.set_cons_zero, List.set_cons_succ])
          refine wpAnyX_take (i := 4) [] (v := ?_) rfl (by kernel_rfl) (by kernel_rfl) (by kernel_rfl) (by kernel_rfl) (fun _ _ _ h => h) (Or.inl ⟨by kernel_rfl, ?_⟩) (by assumption) ?_
          rotate_left 1
          · (intro w hSw; obtain ⟨q0, q1, q2, q3, q4, q5⟩ := hSw; go_simp; try (with_reducible rfl))
          (try simp only [Act.put, List.getElem_toArray, List.getElem_cons_succ, List.getElem_cons_zero, List.setIfInBounds_toArray, List.set_cons_zero, List.set_cons_succ])
          refine wpAnyX_two 5 10 (by kernel_rfl) rfl rfl (fun K hK => ?_) (fun K hK => ?_)
          · go_simp
            go_wp2_with (refine (C.out wo.drew).mono ?_; rintro e w3 ⟨rfl, b3⟩)
            have B3 := (Below.refl wo.heap.size wo).drew.trans b3
            refine hK.out _ _ (.inr (K6.out _ B3)) ?_
            have hHeld1 := K6.out _ B3
            clear hK K
            (try simp only [Act.put, List.getElem_toArray, List.getElem_cons_succ, List.getElem_cons_zero, List.setIfInBounds_toArray, List.set_cons_zero, List.set_cons_succ])
            refine wpAnyX_take (i := 6) [] (v := ?_) rfl (by kernel_rfl) (by kernel_rfl) (by kernel_rfl) (by kernel_rfl) (fun _ _ _ h => h) (Or.inl ⟨by kernel_rfl, ?_⟩) (by assumption) ?_
            rotate_left 1
            · (intro w hSw; obtain ⟨q0, q1, q2, q3, q4, q5⟩ := hSw; go_simp; try (with_reducible rfl))
            (try simp only [Act.put, List.getElem_toArray, List.getElem_cons_succ, List.getElem_cons_zero, List.setIfInBounds_toArray, List.set_cons_zero, List.set_cons_succ])
            refine wpAnyX_take (i := 7) [] (v := ?_) rfl (by kernel_rfl) (by kernel_rfl) (by kernel_rfl) (by kernel_rfl) (fun _ _ _ h => h) (Or.inl ⟨by kernel_rfl, ?_⟩) (by assumption) ?_
            rotate_left 1
            · (intro w hSw; obtain ⟨q0, q1, q2, q3, q4, q5⟩ := hSw; go_simp; try (with_reducible rfl))
            (try simp only [Act.put, List.getElem_toArray, List.getElem_cons_succ, List.getElem_cons_zero, List.setIfInBounds_toArray, List.set_cons_zero, List.set_cons_succ])
            refine wpAnyX_take (i := 8) [] (v := ?_) rfl (by kernel_rfl) (by kernel_rfl) (by kernel_rfl) (by kernel_rfl) (fun _ _ _ h => h) (Or.inl ⟨by kernel_rfl, ?_⟩) (by assumption) ?_
            rotate_left 1
            · (intro w hSw; obtain ⟨q0, q1, q2, q3, q4, q5⟩ := hSw; go_simp; try (with_reducible rfl))
            (try simp only [Act.put, List.getElem_toArray, List.getElem_cons_succ, List.getElem_cons_zero, List.setIfInBounds_toArray, List.set_cons_zero, List.set_cons_succ])
            refine wpAnyX_take (i := 9) [] (v := ?_) rfl (by kernel_rfl) (by kernel_rfl) (by kernel_rfl) (by kernel_rfl) (fun _ _ _ h => h) (Or.inl ⟨by kernel_rfl, ?_⟩) (by assumption) ?_
            rotate_left 1
            · (intro w hSw; obtain ⟨q0, q1, q2, q3, q4, q5⟩ := hSw; go_simp; try (with_reducible rfl))
            (try simp only [Act.put, List.getElem_toArray, List.getElem_cons_succ, List.getElem_cons_zero, List.setIfInBounds_toArray, List.set_cons_zero, List.set_cons_succ])
            refine wpAnyX_one 10 (by kernel_rfl) rfl (fun K hK => ?_)
            go_simp
            have B4 := B3.alloc B3.size (.cells #[.bool false, .int .i64 0, .int .i64 0, .int .i64 0, .int .u64 0] 26)
            refine hK.out _ _ (.inr (K6.out _ B4)) ?_
            have hHeld2 := K6.out _ B4
            clear hK K
            (try simp only [Act.put, List.getElem_toArray, List.getElem_cons_succ, List.getElem_cons_zero, List.setIfInBounds_toArray, List.set_cons_zero, List.set_cons_succ])
            refine wpAnyX_one 11 (by kernel_rfl) rfl (fun K hK => ?_)
            have hq := Whole.new w3 26 #[.bool false, .int .i64 0, .int .i64 0, .int .i64 0, .int .u64 0]
            have hq0 := hq.cell 0
            have hq1 := hq.cell 1
            have hq2 := hq.cell 2
            have hq3 := hq.cell 3
            have hq4 := hq.cell 4
            have hf0 := hq.free 0
            have hf1 := hq.free 1
            have hf2 := hq.free 2
            have hf3 := hq.free 3
            have hf4 := hq.free 4
            go_simp
            have B5 := B3.alloc B3.size (.cells #[.bool on, .int .i64 base, .int .i64 high, .int .i64 got, .int .u64 (seen : Int)] 26)
            refine hK.out _ _ (.inr (K6.out _ B5)) ?_
            have hHeld3 := K6.out _ B5
            clear hK K
            (try simp only [Act.put, List.getElem_toArray, List.getElem_cons_succ, List.getElem_cons_zero, List.setIfInBounds_toArray, List.set_cons_zero, List.set_cons_succ])
            refine wpAnyX_take (i := 12) [] (v := ?_) rfl (by kernel_rfl) (by kernel_rfl) (by kernel_rfl) (by kernel_rfl) (fun _ _ _ h => h) (Or.inl ⟨by kernel_rfl, ?_⟩) (by assumption) ?_
            rotate_left 1
            · (intro w hSw; obtain ⟨q0, q1, q2, q3, q4, q5⟩ := hSw; go_simp; try (with_reducible rfl))
            (try simp only [Act.put, List.getElem_toArray, List.getElem_cons_succ, List.getElem_cons_zero, List.setIfInBounds_toArray, List.set_cons_zero, List.set_cons_succ])
            refine wpAnyX_take (i := 13) [] (v := ?_) rfl (by kernel_rfl) (by kernel_rfl) (by kernel_rfl) (by kernel_rfl) (fun _ _ _ h => h) (Or.inl ⟨by kernel_rfl, ?_⟩) (by assumption) ?_
            rotate_left 1
            · (intro w hSw; obtain ⟨q0, q1, q2, q3, q4, q5⟩ := hSw; go_simp; try (with_reducible rfl))
            (try simp only [Act.put, List.getElem_toArray, List.getElem_cons_succ, List.getElem_cons_zero, List.setIfInBounds_toArray, List.set_cons_zero, List.set_cons_succ])
            refine wpAnyX_done (by kernel_rfl) ?_ _
            go_wp2_with fail
            go_meet
            exact ⟨_, rfl, by have := b3.size; simpa using this, rfl, rfl, Whole.new _ _ _, B5⟩
          · go_simp
            have B3 := (Below.refl wo.heap.size wo).drew.alloc (Nat.le_refl _) (.cells #[.bool false, .int .i64 0, .int .i64 0, .int .i64 0, .int .u64 0] 26)
            refine hK.out _ _ (.inr (K6.out _ B3)) ?_
            have hHeld1 := K6.out _ B3
            clear hK K
            (try simp only [Act.put, List.getElem_toArray, List.getElem_cons_succ, List.getElem_cons_zero, List.setIfInBounds_toArray, List.set_cons_zero, List.set_cons_succ])
            refine wpAnyX_one 5 (by kernel_rfl) rfl (fun K hK => ?_)
            go_simp
            go_wp2_with (refine (C.out _).mono ?_; rintro e w3 ⟨rfl, b3⟩)
            have B4 := B3.trans (b3.mono (by simp))
            have hq : Whole w3 wo.heap.size 26 #[.bool false, .int .i64 0, .int .i64 0, .int .i64 0, .int .u64 0] := (Whole.new wo.drew 26 #[.bool false, .int .i64 0, .int .i64 0, .int .i64 0, .int .u64 0]).below b3 (by simp)
            have hq0 := hq.cell 0
            have hq1 := hq.cell 1
            have hq2 := hq.cell 2
            have hq3 := hq.cell 3
            have hq4 := hq.cell 4
            have hf0 := hq.free 0
            have hf1 := hq.free 1
            have hf2 := hq.free 2
            have hf3 := hq.free 3
            have hf4 := hq.free 4
            refine hK.out _ _ (.inr (K6.out _ B4)) ?_
            have hHeld2 := K6.out _ B4
            clear hK K
            (try simp only [Act.put, List.getElem_toArray, List.getElem_cons_succ, List.getElem_cons_zero, List.setIfInBounds_toArray, List.set_cons_zero, List.set_cons_succ])
            refine wpAnyX_take (i := 6) [] (v := ?_) rfl (by kernel_rfl) (by kernel_rfl) (by kernel_rfl) (by kernel_rfl) (fun _ _ _ h => h) (Or.inl ⟨by kernel_rfl, ?_⟩) (by assumption) ?_
            rotate_left 1
            · (intro w hSw; obtain ⟨q0, q1, q2, q3, q4, q5⟩ := hSw; go_simp; try (with_reducible rfl))
            (try simp only [Act.put, List.getElem_toArray, List.getElem_cons_succ, List.getElem_cons_zero, List.setIfInBounds_toArray, List.set_cons_zero, List.set_cons_succ])
            refine wpAnyX_take (i := 7) [] (v := ?_) rfl (by kernel_rfl) (by kernel_rfl) (by kernel_rfl) (by kernel_rfl) (fun _ _ _ h => h) (Or.inl ⟨by kernel_rfl, ?_⟩) (by assumption) ?_
            rotate_left 1
            · (intro w hSw; obtain ⟨q0, q1, q2, q3, q4, q5⟩ := hSw; go_simp; try (with_reducible rfl))
            (try simp only [Act.put, List.getElem_toArray, List.getElem_cons_succ, List.getElem_cons_zero, List.setIfInBounds_toArray, List.set_cons_zero, List.set_cons_succ])
            refine wpAnyX_take (i := 8) [] (v := ?_) rfl (by kernel_rfl) (by kernel_rfl) (by kernel_rfl) (by kernel_rfl) (fun _ _ _ h => h) (Or.inl ⟨by kernel_rfl, ?_⟩) (by assumption) ?_
            rotate_left 1
            · (intro w hSw; obtain ⟨q0, q1, q2, q3, q4, q5⟩ := hSw; go_simp; try (with_reducible rfl))
            (try simp only [Act.put, List.getElem_toArray, List.getElem_cons_succ, List.getElem_cons_zero, List.setIfInBounds_toArray, List.set_cons_zero, List.set_cons_succ])
            refine wpAnyX_take (i := 9) [] (v := ?_) rfl (by kernel_rfl) (by kernel_rfl) (by kernel_rfl) (by kernel_rfl) (fun _ _ _ h => h) (Or.inl ⟨by kernel_rfl, ?_⟩) (by assumption) ?_
            rotate_left 1
            · (intro w hSw; obtain ⟨q0, q1, q2, q3, q4, q5⟩ := hSw; go_simp; try (with_reducible rfl))
            (try simp only [Act.put, List.getElem_toArray, List.getElem_cons_succ, List.getElem_cons_zero, List.setIfInBounds_toArray, List.set_cons_zero, List.set_cons_succ])
            refine wpAnyX_one 11 (by kernel_rfl) rfl (fun K hK => ?_)
            go_simp
            have B5 := five B4 (Nat.le_refl _) (.bool on) (.int .i64 base) (.int .i64 high) (.int .i64 got) (.int .u64 (seen : Int))
            refine hK.out _ _ (.inr (K6.out _ B5)) ?_
            have hHeld3 := K6.out _ B5
            clear hK K
            (try simp only [Act.put, List.getElem_toArray, List.getElem_cons_succ, List.getElem_cons_zero, List.setIfInBounds_toArray, List.set_cons_zero, List.set_cons_succ])
            refine wpAnyX_take (i := 12) [] (v := ?_) rfl (by kernel_rfl) (by kernel_rfl) (by kernel_rfl) (by kernel_rfl) (fun _ _ _ h => h) (Or.inl ⟨by kernel_rfl, ?_⟩) (by assumption) ?_
            rotate_left 1
            · (intro w hSw; obtain ⟨q0, q1, q2, q3, q4, q5⟩ := hSw; go_simp; try (with_reducible rfl))
            (try simp only [Act.put, List.getElem_toArray, List.getElem_cons_succ, List.getElem_cons_zero, List.setIfInBounds_toArray, List.set_cons_zero, List.set_cons_succ])
            refine wpAnyX_take (i := 13) [] (v := ?_) rfl (by kernel_rfl) (by kernel_rfl) (by kernel_rfl) (by kernel_rfl) (fun _ _ _ h => h) (Or.inl ⟨by kernel_rfl, ?_⟩) (by assumption) ?_
            rotate_left 1
            · (intro w hSw; obtain ⟨q0, q1, q2, q3, q4, q5⟩ := hSw; go_simp; try (with_reducible rfl))
            (try simp only [Act.put, List.getElem_toArray, List.getElem_cons_succ, List.getElem_cons_zero, List.setIfInBounds_toArray, List.set_cons_zero, List.set_cons_succ])
            refine wpAnyX_done (by kernel_rfl) ?_ _
            go_wp2_with fail
            go_meet
            exact ⟨_, rfl, Nat.le_refl _, rfl, rfl, hq.five _ _ _ _ _, B5⟩
        case rest =>
          clear K6
          obtain ⟨gu, rfl, hgu, rfl, rfl, hwu, bq⟩ := hcut
          have HW2 := Lib.hid (HW.out.below bq HW.out.lt)
          have HB2 := Lib.hid (HB1.out _ bq)
          have HU2 := Lib.hid hwu
          have hne : gu ≠ gt := by omega
          have hsz2 := HB2.out.size
          have hgul := hwu.lt
          clear HW hwu bq hR1 HB1 HB
          have hR2 := Lib.hid (fun w' (b' : Below wc.heap.size wc w') => ROW.out w' (HB2.out.trans (b'.mono hsz2)))
          clear hgw
          have hgt2 := HW2.out.lt
          obtain ⟨wp, rfl⟩ : ∃ wp : World, wp = wo := ⟨_, rfl⟩
          obtain ⟨wo, rfl⟩ : ∃ wo : World, wo = wc := ⟨_, rfl⟩
          have K6 := Lib.hid (fun w' (b' : Below wo.heap.size wo w') => show (fun w' => w'.cell? ⟨gu, 0, none⟩ = some (.bool on) ∧ w'.cell? ⟨gu, 1, none⟩ = some (.int .i64 base) ∧ w'.cell? ⟨gu, 2, none⟩ = some (.int .i64 high) ∧ w'.cell? ⟨gu, 3, none⟩ = some (.int .i64 got) ∧ w'.cell? ⟨gu, 4, none⟩ = some (.int .u64 (seen : Int)) ∧ w'.cell? ⟨g, o + k, none⟩ = some (.int .u16 (x : Int))) w' from ⟨(HU2.out.below b' HU2.out.lt).cell 0, (HU2.out.below b' HU2.out.lt).cell 1, (HU2.out.below b' HU2.out.lt).cell 2, (HU2.out.below b' HU2.out.lt).cell 3, (HU2.out.below b' HU2.out.lt).cell 4, hR2.out _ b'⟩)
          have hgw := HU2.out.lt
          go_upto_region 11 with fail
          go_cut [9, 10, 11] (fun s6 s7 s8 wx => ∃ gq : Nat, s6 = .pointer (some ⟨gq, 0, none⟩) ∧ wo.heap.size ≤ gq ∧ s7 = .int .i64 m ∧ s8 = .int .i64 kd ∧ Whole wx gq 26 #[.bool on, .int .i64 base, .int .i64 high, .int .i64 got, .int .u64 (seen : Int)] ∧ Below wo.heap.size wo wx)
          case first =>
            refine wp_region_X (S := fun w' => w'.cell? ⟨gu, 0, none⟩ = some (.bool on) ∧ w'.cell? ⟨gu, 1, none⟩ = some (.int .i64 base) ∧ w'.cell? ⟨gu, 2, none⟩ = some (.int .i64 high) ∧ w'.cell? ⟨gu, 3, none⟩ = some (.int .i64 got) ∧ w'.cell? ⟨gu, 4, none⟩ = some (.int .u64 (seen : Int)) ∧ w'.cell? ⟨g, o + k, none⟩ = some (.int .u16 (x : Int))) [] (by kernel_rfl) (K6.out _ (Below.refl _ _).drew) (fun hHeld0 => ?_)
            refine wpAnyX_take (i := 0) [] (v := ?_) rfl (by kernel_rfl) (by kernel_rfl) (by kernel_rfl) (by kernel_rfl) (fun _ _ _ h => h) (Or.inl ⟨by kernel_rfl, ?_⟩) (by assumption) ?_
            rotate_left 1
            · (intro w hSw; obtain ⟨q0, q1, q2, q3, q4, q5⟩ := hSw; go_simp; try (with_reducible rfl))
            (try simp only [Act.put, List.getElem_toArray, List.getElem_cons_succ, List.getElem_cons_zero, List.setIfInBounds_toArray, List.set_cons_zero, List.set_cons_succ])
            refine wpAnyX_take (i := 1) [] (v := ?_) rfl (by kernel_rfl) (by kernel_rfl) (by kernel_rfl) (by kernel_rfl) (fun _ _ _ h => h) (Or.inl ⟨by kernel_rfl, ?_⟩) (by assumption) ?_
            rotate_left 1
            · (intro w hSw; obtain ⟨q0, q1, q2, q3, q4, q5⟩ := hSw; go_simp; try (with_reducible rfl))
            (try simp only [Act.put, List.getElem_toArray, List.getElem_cons_succ, List.getElem_cons_zero, List.setIfInBounds_toArray, List.set_cons_zero, List.set_cons_succ])
            refine wpAnyX_take (i := 2) [] (v := ?_) rfl (by kernel_rfl) (by kernel_rfl) (by kernel_rfl) (by kernel_rfl) (fun _ _ _ h => h) (Or.inl ⟨by kernel_rfl, ?_⟩) (by assumption) ?_
            rotate_left 1
            · (intro w hSw; obtain ⟨q0, q1, q2, q3, q4, q5⟩ := hSw; go_simp; try (with_reducible rfl))
            (try simp only [Act.put, List.getElem_toArray, List.getElem_cons_succ, List.getElem_cons_zero, List.setIfInBounds_toArray, List.set_cons_zero, List.set_cons_succ])
            refine wpAnyX_take (i := 3) [] (v := ?_) rfl (by kernel_rfl) (by kernel_rfl) (by kernel_rfl) (by kernel_rfl) (fun _ _ _ h => h) (Or.inl ⟨by kernel_rfl, ?_⟩) (by assumption) ?_
            rotate_left 1
            · (intro w hSw; obtain ⟨q0, q1, q2, q3, q4, q5⟩ := hSw; go_simp; try (with_reducible rfl))
            (try simp only [Act.put, List.getElem_toArray, List.getElem_cons_succ, List.getElem_cons_zero, List.setIfInBounds_toArray, List.set_cons_zero, List.set_cons_succ])
            refine wpAnyX_take (i := 4) [] (v := ?_) rfl (by kernel_rfl) (by kernel_rfl) (by kernel_rfl) (by kernel_rfl) (fun _ _ _ h => h) (Or.inl ⟨by kernel_rfl, ?_⟩) (by assumption) ?_
            rotate_left 1
            · (intro w hSw; obtain ⟨q0, q1, q2, q3, q4, q5⟩ := hSw; go_simp; try (with_reducible rfl))
            (try simp only [Act.put, List.getElem_toArray, List.getElem_cons_succ, List.getElem_cons_zero, List.setIfInBounds_toArray, List.set_cons_zero, List.set_cons_succ])
            refine wpAnyX_two 5 10 (by kernel_rfl) rfl rfl (fun K hK => ?_) (fun K hK => ?_)
            · go_simp
              go_wp2_with (refine (C.out wo.drew).mono ?_; rintro e w3 ⟨rfl, b3⟩)
              have B3 := (Below.refl wo.heap.size wo).drew.trans b3
              refine hK.out _ _ (.inr (K6.out _ B3)) ?_
              have hHeld1 := K6.out _ B3
              clear hK K
              (try simp only [Act.put, List.getElem_toArray, List.getElem_cons_succ, List.getElem_cons_zero, List.setIfInBounds_toArray, List.set_cons_zero, List.set_cons_succ])
              refine wpAnyX_take (i := 6) [] (v := ?_) rfl (by kernel_rfl) (by kernel_rfl) (by kernel_rfl) (by kernel_rfl) (fun _ _ _ h => h) (Or.inl ⟨by kernel_rfl, ?_⟩) (by assumption) ?_
              rotate_left 1
              · (intro w hSw; obtain ⟨q0, q1, q2, q3, q4, q5⟩ := hSw; go_simp; try (with_reducible rfl))
              (try simp only [Act.put, List.getElem_toArray, List.getElem_cons_succ, List.getElem_cons_zero, List.setIfInBounds_toArray, List.set_cons_zero, List.set_cons_succ])
              refine wpAnyX_take (i := 7) [] (v := ?_) rfl (by kernel_rfl) (by kernel_rfl) (by kernel_rfl) (by kernel_rfl) (fun _ _ _ h => h) (Or.inl ⟨by kernel_rfl, ?_⟩) (by assumption) ?_
              rotate_left 1
              · (intro w hSw; obtain ⟨q0, q1, q2, q3, q4, q5⟩ := hSw; go_simp; try (with_reducible rfl))
              (try simp only [Act.put, List.getElem_toArray, List.getElem_cons_succ, List.getElem_cons_zero, List.setIfInBounds_toArray, List.set_cons_zero, List.set_cons_succ])
              refine wpAnyX_take (i := 8) [] (v := ?_) rfl (by kernel_rfl) (by kernel_rfl) (by kernel_rfl) (by kernel_rfl) (fun _ _ _ h => h) (Or.inl ⟨by kernel_rfl, ?_⟩) (by assumption) ?_
              rotate_left 1
              · (intro w hSw; obtain ⟨q0, q1, q2, q3, q4, q5⟩ := hSw; go_simp; try (with_reducible rfl))
              (try simp only [Act.put, List.getElem_toArray, List.getElem_cons_succ, List.getElem_cons_zero, List.setIfInBounds_toArray, List.set_cons_zero, List.set_cons_succ])
              refine wpAnyX_take (i := 9) [] (v := ?_) rfl (by kernel_rfl) (by kernel_rfl) (by kernel_rfl) (by kernel_rfl) (fun _ _ _ h => h) (Or.inl ⟨by kernel_rfl, ?_⟩) (by assumption) ?_
              rotate_left 1
              · (intro w hSw; obtain ⟨q0, q1, q2, q3, q4, q5⟩ := hSw; go_simp; try (with_reducible rfl))
              (try simp only [Act.put, List.getElem_toArray, List.getElem_cons_succ, List.getElem_cons_zero, List.setIfInBounds_toArray, List.set_cons_zero, List.set_cons_succ])
              refine wpAnyX_one 10 (by kernel_rfl) rfl (fun K hK => ?_)
              go_simp
              have B4 := B3.alloc B3.size (.cells #[.bool false, .int .i64 0, .int .i64 0, .int .i64 0, .int .u64 0] 26)
              refine hK.out _ _ (.inr (K6.out _ B4)) ?_
              have hHeld2 := K6.out _ B4
              clear hK K
              (try simp only [Act.put, List.getElem_toArray, List.getElem_cons_succ, List.getElem_cons_zero, List.setIfInBounds_toArray, List.set_cons_zero, List.set_cons_succ])
              refine wpAnyX_one 11 (by kernel_rfl) rfl (fun K hK => ?_)
              have hq := Whole.new w3 26 #[.bool false, .int .i64 0, .int .i64 0, .int .i64 0, .int .u64 0]
              have hq0 := hq.cell 0
              have hq1 := hq.cell 1
              have hq2 := hq.cell 2
              have hq3 := hq.cell 3
              have hq4 := hq.cell 4
              have hf0 := hq.free 0
              have hf1 := hq.free 1
              have hf2 := hq.free 2
              have hf3 := hq.free 3
              have hf4 := hq.free 4
              go_simp
              have B5 := B3.alloc B3.size (.cells #[.bool on, .int .i64 base, .int .i64 high, .int .i64 got, .int .u64 (seen : Int)] 26)
              refine hK.out _ _ (.inr (K6.out _ B5)) ?_
              have hHeld3 := K6.out _ B5
              clear hK K
              (try simp only [Act.put, List.getElem_toArray, List.getElem_cons_succ, List.getElem_cons_zero, List.setIfInBounds_toArray, List.set_cons_zero, List.set_cons_succ])
              refine wpAnyX_take (i := 12) [] (v := ?_) rfl (by kernel_rfl) (by kernel_rfl) (by kernel_rfl) (by kernel_rfl) (fun _ _ _ h => h) (Or.inl ⟨by kernel_rfl, ?_⟩) (by assumption) ?_
              rotate_left 1
              · (intro w hSw; obtain ⟨q0, q1, q2, q3, q4, q5⟩ := hSw; go_simp; try (with_reducible rfl))
              (try simp only [Act.put, List.getElem_toArray, List.getElem_cons_succ, List.getElem_cons_zero, List.setIfInBounds_toArray, List.set_cons_zero, List.set_cons_succ])
              refine wpAnyX_take (i := 13) [] (v := ?_) rfl (by kernel_rfl) (by kernel_rfl) (by kernel_rfl) (by kernel_rfl) (fun _ _ _ h => h) (Or.inl ⟨by kernel_rfl, ?_⟩) (by assumption) ?_
              rotate_left 1
              · (intro w hSw; obtain ⟨q0, q1, q2, q3, q4, q5⟩ := hSw; go_simp; try (with_reducible rfl))
              (try simp only [Act.put, List.getElem_toArray, List.getElem_cons_succ, List.getElem_cons_zero, List.setIfInBounds_toArray, List.set_cons_zero, List.set_cons_succ])
              refine wpAnyX_done (by kernel_rfl) ?_ _
              go_wp2_with fail
              go_meet
              exact ⟨_, rfl, by have := b3.size; simpa using this, rfl, rfl, Whole.new _ _ _, B5⟩
            · go_simp
              have B3 := (Below.refl wo.heap.size wo).drew.alloc (Nat.le_refl _) (.cells #[.bool false, .int .i64 0, .int .i64 0, .int .i64 0, .int .u64 0] 26)
              refine hK.out _ _ (.inr (K6.out _ B3)) ?_
              have hHeld1 := K6.out _ B3
              clear hK K
              (try simp only [Act.put, List.getElem_toArray, List.getElem_cons_succ, List.getElem_cons_zero, List.setIfInBounds_toArray, List.set_cons_zero, List.set_cons_succ])
              refine wpAnyX_one 5 (by kernel_rfl) rfl (fun K hK => ?_)
              go_simp
              go_wp2_with (refine (C.out _).mono ?_; rintro e w3 ⟨rfl, b3⟩)
              have B4 := B3.trans (b3.mono (by simp))
              have hq : Whole w3 wo.heap.size 26 #[.bool false, .int .i64 0, .int .i64 0, .int .i64 0, .int .u64 0] := (Whole.new wo.drew 26 #[.bool false, .int .i64 0, .int .i64 0, .int .i64 0, .int .u64 0]).below b3 (by simp)
              have hq0 := hq.cell 0
              have hq1 := hq.cell 1
              have hq2 := hq.cell 2
              have hq3 := hq.cell 3
              have hq4 := hq.cell 4
              have hf0 := hq.free 0
              have hf1 := hq.free 1
              have hf2 := hq.free 2
              have hf3 := hq.free 3
              have hf4 := hq.free 4
              refine hK.out _ _ (.inr (K6.out _ B4)) ?_
              have hHeld2 := K6.out _ B4
              clear hK K
              (try simp only [Act.put, List.getElem_toArray, List.getElem_cons_succ, List.getElem_cons_zero, List.setIfInBounds_toArray, List.set_cons_zero, List.set_cons_succ])
              refine wpAnyX_take (i := 6) [] (v := ?_) rfl (by kernel_rfl) (by kernel_rfl) (by kernel_rfl) (by kernel_rfl) (fun _ _ _ h => h) (Or.inl ⟨by kernel_rfl, ?_⟩) (by assumption) ?_
              rotate_left 1
              · (intro w hSw; obtain ⟨q0, q1, q2, q3, q4, q5⟩ := hSw; go_simp; try (with_reducible rfl))
              (try simp only [Act.put, List.getElem_toArray, List.getElem_cons_succ, List.getElem_cons_zero, List.setIfInBounds_toArray, List.set_cons_zero, List.set_cons_succ])
              refine wpAnyX_take (i := 7) [] (v := ?_) rfl (by kernel_rfl) (by kernel_rfl) (by kernel_rfl) (by kernel_rfl) (fun _ _ _ h => h) (Or.inl ⟨by kernel_rfl, ?_⟩) (by assumption) ?_
              rotate_left 1
              · (intro w hSw; obtain ⟨q0, q1, q2, q3, q4, q5⟩ := hSw; go_simp; try (with_reducible rfl))
              (try simp only [Act.put, List.getElem_toArray, List.getElem_cons_succ, List.getElem_cons_zero, List.setIfInBounds_toArray, List.set_cons_zero, List.set_cons_succ])
              refine wpAnyX_take (i := 8) [] (v := ?_) rfl (by kernel_rfl) (by kernel_rfl) (by kernel_rfl) (by kernel_rfl) (fun _ _ _ h => h) (Or.inl ⟨by kernel_rfl, ?_⟩) (by assumption) ?_
              rotate_left 1
              · (intro w hSw; obtain ⟨q0, q1, q2, q3, q4, q5⟩ := hSw; go_simp; try (with_reducible rfl))
              (try simp only [Act.put, List.getElem_toArray, List.getElem_cons_succ, List.getElem_cons_zero, List.setIfInBounds_toArray, List.set_cons_zero, List.set_cons_succ])
              refine wpAnyX_take (i := 9) [] (v := ?_) rfl (by kernel_rfl) (by kernel_rfl) (by kernel_rfl) (by kernel_rfl) (fun _ _ _ h => h) (Or.inl ⟨by kernel_rfl, ?_⟩) (by assumption) ?_
              rotate_left 1
              · (intro w hSw; obtain ⟨q0, q1, q2, q3, q4, q5⟩ := hSw; go_simp; try (with_reducible rfl))
              (try simp only [Act.put, List.getElem_toArray, List.getElem_cons_succ, List.getElem_cons_zero, List.setIfInBounds_toArray, List.set_cons_zero, List.set_cons_succ])
              refine wpAnyX_one 11 (by kernel_rfl) rfl (fun K hK => ?_)
              go_simp
              have B5 := five B4 (Nat.le_refl _) (.bool on) (.int .i64 base) (.int .i64 high) (.int .i64 got) (.int .u64 (seen : Int))
              refine hK.out _ _ (.inr (K6.out _ B5)) ?_
              have hHeld3 := K6.out _ B5
              clear hK K
              (try simp only [Act.put, List.getElem_toArray, List.getElem_cons_succ, List.getElem_cons_zero, List.setIfInBounds_toArray, List.set_cons_zero, List.set_cons_succ])
              refine wpAnyX_take (i := 12) [] (v := ?_) rfl (by kernel_rfl) (by kernel_rfl) (by kernel_rfl) (by kernel_rfl) (fun _ _ _ h => h) (Or.inl ⟨by kernel_rfl, ?_⟩) (by assumption) ?_
              rotate_left 1
              · (intro w hSw; obtain ⟨q0, q1, q2, q3, q4, q5⟩ := hSw; go_simp; try (with_reducible rfl))
              (try simp only [Act.put, List.getElem_toArray, List.getElem_cons_succ, List.getElem_cons_zero, List.setIfInBounds_toArray, List.set_cons_zero, List.set_cons_succ])
              refine wpAnyX_take (i := 13) [] (v := ?_) rfl (by kernel_rfl) (by kernel_rfl) (by kernel_rfl) (by kernel_rfl) (fun _ _ _ h => h) (Or.inl ⟨by kernel_rfl, ?_⟩) (by assumption) ?_
              rotate_left 1
              · (intro w hSw; obtain ⟨q0, q1, q2, q3, q4, q5⟩ := hSw; go_simp; try (with_reducible rfl))
              (try simp only [Act.put, List.getElem_toArray, List.getElem_cons_succ, List.getElem_cons_zero, List.setIfInBounds_toArray, List.set_cons_zero, List.set_cons_succ])
              refine wpAnyX_done (by kernel_rfl) ?_ _
              go_wp2_with fail
              go_meet
              exact ⟨_, rfl, Nat.le_refl _, rfl, rfl, hq.five _ _ _ _ _, B5⟩
          case rest =>
            clear K6
            obtain ⟨gv, rfl, hgv, rfl, rfl, hwv, bq⟩ := hcut
            have W3 := HW2.out.below bq HW2.out.lt
            have HB3 := Lib.hid (HB2.out.trans (bq.mono hsz2))
            have U3 := HU2.out.below bq HU2.out.lt
            have r0 := ROW.out _ HB3.out
            have hne2 : gv ≠ gt := by omega
            have hne3 : gv ≠ gu := by omega
            have hs3 := HB3.out.size
            have hgv2 := hwv.lt
            have hgt3 := W3.lt
            have hgu3 := U3.lt
            clear bq hR2 HB2 hgw
            have k0 := W3.cell 0
            have k1 := W3.cell 1
            have k2 := W3.cell 2
            have k3 := W3.cell 3
            have k4 := W3.cell 4
            have f0 := W3.free 0
            have f1 := W3.free 1
            have f2 := W3.free 2
            have f3 := W3.free 3
            have f4 := W3.free 4
            have u0 := U3.cell 0
            have u1 := U3.cell 1
            have u2 := U3.cell 2
            have u3 := U3.cell 3
            have u4 := U3.cell 4
            have v0 := hwv.cell 0
            have v1 := hwv.cell 1
            have v2 := hwv.cell 2
            have v3 := hwv.cell 3
            have v4 := hwv.cell 4
            have HW3 := Lib.hid W3
            clear W3 U3 hwv HW2 HU2
            have hlow := HLOW.out
            rcases hkd with rfl | rfl
            all_goals
              go_wp2
              go_roundw
              case rel => exact ⟨k + 1, _, by omega, by go_num, HT2, Lib.hid (HW3.out.five (.bool on) (.int .i64 base) (.int .i64 high) (.int .i64 got) (.int .u64 (seen : Int))), five HB3.out hg (.bool on) (.int .i64 base) (.int .i64 high) (.int .i64 got) (.int .u64 (seen : Int))⟩
              case measure => simp [intOf]; omega
      · obtain ⟨kd, u, hkd, h1, h2, hgot, huo⟩ := HAG
        have hu : t.take m = u := h1.2.2
        rw [hu] at HOK hFu
        have HT2 : Hid (u.Ok ((k + 1 : Nat) * 65536) ∧ (u.on = false → u = Trk.zero)) := Lib.hid ⟨HOK.out.more (by omega), fun h => by rw [huo] at h; cases h⟩
        have g1 := HT.out.1.got0
        have g2 := HT.out.1.got1
        clear HOK hu HT
        obtain ⟨on, base, high, got, seen⟩ := t
        obtain ⟨uon, ubase, uhigh, ugot, useen⟩ := u
        dsimp only at hgot g1 g2 huo
        subst hgot huo
        have C := fun w => tk_lit _ _ _ _ _ _ _ _ _ h1 hFt (by omega) (by omega) w
        have D := fun w => tk_lit _ _ _ _ _ _ _ _ _ h2 hFu (by omega) (by omega) w
        clear h1 h2 hFt hFu
        have HE := fun w => neq_trk w ⟨true, ubase, uhigh, got + 1, useen⟩
        simp only [Trk.cells] at C D HE HW
        have C := Lib.hid C
        have D := Lib.hid D
        have K6 := Lib.hid (fun w' (b' : Below wo.heap.size wo w') => show (fun w' => w'.cell? ⟨gt, 0, none⟩ = some (.bool on) ∧ w'.cell? ⟨gt, 1, none⟩ = some (.int .i64 base) ∧ w'.cell? ⟨gt, 2, none⟩ = some (.int .i64 high) ∧ w'.cell? ⟨gt, 3, none⟩ = some (.int .i64 got) ∧ w'.cell? ⟨gt, 4, none⟩ = some (.int .u64 (seen : Int)) ∧ w'.cell? ⟨g, o + k, none⟩ = some (.int .u16 (x : Int))) w' from ⟨(HW.out.below b' HW.out.lt).cell 0, (HW.out.below b' HW.out.lt).cell 1, (HW.out.below b' HW.out.lt).cell 2, (HW.out.below b' HW.out.lt).cell 3, (HW.out.below b' HW.out.lt).cell 4, hR1.out _ b'⟩)
        have hgw := HW.out.lt
        go_upto_region 10 with fail
        go_cut [6, 7, 8] (fun s6 s7 s8 wx => ∃ gq : Nat, s6 = .pointer (some ⟨gq, 0, none⟩) ∧ wo.heap.size ≤ gq ∧ s7 = .int .i64 m ∧ s8 = .int .i64 kd ∧ Whole wx gq 26 #[.bool true, .int .i64 ubase, .int .i64 uhigh, .int .i64 (got + 1), .int .u64 (useen : Int)] ∧ Below wo.heap.size wo wx)
        case first =>
          refine wp_region_X (S := fun w' => w'.cell? ⟨gt, 0, none⟩ = some (.bool on) ∧ w'.cell? ⟨gt, 1, none⟩ = some (.int .i64 base) ∧ w'.cell? ⟨gt, 2, none⟩ = some (.int .i64 high) ∧ w'.cell? ⟨gt, 3, none⟩ = some (.int .i64 got) ∧ w'.cell? ⟨gt, 4, none⟩ = some (.int .u64 (seen : Int)) ∧ w'.cell? ⟨g, o + k, none⟩ = some (.int .u16 (x : Int))) [] (by kernel_rfl) (K6.out _ (Below.refl _ _).drew) (fun hHeld0 => ?_)
          refine wpAnyX_take (i := 0) [] (v := ?_) rfl (by kernel_rfl) (by kernel_rfl) (by kernel_rfl) (by kernel_rfl) (fun _ _ _ h => h) (Or.inl ⟨by kernel_rfl, ?_⟩) (by assumption) ?_
          rotate_left 1
          · (intro w hSw; obtain ⟨q0, q1, q2, q3, q4, q5⟩ := hSw; go_simp; try (with_reducible rfl))
          (try simp only [Act.put, List.getElem_toArray, List.getElem_cons_succ, List.getElem_cons_zero, List.setIfInBounds_toArray, List.set_cons_zero, List.set_cons_succ])
          refine wpAnyX_take (i := 1) [] (v := ?_) rfl (by kernel_rfl) (by kernel_rfl) (by kernel_rfl) (by kernel_rfl) (fun _ _ _ h => h) (Or.inl ⟨by kernel_rfl, ?_⟩) (by assumption) ?_
          rotate_left 1
          · (intro w hSw; obtain ⟨q0, q1, q2, q3, q4, q5⟩ := hSw; go_simp; try (with_reducible rfl))
          (try simp only [Act.put, List.getElem_toArray, List.getElem_cons_succ, List.getElem_cons_zero, List.setIfInBounds_toArray, List.set_cons_zero, List.set_cons_succ])
          refine wpAnyX_take (i := 2) [] (v := ?_) rfl (by kernel_rfl) (by kernel_rfl) (by kernel_rfl) (by kernel_rfl) (fun _ _ _ h => h) (Or.inl ⟨by kernel_rfl, ?_⟩) (by assumption) ?_
          rotate_left 1
          · (intro w hSw; obtain ⟨q0, q1, q2, q3, q4, q5⟩ := hSw; go_simp; try (with_reducible rfl))
          (try simp only [Act.put, List.getElem_toArray, List.getElem_cons_succ, List.getElem_cons_zero, List.setIfInBounds_toArray, List.set_cons_zero, List.set_cons_succ])
          refine wpAnyX_take (i := 3) [] (v := ?_) rfl (by kernel_rfl) (by kernel_rfl) (by kernel_rfl) (by kernel_rfl) (fun _ _ _ h => h) (Or.inl ⟨by kernel_rfl, ?_⟩) (by assumption) ?_
          rotate_left 1
          · (intro w hSw; obtain ⟨q0, q1, q2, q3, q4, q5⟩ := hSw; go_simp; try (with_reducible rfl))
          (try simp only [Act.put, List.getElem_toArray, List.getElem_cons_succ, List.getElem_cons_zero, List.setIfInBounds_toArray, List.set_cons_zero, List.set_cons_succ])
          refine wpAnyX_take (i := 4) [] (v := ?_) rfl (by kernel_rfl) (by kernel_rfl) (by kernel_rfl) (by kernel_rfl) (fun _ _ _ h => h) (Or.inl ⟨by kernel_rfl, ?_⟩) (by assumption) ?_
          rotate_left 1
          · (intro w hSw; obtain ⟨q0, q1, q2, q3, q4, q5⟩ := hSw; go_simp; try (with_reducible rfl))
          (try simp only [Act.put, List.getElem_toArray, List.getElem_cons_succ, List.getElem_cons_zero, List.setIfInBounds_toArray, List.set_cons_zero, List.set_cons_succ])
          refine wpAnyX_two 5 10 (by kernel_rfl) rfl rfl (fun K hK => ?_) (fun K hK => ?_)
          · go_simp
            go_wp2_with (refine (C.out wo.drew).mono ?_; rintro e w3 ⟨rfl, b3⟩)
            have B3 := (Below.refl wo.heap.size wo).drew.trans b3
            refine hK.out _ _ (.inr (K6.out _ B3)) ?_
            have hHeld1 := K6.out _ B3
            clear hK K
            (try simp only [Act.put, List.getElem_toArray, List.getElem_cons_succ, List.getElem_cons_zero, List.setIfInBounds_toArray, List.set_cons_zero, List.set_cons_succ])
            refine wpAnyX_take (i := 6) [] (v := ?_) rfl (by kernel_rfl) (by kernel_rfl) (by kernel_rfl) (by kernel_rfl) (fun _ _ _ h => h) (Or.inl ⟨by kernel_rfl, ?_⟩) (by assumption) ?_
            rotate_left 1
            · (intro w hSw; obtain ⟨q0, q1, q2, q3, q4, q5⟩ := hSw; go_simp; try (with_reducible rfl))
            (try simp only [Act.put, List.getElem_toArray, List.getElem_cons_succ, List.getElem_cons_zero, List.setIfInBounds_toArray, List.set_cons_zero, List.set_cons_succ])
            refine wpAnyX_take (i := 7) [] (v := ?_) rfl (by kernel_rfl) (by kernel_rfl) (by kernel_rfl) (by kernel_rfl) (fun _ _ _ h => h) (Or.inl ⟨by kernel_rfl, ?_⟩) (by assumption) ?_
            rotate_left 1
            · (intro w hSw; obtain ⟨q0, q1, q2, q3, q4, q5⟩ := hSw; go_simp; try (with_reducible rfl))
            (try simp only [Act.put, List.getElem_toArray, List.getElem_cons_succ, List.getElem_cons_zero, List.setIfInBounds_toArray, List.set_cons_zero, List.set_cons_succ])
            refine wpAnyX_take (i := 8) [] (v := ?_) rfl (by kernel_rfl) (by kernel_rfl) (by kernel_rfl) (by kernel_rfl) (fun _ _ _ h => h) (Or.inl ⟨by kernel_rfl, ?_⟩) (by assumption) ?_
            rotate_left 1
            · (intro w hSw; obtain ⟨q0, q1, q2, q3, q4, q5⟩ := hSw; go_simp; try (with_reducible rfl))
            (try simp only [Act.put, List.getElem_toArray, List.getElem_cons_succ, List.getElem_cons_zero, List.setIfInBounds_toArray, List.set_cons_zero, List.set_cons_succ])
            refine wpAnyX_take (i := 9) [] (v := ?_) rfl (by kernel_rfl) (by kernel_rfl) (by kernel_rfl) (by kernel_rfl) (fun _ _ _ h => h) (Or.inl ⟨by kernel_rfl, ?_⟩) (by assumption) ?_
            rotate_left 1
            · (intro w hSw; obtain ⟨q0, q1, q2, q3, q4, q5⟩ := hSw; go_simp; try (with_reducible rfl))
            (try simp only [Act.put, List.getElem_toArray, List.getElem_cons_succ, List.getElem_cons_zero, List.setIfInBounds_toArray, List.set_cons_zero, List.set_cons_succ])
            refine wpAnyX_one 10 (by kernel_rfl) rfl (fun K hK => ?_)
            go_simp
            have B4 := B3.alloc B3.size (.cells #[.bool false, .int .i64 0, .int .i64 0, .int .i64 0, .int .u64 0] 26)
            refine hK.out _ _ (.inr (K6.out _ B4)) ?_
            have hHeld2 := K6.out _ B4
            clear hK K
            (try simp only [Act.put, List.getElem_toArray, List.getElem_cons_succ, List.getElem_cons_zero, List.setIfInBounds_toArray, List.set_cons_zero, List.set_cons_succ])
            refine wpAnyX_one 11 (by kernel_rfl) rfl (fun K hK => ?_)
            have hq := Whole.new w3 26 #[.bool false, .int .i64 0, .int .i64 0, .int .i64 0, .int .u64 0]
            have hq0 := hq.cell 0
            have hq1 := hq.cell 1
            have hq2 := hq.cell 2
            have hq3 := hq.cell 3
            have hq4 := hq.cell 4
            have hf0 := hq.free 0
            have hf1 := hq.free 1
            have hf2 := hq.free 2
            have hf3 := hq.free 3
            have hf4 := hq.free 4
            go_simp
            have B5 := B3.alloc B3.size (.cells #[.bool true, .int .i64 ubase, .int .i64 uhigh, .int .i64 (got + 1), .int .u64 (useen : Int)] 26)
            refine hK.out _ _ (.inr (K6.out _ B5)) ?_
            have hHeld3 := K6.out _ B5
            clear hK K
            (try simp only [Act.put, List.getElem_toArray, List.getElem_cons_succ, List.getElem_cons_zero, List.setIfInBounds_toArray, List.set_cons_zero, List.set_cons_succ])
            refine wpAnyX_take (i := 12) [] (v := ?_) rfl (by kernel_rfl) (by kernel_rfl) (by kernel_rfl) (by kernel_rfl) (fun _ _ _ h => h) (Or.inl ⟨by kernel_rfl, ?_⟩) (by assumption) ?_
            rotate_left 1
            · (intro w hSw; obtain ⟨q0, q1, q2, q3, q4, q5⟩ := hSw; go_simp; try (with_reducible rfl))
            (try simp only [Act.put, List.getElem_toArray, List.getElem_cons_succ, List.getElem_cons_zero, List.setIfInBounds_toArray, List.set_cons_zero, List.set_cons_succ])
            refine wpAnyX_take (i := 13) [] (v := ?_) rfl (by kernel_rfl) (by kernel_rfl) (by kernel_rfl) (by kernel_rfl) (fun _ _ _ h => h) (Or.inl ⟨by kernel_rfl, ?_⟩) (by assumption) ?_
            rotate_left 1
            · (intro w hSw; obtain ⟨q0, q1, q2, q3, q4, q5⟩ := hSw; go_simp; try (with_reducible rfl))
            (try simp only [Act.put, List.getElem_toArray, List.getElem_cons_succ, List.getElem_cons_zero, List.setIfInBounds_toArray, List.set_cons_zero, List.set_cons_succ])
            refine wpAnyX_done (by kernel_rfl) ?_ _
            go_wp2_with fail
            go_meet
            exact ⟨_, rfl, by have := b3.size; simpa using this, rfl, rfl, Whole.new _ _ _, B5⟩
          · go_simp
            have B3 := (Below.refl wo.heap.size wo).drew.alloc (Nat.le_refl _) (.cells #[.bool false, .int .i64 0, .int .i64 0, .int .i64 0, .int .u64 0] 26)
            refine hK.out _ _ (.inr (K6.out _ B3)) ?_
            have hHeld1 := K6.out _ B3
            clear hK K
            (try simp only [Act.put, List.getElem_toArray, List.getElem_cons_succ, List.getElem_cons_zero, List.setIfInBounds_toArray, List.set_cons_zero, List.set_cons_succ])
            refine wpAnyX_one 5 (by kernel_rfl) rfl (fun K hK => ?_)
            go_simp
            go_wp2_with (refine (C.out _).mono ?_; rintro e w3 ⟨rfl, b3⟩)
            have B4 := B3.trans (b3.mono (by simp))
            have hq : Whole w3 wo.heap.size 26 #[.bool false, .int .i64 0, .int .i64 0, .int .i64 0, .int .u64 0] := (Whole.new wo.drew 26 #[.bool false, .int .i64 0, .int .i64 0, .int .i64 0, .int .u64 0]).below b3 (by simp)
            have hq0 := hq.cell 0
            have hq1 := hq.cell 1
            have hq2 := hq.cell 2
            have hq3 := hq.cell 3
            have hq4 := hq.cell 4
            have hf0 := hq.free 0
            have hf1 := hq.free 1
            have hf2 := hq.free 2
            have hf3 := hq.free 3
            have hf4 := hq.free 4
            refine hK.out _ _ (.inr (K6.out _ B4)) ?_
            have hHeld2 := K6.out _ B4
            clear hK K
            (try simp only [Act.put, List.getElem_toArray, List.getElem_cons_succ, List.getElem_cons_zero, List.setIfInBounds_toArray, List.set_cons_zero, List.set_cons_succ])
            refine wpAnyX_take (i := 6) [] (v := ?_) rfl (by kernel_rfl) (by kernel_rfl) (by kernel_rfl) (by kernel_rfl) (fun _ _ _ h => h) (Or.inl ⟨by kernel_rfl, ?_⟩) (by assumption) ?_
            rotate_left 1
            · (intro w hSw; obtain ⟨q0, q1, q2, q3, q4, q5⟩ := hSw; go_simp; try (with_reducible rfl))
            (try simp only [Act.put, List.getElem_toArray, List.getElem_cons_succ, List.getElem_cons_zero, List.setIfInBounds_toArray, List.set_cons_zero, List.set_cons_succ])
            refine wpAnyX_take (i := 7) [] (v := ?_) rfl (by kernel_rfl) (by kernel_rfl) (by kernel_rfl) (by kernel_rfl) (fun _ _ _ h => h) (Or.inl ⟨by kernel_rfl, ?_⟩) (by assumption) ?_
            rotate_left 1
            · (intro w hSw; obtain ⟨q0, q1, q2, q3, q4, q5⟩ := hSw; go_simp; try (with_reducible rfl))
            (try simp only [Act.put, List.getElem_toArray, List.getElem_cons_succ, List.getElem_cons_zero, List.setIfInBounds_toArray, List.set_cons_zero, List.set_cons_succ])
            refine wpAnyX_take (i := 8) [] (v := ?_) rfl (by kernel_rfl) (by kernel_rfl) (by kernel_rfl) (by kernel_rfl) (fun _ _ _ h => h) (Or.inl ⟨by kernel_rfl, ?_⟩) (by assumption) ?_
            rotate_left 1
            · (intro w hSw; obtain ⟨q0, q1, q2, q3, q4, q5⟩ := hSw; go_simp; try (with_reducible rfl))
            (try simp only [Act.put, List.getElem_toArray, List.getElem_cons_succ, List.getElem_cons_zero, List.setIfInBounds_toArray, List.set_cons_zero, List.set_cons_succ])
            refine wpAnyX_take (i := 9) [] (v := ?_) rfl (by kernel_rfl) (by kernel_rfl) (by kernel_rfl) (by kernel_rfl) (fun _ _ _ h => h) (Or.inl ⟨by kernel_rfl, ?_⟩) (by assumption) ?_
            rotate_left 1
            · (intro w hSw; obtain ⟨q0, q1, q2, q3, q4, q5⟩ := hSw; go_simp; try (with_reducible rfl))
            (try simp only [Act.put, List.getElem_toArray, List.getElem_cons_succ, List.getElem_cons_zero, List.setIfInBounds_toArray, List.set_cons_zero, List.set_cons_succ])
            refine wpAnyX_one 11 (by kernel_rfl) rfl (fun K hK => ?_)
            go_simp
            have B5 := five B4 (Nat.le_refl _) (.bool true) (.int .i64 ubase) (.int .i64 uhigh) (.int .i64 (got + 1)) (.int .u64 (useen : Int))
            refine hK.out _ _ (.inr (K6.out _ B5)) ?_
            have hHeld3 := K6.out _ B5
            clear hK K
            (try simp only [Act.put, List.getElem_toArray, List.getElem_cons_succ, List.getElem_cons_zero, List.setIfInBounds_toArray, List.set_cons_zero, List.set_cons_succ])
            refine wpAnyX_take (i := 12) [] (v := ?_) rfl (by kernel_rfl) (by kernel_rfl) (by kernel_rfl) (by kernel_rfl) (fun _ _ _ h => h) (Or.inl ⟨by kernel_rfl, ?_⟩) (by assumption) ?_
            rotate_left 1
            · (intro w hSw; obtain ⟨q0, q1, q2, q3, q4, q5⟩ := hSw; go_simp; try (with_reducible rfl))
            (try simp only [Act.put, List.getElem_toArray, List.getElem_cons_succ, List.getElem_cons_zero, List.setIfInBounds_toArray, List.set_cons_zero, List.set_cons_succ])
            refine wpAnyX_take (i := 13) [] (v := ?_) rfl (by kernel_rfl) (by kernel_rfl) (by kernel_rfl) (by kernel_rfl) (fun _ _ _ h => h) (Or.inl ⟨by kernel_rfl, ?_⟩) (by assumption) ?_
            rotate_left 1
            · (intro w hSw; obtain ⟨q0, q1, q2, q3, q4, q5⟩ := hSw; go_simp; try (with_reducible rfl))
            (try simp only [Act.put, List.getElem_toArray, List.getElem_cons_succ, List.getElem_cons_zero, List.setIfInBounds_toArray, List.set_cons_zero, List.set_cons_succ])
            refine wpAnyX_done (by kernel_rfl) ?_ _
            go_wp2_with fail
            go_meet
            exact ⟨_, rfl, Nat.le_refl _, rfl, rfl, hq.five _ _ _ _ _, B5⟩
        case rest =>
          clear K6
          obtain ⟨gu, rfl, hgu, rfl, rfl, hwu, bq⟩ := hcut
          have HW2 := Lib.hid (HW.out.below bq HW.out.lt)
          have HB2 := Lib.hid (HB1.out _ bq)
          have HU2 := Lib.hid hwu
          have hne : gu ≠ gt := by omega
          have hsz2 := HB2.out.size
          have hgul := hwu.lt
          clear HW hwu bq hR1 HB1 HB
          have hR2 := Lib.hid (fun w' (b' : Below wc.heap.size wc w') => ROW.out w' (HB2.out.trans (b'.mono hsz2)))
          clear hgw
          have hgt2 := HW2.out.lt
          obtain ⟨wp, rfl⟩ : ∃ wp : World, wp = wo := ⟨_, rfl⟩
          obtain ⟨wo, rfl⟩ : ∃ wo : World, wo = wc := ⟨_, rfl⟩
          have K6 := Lib.hid (fun w' (b' : Below wo.heap.size wo w') => show (fun w' => w'.cell? ⟨gu, 0, none⟩ = some (.bool true) ∧ w'.cell? ⟨gu, 1, none⟩ = some (.int .i64 ubase) ∧ w'.cell? ⟨gu, 2, none⟩ = some (.int .i64 uhigh) ∧ w'.cell? ⟨gu, 3, none⟩ = some (.int .i64 (got + 1)) ∧ w'.cell? ⟨gu, 4, none⟩ = some (.int .u64 (useen : Int)) ∧ w'.cell? ⟨g, o + k, none⟩ = some (.int .u16 (x : Int))) w' from ⟨(HU2.out.below b' HU2.out.lt).cell 0, (HU2.out.below b' HU2.out.lt).cell 1, (HU2.out.below b' HU2.out.lt).cell 2, (HU2.out.below b' HU2.out.lt).cell 3, (HU2.out.below b' HU2.out.lt).cell 4, hR2.out _ b'⟩)
          have hgw := HU2.out.lt
          go_upto_region 11 with fail
          go_cut [9, 10, 11] (fun s6 s7 s8 wx => ∃ gq : Nat, s6 = .pointer (some ⟨gq, 0, none⟩) ∧ wo.heap.size ≤ gq ∧ s7 = .int .i64 m ∧ s8 = .int .i64 2 ∧ Whole wx gq 26 #[.bool true, .int .i64 ubase, .int .i64 uhigh, .int .i64 (got + 1), .int .u64 (useen : Int)] ∧ Below wo.heap.size wo wx)
          case first =>
            refine wp_region_X (S := fun w' => w'.cell? ⟨gu, 0, none⟩ = some (.bool true) ∧ w'.cell? ⟨gu, 1, none⟩ = some (.int .i64 ubase) ∧ w'.cell? ⟨gu, 2, none⟩ = some (.int .i64 uhigh) ∧ w'.cell? ⟨gu, 3, none⟩ = some (.int .i64 (got + 1)) ∧ w'.cell? ⟨gu, 4, none⟩ = some (.int .u64 (useen : Int)) ∧ w'.cell? ⟨g, o + k, none⟩ = some (.int .u16 (x : Int))) [] (by kernel_rfl) (K6.out _ (Below.refl _ _).drew) (fun hHeld0 => ?_)
            refine wpAnyX_take (i := 0) [] (v := ?_) rfl (by kernel_rfl) (by kernel_rfl) (by kernel_rfl) (by kernel_rfl) (fun _ _ _ h => h) (Or.inl ⟨by kernel_rfl, ?_⟩) (by assumption) ?_
            rotate_left 1
            · (intro w hSw; obtain ⟨q0, q1, q2, q3, q4, q5⟩ := hSw; go_simp; try (with_reducible rfl))
            (try simp only [Act.put, List.getElem_toArray, List.getElem_cons_succ, List.getElem_cons_zero, List.setIfInBounds_toArray, List.set_cons_zero, List.set_cons_succ])
            refine wpAnyX_take (i := 1) [] (v := ?_) rfl (by kernel_rfl) (by kernel_rfl) (by kernel_rfl) (by kernel_rfl) (fun _ _ _ h => h) (Or.inl ⟨by kernel_rfl, ?_⟩) (by assumption) ?_
            rotate_left 1
            · (intro w hSw; obtain ⟨q0, q1, q2, q3, q4, q5⟩ := hSw; go_simp; try (with_reducible rfl))
            (try simp only [Act.put, List.getElem_toArray, List.getElem_cons_succ, List.getElem_cons_zero, List.setIfInBounds_toArray, List.set_cons_zero, List.set_cons_succ])
            refine wpAnyX_take (i := 2) [] (v := ?_) rfl (by kernel_rfl) (by kernel_rfl) (by kernel_rfl) (by kernel_rfl) (fun _ _ _ h => h) (Or.inl ⟨by kernel_rfl, ?_⟩) (by assumption) ?_
            rotate_left 1
            · (intro w hSw; obtain ⟨q0, q1, q2, q3, q4, q5⟩ := hSw; go_simp; try (with_reducible rfl))
            (try simp only [Act.put, List.getElem_toArray, List.getElem_cons_succ, List.getElem_cons_zero, List.setIfInBounds_toArray, List.set_cons_zero, List.set_cons_succ])
            refine wpAnyX_take (i := 3) [] (v := ?_) rfl (by kernel_rfl) (by kernel_rfl) (by kernel_rfl) (by kernel_rfl) (fun _ _ _ h => h) (Or.inl ⟨by kernel_rfl, ?_⟩) (by assumption) ?_
            rotate_left 1
            · (intro w hSw; obtain ⟨q0, q1, q2, q3, q4, q5⟩ := hSw; go_simp; try (with_reducible rfl))
            (try simp only [Act.put, List.getElem_toArray, List.getElem_cons_succ, List.getElem_cons_zero, List.setIfInBounds_toArray, List.set_cons_zero, List.set_cons_succ])
            refine wpAnyX_take (i := 4) [] (v := ?_) rfl (by kernel_rfl) (by kernel_rfl) (by kernel_rfl) (by kernel_rfl) (fun _ _ _ h => h) (Or.inl ⟨by kernel_rfl, ?_⟩) (by assumption) ?_
            rotate_left 1
            · (intro w hSw; obtain ⟨q0, q1, q2, q3, q4, q5⟩ := hSw; go_simp; try (with_reducible rfl))
            (try simp only [Act.put, List.getElem_toArray, List.getElem_cons_succ, List.getElem_cons_zero, List.setIfInBounds_toArray, List.set_cons_zero, List.set_cons_succ])
            refine wpAnyX_two 5 10 (by kernel_rfl) rfl rfl (fun K hK => ?_) (fun K hK => ?_)
            · go_simp
              go_wp2_with (refine (D.out wo.drew).mono ?_; rintro e w3 ⟨rfl, b3⟩)
              have B3 := (Below.refl wo.heap.size wo).drew.trans b3
              refine hK.out _ _ (.inr (K6.out _ B3)) ?_
              have hHeld1 := K6.out _ B3
              clear hK K
              (try simp only [Act.put, List.getElem_toArray, List.getElem_cons_succ, List.getElem_cons_zero, List.setIfInBounds_toArray, List.set_cons_zero, List.set_cons_succ])
              refine wpAnyX_take (i := 6) [] (v := ?_) rfl (by kernel_rfl) (by kernel_rfl) (by kernel_rfl) (by kernel_rfl) (fun _ _ _ h => h) (Or.inl ⟨by kernel_rfl, ?_⟩) (by assumption) ?_
              rotate_left 1
              · (intro w hSw; obtain ⟨q0, q1, q2, q3, q4, q5⟩ := hSw; go_simp; try (with_reducible rfl))
              (try simp only [Act.put, List.getElem_toArray, List.getElem_cons_succ, List.getElem_cons_zero, List.setIfInBounds_toArray, List.set_cons_zero, List.set_cons_succ])
              refine wpAnyX_take (i := 7) [] (v := ?_) rfl (by kernel_rfl) (by kernel_rfl) (by kernel_rfl) (by kernel_rfl) (fun _ _ _ h => h) (Or.inl ⟨by kernel_rfl, ?_⟩) (by assumption) ?_
              rotate_left 1
              · (intro w hSw; obtain ⟨q0, q1, q2, q3, q4, q5⟩ := hSw; go_simp; try (with_reducible rfl))
              (try simp only [Act.put, List.getElem_toArray, List.getElem_cons_succ, List.getElem_cons_zero, List.setIfInBounds_toArray, List.set_cons_zero, List.set_cons_succ])
              refine wpAnyX_take (i := 8) [] (v := ?_) rfl (by kernel_rfl) (by kernel_rfl) (by kernel_rfl) (by kernel_rfl) (fun _ _ _ h => h) (Or.inl ⟨by kernel_rfl, ?_⟩) (by assumption) ?_
              rotate_left 1
              · (intro w hSw; obtain ⟨q0, q1, q2, q3, q4, q5⟩ := hSw; go_simp; try (with_reducible rfl))
              (try simp only [Act.put, List.getElem_toArray, List.getElem_cons_succ, List.getElem_cons_zero, List.setIfInBounds_toArray, List.set_cons_zero, List.set_cons_succ])
              refine wpAnyX_take (i := 9) [] (v := ?_) rfl (by kernel_rfl) (by kernel_rfl) (by kernel_rfl) (by kernel_rfl) (fun _ _ _ h => h) (Or.inl ⟨by kernel_rfl, ?_⟩) (by assumption) ?_
              rotate_left 1
              · (intro w hSw; obtain ⟨q0, q1, q2, q3, q4, q5⟩ := hSw; go_simp; try (with_reducible rfl))
              (try simp only [Act.put, List.getElem_toArray, List.getElem_cons_succ, List.getElem_cons_zero, List.setIfInBounds_toArray, List.set_cons_zero, List.set_cons_succ])
              refine wpAnyX_one 10 (by kernel_rfl) rfl (fun K hK => ?_)
              go_simp
              have B4 := B3.alloc B3.size (.cells #[.bool false, .int .i64 0, .int .i64 0, .int .i64 0, .int .u64 0] 26)
              refine hK.out _ _ (.inr (K6.out _ B4)) ?_
              have hHeld2 := K6.out _ B4
              clear hK K
              (try simp only [Act.put, List.getElem_toArray, List.getElem_cons_succ, List.getElem_cons_zero, List.setIfInBounds_toArray, List.set_cons_zero, List.set_cons_succ])
              refine wpAnyX_one 11 (by kernel_rfl) rfl (fun K hK => ?_)
              have hq := Whole.new w3 26 #[.bool false, .int .i64 0, .int .i64 0, .int .i64 0, .int .u64 0]
              have hq0 := hq.cell 0
              have hq1 := hq.cell 1
              have hq2 := hq.cell 2
              have hq3 := hq.cell 3
              have hq4 := hq.cell 4
              have hf0 := hq.free 0
              have hf1 := hq.free 1
              have hf2 := hq.free 2
              have hf3 := hq.free 3
              have hf4 := hq.free 4
              go_simp
              have B5 := B3.alloc B3.size (.cells #[.bool true, .int .i64 ubase, .int .i64 uhigh, .int .i64 (got + 1), .int .u64 (useen : Int)] 26)
              refine hK.out _ _ (.inr (K6.out _ B5)) ?_
              have hHeld3 := K6.out _ B5
              clear hK K
              (try simp only [Act.put, List.getElem_toArray, List.getElem_cons_succ, List.getElem_cons_zero, List.setIfInBounds_toArray, List.set_cons_zero, List.set_cons_succ])
              refine wpAnyX_take (i := 12) [] (v := ?_) rfl (by kernel_rfl) (by kernel_rfl) (by kernel_rfl) (by kernel_rfl) (fun _ _ _ h => h) (Or.inl ⟨by kernel_rfl, ?_⟩) (by assumption) ?_
              rotate_left 1
              · (intro w hSw; obtain ⟨q0, q1, q2, q3, q4, q5⟩ := hSw; go_simp; try (with_reducible rfl))
              (try simp only [Act.put, List.getElem_toArray, List.getElem_cons_succ, List.getElem_cons_zero, List.setIfInBounds_toArray, List.set_cons_zero, List.set_cons_succ])
              refine wpAnyX_take (i := 13) [] (v := ?_) rfl (by kernel_rfl) (by kernel_rfl) (by kernel_rfl) (by kernel_rfl) (fun _ _ _ h => h) (Or.inl ⟨by kernel_rfl, ?_⟩) (by assumption) ?_
              rotate_left 1
              · (intro w hSw; obtain ⟨q0, q1, q2, q3, q4, q5⟩ := hSw; go_simp; try (with_reducible rfl))
              (try simp only [Act.put, List.getElem_toArray, List.getElem_cons_succ, List.getElem_cons_zero, List.setIfInBounds_toArray, List.set_cons_zero, List.set_cons_succ])
              refine wpAnyX_done (by kernel_rfl) ?_ _
              go_wp2_with fail
              go_meet
              exact ⟨_, rfl, by have := b3.size; simpa using this, rfl, rfl, Whole.new _ _ _, B5⟩
            · go_simp
              have B3 := (Below.refl wo.heap.size wo).drew.alloc (Nat.le_refl _) (.cells #[.bool false, .int .i64 0, .int .i64 0, .int .i64 0, .int .u64 0] 26)
              refine hK.out _ _ (.inr (K6.out _ B3)) ?_
              have hHeld1 := K6.out _ B3
              clear hK K
              (try simp only [Act.put, List.getElem_toArray, List.getElem_cons_succ, List.getElem_cons_zero, List.setIfInBounds_toArray, List.set_cons_zero, List.set_cons_succ])
              refine wpAnyX_one 5 (by kernel_rfl) rfl (fun K hK => ?_)
              go_simp
              go_wp2_with (refine (D.out _).mono ?_; rintro e w3 ⟨rfl, b3⟩)
              have B4 := B3.trans (b3.mono (by simp))
              have hq : Whole w3 wo.heap.size 26 #[.bool false, .int .i64 0, .int .i64 0, .int .i64 0, .int .u64 0] := (Whole.new wo.drew 26 #[.bool false, .int .i64 0, .int .i64 0, .int .i64 0, .int .u64 0]).below b3 (by simp)
              have hq0 := hq.cell 0
              have hq1 := hq.cell 1
              have hq2 := hq.cell 2
              have hq3 := hq.cell 3
              have hq4 := hq.cell 4
              have hf0 := hq.free 0
              have hf1 := hq.free 1
              have hf2 := hq.free 2
              have hf3 := hq.free 3
              have hf4 := hq.free 4
              refine hK.out _ _ (.inr (K6.out _ B4)) ?_
              have hHeld2 := K6.out _ B4
              clear hK K
              (try simp only [Act.put, List.getElem_toArray, List.getElem_cons_succ, List.getElem_cons_zero, List.setIfInBounds_toArray, List.set_cons_zero, List.set_cons_succ])
              refine wpAnyX_take (i := 6) [] (v := ?_) rfl (by kernel_rfl) (by kernel_rfl) (by kernel_rfl) (by kernel_rfl) (fun _ _ _ h => h) (Or.inl ⟨by kernel_rfl, ?_⟩) (by assumption) ?_
              rotate_left 1
              · (intro w hSw; obtain ⟨q0, q1, q2, q3, q4, q5⟩ := hSw; go_simp; try (with_reducible rfl))
              (try simp only [Act.put, List.getElem_toArray, List.getElem_cons_succ, List.getElem_cons_zero, List.setIfInBounds_toArray, List.set_cons_zero, List.set_cons_succ])
              refine wpAnyX_take (i := 7) [] (v := ?_) rfl (by kernel_rfl) (by kernel_rfl) (by kernel_rfl) (by kernel_rfl) (fun _ _ _ h => h) (Or.inl ⟨by kernel_rfl, ?_⟩) (by assumption) ?_
              rotate_left 1
              · (intro w hSw; obtain ⟨q0, q1, q2, q3, q4, q5⟩ := hSw; go_simp; try (with_reducible rfl))
              (try simp only [Act.put, List.getElem_toArray, List.getElem_cons_succ, List.getElem_cons_zero, List.setIfInBounds_toArray, List.set_cons_zero, List.set_cons_succ])
              refine wpAnyX_take (i := 8) [] (v := ?_) rfl (by kernel_rfl) (by kernel_rfl) (by kernel_rfl) (by kernel_rfl) (fun _ _ _ h => h) (Or.inl ⟨by kernel_rfl, ?_⟩) (by assumption) ?_
              rotate_left 1
              · (intro w hSw; obtain ⟨q0, q1, q2, q3, q4, q5⟩ := hSw; go_simp; try (with_reducible rfl))
              (try simp only [Act.put, List.getElem_toArray, List.getElem_cons_succ, List.getElem_cons_zero, List.setIfInBounds_toArray, List.set_cons_zero, List.set_cons_succ])
              refine wpAnyX_take (i := 9) [] (v := ?_) rfl (by kernel_rfl) (by kernel_rfl) (by kernel_rfl) (by kernel_rfl) (fun _ _ _ h => h) (Or.inl ⟨by kernel_rfl, ?_⟩) (by assumption) ?_
              rotate_left 1
              · (intro w hSw; obtain ⟨q0, q1, q2, q3, q4, q5⟩ := hSw; go_simp; try (with_reducible rfl))
              (try simp only [Act.put, List.getElem_toArray, List.getElem_cons_succ, List.getElem_cons_zero, List.setIfInBounds_toArray, List.set_cons_zero, List.set_cons_succ])
              refine wpAnyX_one 11 (by kernel_rfl) rfl (fun K hK => ?_)
              go_simp
              have B5 := five B4 (Nat.le_refl _) (.bool true) (.int .i64 ubase) (.int .i64 uhigh) (.int .i64 (got + 1)) (.int .u64 (useen : Int))
              refine hK.out _ _ (.inr (K6.out _ B5)) ?_
              have hHeld3 := K6.out _ B5
              clear hK K
              (try simp only [Act.put, List.getElem_toArray, List.getElem_cons_succ, List.getElem_cons_zero, List.setIfInBounds_toArray, List.set_cons_zero, List.set_cons_succ])
              refine wpAnyX_take (i := 12) [] (v := ?_) rfl (by kernel_rfl) (by kernel_rfl) (by kernel_rfl) (by kernel_rfl) (fun _ _ _ h => h) (Or.inl ⟨by kernel_rfl, ?_⟩) (by assumption) ?_
              rotate_left 1
              · (intro w hSw; obtain ⟨q0, q1, q2, q3, q4, q5⟩ := hSw; go_simp; try (with_reducible rfl))
              (try simp only [Act.put, List.getElem_toArray, List.getElem_cons_succ, List.getElem_cons_zero, List.setIfInBounds_toArray, List.set_cons_zero, List.set_cons_succ])
              refine wpAnyX_take (i := 13) [] (v := ?_) rfl (by kernel_rfl) (by kernel_rfl) (by kernel_rfl) (by kernel_rfl) (fun _ _ _ h => h) (Or.inl ⟨by kernel_rfl, ?_⟩) (by assumption) ?_
              rotate_left 1
              · (intro w hSw; obtain ⟨q0, q1, q2, q3, q4, q5⟩ := hSw; go_simp; try (with_reducible rfl))
              (try simp only [Act.put, List.getElem_toArray, List.getElem_cons_succ, List.getElem_cons_zero, List.setIfInBounds_toArray, List.set_cons_zero, List.set_cons_succ])
              refine wpAnyX_done (by kernel_rfl) ?_ _
              go_wp2_with fail
              go_meet
              exact ⟨_, rfl, Nat.le_refl _, rfl, rfl, hq.five _ _ _ _ _, B5⟩
          case rest =>
            clear K6
            obtain ⟨gv, rfl, hgv, rfl, rfl, hwv, bq⟩ := hcut
            have W3 := HW2.out.below bq HW2.out.lt
            have HB3 := Lib.hid (HB2.out.trans (bq.mono hsz2))
            have U3 := HU2.out.below bq HU2.out.lt
            have r0 := ROW.out _ HB3.out
            have hne2 : gv ≠ gt := by omega
            have hne3 : gv ≠ gu := by omega
            have hs3 := HB3.out.size
            have hgv2 := hwv.lt
            have hgt3 := W3.lt
            have hgu3 := U3.lt
            clear bq hR2 HB2 hgw
            have k0 := W3.cell 0
            have k1 := W3.cell 1
            have k2 := W3.cell 2
            have k3 := W3.cell 3
            have k4 := W3.cell 4
            have f0 := W3.free 0
            have f1 := W3.free 1
            have f2 := W3.free 2
            have f3 := W3.free 3
            have f4 := W3.free 4
            have u0 := U3.cell 0
            have u1 := U3.cell 1
            have u2 := U3.cell 2
            have u3 := U3.cell 3
            have u4 := U3.cell 4
            have v0 := hwv.cell 0
            have v1 := hwv.cell 1
            have v2 := hwv.cell 2
            have v3 := hwv.cell 3
            have v4 := hwv.cell 4
            have HW3 := Lib.hid W3
            clear W3 U3 hwv HW2 HU2
            have hlow := HLOW.out
            rcases hkd with rfl | rfl
            all_goals
              go_wp2
              go_roundw
              case rel => exact ⟨k + 1, _, by omega, by go_num, HT2, Lib.hid (HW3.out.five (.bool true) (.int .i64 ubase) (.int .i64 uhigh) (.int .i64 (got + 1)) (.int .u64 (useen : Int))), five HB3.out hg (.bool true) (.int .i64 ubase) (.int .i64 uhigh) (.int .i64 (got + 1)) (.int .u64 (useen : Int))⟩
              case measure => simp [intOf]; omega
    · obtain rfl : k = n := by omega
      go_wp2
      go_ret
      exact ⟨rfl, HB.out⟩

set_option maxRecDepth 100000 in
theorem lifted (os : Os) (started : os.Started) (H : Type) (enc : TypeId × Value → H) :
    ReturnsInHanded {} Try.checked os 4 .any (Rows.recvOnceSpec.pre6 enc Try.prog Try.f4 Rows.recvOnceRow.domain false) (Rows.recvOnceSpec.post enc Try.prog Try.f4 false true false false) := by
  refine returnsInHanded_of_change (C := Try.checked) own started (by kernel_rfl) Try.func4
    (ChangeSpec.witness6 (enc := enc) (C := Try.checked) false ⟨#[], #[.slice none 0 0], []⟩ 8 (by kernel_rfl) (by kernel_rfl) (by kernel_rfl) (by kernel_rfl)) ?_
  intro W base args ds gs before hval0 hW _ _
  have hval : ∀ (j : Nat) t v, Try.f4.params[j]? = some t → args[j]? = some v → Value.okWide Try.prog W .any base t v := hval0
  have hW' := hW
  obtain ⟨p, q, hA0, hV, _, _, _⟩ := hW
  have hA : DataW.TrodAll enc Try.prog W 0 (fun _ => true) true Try.f4.params.toList args.toList ds p := hA0
  rw [Try.params4] at hA hval
  obtain ⟨v0, vs0, d0, ds0, p0, q0, hargs, rfl, _, h0, r0⟩ := trodAll_cons hA
  obtain ⟨rfl, rfl, _⟩ := trodAll_nil r0
  obtain rfl : args = #[v0] := by cases args; simp_all
  obtain ⟨rfl, _⟩ := trodVars_none hV
  refine law_post (s := Rows.recvOnceSpec) rfl rfl (by rw [Try.params4]; intro t ht; simp at ht; rcases ht with rfl <;> exact ⟨by kernel_rfl, of_decide_eq_true (by kernel_rfl)⟩) rfl hW' ?_
  obtain ⟨A0, c0, l0, rfl, hl0, hr0, hx0⟩ := open_u16s (hval 0 22 v0 rfl rfl) h0
  exact walk W A0 c0 l0 hl0 hr0 hx0

theorem over : Rows.recvOnceRow.holds Try.pinned (OpenSpec.ofChange Rows.recvOnceSpec) :=
  OpenClaim.holds_of_wide 4 Try.f4 rfl rfl rfl rfl rfl rfl rfl ⟨rfl, rfl, rfl, rfl, rfl⟩ rfl rfl rfl rfl rfl (by kernel_rfl) Try.func4 (by kernel_rfl)
    (of_decide_eq_true (by kernel_rfl)) (by unfold Func.isWrapper; first | (rw [if_pos (by decide +kernel)]; kernel_rfl) | (rw [if_neg (by decide +kernel)]; exact ⟨rfl, rfl⟩))
    (fun os started H enc _ => lifted os started H enc)

/-- The statement. -/
theorem recvOnce_holds : Rows.RecvOnceSaid := over

end Go.Proofs.Ytphhhfgenhbmlaa.VOnce
