/-
  Proved: RecvSums returns true for every row of packets: those that came, and those that were lost, are all from the lowest one to the highest one; of those that miss none came. Conditions: none.
-/
import Derived.Test.YtphhhfgenhbmlaaRvD
import Derived.Test.YtphhhfgenhbmlaaRvO
import Derived.Test.YtphhhfgenhbmlaaHang
import Derived.Test.YtphhhfgenhbmlaaLift
import Derived.Deep.CutBlock
namespace Go.Proofs.Ytphhhfgenhbmlaa.VSums
open Go.ChangeShapes Go.WideShapes Go.ChangeAt Go.RowKit
set_option linter.unusedSimpArgs false

theorem i64w (x : Int) (h1 : -9223372036854775808 ≤ x) (h2 : x ≤ 9223372036854775807) : IntKind.i64.wrap x = x := by
  simp only [IntKind.wrap, IntKind.bits, IntKind.signed]; simp; split <;> omega
/-- None came yet; or some did. -/
def Well (t : Trk) : Prop := t = Trk.zero ∨ (t.on = true ∧ t.base ≤ t.high ∧ 1 ≤ t.got)
theorem well_take (t : Trk) (s : Int) (h : Well t) :
    (t.take (t.num s)).on = true ∧ (t.take (t.num s)).base ≤ (t.take (t.num s)).high ∧ 1 ≤ (t.take (t.num s)).got ∧
      ((t.kind (t.num s) = 0 ∧ (t.take (t.num s)).high = t.num s) ∨ (1 ≤ t.kind (t.num s) ∧ t.kind (t.num s) ≤ 3 ∧ t.num s ≤ (t.take (t.num s)).high)) := by
  obtain ⟨m, hm⟩ : ∃ m, t.num s = m := ⟨_, rfl⟩
  rw [hm]
  refine ⟨Trk.take_on _ _, ?_⟩
  rcases h with rfl | ⟨ho, h1, h2⟩
  · exact ⟨Int.le_refl _, Int.le_refl _, .inl ⟨rfl, rfl⟩⟩
  · unfold Trk.take Trk.kind
    rw [if_pos ho, if_pos ho]
    by_cases c1 : t.high < m
    · rw [if_pos c1, if_pos c1]
      exact ⟨by dsimp only; omega, by dsimp only; omega, .inl ⟨rfl, rfl⟩⟩
    · rw [if_neg c1, if_neg c1]
      by_cases c2 : 64 ≤ t.high - m
      · rw [if_pos c2, if_pos c2]
        exact ⟨h1, h2, .inr ⟨by decide, by decide, by omega⟩⟩
      · rw [if_neg c2, if_neg c2]
        by_cases c3 : t.seen.testBit (t.high - m).toNat = true
        · rw [if_pos c3, if_pos c3]
          exact ⟨h1, h2, .inr ⟨by decide, by decide, by omega⟩⟩
        · rw [if_neg c3, if_neg c3]
          exact ⟨by dsimp only; omega, by dsimp only; omega, .inr ⟨by decide, by decide, by dsimp only; omega⟩⟩
/-- One that misses comes. -/
theorem miss_tk (t : Trk) (x : Int) (ho : t.on = true) (h : x ∈ t.miss) : ∃ q, Tk t (x % 65536) ⟨true, t.base, t.high, t.got + 1, q⟩ x 1 ∧ q < 2 ^ 64 ∨ ¬ t.seen < 2 ^ 64 := by
  by_cases hs : t.seen < 2 ^ 64
  · refine ⟨_, .inl ⟨⟨Trk.miss_num h ho, Trk.miss_kind h ho, Trk.miss_take h ho⟩, or_lt _ _ hs ?_⟩⟩
    have := (t.mem_miss x).1 h
    omega
  · exact ⟨0, .inr hs⟩
theorem miss_tk2 (t : Trk) (x : Int) (ho : t.on = true) (h : x ∈ t.miss) (hs : t.seen < 2 ^ 64) : ∃ q, Tk t (x % 65536) ⟨true, t.base, t.high, t.got + 1, q⟩ x 1 ∧ q < 2 ^ 64 := by
  obtain ⟨q, hq | hq⟩ := miss_tk t x ho h
  · exact ⟨q, hq⟩
  · exact absurd hs hq

set_option maxRecDepth 100000 in
set_option maxHeartbeats 3200000 in
theorem walk (w : World) (A : Option Addr) (c : Nat) (l : List Nat) (hl : l.length ≤ maxLen) (hr : Row w w.heap.size 1 A l.length (n16 l)) (hx : ∀ x ∈ l, x < 65536) :
    Calls Try.prog 7 #[.slice A l.length c] w fun e w' => e = .returned (.bool true) ∧ Below w.heap.size w w' := by
  unfold maxLen at hl
  obtain ⟨n, hn⟩ : ∃ n, l.length = n := ⟨_, rfl⟩
  rw [hn] at hl hr ⊢
  have CA := Lib.hid (awake_any w)
  by_cases h1 : 200 < n
  · clear hr hn hx
    go_enter Try.func7, Try.ntmps7
    go_wp2_with fail
    refine CA.out.mono ?_
    rintro e w1 ⟨rfl, b1⟩
    go_wp2
    go_ret
    exact ⟨rfl, b1⟩
  have H := Lib.hid hr
  have HN := Lib.hid hn
  have HX := Lib.hid hx
  clear hr hn hx
  go_enter Try.func7, Try.ntmps7
  go_wp2_with fail
  refine CA.out.mono ?_
  rintro e w1 ⟨rfl, b1⟩
  have HW := Lib.hid (Whole.new w1 26 #[.bool false, .int .i64 0, .int .i64 0, .int .i64 0, .int .u64 0])
  have HB := Lib.hid (b1.alloc b1.size (.cells #[.bool false, .int .i64 0, .int .i64 0, .int .i64 0, .int .u64 0] 26))
  obtain ⟨gt, hgt⟩ : ∃ g, g = w1.heap.size := ⟨_, rfl⟩
  have hg := b1.size
  rw [← hgt] at hg HW
  clear b1 CA
  go_wp2_with fail
  rw [← hgt]
  go_loopw [5] (fun i wr => ∃ (k : Nat) (t : Trk), k ≤ n ∧ i = .int .i64 (k : Int) ∧ Hid (t.Ok (k * 65536) ∧ Well t) ∧ Hid (Whole wr gt 26 t.cells) ∧ Below w.heap.size w wr) (fun i _ => n - (intOf i).toNat)
  case atStart => exact ⟨0, Trk.zero, Nat.zero_le _, rfl, Lib.hid ⟨Trk.Ok.zero, .inl rfl⟩, HW, HB.out⟩
  case round =>
    clear HW HB hgt
    obtain ⟨k, t, hk, rfl, HT, HW, hb⟩ := hrel
    obtain ⟨wo, rfl⟩ : ∃ wo : World, wo = wr := ⟨_, rfl⟩
    have HB := Lib.hid hb
    have hsz := hb.size
    clear hb
    by_cases hlt : k < n
    · obtain ⟨x, hx⟩ : ∃ x, l[k]? = some x := ⟨l[k]'(by rw [HN.out]; exact hlt), by simp⟩
      have hx6 := HX.out x (List.mem_of_getElem? hx)
      obtain ⟨g, o, rfl, hg0, hcell⟩ := H.out.2 (by omega)
      have ROW := Lib.hid (fun w' (b' : Below w.heap.size w w') => show w'.cell? ⟨g, o + k, none⟩ = some (.int .u16 (x : Int)) from (b'.cell (p := ⟨g, o + k, none⟩) hg0).trans (hcell k _ (n16_get _ _ _ hx)))
      clear hcell hx
      have ht := HT.out.1
      have hnb := Trk.num_bd ht (x : Int) (by omega) (by omega)
      obtain ⟨huo, hu1, hu2, hkd⟩ := well_take t (x : Int) HT.out.2
      have hOK := ht.take (t.num x) hnb.1 hnb.2
      obtain ⟨m, hm⟩ : ∃ m, t.num (x : Int) = m := ⟨_, rfl⟩
      have htk : Tk t (x : Int) (t.take m) m (t.kind m) := ⟨hm, rfl, rfl⟩
      rw [hm] at hOK hnb huo hu1 hu2 hkd
      have hFt : t.Fit := ht.more (by omega)
      obtain ⟨u, hu⟩ : ∃ u, t.take m = u := ⟨_, rfl⟩
      obtain ⟨kd, hkk⟩ : ∃ kd, t.kind m = kd := ⟨_, rfl⟩
      rw [hu, hkk] at htk
      rw [hkk] at hkd
      rw [hu] at hOK huo hu1 hu2 hkd
      have hFu : u.Fit := hOK.more (by omega)
      have g0 := hFu.base0
      have g1 := hFu.base1
      have g2 := hFu.high0
      have g3 := hFu.high1
      have g4 := hFu.got0
      have g5 := hFu.got1
      have HT2 : Hid (u.Ok ((k + 1 : Nat) * 65536) ∧ Well u) := Lib.hid ⟨hOK.more (by omega), .inr ⟨huo, hu1, hu2⟩⟩
      have CL := fun w => lost_any u hFu w
      have CM := fun w => missing_any u hFu w
      have HMS := Lib.hid (show u.missing = u.miss from by unfold Trk.missing; rw [if_pos huo])
      have HLO := Lib.hid (show u.lost = u.high - u.base + 1 - u.got from by unfold Trk.lost; rw [if_pos huo])
      have HMT := Lib.hid (fun y hy => miss_tk2 u y huo hy hFu.seen)
      clear hm ht hOK hu hkk HT
      obtain ⟨on, base, high, got, seen⟩ := t
      have C := fun w => tk_lit _ _ _ _ _ _ _ _ _ htk hFt (by omega) (by omega) w
      clear htk hFt
      obtain ⟨uon, ubase, uhigh, ugot, useen⟩ := u
      obtain ⟨ms, hms⟩ : ∃ ms, Trk.missing ⟨uon, ubase, uhigh, ugot, useen⟩ = ms := ⟨_, rfl⟩
      obtain ⟨L, hL⟩ : ∃ L, Trk.lost ⟨uon, ubase, uhigh, ugot, useen⟩ = L := ⟨_, rfl⟩
      rw [hL] at CL HLO
      rw [hms] at CM HMS
      dsimp only at huo hu1 hu2 hkd g0 g1 g2 g3 g4 g5 HLO HMT
      subst huo
      simp only [Trk.cells] at C CL CM HW
      have C := Lib.hid C
      have CL := Lib.hid CL
      have CM := Lib.hid CM
      have HML := Lib.hid (show ms.length ≤ 64 from by rw [← hms]; unfold Trk.missing; split; exact Trk.miss_length _; simp)
      have HFu := Lib.hid hFu
      clear hL hms hFu
      have hi1 : (0 : Int) ≤ (k : Int) := by omega
      have hi2 : (k : Int) < (n : Int) := by omega
      have hR1 := Lib.hid (fun w' (b' : Below wo.heap.size wo w') => ROW.out w' (HB.out.trans (b'.mono hsz)))
      have HB1 := Lib.hid (fun w' (b' : Below wo.heap.size wo w') => HB.out.trans (b'.mono hsz))
      have K6 := Lib.hid (fun w' (b' : Below wo.heap.size wo w') => show (fun w' => w'.cell? ⟨gt, 0, none⟩ = some (.bool on) ∧ w'.cell? ⟨gt, 1, none⟩ = some (.int .i64 base) ∧ w'.cell? ⟨gt, 2, none⟩ = some (.int .i64 high) ∧ w'.cell? ⟨gt, 3, none⟩ = some (.int .i64 got) ∧ w'.cell? ⟨gt, 4, none⟩ = some (.int .u64 (seen : Int)) ∧ w'.cell? ⟨g, o + k, none⟩ = some (.int .u16 (x : Int))) w' from ⟨(HW.out.below b' HW.out.lt).cell 0, (HW.out.below b' HW.out.lt).cell 1, (HW.out.below b' HW.out.lt).cell 2, (HW.out.below b' HW.out.lt).cell 3, (HW.out.below b' HW.out.lt).cell 4, hR1.out _ b'⟩)
      have hgw := HW.out.lt
      go_upto_region 10 with fail
      go_cut [6, 7, 8] (fun s6 s7 s8 wx => ∃ gq : Nat, s6 = .pointer (some ⟨gq, 0, none⟩) ∧ wo.heap.size ≤ gq ∧ s7 = .int .i64 m ∧ s8 = .int .i64 kd ∧ Whole wx gq 26 #[.bool true, .int .i64 ubase, .int .i64 uhigh, .int .i64 ugot, .int .u64 (useen : Int)] ∧ Below wo.heap.size wo wx)
      case first =>
        refine wp_region_X (S := fun w' => w'.cell? ⟨gt, 0, none⟩ = some (.bool on) ∧ w'.cell? ⟨gt, 1, none⟩ = some (.int .i64 base) ∧ w'.cell? ⟨gt, 2, none⟩ = some (.int .i64 high) ∧ w'.cell? ⟨gt, 3, none⟩ = some (.int .i64 got) ∧ w'.cell? ⟨gt, 4, none⟩ = some (.int .u64 (seen : Int)) ∧ w'.cell? ⟨g, o + k, none⟩ = some (.int .u16 (x : Int))) [] (by kernel_rfl) (K6.out _ (Below.refl _ _).drew) (fun hHeld0 => ?_)
        refine wpAnyX_take (i := 0) [] (v := ?_) rfl (by kernel_rfl) (by kernel_rfl) (by kernel_rfl) (by kernel_rfl) (fun _ _ _ h => h) (Or.inl ⟨by kernel_rfl, ?_⟩) (by assumption) ?_
        rotate_left 1
        · (intro w hSw; obtain ⟨q0, q1, q2, q3, q4, q5⟩ := hSw; go_simp; try (with_reducible rfl))
        (try simp only [Act.put, List.getElem_toArray, List.getElem_cons_succ, List.getElem_cons_zero, List.setIfInBounds_toArray, List.set_cons_zero, List.set_cons_succ])
        refine wpAnyX_take (i := 1) [] (v := ?_) rfl (by kernel_rfl) (by kernel_rfl) (by kernel_rfl) (by kernel_rfl) (fun _ _ _ h => h) (Or.inl ⟨by kernel_rfl, ?_⟩) (by assumption) ?_
        rotate_left 1
        · (intro w hSw; obtain ⟨q0, q1, q2, q3, q4, q5⟩ := hSw; go_simp; try (with_reducible rfl))
        (try simp only [Act.put, List.getElem_toArray, List.getElem_cons_succ, List.getElem_cons_zero, List.setIfInBounds_toArray, List.set_cons_zero, List.set_cons_succ])
        refine wpAnyX_take (i := 2) [] (v := ?_) rfl (by kernel_rfl) (by kernel_rfl) (by kernel_rfl) (by kernel_rfl) (fun _ _ _ h => h) (Or.inl ⟨by kernel_rfl, ?_⟩) (by assumption) ?_
        rotate_left 1
        · (intro w hSw; obtain ⟨q0, q1, q2, q3, q4, q5⟩ := hSw; go_simp; try (with_reducible rfl))
        (try simp only [Act.put, List.getElem_toArray, List.getElem_cons_succ, List.getElem_cons_zero, List.setIfInBounds_toArray, List.set_cons_zero, List.set_cons_succ])
        refine wpAnyX_take (i := 3) [] (v := ?_) rfl (by kernel_rfl) (by kernel_rfl) (by kernel_rfl) (by kernel_rfl) (fun _ _ _ h => h) (Or.inl ⟨by kernel_rfl, ?_⟩) (by assumption) ?_
        rotate_left 1
        · (intro w hSw; obtain ⟨q0, q1, q2, q3, q4, q5⟩ := hSw; go_simp; try (with_reducible rfl))
        (try simp only [Act.put, List.getElem_toArray, List.getElem_cons_succ, List.getElem_cons_zero, List.setIfInBounds_toArray, List.set_cons_zero, List.set_cons_succ])
        refine wpAnyX_take (i := 4) [] (v := ?_) rfl (by kernel_rfl) (by kernel_rfl) (by kernel_rfl) (by kernel_rfl) (fun _ _ _ h => h) (Or.inl ⟨by kernel_rfl, ?_⟩) (by assumption) ?_
        rotate_left 1
        · (intro w hSw; obtain ⟨q0, q1, q2, q3, q4, q5⟩ := hSw; go_simp; try (with_reducible rfl))
        (try simp only [Act.put, List.getElem_toArray, List.getElem_cons_succ, List.getElem_cons_zero, List.setIfInBounds_toArray, List.set_cons_zero, List.set_cons_succ])
        refine wpAnyX_two 5 10 (by kernel_rfl) rfl rfl (fun K hK => ?_) (fun K hK => ?_)
        · go_simp
          go_wp2_with (refine (C.out wo.drew).mono ?_; rintro e w3 ⟨rfl, b3⟩)
          have B3 := (Below.refl wo.heap.size wo).drew.trans b3
          refine hK.out _ _ (.inr (K6.out _ B3)) ?_
          have hHeld1 := K6.out _ B3
          clear hK K
          (try simp only [Act.put, List.getElem_toArray, List.getElem_cons_succ, List.getElem_cons_zero, List.setIfInBounds_toArray, List.set_cons_zero, List.set_cons_succ])
          refine wpAnyX_take (i := 6) [] (v := ?_) rfl (by kernel_rfl) (by kernel_rfl) (by kernel_rfl) (by kernel_rfl) (fun _ _ _ h => h) (Or.inl ⟨by kernel_rfl, ?_⟩) (by assumption) ?_
          rotate_left 1
          · (intro w hSw; obtain ⟨q0, q1, q2, q3, q4, q5⟩ := hSw; go_simp; try (with_reducible rfl))
          (try simp only [Act.put, List.getElem_toArray, List.getElem_cons_succ, List.getElem_cons_zero, List.setIfInBounds_toArray, List.set_cons_zero, List.set_cons_succ])
          refine wpAnyX_take (i := 7) [] (v := ?_) rfl (by kernel_rfl) (by kernel_rfl) (by kernel_rfl) (by kernel_rfl) (fun _ _ _ h => h) (Or.inl ⟨by kernel_rfl, ?_⟩) (by assumption) ?_
          rotate_left 1
          · (intro w hSw; obtain ⟨q0, q1, q2, q3, q4, q5⟩ := hSw; go_simp; try (with_reducible rfl))
          (try simp only [Act.put, List.getElem_toArray, List.getElem_cons_succ, List.getElem_cons_zero, List.setIfInBounds_toArray, List.set_cons_zero, List.set_cons_succ])
          refine wpAnyX_take (i := 8) [] (v := ?_) rfl (by kernel_rfl) (by kernel_rfl) (by kernel_rfl) (by kernel_rfl) (fun _ _ _ h => h) (Or.inl ⟨by kernel_rfl, ?_⟩) (by assumption) ?_
          rotate_left 1
          · (intro w hSw; obtain ⟨q0, q1, q2, q3, q4, q5⟩ := hSw; go_simp; try (with_reducible rfl))
          (try simp only [Act.put, List.getElem_toArray, List.getElem_cons_succ, List.getElem_cons_zero, List.setIfInBounds_toArray, List.set_cons_zero, List.set_cons_succ])
          refine wpAnyX_take (i := 9) [] (v := ?_) rfl (by kernel_rfl) (by kernel_rfl) (by kernel_rfl) (by kernel_rfl) (fun _ _ _ h => h) (Or.inl ⟨by kernel_rfl, ?_⟩) (by assumption) ?_
          rotate_left 1
          · (intro w hSw; obtain ⟨q0, q1, q2, q3, q4, q5⟩ := hSw; go_simp; try (with_reducible rfl))
          (try simp only [Act.put, List.getElem_toArray, List.getElem_cons_succ, List.getElem_cons_zero, List.setIfInBounds_toArray, List.set_cons_zero, List.set_cons_succ])
          refine wpAnyX_one 10 (by kernel_rfl) rfl (fun K hK => ?_)
          go_simp
          have B4 := B3.alloc B3.size (.cells #[.bool false, .int .i64 0, .int .i64 0, .int .i64 0, .int .u64 0] 26)
          refine hK.out _ _ (.inr (K6.out _ B4)) ?_
          have hHeld2 := K6.out _ B4
          clear hK K
          (try simp only [Act.put, List.getElem_toArray, List.getElem_cons_succ, List.getElem_cons_zero, List.setIfInBounds_toArray, List.set_cons_zero, List.set_cons_succ])
          refine wpAnyX_one 11 (by kernel_rfl) rfl (fun K hK => ?_)
          have hq := Whole.new w3 26 #[.bool false, .int .i64 0, .int .i64 0, .int .i64 0, .int .u64 0]
          have hq0 := hq.cell 0
          have hq1 := hq.cell 1
          have hq2 := hq.cell 2
          have hq3 := hq.cell 3
          have hq4 := hq.cell 4
          have hf0 := hq.free 0
          have hf1 := hq.free 1
          have hf2 := hq.free 2
          have hf3 := hq.free 3
          have hf4 := hq.free 4
          go_simp
          have B5 := B3.alloc B3.size (.cells #[.bool true, .int .i64 ubase, .int .i64 uhigh, .int .i64 ugot, .int .u64 (useen : Int)] 26)
          refine hK.out _ _ (.inr (K6.out _ B5)) ?_
          have hHeld3 := K6.out _ B5
          clear hK K
          (try simp only [Act.put, List.getElem_toArray, List.getElem_cons_succ, List.getElem_cons_zero, List.setIfInBounds_toArray, List.set_cons_zero, List.set_cons_succ])
          refine wpAnyX_take (i := 12) [] (v := ?_) rfl (by kernel_rfl) (by kernel_rfl) (by kernel_rfl) (by kernel_rfl) (fun _ _ _ h => h) (Or.inl ⟨by kernel_rfl, ?_⟩) (by assumption) ?_
          rotate_left 1
          · (intro w hSw; obtain ⟨q0, q1, q2, q3, q4, q5⟩ := hSw; go_simp; try (with_reducible rfl))
          (try simp only [Act.put, List.getElem_toArray, List.getElem_cons_succ, List.getElem_cons_zero, List.setIfInBounds_toArray, List.set_cons_zero, List.set_cons_succ])
          refine wpAnyX_take (i := 13) [] (v := ?_) rfl (by kernel_rfl) (by kernel_rfl) (by kernel_rfl) (by kernel_rfl) (fun _ _ _ h => h) (Or.inl ⟨by kernel_rfl, ?_⟩) (by assumption) ?_
          rotate_left 1
          · (intro w hSw; obtain ⟨q0, q1, q2, q3, q4, q5⟩ := hSw; go_simp; try (with_reducible rfl))
          (try simp only [Act.put, List.getElem_toArray, List.getElem_cons_succ, List.getElem_cons_zero, List.setIfInBounds_toArray, List.set_cons_zero, List.set_cons_succ])
          refine wpAnyX_done (by kernel_rfl) ?_ _
          go_wp2_with fail
          go_meet
          exact ⟨_, rfl, by have := b3.size; simpa using this, rfl, rfl, Whole.new _ _ _, B5⟩
        · go_simp
          have B3 := (Below.refl wo.heap.size wo).drew.alloc (Nat.le_refl _) (.cells #[.bool false, .int .i64 0, .int .i64 0, .int .i64 0, .int .u64 0] 26)
          refine hK.out _ _ (.inr (K6.out _ B3)) ?_
          have hHeld1 := K6.out _ B3
          clear hK K
          (try simp only [Act.put, List.getElem_toArray, List.getElem_cons_succ, List.getElem_cons_zero, List.setIfInBounds_toArray, List.set_cons_zero, List.set_cons_succ])
          refine wpAnyX_one 5 (by kernel_rfl) rfl (fun K hK => ?_)
          go_simp
          go_wp2_with (refine (C.out _).mono ?_; rintro e w3 ⟨rfl, b3⟩)
          have B4 := B3.trans (b3.mono (by simp))
          have hq : Whole w3 wo.heap.size 26 #[.bool false, .int .i64 0, .int .i64 0, .int .i64 0, .int .u64 0] := (Whole.new wo.drew 26 #[.bool false, .int .i64 0, .int .i64 0, .int .i64 0, .int .u64 0]).below b3 (by simp)
          have hq0 := hq.cell 0
          have hq1 := hq.cell 1
          have hq2 := hq.cell 2
          have hq3 := hq.cell 3
          have hq4 := hq.cell 4
          have hf0 := hq.free 0
          have hf1 := hq.free 1
          have hf2 := hq.free 2
          have hf3 := hq.free 3
          have hf4 := hq.free 4
          refine hK.out _ _ (.inr (K6.out _ B4)) ?_
          have hHeld2 := K6.out _ B4
          clear hK K
          (try simp only [Act.put, List.getElem_toArray, List.getElem_cons_succ, List.getElem_cons_zero, List.setIfInBounds_toArray, List.set_cons_zero, List.set_cons_succ])
          refine wpAnyX_take (i := 6) [] (v := ?_) rfl (by kernel_rfl) (by kernel_rfl) (by kernel_rfl) (by kernel_rfl) (fun _ _ _ h => h) (Or.inl ⟨by kernel_rfl, ?_⟩) (by assumption) ?_
          rotate_left 1
          · (intro w hSw; obtain ⟨q0, q1, q2, q3, q4, q5⟩ := hSw; go_simp; try (with_reducible rfl))
          (try simp only [Act.put, List.getElem_toArray, List.getElem_cons_succ, List.getElem_cons_zero, List.setIfInBounds_toArray, List.set_cons_zero, List.set_cons_succ])
          refine wpAnyX_take (i := 7) [] (v := ?_) rfl (by kernel_rfl) (by kernel_rfl) (by kernel_rfl) (by kernel_rfl) (fun _ _ _ h => h) (Or.inl ⟨by kernel_rfl, ?_⟩) (by assumption) ?_
          rotate_left 1
          · (intro w hSw; obtain ⟨q0, q1, q2, q3, q4, q5⟩ := hSw; go_simp; try (with_reducible rfl))
          (try simp only [Act.put, List.getElem_toArray, List.getElem_cons_succ, List.getElem_cons_zero, List.setIfInBounds_toArray, List.set_cons_zero, List.set_cons_succ])
          refine wpAnyX_take (i := 8) [] (v := ?_) rfl (by kernel_rfl) (by kernel_rfl) (by kernel_rfl) (by kernel_rfl) (fun _ _ _ h => h) (Or.inl ⟨by kernel_rfl, ?_⟩) (by assumption) ?_
          rotate_left 1
          · (intro w hSw; obtain ⟨q0, q1, q2, q3, q4, q5⟩ := hSw; go_simp; try (with_reducible rfl))
          (try simp only [Act.put, List.getElem_toArray, List.getElem_cons_succ, List.getElem_cons_zero, List.setIfInBounds_toArray, List.set_cons_zero, List.set_cons_succ])
          refine wpAnyX_take (i := 9) [] (v := ?_) rfl (by kernel_rfl) (by kernel_rfl) (by kernel_rfl) (by kernel_rfl) (fun _ _ _ h => h) (Or.inl ⟨by kernel_rfl, ?_⟩) (by assumption) ?_
          rotate_left 1
          · (intro w hSw; obtain ⟨q0, q1, q2, q3, q4, q5⟩ := hSw; go_simp; try (with_reducible rfl))
          (try simp only [Act.put, List.getElem_toArray, List.getElem_cons_succ, List.getElem_cons_zero, List.setIfInBounds_toArray, List.set_cons_zero, List.set_cons_succ])
          refine wpAnyX_one 11 (by kernel_rfl) rfl (fun K hK => ?_)
          go_simp
          have B5 := five B4 (Nat.le_refl _) (.bool true) (.int .i64 ubase) (.int .i64 uhigh) (.int .i64 ugot) (.int .u64 (useen : Int))
          refine hK.out _ _ (.inr (K6.out _ B5)) ?_
          have hHeld3 := K6.out _ B5
          clear hK K
          (try simp only [Act.put, List.getElem_toArray, List.getElem_cons_succ, List.getElem_cons_zero, List.setIfInBounds_toArray, List.set_cons_zero, List.set_cons_succ])
          refine wpAnyX_take (i := 12) [] (v := ?_) rfl (by kernel_rfl) (by kernel_rfl) (by kernel_rfl) (by kernel_rfl) (fun _ _ _ h => h) (Or.inl ⟨by kernel_rfl, ?_⟩) (by assumption) ?_
          rotate_left 1
          · (intro w hSw; obtain ⟨q0, q1, q2, q3, q4, q5⟩ := hSw; go_simp; try (with_reducible rfl))
          (try simp only [Act.put, List.getElem_toArray, List.getElem_cons_succ, List.getElem_cons_zero, List.setIfInBounds_toArray, List.set_cons_zero, List.set_cons_succ])
          refine wpAnyX_take (i := 13) [] (v := ?_) rfl (by kernel_rfl) (by kernel_rfl) (by kernel_rfl) (by kernel_rfl) (fun _ _ _ h => h) (Or.inl ⟨by kernel_rfl, ?_⟩) (by assumption) ?_
          rotate_left 1
          · (intro w hSw; obtain ⟨q0, q1, q2, q3, q4, q5⟩ := hSw; go_simp; try (with_reducible rfl))
          (try simp only [Act.put, List.getElem_toArray, List.getElem_cons_succ, List.getElem_cons_zero, List.setIfInBounds_toArray, List.set_cons_zero, List.set_cons_succ])
          refine wpAnyX_done (by kernel_rfl) ?_ _
          go_wp2_with fail
          go_meet
          exact ⟨_, rfl, Nat.le_refl _, rfl, rfl, hq.five _ _ _ _ _, B5⟩
      case rest =>
        clear K6
        obtain ⟨gu, rfl, hgu, rfl, rfl, hwu, bq⟩ := hcut
        have W2 := HW.out.below bq HW.out.lt
        have HB2 := Lib.hid (HB1.out _ bq)
        have hne : gu ≠ gt := by omega
        have hsz2 := HB2.out.size
        have hgul := hwu.lt
        have hgtl := W2.lt
        have HW2 := Lib.hid W2
        have k0 := W2.cell 0
        have k1 := W2.cell 1
        have k2 := W2.cell 2
        have k3 := W2.cell 3
        have k4 := W2.cell 4
        have f0 := W2.free 0
        have f1 := W2.free 1
        have f2 := W2.free 2
        have f3 := W2.free 3
        have f4 := W2.free 4
        have u0 := hwu.cell 0
        have u1 := hwu.cell 1
        have u2 := hwu.cell 2
        have u3 := hwu.cell 3
        have u4 := hwu.cell 4
        clear W2 hwu HW bq hR1 HB1 HB hgw C ROW
        skip
        have hLb : -4000000000 ≤ L ∧ L ≤ 4000000000 := by have := HLO.out; omega
        have t1 : (IntKind.i64.wrap (ugot + L) != IntKind.i64.wrap (IntKind.i64.wrap (uhigh - ubase) + 1)) = false := by have := HLO.out; rw [i64w _ (by omega) (by omega), i64w (uhigh - ubase) (by omega) (by omega), i64w _ (by omega) (by omega)]; simp; omega
        have t2 : decide (ugot < 1) = false := by simp; omega
        have t3 : decide (uhigh < ubase) = false := by simp; omega
        have W5 := HW2.out.five (.bool true) (.int .i64 ubase) (.int .i64 uhigh) (.int .i64 ugot) (.int .u64 (useen : Int))
        have B5 := five HB2.out hg (.bool true) (.int .i64 ubase) (.int .i64 uhigh) (.int .i64 ugot) (.int .u64 (useen : Int))
        obtain ⟨w5, hw5⟩ : ∃ w5, w5 = (((((wc.setCell ⟨gt, 0, none⟩ (.bool true)).setCell ⟨gt, 1, none⟩ (.int .i64 ubase)).setCell ⟨gt, 2, none⟩ (.int .i64 uhigh)).setCell ⟨gt, 3, none⟩ (.int .i64 ugot)).setCell ⟨gt, 4, none⟩ (.int .u64 (useen : Int))) := ⟨_, rfl⟩
        rw [← hw5] at W5 B5
        have HW5 := Lib.hid W5
        have HB5 := Lib.hid B5
        clear W5 B5
        go_upto_region 11 with fail
        go_cut [61] (fun s wx => s = .bool false ∧ wx = wc)
        case first =>
          rcases hkd with ⟨rfl, rfl⟩ | ⟨hk1, hk3, hk2⟩
          all_goals (go_wp2_with fail; go_meet; exact ⟨by first | rfl | (congr 1; simp; omega), rfl⟩)
        case rest =>
          obtain ⟨rfl, rfl⟩ := hcut
          clear hkd
          go_upto_region 14 with fail
          rw [← hw5]
          clear hw5 k0 k1 k2 k3 k4 f0 f1 f2 f3 f4 u0 u1 u2 u3 u4 HW2 HB2
          have KS := Lib.hid (fun w' (b' : Below w5.heap.size w5 w') => show (fun w' => w'.cell? ⟨gt, 0, none⟩ = some (.bool true) ∧ w'.cell? ⟨gt, 1, none⟩ = some (.int .i64 ubase) ∧ w'.cell? ⟨gt, 2, none⟩ = some (.int .i64 uhigh) ∧ w'.cell? ⟨gt, 3, none⟩ = some (.int .i64 ugot) ∧ w'.cell? ⟨gt, 4, none⟩ = some (.int .u64 (useen : Int))) w' from ⟨(HW5.out.below b' HW5.out.lt).cell 0, (HW5.out.below b' HW5.out.lt).cell 1, (HW5.out.below b' HW5.out.lt).cell 2, (HW5.out.below b' HW5.out.lt).cell 3, (HW5.out.below b' HW5.out.lt).cell 4⟩)
          obtain ⟨q0, q1, q2, q3, q4⟩ := KS.out w5 (Below.refl _ _)
          go_region_held3 (fun w' => w'.cell? ⟨gt, 0, none⟩ = some (.bool true) ∧ w'.cell? ⟨gt, 1, none⟩ = some (.int .i64 ubase) ∧ w'.cell? ⟨gt, 2, none⟩ = some (.int .i64 uhigh) ∧ w'.cell? ⟨gt, 3, none⟩ = some (.int .i64 ugot) ∧ w'.cell? ⟨gt, 4, none⟩ = some (.int .u64 (useen : Int)))
            (first | exact ⟨q0, q1, q2, q3, q4⟩ | (refine KS.out _ ?_; repeat' (first | exact Below.refl _ _ | (refine Below.drew ?_) | (refine Below.trans ?_ (b6.mono (by simp))))))
            (first | (go_at_call 12; refine (CL.out _).mono ?_; rintro e w6 ⟨rfl, b6⟩))
          have B6 := (Below.refl w5.heap.size w5).drew.trans b6
          have W6 := HW5.out.below B6 HW5.out.lt
          have HB6 := Lib.hid (HB5.out.trans (B6.mono HB5.out.size))
          clear b6 B6 KS q0 q1 q2 q3 q4 t1 t2 t3 HW5 HB5
          have k0 := W6.cell 0
          have k1 := W6.cell 1
          have k2 := W6.cell 2
          have k3 := W6.cell 3
          have k4 := W6.cell 4
          have HW6 := Lib.hid W6
          clear W6
          go_wp2_with fail
          refine (CM.out _).mono ?_
          rintro e w7 ⟨A7, c7, rfl, hown, b7⟩
          obtain ⟨N, hN⟩ : ∃ N, ms.length = N := ⟨_, rfl⟩
          rw [hN] at hown ⊢
          have HR7 := Lib.hid (Row.of_own hown)
          have HN7 := Lib.hid hN
          have HNL := HML.out
          rw [hN] at HNL
          have HW7 := Lib.hid (HW6.out.below b7 HW6.out.lt)
          have HB7 := Lib.hid (HB6.out.trans (b7.mono HB6.out.size))
          clear k0 k1 k2 k3 k4 hown hN b7 HB6 HW6 CM
          go_wp2_with fail
          go_loopw [10] (fun i wx => ∃ j : Nat, j ≤ N ∧ i = .int .i64 (j : Int) ∧ Hid (Below w7.heap.size w7 wx)) (fun i _ => N - (intOf i).toNat)
          case atStart => exact ⟨0, Nat.zero_le _, rfl, Lib.hid (Below.refl _ _)⟩
          case round =>
            obtain ⟨j, hj, rfl, HJ⟩ := hrel
            obtain ⟨wp, rfl⟩ : ∃ wp : World, wp = wo := ⟨_, rfl⟩
            obtain ⟨wo, rfl⟩ : ∃ wo : World, wo = wr := ⟨_, rfl⟩
            have HW := Lib.hid (HW7.out.below HJ.out HW7.out.lt)
            have hsj := HJ.out.size
            by_cases hjn : j < N
            · obtain ⟨y, hy⟩ : ∃ y, ms[j]? = some y := ⟨ms[j]'(by rw [HN7.out]; exact hjn), by simp⟩
              obtain ⟨g7, o7, rfl, hg7, hcell⟩ := HR7.out.2 (by omega)
              obtain ⟨v, hv⟩ : ∃ v, y % 65536 = v := ⟨_, rfl⟩
              have ROW := Lib.hid (fun w' (b' : Below w7.heap.size w7 w') => show w'.cell? ⟨g7, o7 + j, none⟩ = some (.int .u16 v) from (b'.cell (p := ⟨g7, o7 + j, none⟩) hg7).trans ((hcell j _ (lows_get _ _ _ hy)).trans (by rw [hv])))
              have hR1 := Lib.hid (fun w' (b' : Below wo.heap.size wo w') => ROW.out w' (HJ.out.trans (b'.mono hsj)))
              obtain ⟨q, hq, hqs⟩ := HMT.out y (by rw [← HMS.out]; exact List.mem_of_getElem? hy)
              rw [hv] at hq
              have hv6 : 0 ≤ v ∧ v < 65536 := by omega
              have C := fun w => tk_lit _ _ _ _ _ _ _ _ _ hq HFu.out hv6.1 hv6.2 w
              have CV := fun w => lost_any ⟨true, ubase, uhigh, ugot + 1, q⟩ ⟨by dsimp only; omega, by dsimp only; omega, by dsimp only; omega, by dsimp only; omega, by dsimp only; omega, by dsimp only; have := HT2.out.1.got1; dsimp only at this; omega, hqs⟩ w
              obtain ⟨L2, hL2⟩ : ∃ L2, Trk.lost ⟨true, ubase, uhigh, ugot + 1, q⟩ = L2 := ⟨_, rfl⟩
              rw [hL2] at CV
              have t4 : (L2 != IntKind.i64.wrap (L - 1)) = false := by have := HLO.out; rw [i64w _ (by omega) (by omega), ← hL2]; simp [Trk.lost]; omega
              simp only [Trk.cells] at C CV
              have C := Lib.hid C
              have CV := Lib.hid CV
              have hj1 : (0 : Int) ≤ (j : Int) := by omega
              have hj2 : (j : Int) < (N : Int) := by omega
              clear hcell hq hqs hv hy hL2
              have K6 := Lib.hid (fun w' (b' : Below wo.heap.size wo w') => show (fun w' => w'.cell? ⟨gt, 0, none⟩ = some (.bool true) ∧ w'.cell? ⟨gt, 1, none⟩ = some (.int .i64 ubase) ∧ w'.cell? ⟨gt, 2, none⟩ = some (.int .i64 uhigh) ∧ w'.cell? ⟨gt, 3, none⟩ = some (.int .i64 ugot) ∧ w'.cell? ⟨gt, 4, none⟩ = some (.int .u64 (useen : Int)) ∧ w'.cell? ⟨g7, o7 + j, none⟩ = some (.int .u16 v)) w' from ⟨(HW.out.below b' HW.out.lt).cell 0, (HW.out.below b' HW.out.lt).cell 1, (HW.out.below b' HW.out.lt).cell 2, (HW.out.below b' HW.out.lt).cell 3, (HW.out.below b' HW.out.lt).cell 4, hR1.out _ b'⟩)
              have hgw := HW.out.lt
              go_upto_region 20 with fail
              go_cut [11, 12, 13] (fun s6 s7 s8 wx => ∃ gq : Nat, s6 = .pointer (some ⟨gq, 0, none⟩) ∧ wo.heap.size ≤ gq ∧ s7 = .int .i64 y ∧ s8 = .int .i64 1 ∧ Whole wx gq 26 #[.bool true, .int .i64 ubase, .int .i64 uhigh, .int .i64 (ugot + 1), .int .u64 (q : Int)] ∧ Below wo.heap.size wo wx)
              case first =>
                refine wp_region_X (S := fun w' => w'.cell? ⟨gt, 0, none⟩ = some (.bool true) ∧ w'.cell? ⟨gt, 1, none⟩ = some (.int .i64 ubase) ∧ w'.cell? ⟨gt, 2, none⟩ = some (.int .i64 uhigh) ∧ w'.cell? ⟨gt, 3, none⟩ = some (.int .i64 ugot) ∧ w'.cell? ⟨gt, 4, none⟩ = some (.int .u64 (useen : Int)) ∧ w'.cell? ⟨g7, o7 + j, none⟩ = some (.int .u16 v)) [] (by kernel_rfl) (K6.out _ (Below.refl _ _).drew) (fun hHeld0 => ?_)
                refine wpAnyX_take (i := 0) [] (v := ?_) rfl (by kernel_rfl) (by kernel_rfl) (by kernel_rfl) (by kernel_rfl) (fun _ _ _ h => h) (Or.inl ⟨by kernel_rfl, ?_⟩) (by assumption) ?_
                rotate_left 1
                · (intro w hSw; obtain ⟨q0, q1, q2, q3, q4, q5⟩ := hSw; go_simp; try (with_reducible rfl))
                (try simp only [Act.put, List.getElem_toArray, List.getElem_cons_succ, List.getElem_cons_zero, List.setIfInBounds_toArray, List.set_cons_zero, List.set_cons_succ])
                refine wpAnyX_take (i := 1) [] (v := ?_) rfl (by kernel_rfl) (by kernel_rfl) (by kernel_rfl) (by kernel_rfl) (fun _ _ _ h => h) (Or.inl ⟨by kernel_rfl, ?_⟩) (by assumption) ?_
                rotate_left 1
                · (intro w hSw; obtain ⟨q0, q1, q2, q3, q4, q5⟩ := hSw; go_simp; try (with_reducible rfl))
                (try simp only [Act.put, List.getElem_toArray, List.getElem_cons_succ, List.getElem_cons_zero, List.setIfInBounds_toArray, List.set_cons_zero, List.set_cons_succ])
                refine wpAnyX_take (i := 2) [] (v := ?_) rfl (by kernel_rfl) (by kernel_rfl) (by kernel_rfl) (by kernel_rfl) (fun _ _ _ h => h) (Or.inl ⟨by kernel_rfl, ?_⟩) (by assumption) ?_
                rotate_left 1
                · (intro w hSw; obtain ⟨q0, q1, q2, q3, q4, q5⟩ := hSw; go_simp; try (with_reducible rfl))
                (try simp only [Act.put, List.getElem_toArray, List.getElem_cons_succ, List.getElem_cons_zero, List.setIfInBounds_toArray, List.set_cons_zero, List.set_cons_succ])
                refine wpAnyX_take (i := 3) [] (v := ?_) rfl (by kernel_rfl) (by kernel_rfl) (by kernel_rfl) (by kernel_rfl) (fun _ _ _ h => h) (Or.inl ⟨by kernel_rfl, ?_⟩) (by assumption) ?_
                rotate_left 1
                · (intro w hSw; obtain ⟨q0, q1, q2, q3, q4, q5⟩ := hSw; go_simp; try (with_reducible rfl))
                (try simp only [Act.put, List.getElem_toArray, List.getElem_cons_succ, List.getElem_cons_zero, List.setIfInBounds_toArray, List.set_cons_zero, List.set_cons_succ])
                refine wpAnyX_take (i := 4) [] (v := ?_) rfl (by kernel_rfl) (by kernel_rfl) (by kernel_rfl) (by kernel_rfl) (fun _ _ _ h => h) (Or.inl ⟨by kernel_rfl, ?_⟩) (by assumption) ?_
                rotate_left 1
                · (intro w hSw; obtain ⟨q0, q1, q2, q3, q4, q5⟩ := hSw; go_simp; try (with_reducible rfl))
                (try simp only [Act.put, List.getElem_toArray, List.getElem_cons_succ, List.getElem_cons_zero, List.setIfInBounds_toArray, List.set_cons_zero, List.set_cons_succ])
                refine wpAnyX_two 5 10 (by kernel_rfl) rfl rfl (fun K hK => ?_) (fun K hK => ?_)
                · go_simp
                  go_wp2_with (refine (C.out wo.drew).mono ?_; rintro e w3 ⟨rfl, b3⟩)
                  have B3 := (Below.refl wo.heap.size wo).drew.trans b3
                  refine hK.out _ _ (.inr (K6.out _ B3)) ?_
                  have hHeld1 := K6.out _ B3
                  clear hK K
                  (try simp only [Act.put, List.getElem_toArray, List.getElem_cons_succ, List.getElem_cons_zero, List.setIfInBounds_toArray, List.set_cons_zero, List.set_cons_succ])
                  refine wpAnyX_take (i := 6) [] (v := ?_) rfl (by kernel_rfl) (by kernel_rfl) (by kernel_rfl) (by kernel_rfl) (fun _ _ _ h => h) (Or.inl ⟨by kernel_rfl, ?_⟩) (by assumption) ?_
                  rotate_left 1
                  · (intro w hSw; obtain ⟨q0, q1, q2, q3, q4, q5⟩ := hSw; go_simp; try (with_reducible rfl))
                  (try simp only [Act.put, List.getElem_toArray, List.getElem_cons_succ, List.getElem_cons_zero, List.setIfInBounds_toArray, List.set_cons_zero, List.set_cons_succ])
                  refine wpAnyX_take (i := 7) [] (v := ?_) rfl (by kernel_rfl) (by kernel_rfl) (by kernel_rfl) (by kernel_rfl) (fun _ _ _ h => h) (Or.inl ⟨by kernel_rfl, ?_⟩) (by assumption) ?_
                  rotate_left 1
                  · (intro w hSw; obtain ⟨q0, q1, q2, q3, q4, q5⟩ := hSw; go_simp; try (with_reducible rfl))
                  (try simp only [Act.put, List.getElem_toArray, List.getElem_cons_succ, List.getElem_cons_zero, List.setIfInBounds_toArray, List.set_cons_zero, List.set_cons_succ])
                  refine wpAnyX_take (i := 8) [] (v := ?_) rfl (by kernel_rfl) (by kernel_rfl) (by kernel_rfl) (by kernel_rfl) (fun _ _ _ h => h) (Or.inl ⟨by kernel_rfl, ?_⟩) (by assumption) ?_
                  rotate_left 1
                  · (intro w hSw; obtain ⟨q0, q1, q2, q3, q4, q5⟩ := hSw; go_simp; try (with_reducible rfl))
                  (try simp only [Act.put, List.getElem_toArray, List.getElem_cons_succ, List.getElem_cons_zero, List.setIfInBounds_toArray, List.set_cons_zero, List.set_cons_succ])
                  refine wpAnyX_take (i := 9) [] (v := ?_) rfl (by kernel_rfl) (by kernel_rfl) (by kernel_rfl) (by kernel_rfl) (fun _ _ _ h => h) (Or.inl ⟨by kernel_rfl, ?_⟩) (by assumption) ?_
                  rotate_left 1
                  · (intro w hSw; obtain ⟨q0, q1, q2, q3, q4, q5⟩ := hSw; go_simp; try (with_reducible rfl))
                  (try simp only [Act.put, List.getElem_toArray, List.getElem_cons_succ, List.getElem_cons_zero, List.setIfInBounds_toArray, List.set_cons_zero, List.set_cons_succ])
                  refine wpAnyX_one 10 (by kernel_rfl) rfl (fun K hK => ?_)
                  go_simp
                  have B4 := B3.alloc B3.size (.cells #[.bool false, .int .i64 0, .int .i64 0, .int .i64 0, .int .u64 0] 26)
                  refine hK.out _ _ (.inr (K6.out _ B4)) ?_
                  have hHeld2 := K6.out _ B4
                  clear hK K
                  (try simp only [Act.put, List.getElem_toArray, List.getElem_cons_succ, List.getElem_cons_zero, List.setIfInBounds_toArray, List.set_cons_zero, List.set_cons_succ])
                  refine wpAnyX_one 11 (by kernel_rfl) rfl (fun K hK => ?_)
                  have hq := Whole.new w3 26 #[.bool false, .int .i64 0, .int .i64 0, .int .i64 0, .int .u64 0]
                  have hq0 := hq.cell 0
                  have hq1 := hq.cell 1
                  have hq2 := hq.cell 2
                  have hq3 := hq.cell 3
                  have hq4 := hq.cell 4
                  have hf0 := hq.free 0
                  have hf1 := hq.free 1
                  have hf2 := hq.free 2
                  have hf3 := hq.free 3
                  have hf4 := hq.free 4
                  go_simp
                  have B5 := B3.alloc B3.size (.cells #[.bool true, .int .i64 ubase, .int .i64 uhigh, .int .i64 (ugot + 1), .int .u64 (q : Int)] 26)
                  refine hK.out _ _ (.inr (K6.out _ B5)) ?_
                  have hHeld3 := K6.out _ B5
                  clear hK K
                  (try simp only [Act.put, List.getElem_toArray, List.getElem_cons_succ, List.getElem_cons_zero, List.setIfInBounds_toArray, List.set_cons_zero, List.set_cons_succ])
                  refine wpAnyX_take (i := 12) [] (v := ?_) rfl (by kernel_rfl) (by kernel_rfl) (by kernel_rfl) (by kernel_rfl) (fun _ _ _ h => h) (Or.inl ⟨by kernel_rfl, ?_⟩) (by assumption) ?_
                  rotate_left 1
                  · (intro w hSw; obtain ⟨q0, q1, q2, q3, q4, q5⟩ := hSw; go_simp; try (with_reducible rfl))
                  (try simp only [Act.put, List.getElem_toArray, List.getElem_cons_succ, List.getElem_cons_zero, List.setIfInBounds_toArray, List.set_cons_zero, List.set_cons_succ])
                  refine wpAnyX_take (i := 13) [] (v := ?_) rfl (by kernel_rfl) (by kernel_rfl) (by kernel_rfl) (by kernel_rfl) (fun _ _ _ h => h) (Or.inl ⟨by kernel_rfl, ?_⟩) (by assumption) ?_
                  rotate_left 1
                  · (intro w hSw; obtain ⟨q0, q1, q2, q3, q4, q5⟩ := hSw; go_simp; try (with_reducible rfl))
                  (try simp only [Act.put, List.getElem_toArray, List.getElem_cons_succ, List.getElem_cons_zero, List.setIfInBounds_toArray, List.set_cons_zero, List.set_cons_succ])
                  refine wpAnyX_done (by kernel_rfl) ?_ _
                  go_wp2_with fail
                  go_meet
                  exact ⟨_, rfl, by have := b3.size; simpa using this, rfl, rfl, Whole.new _ _ _, B5⟩
                · go_simp
                  have B3 := (Below.refl wo.heap.size wo).drew.alloc (Nat.le_refl _) (.cells #[.bool false, .int .i64 0, .int .i64 0, .int .i64 0, .int .u64 0] 26)
                  refine hK.out _ _ (.inr (K6.out _ B3)) ?_
                  have hHeld1 := K6.out _ B3
                  clear hK K
                  (try simp only [Act.put, List.getElem_toArray, List.getElem_cons_succ, List.getElem_cons_zero, List.setIfInBounds_toArray, List.set_cons_zero, List.set_cons_succ])
                  refine wpAnyX_one 5 (by kernel_rfl) rfl (fun K hK => ?_)
                  go_simp
                  go_wp2_with (refine (C.out _).mono ?_; rintro e w3 ⟨rfl, b3⟩)
                  have B4 := B3.trans (b3.mono (by simp))
                  have hq : Whole w3 wo.heap.size 26 #[.bool false, .int .i64 0, .int .i64 0, .int .i64 0, .int .u64 0] := (Whole.new wo.drew 26 #[.bool false, .int .i64 0, .int .i64 0, .int .i64 0, .int .u64 0]).below b3 (by simp)
                  have hq0 := hq.cell 0
                  have hq1 := hq.cell 1
                  have hq2 := hq.cell 2
                  have hq3 := hq.cell 3
                  have hq4 := hq.cell 4
                  have hf0 := hq.free 0
                  have hf1 := hq.free 1
                  have hf2 := hq.free 2
                  have hf3 := hq.free 3
                  have hf4 := hq.free 4
                  refine hK.out _ _ (.inr (K6.out _ B4)) ?_
                  have hHeld2 := K6.out _ B4
                  clear hK K
                  (try simp only [Act.put, List.getElem_toArray, List.getElem_cons_succ, List.getElem_cons_zero, List.setIfInBounds_toArray, List.set_cons_zero, List.set_cons_succ])
                  refine wpAnyX_take (i := 6) [] (v := ?_) rfl (by kernel_rfl) (by kernel_rfl) (by kernel_rfl) (by kernel_rfl) (fun _ _ _ h => h) (Or.inl ⟨by kernel_rfl, ?_⟩) (by assumption) ?_
                  rotate_left 1
                  · (intro w hSw; obtain ⟨q0, q1, q2, q3, q4, q5⟩ := hSw; go_simp; try (with_reducible rfl))
                  (try simp only [Act.put, List.getElem_toArray, List.getElem_cons_succ, List.getElem_cons_zero, List.setIfInBounds_toArray, List.set_cons_zero, List.set_cons_succ])
                  refine wpAnyX_take (i := 7) [] (v := ?_) rfl (by kernel_rfl) (by kernel_rfl) (by kernel_rfl) (by kernel_rfl) (fun _ _ _ h => h) (Or.inl ⟨by kernel_rfl, ?_⟩) (by assumption) ?_
                  rotate_left 1
                  · (intro w hSw; obtain ⟨q0, q1, q2, q3, q4, q5⟩ := hSw; go_simp; try (with_reducible rfl))
                  (try simp only [Act.put, List.getElem_toArray, List.getElem_cons_succ, List.getElem_cons_zero, List.setIfInBounds_toArray, List.set_cons_zero, List.set_cons_succ])
                  refine wpAnyX_take (i := 8) [] (v := ?_) rfl (by kernel_rfl) (by kernel_rfl) (by kernel_rfl) (by kernel_rfl) (fun _ _ _ h => h) (Or.inl ⟨by kernel_rfl, ?_⟩) (by assumption) ?_
                  rotate_left 1
                  · (intro w hSw; obtain ⟨q0, q1, q2, q3, q4, q5⟩ := hSw; go_simp; try (with_reducible rfl))
                  (try simp only [Act.put, List.getElem_toArray, List.getElem_cons_succ, List.getElem_cons_zero, List.setIfInBounds_toArray, List.set_cons_zero, List.set_cons_succ])
                  refine wpAnyX_take (i := 9) [] (v := ?_) rfl (by kernel_rfl) (by kernel_rfl) (by kernel_rfl) (by kernel_rfl) (fun _ _ _ h => h) (Or.inl ⟨by kernel_rfl, ?_⟩) (by assumption) ?_
                  rotate_left 1
                  · (intro w hSw; obtain ⟨q0, q1, q2, q3, q4, q5⟩ := hSw; go_simp; try (with_reducible rfl))
                  (try simp only [Act.put, List.getElem_toArray, List.getElem_cons_succ, List.getElem_cons_zero, List.setIfInBounds_toArray, List.set_cons_zero, List.set_cons_succ])
                  refine wpAnyX_one 11 (by kernel_rfl) rfl (fun K hK => ?_)
                  go_simp
                  have B5 := five B4 (Nat.le_refl _) (.bool true) (.int .i64 ubase) (.int .i64 uhigh) (.int .i64 (ugot + 1)) (.int .u64 (q : Int))
                  refine hK.out _ _ (.inr (K6.out _ B5)) ?_
                  have hHeld3 := K6.out _ B5
                  clear hK K
                  (try simp only [Act.put, List.getElem_toArray, List.getElem_cons_succ, List.getElem_cons_zero, List.setIfInBounds_toArray, List.set_cons_zero, List.set_cons_succ])
                  refine wpAnyX_take (i := 12) [] (v := ?_) rfl (by kernel_rfl) (by kernel_rfl) (by kernel_rfl) (by kernel_rfl) (fun _ _ _ h => h) (Or.inl ⟨by kernel_rfl, ?_⟩) (by assumption) ?_
                  rotate_left 1
                  · (intro w hSw; obtain ⟨q0, q1, q2, q3, q4, q5⟩ := hSw; go_simp; try (with_reducible rfl))
                  (try simp only [Act.put, List.getElem_toArray, List.getElem_cons_succ, List.getElem_cons_zero, List.setIfInBounds_toArray, List.set_cons_zero, List.set_cons_succ])
                  refine wpAnyX_take (i := 13) [] (v := ?_) rfl (by kernel_rfl) (by kernel_rfl) (by kernel_rfl) (by kernel_rfl) (fun _ _ _ h => h) (Or.inl ⟨by kernel_rfl, ?_⟩) (by assumption) ?_
                  rotate_left 1
                  · (intro w hSw; obtain ⟨q0, q1, q2, q3, q4, q5⟩ := hSw; go_simp; try (with_reducible rfl))
                  (try simp only [Act.put, List.getElem_toArray, List.getElem_cons_succ, List.getElem_cons_zero, List.setIfInBounds_toArray, List.set_cons_zero, List.set_cons_succ])
                  refine wpAnyX_done (by kernel_rfl) ?_ _
                  go_wp2_with fail
                  go_meet
                  exact ⟨_, rfl, Nat.le_refl _, rfl, rfl, hq.five _ _ _ _ _, B5⟩
              case rest =>
                clear K6
                obtain ⟨gv, rfl, hgv, rfl, rfl, hwv, bq⟩ := hcut
                have W8 := HW.out.below bq HW.out.lt
                have HB8 := Lib.hid (HJ.out.trans (bq.mono hsj))
                have hgvl := hwv.lt
                have HW8 := Lib.hid W8
                have HV8 := Lib.hid hwv
                clear bq hwv W8 hR1 C HW HJ
                have KS := Lib.hid (fun w' (b' : Below wc.heap.size wc w') => show (fun w' => w'.cell? ⟨gt, 0, none⟩ = some (.bool true) ∧ w'.cell? ⟨gt, 1, none⟩ = some (.int .i64 ubase) ∧ w'.cell? ⟨gt, 2, none⟩ = some (.int .i64 uhigh) ∧ w'.cell? ⟨gt, 3, none⟩ = some (.int .i64 ugot) ∧ w'.cell? ⟨gt, 4, none⟩ = some (.int .u64 (useen : Int)) ∧ w'.cell? ⟨gv, 0, none⟩ = some (.bool true) ∧ w'.cell? ⟨gv, 1, none⟩ = some (.int .i64 ubase) ∧ w'.cell? ⟨gv, 2, none⟩ = some (.int .i64 uhigh) ∧ w'.cell? ⟨gv, 3, none⟩ = some (.int .i64 (ugot + 1)) ∧ w'.cell? ⟨gv, 4, none⟩ = some (.int .u64 (q : Int))) w' from ⟨(HW8.out.below b' HW8.out.lt).cell 0, (HW8.out.below b' HW8.out.lt).cell 1, (HW8.out.below b' HW8.out.lt).cell 2, (HW8.out.below b' HW8.out.lt).cell 3, (HW8.out.below b' HW8.out.lt).cell 4, (HV8.out.below b' HV8.out.lt).cell 0, (HV8.out.below b' HV8.out.lt).cell 1, (HV8.out.below b' HV8.out.lt).cell 2, (HV8.out.below b' HV8.out.lt).cell 3, (HV8.out.below b' HV8.out.lt).cell 4⟩)
                obtain ⟨q0, q1, q2, q3, q4, q5, q6, q7, q8, q9⟩ := KS.out wc (Below.refl _ _)
                go_upto_region 21 with fail
                go_region_held3 (fun w' => w'.cell? ⟨gt, 0, none⟩ = some (.bool true) ∧ w'.cell? ⟨gt, 1, none⟩ = some (.int .i64 ubase) ∧ w'.cell? ⟨gt, 2, none⟩ = some (.int .i64 uhigh) ∧ w'.cell? ⟨gt, 3, none⟩ = some (.int .i64 ugot) ∧ w'.cell? ⟨gt, 4, none⟩ = some (.int .u64 (useen : Int)) ∧ w'.cell? ⟨gv, 0, none⟩ = some (.bool true) ∧ w'.cell? ⟨gv, 1, none⟩ = some (.int .i64 ubase) ∧ w'.cell? ⟨gv, 2, none⟩ = some (.int .i64 uhigh) ∧ w'.cell? ⟨gv, 3, none⟩ = some (.int .i64 (ugot + 1)) ∧ w'.cell? ⟨gv, 4, none⟩ = some (.int .u64 (q : Int)))
                  (first | exact KS.out _ (Below.refl _ _).drew | exact KS.out _ ((Below.refl wc.heap.size wc).drew.trans b8) | exact KS.out _ (((Below.refl wc.heap.size wc).drew.trans b8).trans (b9.mono b8.size)))
                  (first | (go_at_call 12; with_reducible refine (CV.out _).mono ?_; rintro e w8 ⟨rfl, b8⟩) | (go_at_call 12; with_reducible refine (CL.out _).mono ?_; rintro e w9 ⟨rfl, b9⟩))
                have B9 := Lib.hid (((Below.refl wc.heap.size wc).drew.trans b8).trans (b9.mono b8.size))
                clear q0 q1 q2 q3 q4 q5 q6 q7 q8 q9 KS b8 b9 t4 CV
                go_wp2
                go_roundw
                case rel => exact ⟨j + 1, by omega, by go_num, Lib.hid (HB8.out.trans (B9.out.mono HB8.out.size))⟩
                case measure => simp [intOf]; omega
            · obtain rfl : j = N := by omega
              have HBx := Lib.hid (HB7.out.trans (HJ.out.mono HB7.out.size))
              clear HB7 HJ
              go_wp2
              go_roundw
              case rel => exact ⟨k + 1, _, by omega, by go_num, HT2, HW, HBx.out⟩
              case measure => simp [intOf]; omega
    · obtain rfl : k = n := by omega
      go_wp2
      go_ret
      exact ⟨rfl, HB.out⟩

set_option maxRecDepth 100000 in
theorem lifted (os : Os) (started : os.Started) (H : Type) (enc : TypeId × Value → H) :
    ReturnsInHanded {} Try.checked os 7 .any (Rows.recvSumsSpec.pre6 enc Try.prog Try.f7 Rows.recvSumsRow.domain false) (Rows.recvSumsSpec.post enc Try.prog Try.f7 false true false false) := by
  refine returnsInHanded_of_change (C := Try.checked) own started (by kernel_rfl) Try.func7
    (ChangeSpec.witness6 (enc := enc) (C := Try.checked) false ⟨#[], #[.slice none 0 0], []⟩ 8 (by kernel_rfl) (by kernel_rfl) (by kernel_rfl) (by kernel_rfl)) ?_
  intro W base args ds gs before hval0 hW _ _
  have hval : ∀ (j : Nat) t v, Try.f7.params[j]? = some t → args[j]? = some v → Value.okWide Try.prog W .any base t v := hval0
  have hW' := hW
  obtain ⟨p, q, hA0, hV, _, _, _⟩ := hW
  have hA : DataW.TrodAll enc Try.prog W 0 (fun _ => true) true Try.f7.params.toList args.toList ds p := hA0
  rw [Try.params7] at hA hval
  obtain ⟨v0, vs0, d0, ds0, p0, q0, hargs, rfl, _, h0, r0⟩ := trodAll_cons hA
  obtain ⟨rfl, rfl, _⟩ := trodAll_nil r0
  obtain rfl : args = #[v0] := by cases args; simp_all
  obtain ⟨rfl, _⟩ := trodVars_none hV
  refine law_post (s := Rows.recvSumsSpec) rfl rfl (by rw [Try.params7]; intro t ht; simp at ht; rcases ht with rfl <;> exact ⟨by kernel_rfl, of_decide_eq_true (by kernel_rfl)⟩) rfl hW' ?_
  obtain ⟨A0, c0, l0, rfl, hl0, hr0, hx0⟩ := open_u16s (hval 0 22 v0 rfl rfl) h0
  exact walk W A0 c0 l0 hl0 hr0 hx0

theorem over : Rows.recvSumsRow.holds Try.pinned (OpenSpec.ofChange Rows.recvSumsSpec) :=
  OpenClaim.holds_of_wide 7 Try.f7 rfl rfl rfl rfl rfl rfl rfl ⟨rfl, rfl, rfl, rfl, rfl⟩ rfl rfl rfl rfl rfl (by kernel_rfl) Try.func7 (by kernel_rfl)
    (of_decide_eq_true (by kernel_rfl)) (by unfold Func.isWrapper; first | (rw [if_pos (by decide +kernel)]; kernel_rfl) | (rw [if_neg (by decide +kernel)]; exact ⟨rfl, rfl⟩))
    (fun os started H enc _ => lifted os started H enc)

/-- The statement. -/
theorem recvSums_holds : Rows.RecvSumsSaid := over

end Go.Proofs.Ytphhhfgenhbmlaa.VSums
