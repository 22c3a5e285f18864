/-
  Proved: ArenaLow returns true for every room and every row of slots: what is taken stands in the lowest slot that is free, by a turn that is one more than ahead. Conditions: none.
-/
import Derived.Test.YtejfjjgcajdjmaaArA
import Derived.Test.YtejfjjgcajdjmaaArQ
import Derived.Test.YtejfjjgcajdjmaaLift
import Derived.Test.YtejfjjgcajdjmaaLiftB
import Derived.Deep.CutBlock
import Derived.Deep.DeepCutAuto
import Derived.Deep.QuietTactic
import Derived.BigQuiet
import Derived.IntWalk
namespace Go.Proofs.Ytejfjjgcajdjmaa.ALow
open Go.ChangeShapes Go.WideShapes Go.ChangeAt Go.RowKit
set_option linter.unusedSimpArgs false
set_option linter.unusedVariables false
set_option maxRecDepth 100000

theorem info_b : (Try.prog.info? 4).map (fun i => (i.zero, i.size, i.bytes)) = some (some (.bool false), 1, 1) := by kernel_rfl
theorem info_t : (Try.prog.info? 28).map (fun i => (i.zero, i.size, i.bytes)) = some (some (.int .u32 0), 1, 4) := by kernel_rfl
theorem make_turns (n : Nat) (h2 : n ≤ 4096) (w : World) : (Instr.makeSlice 58 (.int .i64 n) (.int .i64 n)).run Try.prog w = .ok (.slice (some ⟨w.heap.size, 0, none⟩) n n) (w.alloc (.cells (tuC (freshA zI n)) 28)) := by
  obtain ⟨i, hi0, hi1, hi2, hi3⟩ := info_parts info_t
  have h := run_make (P := Try.prog) w 58 28 i (.int .u32 0) Try.underlying58 hi0 hi1 .i64 .i64 n n (by omega) (Int.le_refl _) (by rw [hi3]; omega) (by omega)
  rw [Int.toNat_natCast, hi2, Nat.mul_one] at h
  rw [h]
  have e : madeCells (Value.int .u32 0).cells n = tuC (freshA zI n) := by
    apply Array.toList_inj.1
    show (madeCells #[.int .u32 0] n).toList = _
    rw [toList_madeCells_one]
    simp [tuC, freshA]
  rw [← e]
theorem make_uses (n : Nat) (h2 : n ≤ 4096) (w : World) : (Instr.makeSlice 50 (.int .i64 n) (.int .i64 n)).run Try.prog w = .ok (.slice (some ⟨w.heap.size, 0, none⟩) n n) (w.alloc (.cells (usC (freshA zI n)) 4)) := by
  obtain ⟨i, hi0, hi1, hi2, hi3⟩ := info_parts info_b
  have h := run_make (P := Try.prog) w 50 4 i (.bool false) Try.underlying50 hi0 hi1 .i64 .i64 n n (by omega) (Int.le_refl _) (by rw [hi3]; omega) (by omega)
  rw [Int.toNat_natCast, hi2, Nat.mul_one] at h
  rw [h]
  have e : madeCells (Value.bool false).cells n = usC (freshA zI n) := by
    apply Array.toList_inj.1
    show (madeCells #[.bool false] n).toList = _
    rw [toList_madeCells_one]
    simp [usC, freshA]
  rw [← e]

/-- What a round keeps. -/
def Keeps (w0 : World) (g gt gu n k : Nat) (wr : World) : Prop :=
  ∃ l S, l.length = n ∧ Turns k l ∧ ArAt true wr g S l ∧ (∀ j, S j → w0.heap.size ≤ j) ∧ (¬ S gt ∧ ¬ S gu) ∧ Whole wr gt 28 (tuC l) ∧ Whole wr gu 4 (usC l) ∧ Below w0.heap.size w0 wr

set_option maxHeartbeats 6400000 in
theorem walk (w : World) (a : Int) (ha : (Lit.int .u8 a).wf = true) (A : Option Addr) (c : Nat) (fs : List UInt8) (hl : fs.length ≤ maxLen) (hr : Row w w.heap.size 1 A fs.length (u8s fs)) :
    Calls Try.prog 6 #[.int .u8 a, .slice A fs.length c] w fun e w' => e = .returned (.bool true) ∧ Below w.heap.size w w' := by
  unfold maxLen at hl
  have ha' := wf_u8 ha
  clear ha
  by_cases hlong : 100 < fs.length
  · go_enter Try.func6, Try.ntmps6
    go_wp2_with (go_at_call 7; refine (awake_any w).mono ?_; rintro e w1 ⟨rfl, b1⟩)
    go_ret
    exact ⟨rfl, b1⟩
  obtain ⟨n, hn⟩ : ∃ n : Nat, a % 9 + 1 = (n : Int) := ⟨(a % 9 + 1).toNat, by omega⟩
  have hn1 : 1 ≤ n := by omega
  have hn2 : n ≤ 9 := by omega
  go_enter Try.func6, Try.ntmps6
  go_wp2_with fail
  refine (awake_any w).mono ?_
  rintro e w1 ⟨rfl, b1⟩
  have HB1 := Lib.hid b1
  clear b1
  go_wp2_with fail
  refine (anewI_any n hn1 (by omega) w1).mono ?_
  rintro e w2 ⟨g, S, rfl, d2, s2, b2⟩
  have HD2 := Lib.hid d2
  have HS2 := Lib.hid (fun k hk => Nat.le_trans HB1.out.size (s2 k hk))
  have HB2 := Lib.hid (bnext HB1.out b2)
  have hlt2 := d2.lt
  clear d2 s2 b2 HB1
  have mt := make_turns n (by omega) w2
  have mu := make_uses n (by omega) (w2.alloc (.cells (tuC (freshA zI n)) 28))
  have hz : (w2.alloc (.cells (tuC (freshA zI n)) 28)).heap.size = w2.heap.size + 1 := by simp
  rw [hz] at mu
  have H3 : Hid (Keeps w g w2.heap.size (w2.heap.size + 1) n 0 ((w2.alloc (.cells (tuC (freshA zI n)) 28)).alloc (.cells (usC (freshA zI n)) 4))) := Lib.hid ⟨freshA zI n, S, freshA_length _ _, Turns.fresh _ _,
    HD2.out.next (((Below.refl _ _).alloc (Nat.le_refl _) _).alloc (by simp) _), HS2.out, ⟨fun h => Nat.lt_irrefl _ (hlt2 _ h), fun h => by have := hlt2 _ h; omega⟩, (Whole.new _ _ _).alloc _, Whole.new2 _ _ _ _, (HB2.out.alloc HB2.out.size _).alloc (by have := HB2.out.size; simp; omega) _⟩
  have hle := HB2.out.size
  obtain ⟨gt, hgt⟩ : ∃ z, w2.heap.size = z := ⟨_, rfl⟩
  clear hlt2 HD2 HS2 HB2 hz
  go_upto_region 10 with fail
  rw [hgt] at H3 hle
  obtain ⟨w4, hw4⟩ : ∃ z, z = (w2.alloc (.cells (tuC (freshA zI n)) 28)).alloc (.cells (usC (freshA zI n)) 4) := ⟨_, rfl⟩
  rw [← hw4] at H3 ⊢
  clear hw4 hgt mt mu hn
  go_wp2_with fail
  go_loopw [10] (fun i wr => ∃ k : Nat, k ≤ fs.length ∧ i = .int .i64 (k : Int) ∧ Keeps w g gt (gt + 1) n k wr) (fun i _ => fs.length - (intOf i).toNat)
  case atStart => exact ⟨0, Nat.zero_le _, rfl, H3.out⟩
  case round =>
    clear H3
    obtain ⟨k, hk, rfl, l, S1, hln, htu, hA, hS, ⟨hs1, hs2⟩, hW1, hW2, hB⟩ := hrel
    have HA := Lib.hid hA
    have HS := Lib.hid hS
    have HB := Lib.hid hB
    have HW1 := Lib.hid hW1
    have HW2 := Lib.hid hW2
    have HTU := Lib.hid htu
    have hltS := hA.lt
    have HLS := Lib.hid hltS
    clear hA hS hB hW1 hW2 htu hltS
    by_cases hlt : k < fs.length
    · have HL := Lib.hid hln
      clear hln
      have hI : ∀ j, j < n → ∃ y, l[j]? = some y := fun j hj => ⟨_, List.getElem?_eq_getElem (by rw [HL.out]; exact hj)⟩
      have HI := Lib.hid hI
      clear hI
      obtain ⟨wo, hwo⟩ : ∃ z, z = wr := ⟨_, rfl⟩
      rw [← hwo] at HA HB HW1 HW2 HLS ⊢
      clear hwo
      have hlk : (k : Int) < (fs.length : Int) := by omega
      go_upto_region 15 with fail
      go_loop [11, 12] (fun v i => ∃ j : Nat, j ≤ n ∧ i = .int .i64 ((j : Int) - 1) ∧ v = .int .i64 (lowI l j)) (fun _ i => (intOf i + 1).toNat)
      case atStart => exact ⟨n, Nat.le_refl _, rfl, by rw [← HL.out, lowI_end]⟩
      case round =>
        obtain ⟨j, hj, rfl, rfl⟩ := hrel
        obtain ⟨lo, hlo⟩ : ∃ z, lowI l j = z := ⟨_, rfl⟩
        rw [hlo]
        have HLO := Lib.hid hlo
        clear hlo
        by_cases hj0 : 1 ≤ j
        · obtain ⟨j, rfl⟩ : ∃ i, j = i + 1 := ⟨j - 1, by omega⟩
          rw [show ((j + 1 : Nat) : Int) - 1 = (j : Int) by omega]
          obtain ⟨y, hy⟩ := HI.out j (by omega)
          have hc := (HW2.out.cell j).trans (us_get hy)
          have i1 : (0 : Int) ≤ (j : Int) := by omega
          have i2 : (j : Int) < (n : Int) := by omega
          have hyu : ∃ b, y.used = b := ⟨_, rfl⟩
          obtain ⟨b, hb⟩ := hyu
          rw [hb] at hc
          cases b with
          | false =>
            have e := lowI_free hy hb
            clear hy hb HLO
            go_wp2_with fail
            go_round
            case rel => exact ⟨j, by omega, rfl, by rw [e]⟩
            case measure => simp [intOf]
          | true =>
            have e := lowI_used hy hb
            rw [HLO.out] at e
            clear hy hb HLO
            go_wp2_with fail
            go_round
            case rel => exact ⟨j, by omega, rfl, by rw [e]⟩
            case measure => simp [intOf]
        · obtain rfl : j = 0 := by omega
          have hneg : ¬ (0 : Int) ≤ (((0 : Nat) : Int) - 1) := by omega
          clear hj hj0
          have hL0 := HLO.out
          rw [lowI_zero, HL.out] at hL0
          obtain ⟨y0, hy0⟩ := HI.out 0 (by omega)
          clear HLO
          have CT := atakeI_any l (k : Int) g S1 wo HA.out (HTU.out.more (by omega)) (by rw [HL.out]; omega)
          unfold refV at CT
          by_cases hlow : lowA l < n
          · rw [if_pos hlow] at hL0
            subst hL0
            obtain ⟨y, hy⟩ := HI.out _ hlow
            have hty := HTU.out y (List.mem_of_getElem? hy)
            have htold := told_yes (l := l) (by rw [HL.out]; exact hlow)
            obtain ⟨l5, hl5⟩ : ∃ z, takeA l (.int .i64 (k : Int)) = z := ⟨_, rfl⟩
            have HL5 : Hid (l5.length = n) := Lib.hid (by rw [← hl5, takeA_length, HL.out])
            have HT5 : Hid (Turns (k + 1) l5) := Lib.hid (by rw [← hl5]; exact HTU.out.take _)
            have htu5 : tuC l5 = (tuC l).setIfInBounds (lowA l) (.int .u32 ((y.turn + 1 : Nat) : Int)) := by rw [← hl5, take_yes (by rw [HL.out]; exact hlow), tu_set, turn_at hy]
            have hus5 : usC l5 = (usC l).setIfInBounds (lowA l) (.bool true) := by rw [← hl5, take_yes (by rw [HL.out]; exact hlow), us_set]
            rw [htold.1, htold.2.1, htold.2.2, turn_at hy, hl5] at CT
            obtain ⟨q, hq⟩ : ∃ z, lowA l = z := ⟨_, rfl⟩
            obtain ⟨t, ht⟩ : ∃ z, y.turn = z := ⟨_, rfl⟩
            rw [hq, ht] at CT htu5
            rw [hq] at hlow hy hus5 ⊢
            rw [ht] at hty
            have hc1 := tu_get hy
            rw [ht] at hc1
            have HC1 := Lib.hid hc1
            have HTS := Lib.hid (And.intro htu5 hus5)
            clear htold hy hq ht hl5 htu5 hus5 hc1 hlow
            obtain ⟨tp, htp⟩ : ∃ z : Int, ((t + 1 : Nat) : Int) = z := ⟨_, rfl⟩
            rw [htp] at CT HTS
            have hwr : IntKind.u32.wrap ((t : Int) + 1) = tp := by rw [← htp, IntWalk.u32_in _ (by omega)]; omega
            have hqn : q < n := by
              have := (Array.getElem?_eq_some_iff.1 HC1.out).1
              rw [tu_size, HL.out] at this
              exact this
            clear htp hy0 hty
            replace CT := Lib.hid CT
            have i0 : (0 : Int) ≤ (q : Int) := by omega
            have i2 : (q : Int) < (n : Int) := by omega
            go_wp2_with fail
            refine CT.out.mono ?_
            rintro e w5 ⟨S5, rfl, d5, k5, m5⟩
            have Z1 := HW1.out.but k5 hs1
            have Z2 := HW2.out.but k5 hs2
            have z1 := (Z1.cell q).trans HC1.out
            have fz1 := Z1.free q
            have fz2 := Z2.free q
            have hl1 := Z1.lt
            have hl2 := Z2.lt
            obtain ⟨u0, z2⟩ : ∃ u, w5.cell? ⟨gt + 1, q, none⟩ = some u := by
              rw [Z2.cell]
              exact ⟨_, Array.getElem?_eq_getElem (by rw [us_size, HL.out]; exact hqn)⟩
            have HZ1 := Lib.hid Z1
            have HZ2 := Lib.hid Z2
            have HBv := Lib.hid (HB.out.trans (k5.below HB.out.size (fun j hj h => Nat.not_le_of_lt hj (HS.out j h))))
            have HS5 : Hid (∀ j, S5 j → w.heap.size ≤ j) := Lib.hid (fun j h => (Nat.lt_or_ge j wo.heap.size).elim (fun hj => HS.out j (m5 j hj h)) (fun hj => Nat.le_trans HB.out.size hj))
            have hn5 : ¬ S5 gt ∧ ¬ S5 (gt + 1) := ⟨fun h => hs1 (m5 _ HW1.out.lt h), fun h => hs2 (m5 _ HW2.out.lt h)⟩
            have HD5 := Lib.hid d5
            clear d5 k5 m5 Z1 Z2 CT HC1 HI HA HS HB HW1 HW2 HLS HTU HL hs1 hs2
            go_upto_region 20 with fail
            go_quiet (fail)
            go_upto_region 25 with fail
            obtain ⟨wv, hwv⟩ : ∃ z, z = (((w5.alloc (.cells #[.int .i64 (q : Int), .int .u32 tp] 30)).drewN nq).setCell ⟨gt + 1, q, none⟩ (.bool true)).setCell ⟨gt, q, none⟩ (.int .u32 tp) := ⟨_, rfl⟩
            have X1 : Hid (Whole wv gt 28 (tuC l5)) := Lib.hid (by rw [hwv, HTS.out.1]; exact (show Whole ((w5.alloc (.cells #[.int .i64 (q : Int), .int .u32 tp] 30)).drewN nq) gt 28 (tuC l) from HZ1.out.alloc _).far (p := ⟨gt + 1, q, none⟩) (by show gt ≠ gt + 1; omega) _ |>.set q _)
            have X2 : Hid (Whole wv (gt + 1) 4 (usC l5)) := Lib.hid (by rw [hwv, HTS.out.2]; exact ((show Whole ((w5.alloc (.cells #[.int .i64 (q : Int), .int .u32 tp] 30)).drewN nq) (gt + 1) 4 (usC l) from HZ2.out.alloc _).set q _).far (p := ⟨gt, q, none⟩) (by show gt + 1 ≠ gt; omega) _)
            have HB5 : Hid (Below w.heap.size w wv) := Lib.hid (by rw [hwv]; exact ((bdrewN (HBv.out.alloc HBv.out.size _) nq).setCell (p := ⟨gt + 1, q, none⟩) (by show w.heap.size ≤ gt + 1; omega) _).setCell (p := ⟨gt, q, none⟩) hle _)
            have HA5 : Hid (ArAt true wv g S5 l5) := Lib.hid (by rw [hwv]; exact (HD5.out.next (bdrewN ((Below.refl w5.heap.size w5).alloc (Nat.le_refl _) (.cells #[.int .i64 (q : Int), .int .u32 tp] 30)) nq)).keep (by simp) (fun j hj => (Below.heap_setCell _ _ _ _ (fun e => hn5.1 (by have e' : j = gt := e; rw [← e']; exact hj))).trans (Below.heap_setCell _ _ _ _ (fun e => hn5.2 (by have e' : j = gt + 1 := e; rw [← e']; exact hj)))))
            rw [← hwv]
            clear hwv HZ1 HZ2 HBv HD5 HTS z1 z2 fz1 fz2 hl1 hl2 hwr
            obtain ⟨f, hf⟩ : ∃ f, fs[k] = f := ⟨_, rfl⟩
            obtain ⟨gs, o, rfl, hgs, hfc⟩ := hr.2 (by omega)
            have hfk := (HB5.out.cell (p := ⟨gs, o + k, none⟩) hgs).trans (hfc k (.int .u8 (f.toNat : Int)) (by rw [← hf]; simp [u8s, hlt]))
            clear hfc hf
            have hf8 : f.toNat < 256 := f.toNat_lt
            obtain ⟨f, hfe⟩ : ∃ z, f.toNat = z := ⟨_, rfl⟩
            rw [hfe] at hfk hf8
            clear hfe
            obtain ⟨kk, hkk⟩ : ∃ z : Nat, (f : Int) % (n : Int) = (z : Int) := ⟨f % n, by simp⟩
            have hkn : kk < n := by
              have h1 : f % n < n := Nat.mod_lt _ (by omega)
              have h2 : ((f % n : Nat) : Int) = (kk : Int) := by rw [← hkk]; simp
              omega
            obtain ⟨z, hz⟩ : ∃ y, l5[kk]? = some y := ⟨_, List.getElem?_eq_getElem (by rw [HL5.out]; exact hkn)⟩
            have v1 := (X1.out.cell kk).trans (tu_get hz)
            have hzt := HT5.out z (List.mem_of_getElem? hz)
            have CF := afreeI_any l5 (kk : Int) (z.turn : Int) g S5 wv HA5.out (by rw [HL5.out]; omega)
            rw [get_own hz] at CF
            have hus : (if (if z.used = true then some z.x else none).isSome = true then (0 : Int) else 26) = if z.used = true then 0 else 26 := by cases z.used <;> rfl
            rw [hus] at CF
            clear hus
            obtain ⟨fr, hfr⟩ : ∃ y, freeA zI l5 (kk : Int) (z.turn : Int) = y := ⟨_, rfl⟩
            have hfl : fr.length = n := by rw [← hfr, freeA_length, HL5.out]
            have hft : Turns (k + 1) fr := by rw [← hfr]; exact HT5.out.free _ _ _
            have htu6 : tuC fr = tuC l5 := by rw [← hfr]; exact free_tu hz
            have hus6 : usC fr = (usC l5).setIfInBounds kk (.bool false) := by rw [← hfr]; exact free_us hz
            rw [hfr] at CF
            obtain ⟨zt, hzt2⟩ : ∃ y, z.turn = y := ⟨_, rfl⟩
            obtain ⟨zu, hzu⟩ : ∃ y, z.used = y := ⟨_, rfl⟩
            have v2 := us_get hz
            rw [hzu] at CF v2
            rw [hzt2] at CF v1
            have HV2 := Lib.hid v2
            have HF := Lib.hid (And.intro hfl (And.intro hft (And.intro htu6 hus6)))
            replace CF := Lib.hid CF
            clear v2 hfl hft htu6 hus6 hfr hz hzt hzt2 hzu
            have i3 : (0 : Int) ≤ (kk : Int) := by omega
            have i4 : (kk : Int) < (n : Int) := by omega
            have i5 : (0 : Int) ≤ (k : Int) := by omega
            have hn0 : ¬ (n : Int) = 0 := by omega
            have HLT5 := Lib.hid HA5.out.lt
            cases zu
            all_goals
              go_wp2_with fail
              refine CF.out.mono ?_
              rintro e w6 ⟨S6, rfl, d6, k6, m6⟩
              have Y1 := X1.out.but k6 hn5.1
              have Y2 := X2.out.but k6 hn5.2
              have hl6 := Y1.lt
              have hl7 := Y2.lt
              have y2 := (Y2.cell kk).trans HV2.out
              have fy2 := Y2.free kk
              have HB6 := Lib.hid (HB5.out.trans (k6.below HB5.out.size (fun j hj h => Nat.not_le_of_lt hj (HS5.out j h))))
              have HS6 : Hid (∀ j, S6 j → w.heap.size ≤ j) := Lib.hid (fun j h => (Nat.lt_or_ge j wv.heap.size).elim (fun hj => HS5.out j (m6 j hj h)) (fun hj => Nat.le_trans HB5.out.size hj))
              have HN6 : Hid (¬ S6 gt ∧ ¬ S6 (gt + 1)) := Lib.hid ⟨fun h => hn5.1 (m6 _ X1.out.lt h), fun h => hn5.2 (m6 _ X2.out.lt h)⟩
              have HA6 := Lib.hid d6
              have HY1 := Lib.hid Y1
              have HY2 := Lib.hid Y2
              clear d6 k6 m6 Y1 Y2 CF HV2 X1 X2 HA5 HB5 HS5 v1 hfk hn5 HLT5
              go_wp2_with fail
              go_roundw
              case rel =>
                refine ⟨k + 1, by omega, by go_num, fr, S6, HF.out.1, HF.out.2.1, ?_, HS6.out, HN6.out, ?_, ?_, HB6.out.setCell (p := ⟨gt + 1, kk, none⟩) (by show w.heap.size ≤ gt + 1; omega) _⟩
                · exact HA6.out.keep (by simp) (fun j hj => Below.heap_setCell _ _ _ _ (fun e => HN6.out.2 (by have e' : j = gt + 1 := e; rw [← e']; exact hj)))
                · rw [HF.out.2.2.1]; exact HY1.out.far (p := ⟨gt + 1, kk, none⟩) (by show gt ≠ gt + 1; omega) _
                · rw [HF.out.2.2.2]; exact HY2.out.set kk _
              case measure => simp [intOf]; omega
          · rw [if_neg hlow] at hL0
            subst hL0
            have htold := told_no (l := l) (by rw [HL.out]; exact hlow)
            have hno : takeA l (.int .i64 (k : Int)) = l := take_no (by rw [HL.out]; exact hlow) _
            rw [htold.1, htold.2.1, htold.2.2, hno] at CT
            clear htold hno hlow hy0
            replace CT := Lib.hid CT
            go_wp2_with fail
            refine CT.out.mono ?_
            rintro e w5 ⟨S5, rfl, d5, k5, m5⟩
            have HZ1 := Lib.hid (HW1.out.but k5 hs1)
            have HZ2 := Lib.hid (HW2.out.but k5 hs2)
            have HBv := Lib.hid (HB.out.trans (k5.below HB.out.size (fun j hj h => Nat.not_le_of_lt hj (HS.out j h))))
            have HS5 : Hid (∀ j, S5 j → w.heap.size ≤ j) := Lib.hid (fun j h => (Nat.lt_or_ge j wo.heap.size).elim (fun hj => HS.out j (m5 j hj h)) (fun hj => Nat.le_trans HB.out.size hj))
            have hn5 : ¬ S5 gt ∧ ¬ S5 (gt + 1) := ⟨fun h => hs1 (m5 _ HW1.out.lt h), fun h => hs2 (m5 _ HW2.out.lt h)⟩
            have HD5 := Lib.hid d5
            have HL5 := HL
            have HT5 : Hid (Turns (k + 1) l) := Lib.hid (HTU.out.more (by omega))
            clear d5 k5 m5 CT HI HA HS HB HW1 HW2 HLS HTU hs1 hs2
            go_upto_region 20 with fail
            go_quiet (fail)
            go_upto_region 25 with fail
            obtain ⟨wv, hwv⟩ : ∃ z, z = (w5.alloc (.cells #[.int .i64 0, .int .u32 0] 30)).drewN nq := ⟨_, rfl⟩
            have X1 : Hid (Whole wv gt 28 (tuC l)) := Lib.hid (by rw [hwv]; exact HZ1.out.alloc _)
            have X2 : Hid (Whole wv (gt + 1) 4 (usC l)) := Lib.hid (by rw [hwv]; exact HZ2.out.alloc _)
            have HB5 : Hid (Below w.heap.size w wv) := Lib.hid (by rw [hwv]; exact bdrewN (HBv.out.alloc HBv.out.size _) nq)
            have HA5 : Hid (ArAt true wv g S5 l) := Lib.hid (by rw [hwv]; exact HD5.out.next (bdrewN ((Below.refl w5.heap.size w5).alloc (Nat.le_refl _) _) nq))
            rw [← hwv]
            clear hwv HZ1 HZ2 HBv HD5
            obtain ⟨f, hf⟩ : ∃ f, fs[k] = f := ⟨_, rfl⟩
            obtain ⟨gs, o, rfl, hgs, hfc⟩ := hr.2 (by omega)
            have hfk := (HB5.out.cell (p := ⟨gs, o + k, none⟩) hgs).trans (hfc k (.int .u8 (f.toNat : Int)) (by rw [← hf]; simp [u8s, hlt]))
            clear hfc hf
            have hf8 : f.toNat < 256 := f.toNat_lt
            obtain ⟨f, hfe⟩ : ∃ z, f.toNat = z := ⟨_, rfl⟩
            rw [hfe] at hfk hf8
            clear hfe
            obtain ⟨kk, hkk⟩ : ∃ z : Nat, (f : Int) % (n : Int) = (z : Int) := ⟨f % n, by simp⟩
            have hkn : kk < n := by
              have h1 : f % n < n := Nat.mod_lt _ (by omega)
              have h2 : ((f % n : Nat) : Int) = (kk : Int) := by rw [← hkk]; simp
              omega
            obtain ⟨z, hz⟩ : ∃ y, l[kk]? = some y := ⟨_, List.getElem?_eq_getElem (by rw [HL5.out]; exact hkn)⟩
            have v1 := (X1.out.cell kk).trans (tu_get hz)
            have hzt := HT5.out z (List.mem_of_getElem? hz)
            have CF := afreeI_any l (kk : Int) (z.turn : Int) g S5 wv HA5.out (by rw [HL5.out]; omega)
            rw [get_own hz] at CF
            have hus : (if (if z.used = true then some z.x else none).isSome = true then (0 : Int) else 26) = if z.used = true then 0 else 26 := by cases z.used <;> rfl
            rw [hus] at CF
            clear hus
            obtain ⟨fr, hfr⟩ : ∃ y, freeA zI l (kk : Int) (z.turn : Int) = y := ⟨_, rfl⟩
            have hfl : fr.length = n := by rw [← hfr, freeA_length, HL5.out]
            have hft : Turns (k + 1) fr := by rw [← hfr]; exact HT5.out.free _ _ _
            have htu6 : tuC fr = tuC l := by rw [← hfr]; exact free_tu hz
            have hus6 : usC fr = (usC l).setIfInBounds kk (.bool false) := by rw [← hfr]; exact free_us hz
            rw [hfr] at CF
            obtain ⟨zt, hzt2⟩ : ∃ y, z.turn = y := ⟨_, rfl⟩
            obtain ⟨zu, hzu⟩ : ∃ y, z.used = y := ⟨_, rfl⟩
            have v2 := us_get hz
            rw [hzu] at CF v2
            rw [hzt2] at CF v1
            have HV2 := Lib.hid v2
            have HF := Lib.hid (And.intro hfl (And.intro hft (And.intro htu6 hus6)))
            replace CF := Lib.hid CF
            clear v2 hfl hft htu6 hus6 hfr hz hzt hzt2 hzu
            have i3 : (0 : Int) ≤ (kk : Int) := by omega
            have i4 : (kk : Int) < (n : Int) := by omega
            have i5 : (0 : Int) ≤ (k : Int) := by omega
            have hn0 : ¬ (n : Int) = 0 := by omega
            have HLT5 := Lib.hid HA5.out.lt
            cases zu
            all_goals
              go_wp2_with fail
              refine CF.out.mono ?_
              rintro e w6 ⟨S6, rfl, d6, k6, m6⟩
              have Y1 := X1.out.but k6 hn5.1
              have Y2 := X2.out.but k6 hn5.2
              have hl6 := Y1.lt
              have hl7 := Y2.lt
              have y2 := (Y2.cell kk).trans HV2.out
              have fy2 := Y2.free kk
              have HB6 := Lib.hid (HB5.out.trans (k6.below HB5.out.size (fun j hj h => Nat.not_le_of_lt hj (HS5.out j h))))
              have HS6 : Hid (∀ j, S6 j → w.heap.size ≤ j) := Lib.hid (fun j h => (Nat.lt_or_ge j wv.heap.size).elim (fun hj => HS5.out j (m6 j hj h)) (fun hj => Nat.le_trans HB5.out.size hj))
              have HN6 : Hid (¬ S6 gt ∧ ¬ S6 (gt + 1)) := Lib.hid ⟨fun h => hn5.1 (m6 _ X1.out.lt h), fun h => hn5.2 (m6 _ X2.out.lt h)⟩
              have HA6 := Lib.hid d6
              have HY1 := Lib.hid Y1
              have HY2 := Lib.hid Y2
              clear d6 k6 m6 Y1 Y2 CF HV2 X1 X2 HA5 HB5 HS5 v1 hfk hn5 HLT5
              go_wp2_with fail
              go_roundw
              case rel =>
                refine ⟨k + 1, by omega, by go_num, fr, S6, HF.out.1, HF.out.2.1, ?_, HS6.out, HN6.out, ?_, ?_, HB6.out.setCell (p := ⟨gt + 1, kk, none⟩) (by show w.heap.size ≤ gt + 1; omega) _⟩
                · exact HA6.out.keep (by simp) (fun j hj => Below.heap_setCell _ _ _ _ (fun e => HN6.out.2 (by have e' : j = gt + 1 := e; rw [← e']; exact hj)))
                · rw [HF.out.2.2.1]; exact HY1.out.far (p := ⟨gt + 1, kk, none⟩) (by show gt ≠ gt + 1; omega) _
                · rw [HF.out.2.2.2]; exact HY2.out.set kk _
              case measure => simp [intOf]; omega
    · obtain rfl : k = fs.length := by omega
      go_wp2_with fail
      go_ret
      exact ⟨rfl, HB.out⟩

set_option maxRecDepth 100000 in
theorem lifted (os : Os) (started : os.Started) (H : Type) (enc : TypeId × Value → H) :
    ReturnsInHanded {} Try.checked os 6 .any (Rows.arenaLowSpec.pre6 enc Try.prog Try.f6 Rows.arenaLowRow.domain false) (Rows.arenaLowSpec.post enc Try.prog Try.f6 false true false false) := by
  refine returnsInHanded_of_change (C := Try.checked) own started (by kernel_rfl) Try.func6
    (ChangeSpec.witness6 (enc := enc) (C := Try.checked) false ⟨#[], #[.int .u8 0, .slice none 0 0], []⟩ 8 (by kernel_rfl) (by kernel_rfl) (by kernel_rfl) (by kernel_rfl)) ?_
  intro W base args ds gs before hval0 hW _ _
  have hval : ∀ (j : Nat) t v, Try.f6.params[j]? = some t → args[j]? = some v → Value.okWide Try.prog W .any base t v := hval0
  have hW' := hW
  obtain ⟨p, q, hA0, hV, _, _, _⟩ := hW
  have hA : DataW.TrodAll enc Try.prog W 0 (fun _ => true) true Try.f6.params.toList args.toList ds p := hA0
  rw [Try.params6] at hA hval
  obtain ⟨v0, vs0, d0, ds0, p0, q0, hargs, rfl, _, h0, r0⟩ := trodAll_cons hA
  obtain ⟨v1, vs1, d1, ds1, p1, q1, rfl, rfl, _, h1, r1⟩ := trodAll_cons r0
  obtain ⟨rfl, rfl, _⟩ := trodAll_nil r1
  obtain rfl : args = #[v0, v1] := by cases args; simp_all
  obtain ⟨rfl, _⟩ := trodVars_none hV
  refine law_post (s := Rows.arenaLowSpec) rfl rfl (by rw [Try.params6]; intro t ht; simp at ht; rcases ht with rfl | rfl <;> exact ⟨by kernel_rfl, of_decide_eq_true (by kernel_rfl)⟩) rfl hW' ?_
  obtain ⟨a0, rfl, _, _, w0⟩ := open_int Try.underlying5 (hval 0 5 v0 rfl rfl) h0
  obtain ⟨A1, c1, l1, rfl, hl1, hr1, _, _⟩ := open_bytes (hval 1 57 v1 rfl rfl) h1
  exact walk W a0 w0 A1 c1 l1 hl1 hr1

theorem over : Rows.arenaLowRow.holds Try.pinned (OpenSpec.ofChange Rows.arenaLowSpec) :=
  OpenClaim.holds_of_wide 6 Try.f6 rfl rfl rfl rfl rfl rfl rfl ⟨rfl, rfl, rfl, rfl, rfl⟩ rfl rfl rfl rfl rfl (by kernel_rfl) Try.func6 (by kernel_rfl)
    (of_decide_eq_true (by kernel_rfl)) (by unfold Func.isWrapper; first | (rw [if_pos (by decide +kernel)]; kernel_rfl) | (rw [if_neg (by decide +kernel)]; exact ⟨rfl, rfl⟩))
    (fun os started H enc _ => lifted os started H enc)

/-- The statement. -/
theorem arenaLow_holds : Rows.ArenaLowSaid := over

end Go.Proofs.Ytejfjjgcajdjmaa.ALow
