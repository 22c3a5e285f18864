/-
  Proved: NackAgain returns true for every row of pairs: listed, and packed again, they ask for the same packets; a packet that is told twice on end is asked for once. Conditions: none.
-/
import Derived.Test.YtoooemmjfmdiaaaNacF
import Derived.Deep.RegionHeld3
import Derived.Deep.AppendLies
namespace Go.Proofs.Ytoooemmjfmdiaaa.NAgain
open Go.ChangeShapes Go.WideShapes Go.ChangeAt Go.RowKit

theorem packS_length (l : List Nat) : (packS l).length ≤ l.length + 1 := by
  cases l with
  | nil => simp [packS]
  | cons x r => have := packC_length r x 0; simp only [packS, List.length_cons]; omega
theorem fold_fit : ∀ (l : List Nat) (ps : List (Nat × Nat)), Fit ps → (∀ x ∈ l, x < 65536) → Fit (l.foldl stepP ps)
  | [], _, h, _ => h
  | x :: r, ps, h, hx => fold_fit r _ (stepP_fit ps x h (hx x (by simp))) (fun y hy => hx y (by simp [hy]))
theorem twice_append : ∀ (a b : List Nat), twice (a ++ b) = twice a ++ twice b
  | [], _ => rfl
  | x :: a, b => by simp [twice, twice_append a b]
theorem twice_length : ∀ (a : List Nat), (twice a).length = 2 * a.length
  | [] => rfl
  | x :: a => by simp [twice, twice_length a]; omega
theorem mem_twice (y : Nat) : ∀ (a : List Nat), y ∈ twice a → y ∈ a
  | [], h => by simp [twice] at h
  | x :: a, h => by
    simp only [twice, List.mem_cons] at h ⊢
    rcases h with h | h | h
    · exact .inl h
    · exact .inl h
    · exact .inr (mem_twice y a h)

set_option maxRecDepth 1000000 in
set_option maxHeartbeats 6400000 in
theorem walk (w : World) (A : Option Addr) (c : Nat) (l : List (Nat × Nat)) (hl : l.length ≤ maxLen) (hr : Row w w.heap.size 2 A l.length (prC l)) (hf : Fit l) :
    Calls Try.prog 6 #[.slice A l.length c] w fun e w' => e = .returned (.bool true) ∧ Below w.heap.size w w' := by
  unfold maxLen at hl
  obtain ⟨n, hn⟩ : ∃ n, l.length = n := ⟨_, rfl⟩
  rw [hn] at hl hr ⊢
  by_cases h1 : 20 < n
  · clear hr hn hf
    go_enter Try.func6, Try.ntmps6
    go_wp2_with fail
    refine (awake_any w).mono ?_
    rintro e w1 ⟨rfl, b1⟩
    go_wp2
    go_ret
    exact ⟨rfl, b1⟩
  obtain ⟨xs, hxs⟩ : ∃ x, listS l = x := ⟨_, rfl⟩
  obtain ⟨N, hN⟩ : ∃ x, xs.length = x := ⟨_, rfl⟩
  obtain ⟨ps, hps⟩ : ∃ x, packS xs = x := ⟨_, rfl⟩
  obtain ⟨P, hP⟩ : ∃ x, ps.length = x := ⟨_, rfl⟩
  obtain ⟨ys, hys⟩ : ∃ x, listS ps = x := ⟨_, rfl⟩
  obtain ⟨M, hM⟩ : ∃ x, ys.length = x := ⟨_, rfl⟩
  have hN2 : N ≤ 340 := by have := listS_length l; rw [hxs] at this; omega
  have hP2 : P ≤ 341 := by have := packS_length xs; rw [hps] at this; omega
  have hM2 : M ≤ 17 * 341 := by have := listS_length ps; rw [hys] at this; omega
  have hlt : ∀ x ∈ xs, x < 65536 := by rw [← hxs]; exact listS_lt l (fun p hp => (hf p hp).1)
  have hmem : ∀ y, y ∈ ys ↔ y ∈ xs := by rw [← hys, ← hps]; exact mem_packS xs hlt
  have hfp : Fit ps := by rw [← hps, ← fold_packS]; exact fold_fit xs [] (by intro p hp; simp at hp) hlt
  have htw : packS (twice xs) = ps := by rw [packS_twice xs hlt, hps]
  have H := Lib.hid hr
  have HF := Lib.hid hf
  have HN := Lib.hid hn
  have HXS := Lib.hid hxs
  have HXN := Lib.hid hN
  have HPS := Lib.hid hps
  have HPN := Lib.hid hP
  have HYS := Lib.hid hys
  have HYN := Lib.hid hM
  have HLT := Lib.hid hlt
  have MX : Hid (∀ x ∈ xs, x ∈ ys) := Lib.hid (fun x hx => (hmem x).2 hx)
  have MY : Hid (∀ x ∈ ys, x ∈ xs) := Lib.hid (fun x hx => (hmem x).1 hx)
  have HFP := Lib.hid hfp
  have HTW := Lib.hid htw
  clear hr hf hn hxs hN hps hP hys hM hlt hmem hfp htw
  go_enter Try.func6, Try.ntmps6
  go_wp2_with fail
  refine (awake_any w).mono ?_
  rintro e w1 ⟨rfl, b1⟩
  have HC := Lib.hid (list_as A c n N l xs w1 ((H.out.below b1 (Nat.le_refl _)).more b1.size) HF.out HN.out (by omega) HXS.out HXN.out)
  have HB1 := Lib.hid b1
  clear b1 H
  go_wp2_with fail
  refine HC.out.mono ?_
  rintro e w2 ⟨A2, c2, rfl, hown2, b2⟩
  have HO2 := Lib.hid hown2
  have HB2 := Lib.hid (bnext HB1.out b2)
  clear hown2 b2 HC HB1
  have HC := Lib.hid (pack_as A2 c2 N P xs ps w2 (Row.of_own HO2.out) HLT.out HXN.out (by omega) HPS.out HPN.out)
  go_wp2_with fail
  refine HC.out.mono ?_
  rintro e w3 ⟨A3, c3, rfl, hown3, b3⟩
  have HO3 := Lib.hid hown3
  have HO23 := Lib.hid (own_below HO2.out b3 (Nat.le_refl _))
  have HB3 := Lib.hid (bnext HB2.out b3)
  clear hown3 b3 HC HB2 HO2
  have HC := Lib.hid (list_as A3 c3 P M ps ys w3 (Row.of_own HO3.out) HFP.out HPN.out (by omega) HYS.out HYN.out)
  go_wp2_with fail
  refine HC.out.mono ?_
  rintro e w4 ⟨A4, c4, rfl, hown4, b4⟩
  have RX := Lib.hid (Row.of_own (own_below HO23.out b4 (Nat.le_refl _)))
  have RP := Lib.hid (Row.of_own (own_below HO3.out b4 (Nat.le_refl _)))
  have RY := Lib.hid (Row.of_own hown4)
  have HB4 := Lib.hid (bnext HB3.out b4)
  clear hown4 b4 HC HB3 HO23 HO3
  go_wp2_with fail
  go_loopw [7] (fun i wx => ∃ j : Nat, j ≤ N ∧ i = .int .i64 j ∧ Hid (∃ q, wx = w4.drewN q)) (fun i _ => N - (intOf i).toNat)
  case atStart => exact ⟨0, Nat.zero_le _, rfl, Lib.hid ⟨0, rfl⟩⟩
  case round =>
    obtain ⟨j, hj, rfl, HW⟩ := hrel
    by_cases hlt : j < N
    · obtain ⟨x, hx⟩ : ∃ x, xs[j]? = some x := ⟨xs[j]'(by rw [HXN.out]; exact hlt), by simp⟩
      have hi1 : (0 : Int) ≤ (j : Int) := by omega
      have hi2 : (j : Int) < (N : Int) := by omega
      have HIN := Lib.hid (MX.out x (List.mem_of_getElem? hx))
      have HXJ := Lib.hid hx
      clear hx
      go_wp2_with fail
      go_loopw [8, 9] (fun b i wx => ∃ (m : Nat) (t : Bool), m ≤ M ∧ i = .int .i64 m ∧ b = .bool t ∧ Hid (t = decide (x ∈ ys.take m)) ∧ Hid (∃ q, wx = w4.drewN q)) (fun _ i _ => M - (intOf i).toNat)
      case atStart => exact ⟨0, false, Nat.zero_le _, rfl, rfl, Lib.hid (by simp), HW⟩
      case round =>
        clear HW
        obtain ⟨m, t, hm, rfl, rfl, HT, HW⟩ := hrel
        by_cases hlt2 : m < M
        · obtain ⟨y, hy⟩ : ∃ y, ys[m]? = some y := ⟨ys[m]'(by rw [HYN.out]; exact hlt2), by simp⟩
          have hk1 : (0 : Int) ≤ (m : Int) := by omega
          have hk2 : (m : Int) < (M : Int) := by omega
          obtain ⟨g1, o1, rfl, hg1, k1⟩ := RX.out.2 (by omega)
          obtain ⟨g2, o2, rfl, hg2, k2⟩ := RY.out.2 (by omega)
          have d1 : wr.cell? ⟨g1, o1 + j, none⟩ = some (.int .u16 (x : Int)) := by obtain ⟨q, rfl⟩ := HW.out; exact k1 j _ (n16_get _ _ _ HXJ.out)
          have d2 : wr.cell? ⟨g2, o2 + m, none⟩ = some (.int .u16 (y : Int)) := by obtain ⟨q, rfl⟩ := HW.out; exact k2 m _ (n16_get _ _ _ hy)
          have htk : ys.take (m + 1) = ys.take m ++ [y] := by rw [List.take_add_one, hy]; rfl
          cases t with
          | true =>
            have HT' : Hid (true = decide (x ∈ ys.take (m + 1))) := Lib.hid (by
              have h := HT.out
              rw [htk]
              simp at h ⊢
              exact .inl h)
            clear k1 k2 hy hg1 hg2 htk HT
            go_wp2_with fail
            go_quiet (fail)
            go_wp2
            go_roundw
            case rel => exact ⟨m + 1, true, by omega, by go_num, rfl, HT', Lib.hid (by obtain ⟨q, rfl⟩ := HW.out; exact ⟨_, World.drewN_drewN _ _ _⟩)⟩
            case measure => simp [intOf]; omega
          | false =>
            by_cases hxy : x = y
            · subst hxy
              have HT' : Hid (true = decide (x ∈ ys.take (m + 1))) := Lib.hid (by rw [htk]; simp)
              clear k1 k2 hy hg1 hg2 htk HT
              go_wp2_with fail
              go_quiet (fail)
              go_wp2
              go_roundw
              case rel => exact ⟨m + 1, true, by omega, by go_num, by simp, HT', Lib.hid (by obtain ⟨q, rfl⟩ := HW.out; exact ⟨_, World.drewN_drewN _ _ _⟩)⟩
              case measure => simp [intOf]; omega
            · have hne : (((y : Nat) : Int) == ((x : Nat) : Int)) = false := by simp; omega
              have HT' : Hid (false = decide (x ∈ ys.take (m + 1))) := Lib.hid (by
                have h := HT.out
                rw [htk]
                simp at h ⊢
                exact ⟨h, hxy⟩)
              clear k1 k2 hy hg1 hg2 htk HT hxy
              go_wp2_with fail
              go_quiet (fail)
              go_wp2
              go_roundw
              case rel => exact ⟨m + 1, false, by omega, by go_num, by simp, HT', Lib.hid (by obtain ⟨q, rfl⟩ := HW.out; exact ⟨_, World.drewN_drewN _ _ _⟩)⟩
              case measure => simp [intOf]; omega
        · obtain rfl : M = m := by omega
          obtain rfl : t = true := by
            rw [HT.out, List.take_of_length_le (by rw [HYN.out]; exact Nat.le_refl _)]
            simpa using HIN.out
          clear HT HIN HXJ
          go_wp2
          go_roundw
          case rel => exact ⟨j + 1, by omega, by go_num, HW⟩
          case measure => simp [intOf]; omega
    · obtain rfl : N = j := by omega
      obtain ⟨w5, hw5⟩ : ∃ w5, w5 = wr := ⟨_, rfl⟩
      rw [← hw5]
      have RX5 : Hid (Row w5 w5.heap.size 1 A2 N (n16 xs)) := Lib.hid (by obtain ⟨q, rfl⟩ := HW.out; rw [hw5]; exact RX.out)
      have RP5 : Hid (Row w5 w5.heap.size 2 A3 P (prC ps)) := Lib.hid (by obtain ⟨q, rfl⟩ := HW.out; rw [hw5]; exact RP.out)
      have RY5 : Hid (Row w5 w5.heap.size 1 A4 M (n16 ys)) := Lib.hid (by obtain ⟨q, rfl⟩ := HW.out; rw [hw5]; exact RY.out)
      have HB5 : Hid (Below w.heap.size w w5) := Lib.hid (by obtain ⟨q, rfl⟩ := HW.out; rw [hw5]; exact bdrewN HB4.out q)
      clear hw5 HW RX RP RY HB4
      clear hj hlt
      go_wp2_with fail
      go_loopw [10] (fun i wx => ∃ j : Nat, j ≤ M ∧ i = .int .i64 j ∧ Hid (∃ q, wx = w5.drewN q)) (fun i _ => M - (intOf i).toNat)
      case atStart => exact ⟨0, Nat.zero_le _, rfl, Lib.hid ⟨0, rfl⟩⟩
      case round =>
        obtain ⟨j, hj, rfl, HW⟩ := hrel
        by_cases hlt : j < M
        · obtain ⟨x, hx⟩ : ∃ x, ys[j]? = some x := ⟨ys[j]'(by rw [HYN.out]; exact hlt), by simp⟩
          have hi1 : (0 : Int) ≤ (j : Int) := by omega
          have hi2 : (j : Int) < (M : Int) := by omega
          have HIN := Lib.hid (MY.out x (List.mem_of_getElem? hx))
          have HXJ := Lib.hid hx
          clear hx
          go_wp2_with fail
          go_loopw [11, 12] (fun b i wx => ∃ (m : Nat) (t : Bool), m ≤ N ∧ i = .int .i64 m ∧ b = .bool t ∧ Hid (t = decide (x ∈ xs.take m)) ∧ Hid (∃ q, wx = w5.drewN q)) (fun _ i _ => N - (intOf i).toNat)
          case atStart => exact ⟨0, false, Nat.zero_le _, rfl, rfl, Lib.hid (by simp), HW⟩
          case round =>
            clear HW
            obtain ⟨m, t, hm, rfl, rfl, HT, HW⟩ := hrel
            by_cases hlt2 : m < N
            · obtain ⟨y, hy⟩ : ∃ y, xs[m]? = some y := ⟨xs[m]'(by rw [HXN.out]; exact hlt2), by simp⟩
              have hk1 : (0 : Int) ≤ (m : Int) := by omega
              have hk2 : (m : Int) < (N : Int) := by omega
              obtain ⟨g1, o1, rfl, hg1, k1⟩ := RY5.out.2 (by omega)
              obtain ⟨g2, o2, rfl, hg2, k2⟩ := RX5.out.2 (by omega)
              have d1 : wr.cell? ⟨g1, o1 + j, none⟩ = some (.int .u16 (x : Int)) := by obtain ⟨q, rfl⟩ := HW.out; exact k1 j _ (n16_get _ _ _ HXJ.out)
              have d2 : wr.cell? ⟨g2, o2 + m, none⟩ = some (.int .u16 (y : Int)) := by obtain ⟨q, rfl⟩ := HW.out; exact k2 m _ (n16_get _ _ _ hy)
              have htk : xs.take (m + 1) = xs.take m ++ [y] := by rw [List.take_add_one, hy]; rfl
              cases t with
              | true =>
                have HT' : Hid (true = decide (x ∈ xs.take (m + 1))) := Lib.hid (by
                  have h := HT.out
                  rw [htk]
                  simp at h ⊢
                  exact .inl h)
                clear k1 k2 hy hg1 hg2 htk HT
                go_wp2_with fail
                go_quiet (fail)
                go_wp2
                go_roundw
                case rel => exact ⟨m + 1, true, by omega, by go_num, rfl, HT', Lib.hid (by obtain ⟨q, rfl⟩ := HW.out; exact ⟨_, World.drewN_drewN _ _ _⟩)⟩
                case measure => simp [intOf]; omega
              | false =>
                by_cases hxy : x = y
                · subst hxy
                  have HT' : Hid (true = decide (x ∈ xs.take (m + 1))) := Lib.hid (by rw [htk]; simp)
                  clear k1 k2 hy hg1 hg2 htk HT
                  go_wp2_with fail
                  go_quiet (fail)
                  go_wp2
                  go_roundw
                  case rel => exact ⟨m + 1, true, by omega, by go_num, by simp, HT', Lib.hid (by obtain ⟨q, rfl⟩ := HW.out; exact ⟨_, World.drewN_drewN _ _ _⟩)⟩
                  case measure => simp [intOf]; omega
                · have hne : (((x : Nat) : Int) == ((y : Nat) : Int)) = false := by simp; omega
                  have HT' : Hid (false = decide (x ∈ xs.take (m + 1))) := Lib.hid (by
                    have h := HT.out
                    rw [htk]
                    simp at h ⊢
                    exact ⟨h, hxy⟩)
                  clear k1 k2 hy hg1 hg2 htk HT hxy
                  go_wp2_with fail
                  go_quiet (fail)
                  go_wp2
                  go_roundw
                  case rel => exact ⟨m + 1, false, by omega, by go_num, by simp, HT', Lib.hid (by obtain ⟨q, rfl⟩ := HW.out; exact ⟨_, World.drewN_drewN _ _ _⟩)⟩
                  case measure => simp [intOf]; omega
            · obtain rfl : N = m := by omega
              obtain rfl : t = true := by
                rw [HT.out, List.take_of_length_le (by rw [HXN.out]; exact Nat.le_refl _)]
                simpa using HIN.out
              clear HT HIN HXJ
              go_wp2
              go_roundw
              case rel => exact ⟨j + 1, by omega, by go_num, HW⟩
              case measure => simp [intOf]; omega
        · obtain rfl : M = j := by omega
          obtain ⟨w6, hw6⟩ : ∃ w6, w6 = wr := ⟨_, rfl⟩
          rw [← hw6]
          have RX6 : Hid (Row w6 w6.heap.size 1 A2 N (n16 xs)) := Lib.hid (by obtain ⟨q, rfl⟩ := HW.out; rw [hw6]; exact RX5.out)
          have RP6 : Hid (Row w6 w6.heap.size 2 A3 P (prC ps)) := Lib.hid (by obtain ⟨q, rfl⟩ := HW.out; rw [hw6]; exact RP5.out)
          have HB6 : Hid (Below w.heap.size w w6) := Lib.hid (by obtain ⟨q, rfl⟩ := HW.out; rw [hw6]; exact bdrewN HB5.out q)
          have hs6 := HB6.out.size
          clear hw6 HW RX5 RP5 RY5 HB5 hj hlt
          go_wp2_with fail
          go_loopw [13, 14] (fun v i wx => ∃ k : Nat, k ≤ N ∧ i = .int .i64 k ∧ wx.ownsRow w6.heap.size 25 1 v (2 * k) (n16 (twice (xs.take k))) ∧ Below w6.heap.size w6 wx) (fun _ i _ => N - (intOf i).toNat)
          case atStart => exact ⟨0, Nat.zero_le _, rfl, World.ownsRow_nil _ _ _ _, Below.refl _ _⟩
          case round =>
            obtain ⟨k, hk, rfl, hown, hb⟩ := hrel
            obtain ⟨Av, cv, rfl⟩ := own_form hown
            by_cases hlt : k < N
            · obtain ⟨x, hx⟩ : ∃ x, xs[k]? = some x := ⟨xs[k]'(by rw [HXN.out]; exact hlt), by simp⟩
              have hat : ∀ w', Below w6.heap.size w6 w' → ∃ g o, A2 = some ⟨g, o, none⟩ ∧ g < w6.heap.size ∧ w'.cell? ⟨g, o + k, none⟩ = some (.int .u16 (x : Int)) :=
                fun w' b' => n16_at (by rw [HXN.out]; exact RX6.out.below b' (Nat.le_refl _)) k x hx
              obtain ⟨g, o, hA, hg, hcell⟩ := hat _ hb
              subst hA
              have KEEP := Lib.hid (fun w' (b' : Below w6.heap.size w6 w') => show w'.cell? ⟨g, o + k, none⟩ = some (.int .u16 (x : Int)) ∧ True from by
                obtain ⟨g', o', e', _, k0⟩ := hat _ b'
                injection e' with e'
                injection e' with e1 e2
                subst e1 e2
                exact ⟨k0, trivial⟩)
              have HT : Hid (n16 (twice (xs.take (k + 1))) = n16 (twice (xs.take k)) ++ [.int .u16 (x : Int), .int .u16 (x : Int)]) := Lib.hid (by rw [List.take_add_one, hx, twice_append, n16_append]; rfl)
              have hi1 : (0 : Int) ≤ (k : Int) := by omega
              have hi2 : (k : Int) < (N : Int) := by omega
              have hsz := hb.size
              have hfar := Lib.hid (fun a ha => (hown.lt a ha).1)
              have HO := Lib.hid hown
              have HB := Lib.hid hb
              obtain ⟨i0, hi0, hz0, hz1, hz2⟩ := info_parts info_u16
              have HI0 := Lib.hid hi0
              have HZ0 := Lib.hid hz0
              have HZ1 := Lib.hid hz1
              have HZ2 := Lib.hid hz2
              clear hown hb hi0 hz0 hz1 hz2 hat hx hcell
              go_wp2_with fail
              go_region_held3 (fun w' => w'.cell? ⟨g, o + k, none⟩ = some (.int .u16 (x : Int)) ∧ True)
                (first
                  | exact KEEP.out _ HB.out
                  | exact KEEP.out _ HB.out.drew
                  | exact KEEP.out _ (HB.out.alloc hsz _)
                  | exact KEEP.out _ (HB.out.alloc hsz _).drew
                  | exact KEEP.out _ ((HB.out.alloc hsz _).drew.grown hgrow (by simp; omega) hfar.out))
                ((first
                  | (refine step_append_lies _ (by rfl) _ _ _ (by rfl) w6.heap.size 25 i0 _ 1 2 Try.underlying30 HI0.out HZ0.out HZ1.out HZ2.out rfl (by omega) (.slice Av (2 * k) cv) (2 * k) (n16 (twice (xs.take k))) (by rfl) (HO.out.alloc _).drew
                      ⟨wr.heap.size, 0, none⟩ 2 2 [.int .u16 (x : Int), .int .u16 (x : Int)] (by rfl) (by rfl) (World.news_of_block (cs := #[.int .u16 (x : Int), .int .u16 (x : Int)]) (t := 25) (fr := (0, 0)) (heap_alloc_new wr _)) (by simp [Value.oneCell'])
                      (by omega) (by unfold maxLen; omega) (by omega) (by simp; omega) (wr.heap.size + 1) (by simp) ?_; intro gg cap w7 hown1 hgrow hat hlt1)))
              have hB1 : Below w6.heap.size w6 w7 := (HB.out.alloc hsz _).drew.grown hgrow (by simp; omega) hfar.out
              have R : w7.ownsRow w6.heap.size 25 1 (.slice (some ⟨gg, 0, none⟩) (2 * k + 2) cap) (2 * (k + 1)) (n16 (twice (xs.take (k + 1)))) := by rw [HT.out]; exact hown1
              clear hown1 hgrow hat KEEP HO HB hfar HI0 HZ0 HZ1 HZ2 HT
              clear ‹World.cell? _ _ = _ ∧ _›
              go_wp2
              go_roundw
              case rel => exact ⟨k + 1, by omega, by go_num, R, hB1⟩
              case measure => simp [intOf]; omega
            · obtain rfl : N = k := by omega
              have hrow : Row wr wr.heap.size 1 Av (2 * N) (n16 (twice xs)) := by
                have := Row.of_own hown
                rwa [List.take_of_length_le (by rw [HXN.out]; exact Nat.le_refl _)] at this
              have HR := Lib.hid hrow
              have RP7 := Lib.hid ((RP6.out.below hb (Nat.le_refl _)).more hb.size)
              have HB7 := Lib.hid (bnext HB6.out hb)
              clear hown hb hrow RP6 RX6 HB6 hk hlt
              have HC := Lib.hid (pack_as Av cv (2 * N) P (twice xs) ps wr HR.out (fun x hx => HLT.out x (mem_twice x xs hx)) (by rw [twice_length, HXN.out]) (by omega) HTW.out HPN.out)
              go_wp2_with fail
              refine HC.out.mono ?_
              rintro e w8 ⟨A8, c8, rfl, hown8, b8⟩
              have RQ := Lib.hid (Row.of_own hown8)
              have RP8 := Lib.hid ((RP7.out.below b8 (Nat.le_refl _)).more b8.size)
              have HB8 := Lib.hid (bnext HB7.out b8)
              clear hown8 b8 HC RP7 HB7 HR
              go_wp2_with fail
              go_loopw [16] (fun i wx => ∃ j : Nat, j ≤ P ∧ i = .int .i64 j ∧ Hid (∃ q, wx = w8.drewN q)) (fun i _ => P - (intOf i).toNat)
              case atStart => exact ⟨0, Nat.zero_le _, rfl, Lib.hid ⟨0, rfl⟩⟩
              case round =>
                obtain ⟨j, hj, rfl, HW⟩ := hrel
                by_cases hlt2 : j < P
                · obtain ⟨⟨p, m⟩, hx⟩ : ∃ x, ps[j]? = some x := ⟨ps[j]'(by rw [HPN.out]; exact hlt2), by simp⟩
                  obtain ⟨g1, o1, rfl, hg1, k1, k2⟩ := prC_at (by rw [HPN.out]; exact RQ.out) j (p, m) hx
                  obtain ⟨g2, o2, rfl, hg2, k3, k4⟩ := prC_at (by rw [HPN.out]; exact RP8.out) j (p, m) hx
                  have d1 : wr.cell? ⟨g1, o1 + j * 2, none⟩ = some (.int .u16 (p : Int)) := by obtain ⟨q, rfl⟩ := HW.out; exact k1
                  have d2 : wr.cell? ⟨g1, o1 + j * 2 + 1, none⟩ = some (.int .u16 (m : Int)) := by obtain ⟨q, rfl⟩ := HW.out; exact k2
                  have d3 : wr.cell? ⟨g2, o2 + j * 2, none⟩ = some (.int .u16 (p : Int)) := by obtain ⟨q, rfl⟩ := HW.out; exact k3
                  have d4 : wr.cell? ⟨g2, o2 + j * 2 + 1, none⟩ = some (.int .u16 (m : Int)) := by obtain ⟨q, rfl⟩ := HW.out; exact k4
                  have hi1 : (0 : Int) ≤ (j : Int) := by omega
                  have hi2 : (j : Int) < (P : Int) := by omega
                  clear k1 k2 k3 k4 hx hg1 hg2
                  go_wp2_with fail
                  go_region
                  go_wp2
                  go_roundw
                  case rel => exact ⟨j + 1, by omega, by go_num, Lib.hid (by obtain ⟨q, rfl⟩ := HW.out; exact ⟨q + 1, rfl⟩)⟩
                  case measure => simp [intOf]; omega
                · obtain rfl : P = j := by omega
                  have HB9 : Hid (Below w.heap.size w wr) := Lib.hid (by obtain ⟨q, rfl⟩ := HW.out; exact bdrewN HB8.out q)
                  clear HW RQ RP8 HB8
                  have HC := Lib.hid (pack_as none 0 0 0 [] [] wr Row.nil (by simp) rfl (by decide) rfl rfl)
                  go_wp2_with fail
                  refine HC.out.mono ?_
                  rintro e w9 ⟨A9, c9, rfl, _, b9⟩
                  have HB10 := Lib.hid (bnext HB9.out b9)
                  clear b9 HC HB9
                  have HC := Lib.hid (list_as none 0 0 0 [] [] w9 Row.nil (by intro p hp; simp at hp) rfl (by decide) rfl rfl)
                  go_wp2_with fail
                  refine HC.out.mono ?_
                  rintro e w10 ⟨A10, c10, rfl, _, b10⟩
                  have HB11 := Lib.hid (bnext HB10.out b10)
                  clear b10 HC HB10
                  go_wp2
                  go_ret
                  exact ⟨rfl, HB11.out⟩
set_option maxRecDepth 100000 in
theorem lifted (os : Os) (started : os.Started) (H : Type) (enc : TypeId × Value → H) :
    ReturnsInHanded {} Try.checked os 6 .any (Rows.nackAgainSpec.pre6 enc Try.prog Try.f6 Rows.nackAgainRow.domain false) (Rows.nackAgainSpec.post enc Try.prog Try.f6 false true false false) := by
  refine returnsInHanded_of_change (C := Try.checked) own started (by kernel_rfl) Try.func6
    (ChangeSpec.witness6 (enc := enc) (C := Try.checked) false ⟨#[], #[.slice none 0 0], []⟩ 8 (by kernel_rfl) (by kernel_rfl) (by kernel_rfl) (by kernel_rfl)) ?_
  intro W base args ds gs before hval0 hW _ _
  have hval : ∀ (j : Nat) t v, Try.f6.params[j]? = some t → args[j]? = some v → Value.okWide Try.prog W .any base t v := hval0
  have hW' := hW
  obtain ⟨p, q, hA0, hV, _, _, _⟩ := hW
  have hA : DataW.TrodAll enc Try.prog W 0 (fun _ => true) true Try.f6.params.toList args.toList ds p := hA0
  rw [Try.params6] at hA hval
  obtain ⟨v0, vs0, d0, ds0, p0, q0, hargs, rfl, _, h0, r0⟩ := trodAll_cons hA
  obtain ⟨rfl, rfl, _⟩ := trodAll_nil r0
  obtain rfl : args = #[v0] := by cases args; simp_all
  obtain ⟨rfl, _⟩ := trodVars_none hV
  refine law_post (s := Rows.nackAgainSpec) rfl rfl (by rw [Try.params6]; intro t ht; simp at ht; rcases ht with rfl <;> exact ⟨by kernel_rfl, of_decide_eq_true (by kernel_rfl)⟩) rfl hW' ?_
  obtain ⟨A0, c0, l0, rfl, hl0, hr0, hf0⟩ := open_pairs (hval 0 22 v0 rfl rfl) h0
  exact walk W A0 c0 l0 hl0 hr0 hf0

theorem over : Rows.nackAgainRow.holds Try.pinned (OpenSpec.ofChange Rows.nackAgainSpec) :=
  OpenClaim.holds_of_wide 6 Try.f6 rfl rfl rfl rfl rfl rfl rfl ⟨rfl, rfl, rfl, rfl, rfl⟩ rfl rfl rfl rfl rfl (by kernel_rfl) Try.func6 (by kernel_rfl)
    (of_decide_eq_true (by kernel_rfl)) (by unfold Func.isWrapper; first | (rw [if_pos (by decide +kernel)]; kernel_rfl) | (rw [if_neg (by decide +kernel)]; exact ⟨rfl, rfl⟩))
    (fun os started H enc _ => lifted os started H enc)

/-- The statement. -/
theorem nackAgain_holds : Rows.NackAgainSaid := over

end Go.Proofs.Ytoooemmjfmdiaaa.NAgain
