/-
  Proved: QueueBounds returns true for every room and every list of numbers: only rooms that may be are, and of nothing there is nothing. Conditions: none.
-/
import Derived.Test.YtigimpnghecdiaaQhS
import Derived.Test.YtigimpnghecdiaaQueP
namespace Go.Proofs.Ytigimpnghecdiaa.Bounds
open Go.ChangeShapes Go.WideShapes Go.ChangeAt Go.RowKit

set_option maxRecDepth 100000 in
set_option maxHeartbeats 1600000 in
theorem walk_bad (w : World) (a : Int) (ha : a < 1 ∨ 4096 < a) (A : Option Addr) (c : Nat) (l : List Int) (hl : l.length ≤ 100) (hr : Row w w.heap.size 1 A l.length (l.map (Value.int .i64))) :
    Calls Try.prog 4 #[.int .i64 a, .slice A l.length c] w fun e w' => e = .returned (.bool true) ∧ Below w.heap.size w w' := by
  have hd : (¬ 1 ≤ a ∧ decide (1 ≤ a) = false) ∨ (1 ≤ a ∧ ¬ a ≤ 4096 ∧ decide (a ≤ 4096) = false) := by
    rcases ha with h | h
    · exact .inl ⟨by omega, by simp; omega⟩
    · exact .inr ⟨by omega, by omega, by simp; omega⟩
  have H0 := Lib.hid ha
  clear ha
  rcases hd with ⟨hd, hdb⟩ | ⟨hd1, hd2, hdb⟩
  all_goals
    go_enter Try.func4, Try.ntmps4
    go_wp2_with fail
    refine (awake_any w).mono ?_
    rintro e w1 ⟨rfl, b1⟩
    go_wp2_with fail
    refine (newI_bad a _ H0.out).mono ?_
    rintro e w2 ⟨rfl, rfl⟩
    go_wp2_with fail
    go_loop [8, 9] (fun n i => n = .int .i64 0 ∧ ∃ k : Nat, k ≤ l.length ∧ i = .int .i64 k) (fun _ i => l.length - (intOf i).toNat)
    case atStart => exact ⟨rfl, 0, Nat.zero_le _, rfl⟩
    case round =>
      obtain ⟨rfl, k, hk, rfl⟩ := hrel
      by_cases hkl : k < l.length
      · obtain ⟨gs, o, hA, hgs, hc0⟩ := map_cell hr b1 k hkl
        subst hA
        generalize l[k] = u at hc0
        go_wp2_with fail
        refine (pushI_nil u _).mono ?_
        rintro e w3 ⟨rfl, rfl⟩
        go_wp2_with fail
        go_round
        case rel => exact ⟨rfl, k + 1, hkl, by go_num⟩
        case measure => simp [intOf]; omega
      · have H := Lib.hid b1
        clear b1 hr
        go_wp2_with fail
        refine (lenI_nil _).mono ?_
        rintro e w7 ⟨rfl, rfl⟩
        go_wp2_with fail
        refine (roomI_nil _).mono ?_
        rintro e w7 ⟨rfl, rfl⟩
        go_wp2_with fail
        refine (popS_nil _).mono ?_
        rintro e w7 ⟨rfl, rfl⟩
        go_wp2_with fail
        refine (peekS_nil _).mono ?_
        rintro e w7 ⟨rfl, rfl⟩
        go_wp2_with fail
        refine (pushS_nil _ _).mono ?_
        rintro e w7 ⟨rfl, rfl⟩
        go_wp2_with fail
        refine (lenS_nil _).mono ?_
        rintro e w7 ⟨rfl, rfl⟩
        go_wp2_with fail
        refine (roomS_nil _).mono ?_
        rintro e w7 ⟨rfl, rfl⟩
        go_wp2_with fail
        refine (allS_nil _).mono ?_
        rintro e w7 ⟨rfl, rfl⟩
        go_wp2
        go_ret
        exact ⟨rfl, H.out⟩

set_option maxRecDepth 100000 in
set_option maxHeartbeats 1600000 in
theorem walk_good (w : World) (N : Nat) (h1 : 1 ≤ N) (h2 : N ≤ 4096) (A : Option Addr) (c : Nat) (l : List Int) (hl : l.length ≤ 100) (hr : Row w w.heap.size 1 A l.length (l.map (Value.int .i64))) :
    Calls Try.prog 4 #[.int .i64 N, .slice A l.length c] w fun e w' => e = .returned (.bool true) ∧ Below w.heap.size w w' := by
  have hd1 : 1 ≤ (N : Int) := by omega
  have hd2 : (N : Int) ≤ 4096 := by omega
  go_enter Try.func4, Try.ntmps4
  go_wp2_with fail
  refine (awake_any w).mono ?_
  rintro e w1 ⟨rfl, b1⟩
  go_wp2_with fail
  refine (newI_any N _ h1 h2).mono ?_
  rintro e w2 ⟨g, r, rfl, q2, hg, hr2, b2⟩
  have hg' : w.heap.size ≤ g := Nat.le_trans b1.size hg
  have hr' : w.heap.size ≤ r := Nat.le_trans b1.size hr2
  have B2 := bnext b1 b2
  clear b1 b2 hg hr2
  go_wp2_with fail
  go_loopw [8, 9] (fun nn i wx => ∃ k n : Nat, k ≤ l.length ∧ nn = .int .i64 n ∧ i = .int .i64 k ∧ n = min k N ∧ QI wx g r N (l.take n) ∧ Below w.heap.size w wx) (fun _ i _ => l.length - (intOf i).toNat)
  case atStart => exact ⟨0, 0, Nat.zero_le _, rfl, rfl, by omega, q2, B2⟩
  case round =>
    clear q2 B2
    obtain ⟨k, n, hk, rfl, rfl, hn, q, B⟩ := hrel
    by_cases hkl : k < l.length
    · obtain ⟨gs, o, hA, hgs, hc0⟩ := map_cell hr B k hkl
      subst hA
      obtain ⟨u, hu⟩ : ∃ u, l[k] = u := ⟨_, rfl⟩
      rw [hu] at hc0
      have HU := Lib.hid hu
      clear hu
      by_cases hkN : k < N
      · obtain rfl : n = k := by omega
        have hkN' : (n : Int) < (N : Int) := by omega
        have hlen : (l.take n).length = n := by simp; omega
        clear hn
        have HL := Lib.hid hlen
        clear hlen
        go_wp2_with fail
        refine (pushI_yes g r N _ u _ q (by rw [HL.out]; exact hkN)).mono ?_
        rintro e w3 ⟨rfl, q3, t3⟩
        have e3 : l.take n ++ [u] = l.take (n + 1) := by rw [← HU.out]; simp
        rw [e3] at q3
        have B3 := B.trans (t3.below hg' hr')
        clear q t3 B hc0 e3
        go_wp2_with fail
        go_roundw
        case rel => exact ⟨n + 1, n + 1, hkl, by go_num, by go_num, by omega, q3, B3⟩
        case measure => simp [intOf]; omega
      · obtain rfl : n = N := by omega
        have hkN' : ¬ (k : Int) < (n : Int) := by omega
        have hlen : (l.take n).length = n := by simp; omega
        clear hn
        have HL := Lib.hid hlen
        clear hlen
        go_wp2_with fail
        refine (pushI_no g r n _ u _ q HL.out).mono ?_
        rintro e w3 ⟨rfl, q3, t3⟩
        have B3 := B.trans (t3.below hg' hr')
        clear q t3 B hc0
        go_wp2_with fail
        go_roundw
        case rel => exact ⟨k + 1, n, hkl, rfl, by go_num, by omega, q3, B3⟩
        case measure => simp [intOf]; omega
    · have hlen : (l.take n).length = n := by simp; omega
      have hnN : n ≤ N := by omega
      have HL := Lib.hid hlen
      clear hlen hn hr
      go_wp2_with fail
      refine (lenI_any g r N _ _ q).mono ?_
      rintro e w3 ⟨rfl, rfl⟩
      rw [HL.out]
      go_wp2_with fail
      refine (roomI_any g r N _ _ q).mono ?_
      rintro e w3 ⟨rfl, q3, t3⟩
      rw [HL.out, show ((N - n : Nat) : Int) = (N : Int) - (n : Int) from by omega]
      have H := Lib.hid (B.trans (t3.below hg' hr'))
      clear q q3 t3 B
      go_wp2_with fail
      refine (popS_nil _).mono ?_
      rintro e w7 ⟨rfl, rfl⟩
      go_wp2_with fail
      refine (peekS_nil _).mono ?_
      rintro e w7 ⟨rfl, rfl⟩
      go_wp2_with fail
      refine (pushS_nil _ _).mono ?_
      rintro e w7 ⟨rfl, rfl⟩
      go_wp2_with fail
      refine (lenS_nil _).mono ?_
      rintro e w7 ⟨rfl, rfl⟩
      go_wp2_with fail
      refine (roomS_nil _).mono ?_
      rintro e w7 ⟨rfl, rfl⟩
      go_wp2_with fail
      refine (allS_nil _).mono ?_
      rintro e w7 ⟨rfl, rfl⟩
      go_wp2
      go_ret
      exact ⟨rfl, H.out⟩

theorem walk (w : World) (a : Int) (_ha : (Lit.int .i64 a).wf = true) (A : Option Addr) (c : Nat) (l : List Int) (hl : l.length ≤ maxLen) (hr : Row w w.heap.size 1 A l.length (l.map (Value.int .i64))) :
    Calls Try.prog 4 #[.int .i64 a, .slice A l.length c] w fun e w' => e = .returned (.bool true) ∧ Below w.heap.size w w' := by
  unfold maxLen at hl
  by_cases hlong : 100 < l.length
  · go_enter Try.func4, Try.ntmps4
    go_wp2_with (go_at_call 8; refine (awake_any w).mono ?_; rintro e w1 ⟨rfl, b1⟩)
    go_ret
    exact ⟨rfl, b1⟩
  by_cases hb : a < 1 ∨ 4096 < a
  · exact walk_bad w a hb A c l (by omega) hr
  · obtain ⟨N, rfl⟩ := Int.eq_ofNat_of_zero_le (show 0 ≤ a by omega)
    exact walk_good w N (by omega) (by omega) A c l (by omega) hr

set_option maxRecDepth 100000 in
theorem lifted (os : Os) (started : os.Started) (H : Type) (enc : TypeId × Value → H) :
    ReturnsInHanded {} Try.checked os 4 .any (Rows.queueBoundsSpec.pre6 enc Try.prog Try.f4 Rows.queueBoundsRow.domain false) (Rows.queueBoundsSpec.post enc Try.prog Try.f4 false true false false) := by
  refine returnsInHanded_of_change (C := Try.checked) own started (by kernel_rfl) Try.func4
    (ChangeSpec.witness6 (enc := enc) (C := Try.checked) false ⟨#[], #[.int .i64 0, .slice none 0 0], []⟩ 8 (by kernel_rfl) (by kernel_rfl) (by kernel_rfl) (by kernel_rfl)) ?_
  intro W base args ds gs before hval0 hW _ _
  have hval : ∀ (j : Nat) t v, Try.f4.params[j]? = some t → args[j]? = some v → Value.okWide Try.prog W .any base t v := hval0
  have hW' := hW
  obtain ⟨p, q, hA0, hV, _, _, _⟩ := hW
  have hA : DataW.TrodAll enc Try.prog W 0 (fun _ => true) true Try.f4.params.toList args.toList ds p := hA0
  rw [Try.params4] at hA hval
  obtain ⟨v0, vs0, d0, ds0, p0, q0, hargs, rfl, _, h0, r0⟩ := trodAll_cons hA
  obtain ⟨v1, vs1, d1, ds1, p1, q1, rfl, rfl, _, h1, r1⟩ := trodAll_cons r0
  obtain ⟨rfl, rfl, _⟩ := trodAll_nil r1
  obtain rfl : args = #[v0, v1] := by cases args; simp_all
  obtain ⟨rfl, _⟩ := trodVars_none hV
  refine law_post (s := Rows.queueBoundsSpec) rfl rfl (by rw [Try.params4]; intro t ht; simp at ht; rcases ht with rfl | rfl <;> exact ⟨by kernel_rfl, of_decide_eq_true (by kernel_rfl)⟩) rfl hW' ?_
  obtain ⟨a0, rfl, _, _, w0⟩ := open_int Try.underlying3 (hval 0 3 v0 rfl rfl) h0
  obtain ⟨A1, c1, l1, rfl, hl1, hr1, _, _, hw1⟩ := open_nums Try.underlying26 Try.underlying3 (by kernel_rfl) (hval 1 26 v1 rfl rfl) h1
  exact walk W a0 w0 A1 c1 l1 hl1 hr1

theorem over : Rows.queueBoundsRow.holds Try.pinned (OpenSpec.ofChange Rows.queueBoundsSpec) :=
  OpenClaim.holds_of_wide 4 Try.f4 rfl rfl rfl rfl rfl rfl rfl ⟨rfl, rfl, rfl, rfl, rfl⟩ rfl rfl rfl rfl rfl (by kernel_rfl) Try.func4 (by kernel_rfl)
    (of_decide_eq_true (by kernel_rfl)) (by unfold Func.isWrapper; first | (rw [if_pos (by decide +kernel)]; kernel_rfl) | (rw [if_neg (by decide +kernel)]; exact ⟨rfl, rfl⟩))
    (fun os started H enc _ => lifted os started H enc)

/-- The statement. -/
theorem queueBounds_holds : Rows.QueueBoundsSaid := over
end Go.Proofs.Ytigimpnghecdiaa.Bounds
