/-
  Proved: NackLists returns true for every row of pairs: the packets are the document's. Conditions: none.
-/
import Derived.Test.YtoooemmjfmdiaaaNacF
import Derived.Deep.RegionHeld3
import Derived.Deep.AppendLies
namespace Go.Proofs.Ytoooemmjfmdiaaa.NLists
open Go.ChangeShapes Go.WideShapes Go.ChangeAt Go.RowKit

theorem i64_nat (p : Nat) (h : p < 9223372036854775808) : IntKind.i64.wrap (p : Int) = (p : Int) := by
  simp only [IntKind.wrap, IntKind.bits, IntKind.signed]; simp; split <;> omega

set_option maxRecDepth 100000 in
set_option maxHeartbeats 1600000 in
theorem walk (w : World) (A : Option Addr) (c : Nat) (l : List (Nat × Nat)) (hl : l.length ≤ maxLen) (hr : Row w w.heap.size 2 A l.length (prC l)) (hf : Fit l) :
    Calls Try.prog 3 #[.slice A l.length c] w fun e w' => e = .returned (.bool true) ∧ Below w.heap.size w w' := by
  unfold maxLen at hl
  obtain ⟨n, hn⟩ : ∃ n, l.length = n := ⟨_, rfl⟩
  rw [hn] at hl hr ⊢
  by_cases h1 : 60 < n
  · clear hr hn hf
    go_enter Try.func3, Try.ntmps3
    go_wp2_with fail
    refine (awake_any w).mono ?_
    rintro e w1 ⟨rfl, b1⟩
    go_wp2
    go_ret
    exact ⟨rfl, b1⟩
  have H := Lib.hid hr
  have HF := Lib.hid hf
  have HN := Lib.hid hn
  clear hr hf hn
  go_enter Try.func3, Try.ntmps3
  go_wp2_with fail
  refine (awake_any w).mono ?_
  rintro e w1 ⟨rfl, b1⟩
  go_wp2_with fail
  go_loopw [4, 5] (fun v i wr => ∃ k : Nat, k ≤ n ∧ i = .int .i64 k ∧ wr.ownsRow w.heap.size 29 2 v k (dpC (l.take k)) ∧ Below w.heap.size w wr) (fun _ i _ => n - (intOf i).toNat)
  case atStart => exact ⟨0, Nat.zero_le _, rfl, World.ownsRow_nil _ _ _ _, b1⟩
  case round =>
    clear b1
    obtain ⟨k, hk, rfl, hown, hb⟩ := hrel
    obtain ⟨Av, cv, rfl⟩ := own_form hown
    by_cases hlt : k < n
    · obtain ⟨⟨p0, p1⟩, hp⟩ : ∃ p, l[k]? = some p := ⟨l[k]'(by rw [HN.out]; exact hlt), by simp⟩
      have hat : ∀ w', Below w.heap.size w w' → ∃ g o, A = some ⟨g, o, none⟩ ∧ g < w.heap.size ∧ w'.cell? ⟨g, o + k * 2, none⟩ = some (.int .u16 (p0 : Int)) ∧ w'.cell? ⟨g, o + k * 2 + 1, none⟩ = some (.int .u16 (p1 : Int)) :=
        fun w' b' => prC_at (by rw [HN.out]; exact H.out.below b' (Nat.le_refl _)) k (p0, p1) hp
      obtain ⟨g, o, hA, hg, _, _⟩ := hat _ hb
      subst hA
      have KEEP := Lib.hid (fun w' (b' : Below w.heap.size w w') => show w'.cell? ⟨g, o + k * 2, none⟩ = some (.int .u16 (p0 : Int)) ∧ w'.cell? ⟨g, o + k * 2 + 1, none⟩ = some (.int .u16 (p1 : Int)) from by
        obtain ⟨g', o', e', _, k0, k1⟩ := hat _ b'
        injection e' with e'
        injection e' with e1 e2
        subst e1 e2
        exact ⟨k0, k1⟩)
      have HT : Hid (dpC (l.take (k + 1)) = dpC (l.take k) ++ [.int .i64 (p0 : Int), .int .i64 (p1 : Int)]) := Lib.hid (by rw [List.take_add_one, hp, dpC_append]; rfl)
      have hp6 := HF.out _ (List.mem_of_getElem? hp)
      have hp0 : p0 < 65536 := hp6.1
      have hp1 : p1 < 65536 := hp6.2
      have hi1 : (0 : Int) ≤ (k : Int) := by omega
      have hi2 : (k : Int) < (n : Int) := by omega
      have hsz := hb.size
      have hfar := Lib.hid (fun a ha => (hown.lt a ha).1)
      have HO := Lib.hid hown
      have HB := Lib.hid hb
      obtain ⟨i0, hi0, hz0, hz1, hz2⟩ := info_parts info_P
      have HI0 := Lib.hid hi0
      have HZ0 := Lib.hid hz0
      have HZ1 := Lib.hid hz1
      have HZ2 := Lib.hid hz2
      clear hown hb hi0 hz0 hz1 hz2 hat hp hp6
      go_wp2_with fail
      go_region_held3 (fun w' => w'.cell? ⟨g, o + k * 2, none⟩ = some (.int .u16 (p0 : Int)) ∧ w'.cell? ⟨g, o + k * 2 + 1, none⟩ = some (.int .u16 (p1 : Int)))
        (first
          | exact KEEP.out _ HB.out
          | exact KEEP.out _ HB.out.drew
          | exact KEEP.out _ (HB.out.alloc hsz _)
          | exact KEEP.out _ (HB.out.alloc hsz _).drew
          | exact KEEP.out _ ((HB.out.alloc hsz _).drew.grown hgrow (by simp; omega) hfar.out))
        ((first
          | (refine step_append_lies _ (by rfl) _ _ _ (by rfl) w.heap.size 29 i0 _ 2 16 Try.underlying24 HI0.out HZ0.out HZ1.out HZ2.out rfl (by omega) (.slice Av k cv) k (dpC (l.take k)) (by rfl) (HO.out.alloc _).drew
              ⟨wr.heap.size, 0, none⟩ 1 1 [.int .i64 (IntKind.i64.wrap (p0 : Int)), .int .i64 (IntKind.i64.wrap (p1 : Int))] (by rfl) (by rfl) (World.news_of_block (cs := #[.int .i64 (IntKind.i64.wrap (p0 : Int)), .int .i64 (IntKind.i64.wrap (p1 : Int))]) (t := 29) (fr := (0, 0)) (heap_alloc_new wr _)) (by simp [Value.oneCell'])
              (by omega) (by unfold maxLen; omega) (by omega) (by simp; omega) (wr.heap.size + 1) (by simp) ?_; intro gg cap w2 hown1 hgrow hat hlt1)))
      have hB1 : Below w.heap.size w w2 := (HB.out.alloc hsz _).drew.grown hgrow (by simp; omega) hfar.out
      have R : w2.ownsRow w.heap.size 29 2 (.slice (some ⟨gg, 0, none⟩) (k + 1) cap) (k + 1) (dpC (l.take (k + 1))) := by rw [HT.out]; rw [i64_nat p0 (by omega), i64_nat p1 (by omega)] at hown1; exact hown1
      clear hown1 hgrow hat KEEP HO HB hfar HI0 HZ0 HZ1 HZ2
      clear ‹World.cell? _ _ = _ ∧ _›
      go_wp2
      go_roundw
      case rel => exact ⟨k + 1, by omega, by go_num, R, hB1⟩
      case measure => simp [intOf]; omega
    · obtain rfl : k = n := by omega
      have hrow : Row wr wr.heap.size 2 Av k (dpC l) := by
        have := Row.of_own hown
        rwa [List.take_of_length_le (by rw [HN.out]; exact Nat.le_refl _)] at this
      have hsz := hb.size
      have HR := Lib.hid hrow
      have HB := Lib.hid hb
      clear hown hb hrow
      obtain ⟨xs, hxs⟩ : ∃ x, listS l = x := ⟨_, rfl⟩
      obtain ⟨N, hN⟩ : ∃ x, xs.length = x := ⟨_, rfl⟩
      have hN2 : N ≤ 17 * 60 := by have := listS_length l; have := HN.out; rw [hxs] at *; omega
      have HXS := Lib.hid hxs
      have HNN := Lib.hid hN
      clear hxs hN
      have HC := Lib.hid (list_as A c k N l xs wr ((H.out.below HB.out (Nat.le_refl _)).more hsz) HF.out HN.out (by omega) HXS.out HNN.out)
      go_wp2_with fail
      refine HC.out.mono ?_
      rintro e w4 ⟨A4, c4, rfl, hown4, b4⟩
      have HR4 := Lib.hid ((HR.out.below b4 (Nat.le_refl _)).more b4.size)
      have HO4 := Lib.hid hown4
      have HB4 := Lib.hid (bnext HB.out b4)
      clear hown4 b4 HC HB HR H
      have HC := Lib.hid (refList_as Av cv k N l xs w4 HR4.out HF.out HN.out (by omega) HXS.out HNN.out)
      go_wp2_with fail
      refine HC.out.mono ?_
      rintro e w5 ⟨A5, c5, rfl, hown5, b5⟩
      have HX := Lib.hid (Row.of_own (own_below HO4.out b5 (Nat.le_refl _)))
      have HY := Lib.hid (Row.of_own hown5)
      have HB5 := Lib.hid (bnext HB4.out b5)
      have HLT : Hid (∀ x ∈ xs, x < 65536) := Lib.hid (by rw [← HXS.out]; exact listS_lt l (fun p hp => (HF.out p hp).1))
      clear hown5 b5 HC HO4 HB4 HR4 HXS HF
      go_wp2_with fail
      go_loopw [8] (fun i wx => ∃ k : Nat, k ≤ N ∧ i = .int .i64 k ∧ Hid (∃ q, wx = w5.drewN q)) (fun i _ => N - (intOf i).toNat)
      case atStart => exact ⟨0, Nat.zero_le _, rfl, Lib.hid ⟨0, rfl⟩⟩
      case round =>
        obtain ⟨j, hj, rfl, HW⟩ := hrel
        by_cases hlt2 : j < N
        · obtain ⟨x, hx⟩ : ∃ x, xs[j]? = some x := ⟨xs[j]'(by rw [HNN.out]; exact hlt2), by simp⟩
          obtain ⟨g1, o1, rfl, hg1, k1⟩ := HX.out.2 (by omega)
          obtain ⟨g2, o2, rfl, hg2, k2⟩ := HY.out.2 (by omega)
          have d1 : wr.cell? ⟨g1, o1 + j, none⟩ = some (.int .u16 (x : Int)) := by obtain ⟨q, rfl⟩ := HW.out; exact k1 j _ (n16_get _ _ _ hx)
          have d2 : wr.cell? ⟨g2, o2 + j, none⟩ = some (.int .i64 (x : Int)) := by obtain ⟨q, rfl⟩ := HW.out; exact k2 j _ (i64s_get _ _ _ hx)
          have hx6 := HLT.out x (List.mem_of_getElem? hx)
          have hi1 : (0 : Int) ≤ (j : Int) := by omega
          have hi2 : (j : Int) < (N : Int) := by omega
          clear k1 k2 hx hg1 hg2
          go_wp2_with fail
          go_quiet (fail)
          go_wp2
          go_roundw
          case rel => exact ⟨j + 1, by omega, by go_num, Lib.hid (by obtain ⟨q, rfl⟩ := HW.out; exact ⟨_, World.drewN_drewN _ _ _⟩)⟩
          case measure => simp [intOf]; omega
        · obtain rfl : j = N := by omega
          go_wp2
          go_ret
          obtain ⟨q, rfl⟩ := HW.out
          exact ⟨rfl, bdrewN HB5.out q⟩

set_option maxRecDepth 100000 in
theorem lifted (os : Os) (started : os.Started) (H : Type) (enc : TypeId × Value → H) :
    ReturnsInHanded {} Try.checked os 3 .any (Rows.nackListsSpec.pre6 enc Try.prog Try.f3 Rows.nackListsRow.domain false) (Rows.nackListsSpec.post enc Try.prog Try.f3 false true false false) := by
  refine returnsInHanded_of_change (C := Try.checked) own started (by kernel_rfl) Try.func3
    (ChangeSpec.witness6 (enc := enc) (C := Try.checked) false ⟨#[], #[.slice none 0 0], []⟩ 8 (by kernel_rfl) (by kernel_rfl) (by kernel_rfl) (by kernel_rfl)) ?_
  intro W base args ds gs before hval0 hW _ _
  have hval : ∀ (j : Nat) t v, Try.f3.params[j]? = some t → args[j]? = some v → Value.okWide Try.prog W .any base t v := hval0
  have hW' := hW
  obtain ⟨p, q, hA0, hV, _, _, _⟩ := hW
  have hA : DataW.TrodAll enc Try.prog W 0 (fun _ => true) true Try.f3.params.toList args.toList ds p := hA0
  rw [Try.params3] at hA hval
  obtain ⟨v0, vs0, d0, ds0, p0, q0, hargs, rfl, _, h0, r0⟩ := trodAll_cons hA
  obtain ⟨rfl, rfl, _⟩ := trodAll_nil r0
  obtain rfl : args = #[v0] := by cases args; simp_all
  obtain ⟨rfl, _⟩ := trodVars_none hV
  refine law_post (s := Rows.nackListsSpec) rfl rfl (by rw [Try.params3]; intro t ht; simp at ht; rcases ht with rfl <;> exact ⟨by kernel_rfl, of_decide_eq_true (by kernel_rfl)⟩) rfl hW' ?_
  obtain ⟨A0, c0, l0, rfl, hl0, hr0, hf0⟩ := open_pairs (hval 0 22 v0 rfl rfl) h0
  exact walk W A0 c0 l0 hl0 hr0 hf0

theorem over : Rows.nackListsRow.holds Try.pinned (OpenSpec.ofChange Rows.nackListsSpec) :=
  OpenClaim.holds_of_wide 3 Try.f3 rfl rfl rfl rfl rfl rfl rfl ⟨rfl, rfl, rfl, rfl, rfl⟩ rfl rfl rfl rfl rfl (by kernel_rfl) Try.func3 (by kernel_rfl)
    (of_decide_eq_true (by kernel_rfl)) (by unfold Func.isWrapper; first | (rw [if_pos (by decide +kernel)]; kernel_rfl) | (rw [if_neg (by decide +kernel)]; exact ⟨rfl, rfl⟩))
    (fun os started H enc _ => lifted os started H enc)

/-- The statement. -/
theorem nackLists_holds : Rows.NackListsSaid := over

end Go.Proofs.Ytoooemmjfmdiaaa.NLists
