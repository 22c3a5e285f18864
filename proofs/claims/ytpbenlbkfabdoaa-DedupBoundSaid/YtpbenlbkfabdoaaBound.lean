/-
  Proved: DedupBound returns true for every room and every list of acts: there are never more requests than may be, and never more that wait than there are. Conditions: none.
-/
import Derived.Test.YtpbenlbkfabdoaaDedP
import Derived.Deep.CutBlock
namespace Go.Proofs.Ytpbenlbkfabdoaa.Bound
open Go.ChangeShapes Go.WideShapes Go.ChangeAt Go.RowKit

/-- What the round keeps. -/
def At (w0 : World) (g m r N : Nat) (wx : World) : Prop := ∃ l, DAt wx g m r N l ∧ Below w0.heap.size w0 wx

set_option maxRecDepth 100000 in
set_option maxHeartbeats 3200000 in
theorem walk (w : World) (a : Int) (ha : (Lit.int .u8 a).wf = true) (A : Option Addr) (c : Nat) (l : List Deed) (hl : l.length ≤ maxLen) (hr : Row w w.heap.size 3 A l.length (deedC l)) (hq : ∀ x ∈ l, (Lit.int .u64 x.id).wf = true) :
    Calls Try.prog 6 #[.int .u8 a, .slice A l.length c] w fun e w' => e = .returned (.bool true) ∧ Below w.heap.size w w' := by
  unfold maxLen at hl
  have ha' := wf_u8 ha
  clear ha
  by_cases hlong : 200 < l.length
  · go_enter Try.func6, Try.ntmps6
    go_wp2_with (go_at_call 8; refine (awake_any w).mono ?_; rintro e w1 ⟨rfl, b1⟩)
    go_ret
    exact ⟨rfl, b1⟩
  obtain ⟨N, hN⟩ : ∃ N : Nat, a % 6 + 1 = (N : Int) := ⟨(a % 6 + 1).toNat, by omega⟩
  have hN1 : 1 ≤ N := by omega
  have hN2 : N ≤ 6 := by omega
  go_enter Try.func6, Try.ntmps6
  go_wp2_with fail
  refine (awake_any w).mono ?_
  rintro e w1 ⟨rfl, b1⟩
  go_wp2_with fail
  refine (new_any N _ hN1 (by omega)).mono ?_
  rintro e w2 ⟨g, m, r, rfl, d2, hg, hm, hr2, b2⟩
  have hg' : w.heap.size ≤ g := Nat.le_trans b1.size hg
  have hm' : w.heap.size ≤ m := Nat.le_trans b1.size hm
  have hr' : w.heap.size ≤ r := Nat.le_trans b1.size hr2
  have B2 := bnext b1 b2
  have HS : ∀ k, k < w.heap.size → ¬ (k = g ∨ k = m ∨ k = r) := by intro k hk; omega
  have HS' := Lib.hid HS
  have hat : At w g m r N w2 := ⟨_, d2, B2⟩
  clear b1 b2 hg hm hr2 HS d2 B2 hN
  go_wp2_with fail
  go_loopw [8] (fun i wx => ∃ k : Nat, k ≤ l.length ∧ i = .int .i64 k ∧ At w g m r N wx) (fun i _ => l.length - (intOf i).toNat)
  case atStart => exact ⟨0, Nat.zero_le _, rfl, hat⟩
  case round =>
    clear hat
    obtain ⟨k, hk, rfl, s, d, B⟩ := hrel
    by_cases hkl : k < l.length
    · obtain ⟨gs, o, hA, hgs, hc0, hc1, hc2⟩ := deed_cells hr B k hkl
      subst hA
      have hwf := hq l[k] (by simp)
      generalize l[k] = p at hc0 hc1 hc2 hwf
      obtain ⟨wo, rfl⟩ : ∃ wo : World, wo = wr := ⟨_, rfl⟩
      have zo := B.size
      have hi1 : (0 : Int) ≤ (k : Int) := by omega
      have hi2 : (k : Int) < (l.length : Int) := by omega
      have hlen := d.len
      have hap := d.apart
      have HB := Lib.hid B
      have hsl := hlen.1
      have hww := waits_le s
      clear B hr hq
      obtain ⟨fin, id, ans⟩ := p
      dsimp only at hc0 hc1 hc2 hwf
      cases fin with
      | true =>
        obtain ⟨cc, s', hcs⟩ : ∃ cc s', endL s id ans = (cc, s') := ⟨_, _, rfl⟩
        have hd1 := @deed_no N s ⟨true, id, ans⟩
        have hd2 := @deed_end N s ⟨true, id, ans⟩ hap rfl
        unfold deedL at hd1 hd2
        simp only [if_true, hcs] at hd1 hd2
        have C1 : ∀ w', DAt w' g m r N s → Calls Try.prog 11 #[.pointer (some ⟨g, 0, none⟩), .int .u64 id, .string ans] w' (Leaves g m r N cc s' w') := by
          intro w' h
          have := end_any g m r N s id hwf ans w' h
          rw [hcs] at this
          exact this
        have HC := Lib.hid C1
        have HD := Lib.hid d
        have HDR := Lib.hid (show DAt wo.drew g m r N s from d)
        have hzg : gs + 1 ≤ wo.drew.heap.size := show gs + 1 ≤ wo.heap.size by omega
        have HG := Lib.hid (show ∀ i, i < gs + 1 → ¬ (i = g ∨ i = m ∨ i = r) by intro i hi; omega)
        clear C1 hcs hap hwf d
        go_wp2_with fail
        refine (len_any g m r N s _ HD.out).mono ?_
        rintro e w3 ⟨rfl, rfl⟩
        go_wp2_with fail
        refine (waits_any g m r N s _ HD.out).mono ?_
        rintro e w3 ⟨rfl, rfl⟩
        by_cases hz : cc = 0
        · subst hz
          obtain ⟨hw1, hw2⟩ := hd2 rfl
          have z5 : ((waits s' : Int) != (waits s : Int) - 1) = false := by simp; omega
          have z6 : ((s'.length : Int) != (s.length : Int)) = false := by simp; omega
          have z7 : (s'.length != s.length) = false := by simp; omega
          clear hw1 hw2
          clear hd1 hd2
          go_wp2_with fail
          go_region_held3 (fun w' => w'.cell? ⟨gs, o + k * 3 + 1, none⟩ = some (.int .u64 id) ∧ w'.cell? ⟨gs, o + k * 3 + 2, none⟩ = some (.string ans))
            (first | go_keep | exact ⟨hc1, hc2⟩ | exact keep2 hc1 hc2 ((Below.refl (gs + 1) wo).drew.trans (b3.below hzg HG.out)) rfl)
            ((go_at_call 11; refine (HC.out _ HDR.out).mono ?_; rintro e w3 ⟨rfl, d3, b3⟩))
          have hc0' : w3.cell? ⟨gs, o + k * 3, none⟩ = some (.bool true) := (((Below.refl (gs + 1) wo).drew.trans (b3.below hzg HG.out)).cell (p := ⟨gs, o + k * 3, none⟩) (Nat.lt_succ_self gs)).trans hc0
          have B3 := HB.out.trans ((Below.refl _ wo).drew.trans (b3.below (B := w.heap.size) zo HS'.out))
          have hlen := d3.len.1
          have hww := waits_le s'
          have z3 : decide (N < s'.length) = false := by simp; omega
          have z4 : decide (s'.length < waits s') = false := by simp; omega
          have HD3 := Lib.hid d3
          have HA := Lib.hid (show At w g m r N w3 from ⟨_, d3, B3⟩)
          clear d3 b3 B3 HD HB HC HG hc0 hc1 hc2 hzg HDR
          go_wp2_with (first | (go_at_call 16; refine (len_any g m r N s' _ HD3.out).mono ?_; rintro e w4 ⟨rfl, rfl⟩) | (go_at_call 17; refine (waits_any g m r N s' _ HD3.out).mono ?_; rintro e w4 ⟨rfl, rfl⟩))
          go_roundw
          case rel => exact ⟨k + 1, hkl, by go_num, HA.out⟩
          case measure => simp [intOf]; omega
        · obtain rfl := hd1 hz
          have z1 : (cc != 0) = true := by simpa using hz
          have z2 : (cc == 0) = false := by simpa using hz
          clear hz hd1 hd2
          go_wp2_with fail
          go_region_held3 (fun w' => w'.cell? ⟨gs, o + k * 3 + 1, none⟩ = some (.int .u64 id) ∧ w'.cell? ⟨gs, o + k * 3 + 2, none⟩ = some (.string ans))
            (first | go_keep | exact ⟨hc1, hc2⟩ | exact keep2 hc1 hc2 ((Below.refl (gs + 1) wo).drew.trans (b3.below hzg HG.out)) rfl)
            ((go_at_call 11; refine (HC.out _ HDR.out).mono ?_; rintro e w3 ⟨rfl, d3, b3⟩))
          have hc0' : w3.cell? ⟨gs, o + k * 3, none⟩ = some (.bool true) := (((Below.refl (gs + 1) wo).drew.trans (b3.below hzg HG.out)).cell (p := ⟨gs, o + k * 3, none⟩) (Nat.lt_succ_self gs)).trans hc0
          have B3 := HB.out.trans ((Below.refl _ wo).drew.trans (b3.below (B := w.heap.size) zo HS'.out))
          have hlen := d3.len.1
          have hww := waits_le s'
          have z3 : decide (N < s'.length) = false := by simp; omega
          have z4 : decide (s'.length < waits s') = false := by simp; omega
          have HD3 := Lib.hid d3
          have HA := Lib.hid (show At w g m r N w3 from ⟨_, d3, B3⟩)
          clear d3 b3 B3 HD HB HC HG hc0 hc1 hc2 hzg HDR
          go_wp2_with (first | (go_at_call 16; refine (len_any g m r N s' _ HD3.out).mono ?_; rintro e w4 ⟨rfl, rfl⟩) | (go_at_call 17; refine (waits_any g m r N s' _ HD3.out).mono ?_; rintro e w4 ⟨rfl, rfl⟩))
          go_roundw
          case rel => exact ⟨k + 1, hkl, by go_num, HA.out⟩
          case measure => simp [intOf]; omega
      | false =>
        obtain ⟨cc, s', hcs⟩ : ∃ cc s', startL N s id = (cc, s') := ⟨_, _, rfl⟩
        have hd1 := @deed_no N s ⟨false, id, ans⟩
        have hd2 := @deed_start N s ⟨false, id, ans⟩ rfl
        unfold deedL at hd1 hd2
        simp only [Bool.false_eq_true, if_false, hcs] at hd1 hd2
        have C1 : ∀ w', DAt w' g m r N s → Calls Try.prog 13 #[.pointer (some ⟨g, 0, none⟩), .int .u64 id] w' (Leaves g m r N cc s' w') := by
          intro w' h
          have := start_any g m r N s id hwf w' h
          rw [hcs] at this
          exact this
        have HC := Lib.hid C1
        have HD := Lib.hid d
        have hzg : gs + 1 ≤ wo.heap.size := by omega
        have HG := Lib.hid (show ∀ i, i < gs + 1 → ¬ (i = g ∨ i = m ∨ i = r) by intro i hi; omega)
        clear C1 hcs hap hwf d
        go_wp2_with fail
        refine (len_any g m r N s _ HD.out).mono ?_
        rintro e w3 ⟨rfl, rfl⟩
        go_wp2_with fail
        refine (waits_any g m r N s _ HD.out).mono ?_
        rintro e w3 ⟨rfl, rfl⟩
        by_cases hz : cc = 0
        · subst hz
          have hw1 := hd2 rfl
          have z5 : ((waits s' : Int) != (waits s : Int) + 1) = false := by simp; omega
          clear hw1
          clear hd1 hd2
          go_wp2_with fail
          refine (HC.out _ HD.out).mono ?_
          rintro e w3 ⟨rfl, d3, b3⟩
          have hc0' : w3.cell? ⟨gs, o + k * 3, none⟩ = some (.bool false) := ((b3.below hzg HG.out).cell (p := ⟨gs, o + k * 3, none⟩) (Nat.lt_succ_self gs)).trans hc0
          have B3 := HB.out.trans (b3.below zo HS'.out)
          have hlen := d3.len.1
          have hww := waits_le s'
          have z3 : decide (N < s'.length) = false := by simp; omega
          have z4 : decide (s'.length < waits s') = false := by simp; omega
          have HD3 := Lib.hid d3
          have HA := Lib.hid (show At w g m r N w3 from ⟨_, d3, B3⟩)
          clear d3 b3 B3 HD HB HC HG hc0 hc1 hc2 hzg
          go_wp2_with (first | (go_at_call 16; refine (len_any g m r N s' _ HD3.out).mono ?_; rintro e w4 ⟨rfl, rfl⟩) | (go_at_call 17; refine (waits_any g m r N s' _ HD3.out).mono ?_; rintro e w4 ⟨rfl, rfl⟩))
          go_roundw
          case rel => exact ⟨k + 1, hkl, by go_num, HA.out⟩
          case measure => simp [intOf]; omega
        · obtain rfl := hd1 hz
          have z1 : (cc != 0) = true := by simpa using hz
          have z2 : (cc == 0) = false := by simpa using hz
          clear hz hd1 hd2
          go_wp2_with fail
          refine (HC.out _ HD.out).mono ?_
          rintro e w3 ⟨rfl, d3, b3⟩
          have hc0' : w3.cell? ⟨gs, o + k * 3, none⟩ = some (.bool false) := ((b3.below hzg HG.out).cell (p := ⟨gs, o + k * 3, none⟩) (Nat.lt_succ_self gs)).trans hc0
          have B3 := HB.out.trans (b3.below zo HS'.out)
          have hlen := d3.len.1
          have hww := waits_le s'
          have z3 : decide (N < s'.length) = false := by simp; omega
          have z4 : decide (s'.length < waits s') = false := by simp; omega
          have HD3 := Lib.hid d3
          have HA := Lib.hid (show At w g m r N w3 from ⟨_, d3, B3⟩)
          clear d3 b3 B3 HD HB HC HG hc0 hc1 hc2 hzg
          go_wp2_with (first | (go_at_call 16; refine (len_any g m r N s' _ HD3.out).mono ?_; rintro e w4 ⟨rfl, rfl⟩) | (go_at_call 17; refine (waits_any g m r N s' _ HD3.out).mono ?_; rintro e w4 ⟨rfl, rfl⟩))
          go_roundw
          case rel => exact ⟨k + 1, hkl, by go_num, HA.out⟩
          case measure => simp [intOf]; omega
    · have H := Lib.hid B
      clear B d hr hq
      go_wp2
      go_ret
      exact ⟨rfl, H.out⟩

set_option maxRecDepth 100000 in
theorem lifted (os : Os) (started : os.Started) (H : Type) (enc : TypeId × Value → H) :
    ReturnsInHanded {} Try.checked os 6 .any (Rows.dedupBoundSpec.pre6 enc Try.prog Try.f6 Rows.dedupBoundRow.domain false) (Rows.dedupBoundSpec.post enc Try.prog Try.f6 false true false false) := by
  refine returnsInHanded_of_change (C := Try.checked) own started (by kernel_rfl) Try.func6
    (ChangeSpec.witness6 (enc := enc) (C := Try.checked) false ⟨#[], #[.int .u8 0, .slice none 0 0], []⟩ 8 (by kernel_rfl) (by kernel_rfl) (by kernel_rfl) (by kernel_rfl)) ?_
  intro W base args ds gs before hval0 hW _ _
  have hval : ∀ (j : Nat) t v, Try.f6.params[j]? = some t → args[j]? = some v → Value.okWide Try.prog W .any base t v := hval0
  have hW' := hW
  obtain ⟨p, q, hA0, hV, _, _, _⟩ := hW
  have hA : DataW.TrodAll enc Try.prog W 0 (fun _ => true) true Try.f6.params.toList args.toList ds p := hA0
  rw [Try.params6] at hA hval
  obtain ⟨v0, vs0, d0, ds0, p0, q0, hargs, rfl, _, h0, r0⟩ := trodAll_cons hA
  obtain ⟨v1, vs1, d1, ds1, p1, q1, rfl, rfl, _, h1, r1⟩ := trodAll_cons r0
  obtain ⟨rfl, rfl, _⟩ := trodAll_nil r1
  obtain rfl : args = #[v0, v1] := by cases args; simp_all
  obtain ⟨rfl, _⟩ := trodVars_none hV
  refine law_post (s := Rows.dedupBoundSpec) rfl rfl (by rw [Try.params6]; intro t ht; simp at ht; rcases ht with rfl | rfl <;> exact ⟨by kernel_rfl, of_decide_eq_true (by kernel_rfl)⟩) rfl hW' ?_
  obtain ⟨a0, rfl, _, _, w0⟩ := open_int Try.underlying5 (hval 0 5 v0 rfl rfl) h0
  obtain ⟨A1, c1, l1, rfl, hl1, hr1, hq1⟩ := open_deeds (hval 1 22 v1 rfl rfl) h1
  exact walk W a0 w0 A1 c1 l1 hl1 hr1 hq1

theorem over : Rows.dedupBoundRow.holds Try.pinned (OpenSpec.ofChange Rows.dedupBoundSpec) :=
  OpenClaim.holds_of_wide 6 Try.f6 rfl rfl rfl rfl rfl rfl rfl ⟨rfl, rfl, rfl, rfl, rfl⟩ rfl rfl rfl rfl rfl (by kernel_rfl) Try.func6 (by kernel_rfl)
    (of_decide_eq_true (by kernel_rfl)) (by unfold Func.isWrapper; first | (rw [if_pos (by decide +kernel)]; kernel_rfl) | (rw [if_neg (by decide +kernel)]; exact ⟨rfl, rfl⟩))
    (fun os started H enc _ => lifted os started H enc)

/-- The statement. -/
theorem dedupBound_holds : Rows.DedupBoundSaid := over
end Go.Proofs.Ytpbenlbkfabdoaa.Bound
