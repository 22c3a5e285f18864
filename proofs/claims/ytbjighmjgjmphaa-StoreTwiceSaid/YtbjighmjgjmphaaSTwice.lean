/-
  Proved: StoreTwice returns true for every room, any bytes and any count of others: of packets of one number the one that was added last is told, for as long as it is kept. Conditions: none.
-/
import Derived.Test.YtbjighmjgjmphaaStoE
namespace Go.Proofs.Ytbjighmjgjmphaa.STwice
open Go.ChangeShapes Go.WideShapes Go.ChangeAt Go.RowKit

/-- The others. -/
def oth (a : List UInt8) (j : Nat) : List Pk := (List.range j).map fun i => ⟨((100 + i : Nat) : Int), a⟩
theorem oth_next (a : List UInt8) (j : Nat) : oth a (j + 1) = oth a j ++ [⟨((100 + j : Nat) : Int), a⟩] := by simp [oth, List.range_succ]
theorem oth_len (a : List UInt8) (j : Nat) : (oth a j).length = j := by simp [oth]
theorem oth_ne (a : List UInt8) (j : Nat) : ∀ p ∈ oth a j, p.seq ≠ 9 := by
  intro p hp
  simp only [oth, List.mem_map] at hp
  obtain ⟨i, _, rfl⟩ := hp
  dsimp only
  omega
def row2 (a b : List UInt8) (j : Nat) : List Pk := [⟨9, a⟩, ⟨9, b⟩] ++ oth a j
theorem row2_len (a b : List UInt8) (j : Nat) : (row2 a b j).length = j + 2 := by simp [row2, oth_len]
theorem row2_get (n : Nat) (a b : List UInt8) (j : Nat) : getL (lastN n (row2 a b j)) 9 = if j < n then some b else none := by
  unfold lastN row2
  by_cases h : j < n
  · rw [if_pos h]
    have e : (([⟨9, a⟩, ⟨9, b⟩] : List Pk) ++ oth a j).length - n ≤ 1 := by simp [oth_len]; omega
    rw [List.drop_append_of_le_length (by simp; simp at e; omega), getL_other _ _ _ (oth_ne a j)]
    have e2 : (([⟨9, a⟩, ⟨9, b⟩] : List Pk) ++ oth a j).length - n = 0 ∨ (([⟨9, a⟩, ⟨9, b⟩] : List Pk) ++ oth a j).length - n = 1 := by omega
    rcases e2 with e2 | e2 <;> rw [e2] <;> rfl
  · rw [if_neg h]
    refine getL_none _ _ fun p hp => ?_
    rw [List.drop_append] at hp
    rw [List.drop_eq_nil_of_le (by simp [oth_len]; omega), List.nil_append] at hp
    exact oth_ne a j p (List.mem_of_mem_drop hp)

set_option maxRecDepth 100000 in
set_option maxHeartbeats 1600000 in
theorem walk (w : World) (r0 : Int) (hr0 : (Lit.int .u8 r0).wf = true) (A : Option Addr) (c : Nat) (a : List UInt8) (hla : a.length ≤ maxLen) (ra : Row w w.heap.size 1 A a.length (u8s a))
    (A2 : Option Addr) (c2 : Nat) (b : List UInt8) (hlb : b.length ≤ maxLen) (rb : Row w w.heap.size 1 A2 b.length (u8s b)) (t0 : Int) (ht0 : (Lit.int .u8 t0).wf = true) :
    Calls Try.prog 6 #[.int .u8 r0, .slice A a.length c, .slice A2 b.length c2, .int .u8 t0] w fun e w' => e = .returned (.bool true) ∧ Below w.heap.size w w' := by
  have hr' := wf_u8 hr0
  have ht' := wf_u8 ht0
  unfold maxLen at hla hlb
  clear hr0 ht0
  by_cases h60 : a.length ≤ 60 ∧ b.length ≤ 60
  · obtain ⟨ha60, hb60⟩ := h60
    have ha6 : ¬ (60 : Int) < (a.length : Int) := by omega
    have hb6 : ¬ (60 : Int) < (b.length : Int) := by omega
    obtain ⟨N, hN⟩ : ∃ N : Nat, r0 % 20 + 1 = (N : Int) := ⟨(r0 % 20 + 1).toNat, by omega⟩
    obtain ⟨K, hK⟩ : ∃ K : Nat, t0 % 30 = (K : Int) := ⟨(t0 % 30).toNat, by omega⟩
    have hN1 : 1 ≤ N := by omega
    have hN2 : N ≤ 20 := by omega
    have hK2 : K < 30 := by omega
    go_enter Try.func6, Try.ntmps6
    go_wp2_with fail
    refine (awake_any w).mono ?_
    rintro e w1 ⟨rfl, b1⟩
    have HB := Lib.hid b1
    clear b1
    go_wp2_with fail
    refine (snew_off N _ hN1 (by omega)).mono ?_
    rintro e w3 ⟨g, m, r, rfl, s3, hg, hm, hr, b3⟩
    have hg' : w.heap.size ≤ g := Nat.le_trans HB.out.size hg
    have hm' : w.heap.size ≤ m := Nat.le_trans HB.out.size hm
    have hr'' : w.heap.size ≤ r := Nat.le_trans HB.out.size hr
    have B3 := bnext HB.out b3
    have hS : ∀ k, k < w.heap.size → ¬ (k = g ∨ k = m ∨ k = r) := by intro k hk; omega
    have HS := Lib.hid hS
    have C1 := add_off g m r N [] 9 (by decide) w.heap.size A c a (by omega) w3 (ra.below B3 (Nat.le_refl _)) B3.size (FarA.row ra hg' hm' hr'') s3
    have HC1 := Lib.hid C1
    have HRA := Lib.hid ra
    have HRB := Lib.hid rb
    clear hg hm hr s3 b3 HB hN hK hr' ht' hS C1 ra rb
    have HB3 := Lib.hid B3
    clear B3
    go_wp2_with fail
    refine HC1.out.mono ?_
    rintro e w4 ⟨rfl, s4, b4⟩
    have B4 := HB3.out.trans (b4.below (B := w.heap.size) HB3.out.size HS.out)
    have HC2 := Lib.hid (add_off g m r N _ 9 (by decide) w.heap.size A2 c2 b (by omega) w4 (HRB.out.below B4 (Nat.le_refl _)) B4.size (FarA.row HRB.out hg' hm' hr'') s4)
    have HB4 := Lib.hid B4
    clear HC1 s4 b4 B4 HB3
    go_wp2_with fail
    refine HC2.out.mono ?_
    rintro e w5 ⟨rfl, s5, b5⟩
    have B5 := HB4.out.trans (b5.below (B := w.heap.size) HB4.out.size HS.out)
    have hat : SKept w g m r N (row2 a b 0) w5 := by
      refine ⟨?_, B5⟩
      have e1 : addL N [] ⟨9, a⟩ = lastN N [⟨9, a⟩] := by have := lastN_add N hN1 [] ⟨9, a⟩; rwa [lastN_nil] at this
      have e2 := lastN_add N hN1 [⟨9, a⟩] ⟨9, b⟩
      rw [e1, e2] at s5
      exact s5
    clear HC2 s5 b5 B5 HB4
    go_wp2_with fail
    go_loopw [13] (fun i wx => ∃ k : Nat, k ≤ K ∧ i = .int .i64 k ∧ SKept w g m r N (row2 a b k) wx) (fun i _ => K - (intOf i).toNat)
    case atStart => exact ⟨0, Nat.zero_le _, rfl, hat⟩
    case round =>
      clear hat
      obtain ⟨k, hk, rfl, hs, hb⟩ := hrel
      obtain ⟨wo, rfl⟩ : ∃ wo : World, wo = wr := ⟨_, rfl⟩
      have zo := hb.size
      by_cases hkl : k < K
      · have hi2 : (k : Int) < (K : Int) := by omega
        have C1 := add_off g m r N _ (100 + (k : Int)) (by rw [Lit.wf]; simp only [Bool.and_eq_true, decide_eq_true_eq]; have e1 : IntKind.u16.min = 0 := by decide
                                                           have e2 : IntKind.u16.max = 65535 := by decide
                                                           omega) w.heap.size A c a (by omega) wo (HRA.out.below hb (Nat.le_refl _)) zo (FarA.row HRA.out hg' hm' hr'') hs
        have e1 := lastN_add N hN1 (row2 a b k) ⟨100 + (k : Int), a⟩
        have e2 : row2 a b k ++ [⟨100 + (k : Int), a⟩] = row2 a b (k + 1) := by unfold row2; rw [oth_next]; simp
        rw [e2] at e1
        rw [e1] at C1
        have HC1 := Lib.hid C1
        have HB := Lib.hid hb
        clear C1 hs hb e1 e2
        go_wp2_with fail
        refine HC1.out.mono ?_
        rintro e w4 ⟨rfl, s4, b4⟩
        have H4 : Hid (SKept w g m r N (row2 a b (k + 1)) w4) := ⟨s4, HB.out.trans (b4.below (B := w.heap.size) zo HS.out)⟩
        clear HC1 s4 b4 HB
        go_wp2
        go_roundw
        case rel => exact ⟨k + 1, hkl, by go_num, H4.out⟩
        case measure => simp [intOf]; omega
      · obtain rfl : k = K := by omega
        have hi2 : ¬ (k : Int) < (k : Int) := by omega
        have C1 := get_any _ g m r N _ 9 (by decide) wo hs
        rw [row2_get] at C1
        have HHS := Lib.hid (fun o => And.intro (hs.alloc o) (hb.alloc zo o))
        have hlm := lastN_length N (row2 a b k)
        rw [row2_len] at hlm
        have hmin : min (N : Int) ((k : Int) + 2) = ((min N (k + 2) : Nat) : Int) := by omega
        by_cases hlt : k < N
        · rw [if_pos hlt] at C1
          have HC1 := Lib.hid C1
          have hlti : (k : Int) < (N : Int) := by omega
          have ht1 : (convert 30 9 (.slice (some ⟨wo.heap.size, 0, none⟩) b.length b.length)).run Try.prog (wo.alloc (.cells (u8s b).toArray 5)) = .ok (.string (str b)) (wo.alloc (.cells (u8s b).toArray 5)) :=
            run_text (P := Try.prog) _ 30 5 9 Try.underlying30 Try.underlying5 Try.underlying9 _ _ _ _ b (Row.fresh wo _ _ 1 b.length (u8s b) (by simp [u8s_length]) (by simp))
          have ht2 : (convert 30 9 (.slice A2 b.length c2)).run Try.prog (wo.alloc (.cells (u8s b).toArray 5)) = .ok (.string (str b)) (wo.alloc (.cells (u8s b).toArray 5)) :=
            run_text (P := Try.prog) _ 30 5 9 Try.underlying30 Try.underlying5 Try.underlying9 _ _ _ _ b ((HRB.out.below hb (Nat.le_refl _)).alloc zo _)
          have C2 := slen_any _ g m r N _ (wo.alloc (.cells (u8s b).toArray 5)) (hs.alloc _)
          rw [hlm] at C2
          have HC2 := Lib.hid C2
          have HB := Lib.hid (hb.alloc zo (.cells (u8s b).toArray 5))
          clear C1 C2 hs hb hlm HHS
          go_wp2_with fail
          refine HC1.out.mono ?_
          rintro e w5 ⟨rfl, h5⟩
          subst h5
          clear HC1
          go_wp2_with fail
          refine HC2.out.mono ?_
          rintro e w6 ⟨rfl, rfl⟩
          go_wp2
          all_goals (go_ret; exact ⟨ret_bool (by simp; omega), HB.out⟩)
        · rw [if_neg hlt] at C1
          have HC1 := Lib.hid C1
          have hlti : ¬ (k : Int) < (N : Int) := by omega
          have C2 := slen_any _ g m r N _ wo hs
          rw [hlm] at C2
          have HC2 := Lib.hid C2
          have HB := Lib.hid hb
          clear C1 C2 hs hb hlm HHS
          go_wp2_with fail
          refine HC1.out.mono ?_
          rintro e w5 ⟨rfl, h5⟩
          subst h5
          clear HC1
          go_wp2_with fail
          refine HC2.out.mono ?_
          rintro e w6 ⟨rfl, rfl⟩
          go_wp2
          all_goals (go_ret; exact ⟨ret_bool (by simp; omega), HB.out⟩)
  · by_cases h1 : 60 < a.length
    · have ha6 : (60 : Int) < (a.length : Int) := by omega
      clear ra rb hr' ht' h60
      go_enter Try.func6, Try.ntmps6
      go_wp2_with (go_at_call 8; refine (awake_any w).mono ?_; rintro e w1 ⟨rfl, b1⟩)
      go_ret
      exact ⟨rfl, b1⟩
    · have ha6 : ¬ (60 : Int) < (a.length : Int) := by omega
      have hb6 : (60 : Int) < (b.length : Int) := by omega
      clear ra rb hr' ht' h60
      go_enter Try.func6, Try.ntmps6
      go_wp2_with (go_at_call 8; refine (awake_any w).mono ?_; rintro e w1 ⟨rfl, b1⟩)
      go_ret
      exact ⟨rfl, b1⟩
set_option maxRecDepth 100000 in
theorem lifted (os : Os) (started : os.Started) (H : Type) (enc : TypeId × Value → H) :
    ReturnsInHanded {} Try.checked os 6 .any (Rows.storeTwiceSpec.pre6 enc Try.prog Try.f6 Rows.storeTwiceRow.domain false) (Rows.storeTwiceSpec.post enc Try.prog Try.f6 false true false false) := by
  refine returnsInHanded_of_change (C := Try.checked) own started (by kernel_rfl) Try.func6
    (ChangeSpec.witness6 (enc := enc) (C := Try.checked) false ⟨#[], #[.int .u8 0, .slice none 0 0, .slice none 0 0, .int .u8 0], []⟩ 8 (by kernel_rfl) (by kernel_rfl) (by kernel_rfl) (by kernel_rfl)) ?_
  intro W base args ds gs before hval0 hW _ _
  have hval : ∀ (j : Nat) t v, Try.f6.params[j]? = some t → args[j]? = some v → Value.okWide Try.prog W .any base t v := hval0
  have hW' := hW
  obtain ⟨p, q, hA0, hV, _, _, _⟩ := hW
  have hA : DataW.TrodAll enc Try.prog W 0 (fun _ => true) true Try.f6.params.toList args.toList ds p := hA0
  rw [Try.params6] at hA hval
  obtain ⟨v0, vs0, d0, ds0, p0, q0, hargs, rfl, _, h0, r0⟩ := trodAll_cons hA
  obtain ⟨v1, vs1, d1, ds1, p1, q1, rfl, rfl, _, h1, r1⟩ := trodAll_cons r0
  obtain ⟨v2, vs2, d2, ds2, p2, q2, rfl, rfl, _, h2, r2⟩ := trodAll_cons r1
  obtain ⟨v3, vs3, d3, ds3, p3, q3, rfl, rfl, _, h3, r3⟩ := trodAll_cons r2
  obtain ⟨rfl, rfl, _⟩ := trodAll_nil r3
  obtain rfl : args = #[v0, v1, v2, v3] := by cases args; simp_all
  obtain ⟨rfl, _⟩ := trodVars_none hV
  refine law_post (s := Rows.storeTwiceSpec) rfl rfl (by rw [Try.params6]; intro t ht; simp at ht; rcases ht with rfl | rfl | rfl | rfl <;> exact ⟨by kernel_rfl, of_decide_eq_true (by kernel_rfl)⟩) rfl hW' ?_
  obtain ⟨a0, rfl, _, _, w0⟩ := open_int Try.underlying5 (hval 0 5 v0 rfl rfl) h0
  obtain ⟨A1, c1, l1, rfl, hl1, hr1, _, _⟩ := open_bytes (hval 1 30 v1 rfl rfl) h1
  obtain ⟨A2, c2, l2, rfl, hl2, hr2, _, _⟩ := open_bytes (hval 2 30 v2 rfl rfl) h2
  obtain ⟨a3, rfl, _, _, w3⟩ := open_int Try.underlying5 (hval 3 5 v3 rfl rfl) h3
  exact walk W a0 w0 A1 c1 l1 hl1 hr1 A2 c2 l2 hl2 hr2 a3 w3

theorem over : Rows.storeTwiceRow.holds Try.pinned (OpenSpec.ofChange Rows.storeTwiceSpec) :=
  OpenClaim.holds_of_wide 6 Try.f6 rfl rfl rfl rfl rfl rfl rfl ⟨rfl, rfl, rfl, rfl, rfl⟩ rfl rfl rfl rfl rfl (by kernel_rfl) Try.func6 (by kernel_rfl)
    (of_decide_eq_true (by kernel_rfl)) (by unfold Func.isWrapper; first | (rw [if_pos (by decide +kernel)]; kernel_rfl) | (rw [if_neg (by decide +kernel)]; exact ⟨rfl, rfl⟩))
    (fun os started H enc _ => lifted os started H enc)

/-- The statement. -/
theorem storeTwice_holds : Rows.StoreTwiceSaid := over
end Go.Proofs.Ytbjighmjgjmphaa.STwice
