/-
  Proved: ExtSizes returns true for every list of items: what Put tells of short items has one byte more each than their data, of long ones two, up to a multiple of four. Conditions: none.
-/
import Derived.Test.YtdfbbmaaonkjiaaExtK
import Derived.Test.YtdfbbmaaonkjiaaExtJ
import Derived.Test.YtdfbbmaaonkjiaaExtM
import Derived.Test.YtdfbbmaaonkjiaaExtP
namespace Go.Proofs.Ytdfbbmaaonkjiaa.ESizes
open Go.ChangeShapes Go.WideShapes Go.ChangeAt Go.RowKit

set_option maxRecDepth 100000 in
set_option maxHeartbeats 3200000 in
theorem walk (w : World) (A : Option Addr) (c : Nat) (ps : List Ip) (hl : ps.length ≤ maxLen) (h : Its w A ps) :
    Calls Try.prog 7 #[.slice A ps.length c] w fun e w' => e = .returned (.bool true) ∧ Below w.heap.size w w' := by
  cases hf : fewB (ps.map Ip.it) with
  | false =>
    have C := Lib.hid (few_not A c ps w h hl hf)
    clear h hf
    go_enter Try.func7, Try.ntmps7
    go_wp2_with fail
    refine (awake_any w).mono ?_
    rintro e w1 ⟨rfl, b1⟩
    go_wp2_with fail
    refine (C.out w1 b1).mono ?_
    rintro e w2 ⟨rfl, rfl⟩
    go_wp2
    go_ret
    exact ⟨rfl, b1⟩
  | true =>
    obtain ⟨hd, h20⟩ := few_facts hf
    have C := Lib.hid (few_yes A c ps w h hl hf)
    have HC := Lib.hid (fun w' (b' : Below w.heap.size w w') => extPut_any A c ps w' (h.next b') hl)
    have H := Lib.hid h
    have hn : (ps.map Ip.it).length = ps.length := by simp
    rw [hn] at h20
    have hgl : Hid (∀ k (hk : k < ps.length), (ps.map Ip.it)[k]? = some ps[k].it) := fun k hk => by simp [hk]
    generalize ps.map Ip.it = l at *
    have HN := Lib.hid hn
    have HD := Lib.hid hd
    clear h hf hn hd
    by_cases he : putE l = 0
    · have hb1 : Hid (l.any It.big = true → putP l = 4096 ∧ (putB l).length = (sumL l + 2 * l.length + 3) / 4 * 4) := fun hb => ⟨putP_big he hb, putB_len_big he hb⟩
      have hb2 : Hid (l.any It.big = false → putP l = 48862 ∧ (putB l).length = (sumL l + l.length + 3) / 4 * 4) := fun hb => ⟨putP_small he hb, putB_len_small he hb⟩
      have hsum : ∀ k, sumL (l.take k) ≤ 6000 := fun k => by
        have h1 := sumL_le (l.take k) 300 (fun i hi => HD.out i (List.mem_of_mem_take hi))
        have h2 : (l.take k).length ≤ 20 := by rw [List.length_take, HN.out]; omega
        have h3 : (l.take k).length * 300 ≤ 20 * 300 := Nat.mul_le_mul_right _ h2
        omega
      have HSUM := Lib.hid hsum
      have HE := Lib.hid he
      clear he hsum
      go_enter Try.func7, Try.ntmps7
      go_wp2_with fail
      refine (awake_any w).mono ?_
      rintro e w1 ⟨rfl, b1⟩
      go_wp2_with fail
      refine (C.out w1 b1).mono ?_
      rintro e w2 ⟨rfl, rfl⟩
      go_wp2_with fail
      refine (HC.out w1 b1).mono ?_
      rintro e w3 ⟨A3, c3, rfl, r3, b3⟩
      rw [HE.out]
      have B3 := Lib.hid (bnext b1 b3)
      clear b1 b3 r3 C HC
      obtain ⟨P, hP⟩ : ∃ P, P = putP l := ⟨_, rfl⟩
      obtain ⟨L, hL⟩ : ∃ L, L = (putB l).length := ⟨_, rfl⟩
      rw [← hP, ← hL]
      have HP := Lib.hid hP
      have HL := Lib.hid hL
      clear hP hL
      go_wp2_with fail
      go_loop [8, 9, 10] (fun n a i => ∃ (k : Nat) (bg : Bool) (s : Nat), k ≤ ps.length ∧ i = .int .i64 k ∧ a = .bool (!bg) ∧ n = .int .i64 s ∧ Hid (bg = (l.take k).any It.big) ∧ Hid (s = sumL (l.take k))) (fun _ _ i => ps.length - (intOf i).toNat)
      case atStart => exact ⟨0, false, 0, Nat.zero_le _, rfl, rfl, rfl, rfl, rfl⟩
      case round =>
        obtain ⟨k, bg, s, hk, rfl, rfl, rfl, hbg, hs⟩ := hrel
        have hs6 := HSUM.out k
        rw [← hs.out] at hs6
        by_cases hlt : k < ps.length
        · obtain ⟨g, o, hA, hg, c0, c1⟩ := (H.out.next B3.out).at k hlt
          subst hA
          have hgk := hgl.out k hlt
          have hkl : k < l.length := by rw [HN.out]; exact hlt
          have hlk : l[k] = ps[k].it := by
            rw [List.getElem?_eq_getElem hkl] at hgk
            injection hgk
          have hlen := HD.out l[k] (List.getElem_mem _)
          have htk : l.take (k + 1) = l.take k ++ [l[k]] := List.take_succ_eq_append_getElem hkl
          have hst := sumL_take l k hkl
          rw [hlk] at hlen htk hst
          generalize ps[k] = p at c0 c1 hlen htk hst
          have hi1 : (0 : Int) ≤ (k : Int) := by omega
          have hi2 : (k : Int) < (ps.length : Int) := by omega
          have hib := p.it.id.toNat_lt
          have HS : Hid (s + p.it.d.length = sumL (l.take (k + 1))) := by show _ = _; rw [hst, ← hs.out]
          have HBN : Hid ((bg || p.it.big) = (l.take (k + 1)).any It.big) := by
            show _ = _
            rw [htk, List.any_append, ← hbg.out]
            simp
          clear hgk hkl hlk htk hst hs hbg
          cases bg with
          | true =>
            go_wp2
            go_round
            case rel => exact ⟨k + 1, true, s + p.it.d.length, by omega, by go_num, rfl, by go_num, HBN, HS⟩
            case measure => simp [intOf]; omega
          | false =>
            have hval := big_eq p.it
            rw [Bool.false_or, hval] at HBN
            clear hval
            by_cases t1 : p.it.id.toNat < 15 <;> by_cases t2 : 0 < p.it.d.length <;> by_cases t3 : p.it.d.length < 17
            all_goals try (exfalso; omega)
            all_goals
              simp only [t1, t2, t3, decide_true, decide_false, Bool.and_true, Bool.and_false, Bool.not_true, Bool.not_false, Bool.and_self] at HBN
              have HB2 := HBN
              clear HBN
              go_wp2
              go_round
              case rel => exact ⟨k + 1, _, s + p.it.d.length, by omega, by go_num, by first | rfl | (simp; omega), by go_num, HB2, HS⟩
              case measure => simp [intOf]; omega
        · obtain rfl : k = ps.length := by omega
          have hbg' := hbg.out
          have hs' := hs.out
          rw [← HN.out, List.take_length] at hbg' hs'
          cases bg with
          | true =>
            obtain ⟨hP, hL⟩ := hb1.out hbg'.symm
            rw [← HP.out] at hP
            rw [← HL.out, ← hs', HN.out] at hL
            have hL' : (L : Int) = ((s : Int) + 2 * ps.length + 3) / 4 * 4 := by omega
            clear hbg hs hbg' hs' hL
            go_wp2
            go_ret
            exact ⟨rfl, B3.out⟩
          | false =>
            obtain ⟨hP, hL⟩ := hb2.out hbg'.symm
            rw [← HP.out] at hP
            rw [← HL.out, ← hs', HN.out] at hL
            have hL' : (L : Int) = ((s : Int) + ps.length + 3) / 4 * 4 := by omega
            clear hbg hs hbg' hs' hL
            go_wp2
            go_ret
            exact ⟨rfl, B3.out⟩
    · generalize hE : putE l = E at *
      have hne : ¬ E = 0 := he
      have HE := Lib.hid hE
      clear he hE
      go_enter Try.func7, Try.ntmps7
      go_wp2_with fail
      refine (awake_any w).mono ?_
      rintro e w1 ⟨rfl, b1⟩
      go_wp2_with fail
      refine (C.out w1 b1).mono ?_
      rintro e w2 ⟨rfl, rfl⟩
      go_wp2_with fail
      refine (HC.out w1 b1).mono ?_
      rintro e w3 ⟨A3, c3, rfl, r3, b3⟩
      rw [HE.out]
      have B3 := Lib.hid (bnext b1 b3)
      clear b1 b3 r3 C HC
      go_wp2
      go_ret
      exact ⟨rfl, B3.out⟩

set_option maxRecDepth 100000 in
theorem lifted (os : Os) (started : os.Started) (H : Type) (enc : TypeId × Value → H) :
    ReturnsInHanded {} Try.checked os 7 .any (Rows.extSizesSpec.pre6 enc Try.prog Try.f7 Rows.extSizesRow.domain false) (Rows.extSizesSpec.post enc Try.prog Try.f7 false true false false) := by
  refine returnsInHanded_of_change (C := Try.checked) own started (by kernel_rfl) Try.func7
    (ChangeSpec.witness6 (enc := enc) (C := Try.checked) false ⟨#[], #[.slice none 0 0], []⟩ 8 (by kernel_rfl) (by kernel_rfl) (by kernel_rfl) (by kernel_rfl)) ?_
  intro W base args ds gs before hval0 hW _ _
  have hval : ∀ (j : Nat) t v, Try.f7.params[j]? = some t → args[j]? = some v → Value.okWide Try.prog W .any base t v := hval0
  have hW' := hW
  obtain ⟨p, q, hA0, hV, _, _, _⟩ := hW
  have hA : DataW.TrodAll enc Try.prog W 0 (fun _ => true) true Try.f7.params.toList args.toList ds p := hA0
  rw [Try.params7] at hA hval
  obtain ⟨v0, vs0, d0, ds0, p0, q0, hargs, rfl, _, h0, r0⟩ := trodAll_cons hA
  obtain ⟨rfl, rfl, _⟩ := trodAll_nil r0
  obtain rfl : args = #[v0] := by cases args; simp_all
  obtain ⟨rfl, _⟩ := trodVars_none hV
  refine law_post (s := Rows.extSizesSpec) rfl rfl (by rw [Try.params7]; intro t ht; simp at ht; rcases ht with rfl <;> exact ⟨by kernel_rfl, of_decide_eq_true (by kernel_rfl)⟩) rfl hW' ?_
  obtain ⟨A0, c0, ps0, rfl, hl0, hi0⟩ := open_items (hval 0 22 v0 rfl rfl) h0
  exact walk W A0 c0 ps0 hl0 hi0

theorem over : Rows.extSizesRow.holds Try.pinned (OpenSpec.ofChange Rows.extSizesSpec) :=
  OpenClaim.holds_of_wide 7 Try.f7 rfl rfl rfl rfl rfl rfl rfl ⟨rfl, rfl, rfl, rfl, rfl⟩ rfl rfl rfl rfl rfl (by kernel_rfl) Try.func7 (by kernel_rfl)
    (of_decide_eq_true (by kernel_rfl)) (by unfold Func.isWrapper; first | (rw [if_pos (by decide +kernel)]; kernel_rfl) | (rw [if_neg (by decide +kernel)]; exact ⟨rfl, rfl⟩))
    (fun os started H enc _ => lifted os started H enc)

/-- The statement. -/
theorem extSizes_holds : Rows.ExtSizesSaid := over
end Go.Proofs.Ytdfbbmaaonkjiaa.ESizes
