/-
  Proved: ExtParses returns true for every profile, all bytes and every Id: the items that Parse tells, or the error, and what Find tells of them, are those of the document's definition. Conditions: none.
-/
import Derived.Test.YtdfbbmaaonkjiaaExtK
import Derived.Test.YtdfbbmaaonkjiaaExtJ
import Derived.Test.YtdfbbmaaonkjiaaExtM
import Derived.Test.YtdfbbmaaonkjiaaExtP
namespace Go.Proofs.Ytdfbbmaaonkjiaa.EParses
open Go.ChangeShapes Go.WideShapes Go.ChangeAt Go.RowKit

set_option maxRecDepth 100000 in
set_option maxHeartbeats 3200000 in
theorem walk (w : World) (p : Int) (_hp : (Lit.int .u16 p).wf = true) (A : Option Addr) (c : Nat) (b : List UInt8) (hl : b.length ≤ maxLen) (h : Row w w.heap.size 1 A b.length (u8s b)) (m : Int) (hm : (Lit.int .u8 m).wf = true) :
    Calls Try.prog 4 #[.int .u16 p, .slice A b.length c, .int .u8 m] w fun e w' => e = .returned (.bool true) ∧ Below w.heap.size w w' := by
  unfold maxLen at hl
  have gm := wf_u8 hm
  obtain ⟨k0, rfl⟩ : ∃ k0 : UInt8, m = (k0.toNat : Int) := ⟨UInt8.ofNat m.toNat, by rw [UInt8.toNat_ofNat']; omega⟩
  clear hm gm
  by_cases hlong : 600 < b.length
  · go_enter Try.func4, Try.ntmps4
    go_wp2_with fail
    refine (awake_any w).mono ?_
    rintro e w1 ⟨rfl, b1⟩
    go_wp2
    go_ret
    exact ⟨rfl, b1⟩
  have HC := Lib.hid (fun w' (b' : Below w.heap.size w w') => parse_any p A c b w' ((h.below b' (Nat.le_refl _)).more b'.size) (by omega))
  have HRP := Lib.hid (fun w' => refParse_any p b w' (by omega))
  have HT := Lib.hid (fun w' (b' : Below w.heap.size w w') => run_text (P := Try.prog) w' 26 5 9 Try.underlying26 Try.underlying5 Try.underlying9 _ _ _ c _ (h.below b' (Nat.le_refl _)))
  have hbd := parse_bd p b
  generalize parseL p b = R at *
  obtain ⟨l, E⟩ := R
  obtain ⟨hl14, hdd⟩ := hbd
  dsimp only at hl14 hdd
  have hdd6 : ∀ i ∈ l, i.d.length ≤ 600 := fun i hi => by have := hdd i hi; omega
  have HDD := Lib.hid hdd6
  clear h hdd hdd6
  go_enter Try.func4, Try.ntmps4
  go_wp2_with fail
  refine (awake_any w).mono ?_
  rintro e w1 ⟨rfl, b1⟩
  go_wp2_with fail
  refine (HC.out w1 b1).mono ?_
  rintro e w2 ⟨A2, c2, ps, rfl, hps, its2, b2⟩
  dsimp only at hps
  subst hps
  dsimp only
  have B2 := bnext b1 b2
  have ht := HT.out w2 B2
  have hn : (ps.map Ip.it).length = ps.length := by simp
  clear b1 b2 HC HT
  go_wp2_with fail
  clear ht
  refine (HRP.out w2).mono ?_
  rintro e w3 ⟨A3, c3, rfl, r3, b3⟩
  dsimp only at r3 ⊢
  have B3 := bnext B2 b3
  have its3 := its2.next b3
  rw [hn] at hl14 r3 ⊢
  clear B2 b3 its2 HRP
  go_wp2_with fail
  refine (plain_any A2 c2 ps w3 its3 (by omega)).mono ?_
  rintro e w4 ⟨A4, c4, rfl, r4, b4⟩
  rw [hn] at r4 ⊢
  have B4 := bnext B3 b4
  have its4 := its3.next b4
  have r34 := (r3.below b4 (Nat.le_refl _)).more b4.size
  clear B3 b4 its3 r3
  go_wp2_with fail
  have CS := same_yes A4 A3 c4 c3 (ps.map Ip.it) w4 (by rw [hn]; exact r4) (by rw [hn]; exact r34) (by omega)
  rw [hn] at CS
  refine CS.mono ?_
  rintro e w5 ⟨rfl, mm, rfl⟩
  clear CS r4
  have its5 := its4.drewN mm
  have r5 : Row (w4.drewN mm) (w4.drewN mm).heap.size 2 A3 ps.length (itC (ps.map Ip.it)) := r34
  have B5 := bdrewN B4 mm
  clear its4 r34 B4
  generalize w4.drewN mm = w5 at *
  have CF := find_any A2 c2 ps k0 w5 its5 (by unfold maxLen; omega) (fun p hp => by have := HDD.out p.it (List.mem_map.2 ⟨p, hp, rfl⟩); omega)
  have H5 := Lib.hid r5
  have HN := Lib.hid hn
  have HB5 := Lib.hid B5
  clear its5 r5 hn B5 HDD
  go_wp2_with fail
  refine CF.mono ?_
  rintro e w6 (⟨hno, rfl, b6⟩ | ⟨j, i, A6, c6, hj, hi, hbefore, rfl, r6, b6⟩)
  · have r56 := (H5.out.below b6 (Nat.le_refl _)).more b6.size
    rw [← HN.out] at r56
    have HR := Lib.hid r56
    have HB := Lib.hid (bnext HB5.out b6)
    have HNO := Lib.hid hno
    clear CF hno b6 r56 H5 HB5
    go_wp2_with fail
    go_loop [14] (fun i => ∃ k : Nat, k ≤ ps.length ∧ i = .int .i64 k) (fun i => ps.length - (intOf i).toNat)
    case atStart => exact ⟨0, Nat.zero_le _, rfl⟩
    case round =>
      obtain ⟨k, hk, rfl⟩ := hrel
      by_cases hlt : k < ps.length
      · obtain ⟨g, o, hA, hg, c0, c1⟩ := itC_at HR.out k (by rw [HN.out]; exact hlt)
        subst hA
        have hne := HNO.out _ (List.getElem_mem (l := ps.map Ip.it) (n := k) (by rw [HN.out]; exact hlt))
        generalize (ps.map Ip.it)[k]'(by rw [HN.out]; exact hlt) = i at c0 c1 hne
        have hne' : ¬ (i.id.toNat : Int) = (k0.toNat : Int) := fun e => hne (UInt8.toNat_inj.1 (by omega))
        have hi1 : (0 : Int) ≤ (k : Int) := by omega
        have hi2 : (k : Int) < (ps.length : Int) := by omega
        have hib := i.id.toNat_lt
        have hkb := k0.toNat_lt
        clear hne
        go_wp2
        go_round
        case rel => exact ⟨k + 1, by omega, by go_num⟩
        case measure => simp [intOf]; omega
      · obtain rfl : k = ps.length := by omega
        have hi2 : ¬ (ps.length : Int) < (ps.length : Int) := by omega
        go_wp2
        go_ret
        exact ⟨rfl, HB.out⟩
  · have r56 := (H5.out.below b6 (Nat.le_refl _)).more b6.size
    rw [← HN.out] at r56
    have HR := Lib.hid r56
    have HB := Lib.hid (bnext HB5.out b6)
    have HBEF := Lib.hid hbefore
    have hjlt : j < (ps.map Ip.it).length := (List.getElem?_eq_some_iff.1 hj).1
    have hjlt2 : j < ps.length := by rw [← HN.out]; exact hjlt
    have hji : (ps.map Ip.it)[j] = i := (List.getElem?_eq_some_iff.1 hj).2
    have HJ := Lib.hid hji
    have HT6 := Lib.hid (fun n : Nat => run_text (P := Try.prog) (w6.drewN n) 26 5 9 Try.underlying26 Try.underlying5 Try.underlying9 _ _ _ c6 _ (show Row (w6.drewN n) w6.heap.size 1 A6 i.d.length (u8s i.d) from r6))
    clear CF hbefore b6 r56 H5 HB5 hj r6
    go_wp2_with fail
    go_loop [14] (fun i => ∃ k : Nat, k ≤ j ∧ i = .int .i64 k) (fun i => ps.length - (intOf i).toNat)
    case atStart => exact ⟨0, Nat.zero_le _, rfl⟩
    case round =>
      obtain ⟨k, hk, rfl⟩ := hrel
      have hklt : k < ps.length := by omega
      obtain ⟨g, o, hA, hg, c0, c1⟩ := itC_at HR.out k (by rw [HN.out]; exact hklt)
      subst hA
      have hi1 : (0 : Int) ≤ (k : Int) := by omega
      have hi2 : (k : Int) < (ps.length : Int) := by omega
      have hkb := k0.toNat_lt
      by_cases hlt : k < j
      · have hne := HBEF.out k _ hlt (List.getElem?_eq_getElem (by rw [HN.out]; exact hklt))
        generalize (ps.map Ip.it)[k]'(by rw [HN.out]; exact hklt) = i' at c0 c1 hne
        have hne' : ¬ (i'.id.toNat : Int) = (k0.toNat : Int) := fun e => hne (UInt8.toNat_inj.1 (by omega))
        have hib := i'.id.toNat_lt
        clear hne
        go_wp2
        go_round
        case rel => exact ⟨k + 1, by omega, by go_num⟩
        case measure => simp [intOf]; omega
      · obtain rfl : k = j := by omega
        rw [HJ.out, hi] at c0
        rw [HJ.out] at c1
        have hcv := HT6.out
        clear hji HJ HBEF hjlt hjlt2 hk hlt HR
        go_wp2_with fail
        go_quiet (fail)
        go_wp2
        go_ret
        exact ⟨rfl, bdrewN HB.out _⟩

set_option maxRecDepth 100000 in
theorem lifted (os : Os) (started : os.Started) (H : Type) (enc : TypeId × Value → H) :
    ReturnsInHanded {} Try.checked os 4 .any (Rows.extParsesSpec.pre6 enc Try.prog Try.f4 Rows.extParsesRow.domain false) (Rows.extParsesSpec.post enc Try.prog Try.f4 false true false false) := by
  refine returnsInHanded_of_change (C := Try.checked) own started (by kernel_rfl) Try.func4
    (ChangeSpec.witness6 (enc := enc) (C := Try.checked) false ⟨#[], #[.int .u16 0, .slice none 0 0, .int .u8 0], []⟩ 8 (by kernel_rfl) (by kernel_rfl) (by kernel_rfl) (by kernel_rfl)) ?_
  intro W base args ds gs before hval0 hW _ _
  have hval : ∀ (j : Nat) t v, Try.f4.params[j]? = some t → args[j]? = some v → Value.okWide Try.prog W .any base t v := hval0
  have hW' := hW
  obtain ⟨p, q, hA0, hV, _, _, _⟩ := hW
  have hA : DataW.TrodAll enc Try.prog W 0 (fun _ => true) true Try.f4.params.toList args.toList ds p := hA0
  rw [Try.params4] at hA hval
  obtain ⟨v0, vs0, d0, ds0, p0, q0, hargs, rfl, _, h0, r0⟩ := trodAll_cons hA
  obtain ⟨v1, vs1, d1, ds1, p1, q1, rfl, rfl, _, h1, r1⟩ := trodAll_cons r0
  obtain ⟨v2, vs2, d2, ds2, p2, q2, rfl, rfl, _, h2, r2⟩ := trodAll_cons r1
  obtain ⟨rfl, rfl, _⟩ := trodAll_nil r2
  obtain rfl : args = #[v0, v1, v2] := by cases args; simp_all
  obtain ⟨rfl, _⟩ := trodVars_none hV
  refine law_post (s := Rows.extParsesSpec) rfl rfl (by rw [Try.params4]; intro t ht; simp at ht; rcases ht with rfl | rfl | rfl <;> exact ⟨by kernel_rfl, of_decide_eq_true (by kernel_rfl)⟩) rfl hW' ?_
  obtain ⟨a0, rfl, _, _, w0⟩ := open_int Try.underlying25 (hval 0 25 v0 rfl rfl) h0
  obtain ⟨A1, c1, l1, rfl, hl1, hr1, _⟩ := open_bytes (hval 1 26 v1 rfl rfl) h1
  obtain ⟨a2, rfl, _, _, w2⟩ := open_int Try.underlying5 (hval 2 5 v2 rfl rfl) h2
  exact walk W a0 w0 A1 c1 l1 hl1 hr1 a2 w2

theorem over : Rows.extParsesRow.holds Try.pinned (OpenSpec.ofChange Rows.extParsesSpec) :=
  OpenClaim.holds_of_wide 4 Try.f4 rfl rfl rfl rfl rfl rfl rfl ⟨rfl, rfl, rfl, rfl, rfl⟩ rfl rfl rfl rfl rfl (by kernel_rfl) Try.func4 (by kernel_rfl)
    (of_decide_eq_true (by kernel_rfl)) (by unfold Func.isWrapper; first | (rw [if_pos (by decide +kernel)]; kernel_rfl) | (rw [if_neg (by decide +kernel)]; exact ⟨rfl, rfl⟩))
    (fun os started H enc _ => lifted os started H enc)

/-- The statement. -/
theorem extParses_holds : Rows.ExtParsesSaid := over
end Go.Proofs.Ytdfbbmaaonkjiaa.EParses
