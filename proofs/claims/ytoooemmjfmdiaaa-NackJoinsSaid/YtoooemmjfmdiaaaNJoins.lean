/-
  Proved: NackJoins returns true for every two rows of pairs: the packets of both are those of the first one, and those of the second one behind. Conditions: none.
-/
import Derived.Test.YtoooemmjfmdiaaaNacF
namespace Go.Proofs.Ytoooemmjfmdiaaa.NJoins
open Go.ChangeShapes Go.WideShapes Go.ChangeAt Go.RowKit

set_option maxRecDepth 100000 in
set_option maxHeartbeats 1600000 in
theorem walk (w : World) (A : Option Addr) (cA : Nat) (a : List (Nat × Nat)) (hla : a.length ≤ maxLen) (hra : Row w w.heap.size 2 A a.length (prC a)) (fa : Fit a)
    (B : Option Addr) (cB : Nat) (b : List (Nat × Nat)) (hlb : b.length ≤ maxLen) (hrb : Row w w.heap.size 2 B b.length (prC b)) (fb : Fit b) :
    Calls Try.prog 8 #[.slice A a.length cA, .slice B b.length cB] w fun e w' => e = .returned (.bool true) ∧ Below w.heap.size w w' := by
  unfold maxLen at hla hlb
  obtain ⟨n, hn⟩ : ∃ n, a.length = n := ⟨_, rfl⟩
  obtain ⟨m, hm⟩ : ∃ m, b.length = m := ⟨_, rfl⟩
  rw [hn] at hla hra ⊢
  rw [hm] at hlb hrb ⊢
  by_cases h1 : 30 < n
  · clear hra hrb hn hm fa fb
    go_enter Try.func8, Try.ntmps8
    go_wp2_with fail
    refine (awake_any w).mono ?_
    rintro e w1 ⟨rfl, b1⟩
    go_wp2
    go_ret
    exact ⟨rfl, b1⟩
  by_cases h2 : 30 < m
  · clear hra hrb hn hm fa fb
    go_enter Try.func8, Try.ntmps8
    go_wp2_with fail
    refine (awake_any w).mono ?_
    rintro e w1 ⟨rfl, b1⟩
    go_wp2
    go_ret
    exact ⟨rfl, b1⟩
  have HA := Lib.hid hra
  have HB := Lib.hid hrb
  have FA := Lib.hid fa
  have FB := Lib.hid fb
  have HN := Lib.hid hn
  have HM := Lib.hid hm
  clear hra hrb fa fb hn hm
  go_enter Try.func8, Try.ntmps8
  go_wp2_with fail
  refine (awake_any w).mono ?_
  rintro e w1 ⟨rfl, b1⟩
  have hsz := b1.size
  have HB1 := Lib.hid b1
  clear b1
  go_wp2_with (at_builtin; refine wpl_append _ rfl (.tmp 21) (.tmp 22) 22 rfl w.heap.size 27 (.agg #[.int .u16 0, .int .u16 0]) 2 4 Try.underlying22 info_pair rfl (by decide) (.slice none 0 0) 0 [] rfl (World.ownsRow_nil _ _ _ _) w.heap.size A n cA (prC a) rfl (HA.out.below HB1.out (Nat.le_refl _)) (prC_one a) ?c1 ?c2 ?c3 ?_)
  case c1 => unfold maxLen; omega
  case c2 => omega
  case c3 => omega
  intro v2 w2 hown2 hg2 _
  have hb2 : Below w.heap.size w w2 := HB1.out.grown hg2 hsz (fun q hq => by simp [Value.ownBlock] at hq)
  obtain ⟨A2, c2, rfl⟩ := own_form hown2
  have hsz2 := hb2.size
  have HO2 := Lib.hid hown2
  have HB2 := Lib.hid hb2
  clear hown2 hb2 hg2 HB1
  go_wp2_with (at_builtin; refine wpl_append _ rfl (.tmp 24) (.tmp 25) 22 rfl w.heap.size 27 (.agg #[.int .u16 0, .int .u16 0]) 2 4 Try.underlying22 info_pair rfl (by decide) (.slice A2 n c2) n (prC a) rfl HO2.out w.heap.size B m cB (prC b) rfl (HB.out.below HB2.out (Nat.le_refl _)) (prC_one b) ?d1 ?d2 ?d3 ?_)
  case d1 => unfold maxLen; omega
  case d2 => omega
  case d3 => omega
  intro v3 w3 hown3 hg3 _
  have hb3 : Below w.heap.size w w3 := HB2.out.grown hg3 hsz2 (fun q hq => (HO2.out.lt q hq).1)
  obtain ⟨A3, c3, rfl⟩ := own_form hown3
  have hsz3 := hb3.size
  have hr3 : Row w3 w3.heap.size 2 A3 (n + m) (prC (a ++ b)) := by
    have := Row.of_own hown3
    rw [← prC_append] at this
    exact this
  have HR3 := Lib.hid hr3
  have HB3 := Lib.hid hb3
  clear hown3 hb3 hg3 hr3 HO2 HB2
  obtain ⟨xa, hxa⟩ : ∃ x, listS a = x := ⟨_, rfl⟩
  obtain ⟨xb, hxb⟩ : ∃ x, listS b = x := ⟨_, rfl⟩
  obtain ⟨na, hna⟩ : ∃ x, xa.length = x := ⟨_, rfl⟩
  obtain ⟨nb, hnb⟩ : ∃ x, xb.length = x := ⟨_, rfl⟩
  have hna2 : na ≤ 17 * 30 := by have := listS_length a; have := HN.out; rw [hxa] at *; omega
  have hnb2 : nb ≤ 17 * 30 := by have := listS_length b; have := HM.out; rw [hxb] at *; omega
  have HXA := Lib.hid hxa
  have HXB := Lib.hid hxb
  have HNA := Lib.hid hna
  have HNB := Lib.hid hnb
  clear hxa hxb hna hnb
  have HC := Lib.hid (list_as A3 c3 (n + m) (na + nb) (a ++ b) (xa ++ xb) w3 HR3.out (by
    intro p hp
    rcases List.mem_append.1 hp with h | h
    · exact FA.out p h
    · exact FB.out p h) (by simp [HN.out, HM.out]) (by omega) (by rw [listS_append, HXA.out, HXB.out]) (by simp [HNA.out, HNB.out]))
  go_wp2_with fail
  refine HC.out.mono ?_
  rintro e w4 ⟨A4, c4, rfl, hown4, b4⟩
  have HB4 := Lib.hid (HB3.out.trans (b4.mono hsz3))
  have HO4 := Lib.hid hown4
  have HOLT : Hid (∀ q, (Value.slice A4 (na + nb) c4).ownBlock = some q → q < w4.heap.size) := Lib.hid (fun q hq => (hown4.lt q hq).2)
  clear hown4 b4 HC HR3 HB3
  have HC := Lib.hid (list_as A cA n na a xa w4 ((HA.out.below HB4.out (Nat.le_refl _)).more HB4.out.size) FA.out HN.out (by omega) HXA.out HNA.out)
  go_wp2_with fail
  refine HC.out.mono ?_
  rintro e w5 ⟨A5, c5, rfl, hown5, b5⟩
  have HB5 := Lib.hid (bnext HB4.out b5)
  have HO4' := Lib.hid (own_below HO4.out b5 (Nat.le_refl _))
  have HO5 := Lib.hid hown5
  have hs45 := b5.size
  have hs4 := HB4.out.size
  clear hown5 b5 HC HO4 HB4
  have HC := Lib.hid (list_as B cB m nb b xb w5 ((HB.out.below HB5.out (Nat.le_refl _)).more HB5.out.size) FB.out HM.out (by omega) HXB.out HNB.out)
  go_wp2_with fail
  refine HC.out.mono ?_
  rintro e w6 ⟨A6, c6, rfl, hown6, b6⟩
  have HB6 := Lib.hid (bnext HB5.out b6)
  have HO46 := Lib.hid (own_below HO4'.out b6 (Nat.le_refl _))
  have HO56 := Lib.hid (own_below HO5.out b6 (Nat.le_refl _))
  have HR6 := Lib.hid (Row.of_own hown6)
  have hs56 := b6.size
  have hs6 := HB6.out.size
  have h46 : ∀ q, (Value.slice A5 na c5).ownBlock = some q → w4.heap.size ≤ q := fun q hq => (HO5.out.lt q hq).1
  have H46 := Lib.hid h46
  clear hown6 b6 HC HO4' HO5 HB5 HA HB FA FB HXA HXB h46
  go_wp2_with (at_builtin; refine wpl_append _ rfl (.tmp 31) (.tmp 33) 30 rfl w4.heap.size 25 (.int .u16 0) 1 2 Try.underlying30 info_u16 rfl (by decide) (.slice A5 na c5) na (n16 xa) rfl HO56.out w6.heap.size A6 nb c6 (n16 xb) rfl HR6.out (n16_one xb) ?e1 ?e2 ?e3 ?_)
  case e1 => unfold maxLen; omega
  case e2 => omega
  case e3 => omega
  intro v7 w7 hown7 hg7 _
  obtain ⟨A7, c7, rfl⟩ := own_form hown7
  have hr7 : Row w7 w7.heap.size 1 A7 (na + nb) (n16 (xa ++ xb)) := by
    have := Row.of_own hown7
    rw [← n16_append] at this
    exact this
  have hr4 : Row w7 w7.heap.size 1 A4 (na + nb) (n16 (xa ++ xb)) := by
    refine Row.of_own (HO46.out.kept hg7 ?_)
    cases hq : (Value.slice A4 (na + nb) c4).ownBlock with
    | none => exact .inl rfl
    | some q =>
      refine .inr (fun e => ?_)
      have h1 := HOLT.out q hq
      have h2 := H46.out q e.symm
      omega
  have HB7 : Below w.heap.size w w7 := HB6.out.grown hg7 hs6 (fun q hq => by have := H46.out q hq; omega)
  have HR7 := Lib.hid hr7
  have HR4 := Lib.hid hr4
  have HBB := Lib.hid HB7
  clear hown7 hg7 hr7 hr4 HB7 HB6 HO46 HO56 HR6 H46 HOLT
  go_wp2_with fail
  go_loopw [9] (fun i wx => ∃ k : Nat, k ≤ na + nb ∧ i = .int .i64 k ∧ Hid (∃ q, wx = w7.drewN q)) (fun i _ => (na + nb) - (intOf i).toNat)
  case atStart => exact ⟨0, Nat.zero_le _, rfl, Lib.hid ⟨0, rfl⟩⟩
  case round =>
    obtain ⟨k, hk, rfl, HW⟩ := hrel
    by_cases hlt : k < na + nb
    · obtain ⟨x, hx⟩ : ∃ x, (xa ++ xb)[k]? = some x := ⟨(xa ++ xb)[k]'(by simp [HNA.out, HNB.out]; omega), by simp⟩
      obtain ⟨g1, o1, rfl, hg1, k1⟩ := HR4.out.2 (by omega)
      obtain ⟨g2, o2, rfl, hg2, k2⟩ := HR7.out.2 (by omega)
      have d1 : wr.cell? ⟨g1, o1 + k, none⟩ = some (.int .u16 (x : Int)) := by obtain ⟨q, rfl⟩ := HW.out; exact k1 k _ (n16_get _ _ _ hx)
      have d2 : wr.cell? ⟨g2, o2 + k, none⟩ = some (.int .u16 (x : Int)) := by obtain ⟨q, rfl⟩ := HW.out; exact k2 k _ (n16_get _ _ _ hx)
      have hi1 : (0 : Int) ≤ (k : Int) := by omega
      have hi2 : (k : Int) < (na : Int) + (nb : Int) := by omega
      clear k1 k2 hx hg1 hg2
      go_wp2_with fail
      go_quiet (fail)
      go_wp2
      go_roundw
      case rel => exact ⟨k + 1, by omega, by go_num, Lib.hid (by obtain ⟨q, rfl⟩ := HW.out; exact ⟨_, World.drewN_drewN _ _ _⟩)⟩
      case measure => simp [intOf]; omega
    · obtain rfl : k = na + nb := by omega
      go_wp2
      go_ret
      obtain ⟨q, rfl⟩ := HW.out
      exact ⟨rfl, bdrewN HBB.out q⟩

set_option maxRecDepth 100000 in
theorem lifted (os : Os) (started : os.Started) (H : Type) (enc : TypeId × Value → H) :
    ReturnsInHanded {} Try.checked os 8 .any (Rows.nackJoinsSpec.pre6 enc Try.prog Try.f8 Rows.nackJoinsRow.domain false) (Rows.nackJoinsSpec.post enc Try.prog Try.f8 false true false false) := by
  refine returnsInHanded_of_change (C := Try.checked) own started (by kernel_rfl) Try.func8
    (ChangeSpec.witness6 (enc := enc) (C := Try.checked) false ⟨#[], #[.slice none 0 0, .slice none 0 0], []⟩ 8 (by kernel_rfl) (by kernel_rfl) (by kernel_rfl) (by kernel_rfl)) ?_
  intro W base args ds gs before hval0 hW _ _
  have hval : ∀ (j : Nat) t v, Try.f8.params[j]? = some t → args[j]? = some v → Value.okWide Try.prog W .any base t v := hval0
  have hW' := hW
  obtain ⟨p, q, hA0, hV, _, _, _⟩ := hW
  have hA : DataW.TrodAll enc Try.prog W 0 (fun _ => true) true Try.f8.params.toList args.toList ds p := hA0
  rw [Try.params8] at hA hval
  obtain ⟨v0, vs0, d0, ds0, p0, q0, hargs, rfl, _, h0, r0⟩ := trodAll_cons hA
  obtain ⟨v1, vs1, d1, ds1, p1, q1, rfl, rfl, _, h1, r1⟩ := trodAll_cons r0
  obtain ⟨rfl, rfl, _⟩ := trodAll_nil r1
  obtain rfl : args = #[v0, v1] := by cases args; simp_all
  obtain ⟨rfl, _⟩ := trodVars_none hV
  refine law_post (s := Rows.nackJoinsSpec) rfl rfl (by rw [Try.params8]; intro t ht; simp at ht; rcases ht with rfl | rfl <;> exact ⟨by kernel_rfl, of_decide_eq_true (by kernel_rfl)⟩) rfl hW' ?_
  obtain ⟨A0, c0, l0, rfl, hl0, hr0, hf0⟩ := open_pairs (hval 0 22 v0 rfl rfl) h0
  obtain ⟨A1, c1, l1, rfl, hl1, hr1, hf1⟩ := open_pairs (hval 1 22 v1 rfl rfl) h1
  exact walk W A0 c0 l0 hl0 hr0 hf0 A1 c1 l1 hl1 hr1 hf1

theorem over : Rows.nackJoinsRow.holds Try.pinned (OpenSpec.ofChange Rows.nackJoinsSpec) :=
  OpenClaim.holds_of_wide 8 Try.f8 rfl rfl rfl rfl rfl rfl rfl ⟨rfl, rfl, rfl, rfl, rfl⟩ rfl rfl rfl rfl rfl (by kernel_rfl) Try.func8 (by kernel_rfl)
    (of_decide_eq_true (by kernel_rfl)) (by unfold Func.isWrapper; first | (rw [if_pos (by decide +kernel)]; kernel_rfl) | (rw [if_neg (by decide +kernel)]; exact ⟨rfl, rfl⟩))
    (fun os started H enc _ => lifted os started H enc)

/-- The statement. -/
theorem nackJoins_holds : Rows.NackJoinsSaid := over

end Go.Proofs.Ytoooemmjfmdiaaa.NJoins
