/-
  Proved: NackPacks returns true for every row of numbers: the pairs are the document's. Conditions: none.
-/
import Derived.Test.YtoooemmjfmdiaaaNacF
namespace Go.Proofs.Ytoooemmjfmdiaaa.NPacks
open Go.ChangeShapes Go.WideShapes Go.ChangeAt Go.RowKit

theorem packS_length (l : List Nat) : (packS l).length ≤ l.length + 1 := by
  cases l with
  | nil => simp [packS]
  | cons x r => have := packC_length r x 0; simp only [packS, List.length_cons]; omega
theorem fold_fit : ∀ (l : List Nat) (ps : List (Nat × Nat)), Fit ps → (∀ x ∈ l, x < 65536) → Fit (l.foldl stepP ps)
  | [], _, h, _ => h
  | x :: r, ps, h, hx => fold_fit r _ (stepP_fit ps x h (hx x (by simp))) (fun y hy => hx y (by simp [hy]))

set_option maxRecDepth 100000 in
set_option maxHeartbeats 1600000 in
theorem walk (w : World) (A : Option Addr) (c : Nat) (l : List Nat) (hl : l.length ≤ maxLen) (hr : Row w w.heap.size 1 A l.length (n16 l)) (hf : ∀ x ∈ l, x < 65536) :
    Calls Try.prog 4 #[.slice A l.length c] w fun e w' => e = .returned (.bool true) ∧ Below w.heap.size w w' := by
  unfold maxLen at hl
  obtain ⟨n, hn⟩ : ∃ n, l.length = n := ⟨_, rfl⟩
  rw [hn] at hl hr ⊢
  by_cases h1 : 300 < n
  · clear hr hn hf
    go_enter Try.func4, Try.ntmps4
    go_wp2_with fail
    refine (awake_any w).mono ?_
    rintro e w1 ⟨rfl, b1⟩
    go_wp2
    go_ret
    exact ⟨rfl, b1⟩
  have H := Lib.hid hr
  have HF := Lib.hid hf
  have HN := Lib.hid hn
  clear hr hf hn
  go_enter Try.func4, Try.ntmps4
  go_wp2_with fail
  refine (awake_any w).mono ?_
  rintro e w1 ⟨rfl, b1⟩
  go_wp2_with fail
  go_loopw [4, 5] (fun v i wr => ∃ k : Nat, k ≤ n ∧ i = .int .i64 k ∧ wr.ownsRow w.heap.size 3 1 v k (i64s (l.take k)) ∧ Below w.heap.size w wr) (fun _ i _ => n - (intOf i).toNat)
  case atStart => exact ⟨0, Nat.zero_le _, rfl, World.ownsRow_nil _ _ _ _, b1⟩
  case round =>
    clear b1
    obtain ⟨k, hk, rfl, hown, hb⟩ := hrel
    obtain ⟨Av, cv, rfl⟩ := own_form hown
    by_cases hlt : k < n
    · obtain ⟨x, hp⟩ : ∃ x, l[k]? = some x := ⟨l[k]'(by rw [HN.out]; exact hlt), by simp⟩
      obtain ⟨g, o, hA, hg, hc0⟩ := n16_at (by rw [HN.out]; exact H.out.below hb (Nat.le_refl _)) k x hp
      subst hA
      have HT : Hid (i64s (l.take (k + 1)) = i64s (l.take k) ++ [.int .i64 (x : Int)]) := Lib.hid (by rw [List.take_add_one, hp, i64s_append]; rfl)
      have hx := HF.out _ (List.mem_of_getElem? hp)
      have hi1 : (0 : Int) ≤ (k : Int) := by omega
      have hi2 : (k : Int) < (n : Int) := by omega
      have hsz := hb.size
      have hrow : Row (wr.alloc (.cells #[.int .i64 (x : Int)] 3)) (wr.heap.size + 1) 1 (some ⟨wr.heap.size, 0, none⟩) 1 [.int .i64 (x : Int)] := Row.one _ _ _
      have hne : ∀ q, (Value.slice Av k cv).ownBlock = some q → w.heap.size ≤ q ∧ q < wr.heap.size := fun q hq => hown.lt q hq
      have HO := Lib.hid hown
      have HB := Lib.hid hb
      have HR := Lib.hid hrow
      have HNE := Lib.hid hne
      clear hown hb hp hrow hne
      go_wp2_with (at_builtin; refine wpl_append _ rfl (.tmp 21) (.tmp 27) 32 rfl w.heap.size 3 (.int .i64 0) 1 8 Try.underlying32 info_int rfl (by decide) (.slice Av k cv) k (i64s (l.take k)) rfl (HO.out.alloc _) (wr.heap.size + 1) (some ⟨wr.heap.size, 0, none⟩) 1 1 [.int .i64 (x : Int)] rfl HR.out (by simp [Value.oneCell']) ?c1 ?c2 ?c3 ?_)
      case c1 => unfold maxLen; omega
      case c2 => omega
      case c3 => simp; omega
      intro v3 w3 hown3 hg3 _
      have hb3 : Below w.heap.size w w3 := (HB.out.alloc (by omega) _).grown hg3 (by simp; omega) (fun q hq => (HNE.out q hq).1)
      have hown3' : w3.ownsRow w.heap.size 3 1 v3 (k + 1) (i64s (l.take (k + 1))) := by
        rw [HT.out]
        exact hown3
      clear hc0 hown3 hg3 HO HB HR HNE hsz
      go_wp2
      go_roundw
      case rel => exact ⟨k + 1, by omega, by go_num, hown3', hb3⟩
      case measure => simp [intOf]; omega
    · obtain rfl : k = n := by omega
      have hrow : Row wr wr.heap.size 1 Av k (i64s l) := by
        have := Row.of_own hown
        rwa [List.take_of_length_le (by rw [HN.out]; exact Nat.le_refl _)] at this
      have hsz := hb.size
      have HR := Lib.hid hrow
      have HB := Lib.hid hb
      clear hown hb hrow
      obtain ⟨ps, hps⟩ : ∃ x, packS l = x := ⟨_, rfl⟩
      obtain ⟨N, hN⟩ : ∃ x, ps.length = x := ⟨_, rfl⟩
      have hN2 : N ≤ 301 := by rw [← hN, ← hps]; have := packS_length l; have := HN.out; omega
      have HXS := Lib.hid hps
      have HNN := Lib.hid hN
      clear hps hN
      have HC := Lib.hid (pack_as A c k N l ps wr ((H.out.below HB.out (Nat.le_refl _)).more hsz) HF.out HN.out (by omega) HXS.out HNN.out)
      go_wp2_with fail
      refine HC.out.mono ?_
      rintro e w4 ⟨A4, c4, rfl, hown4, b4⟩
      have HR4 := Lib.hid ((HR.out.below b4 (Nat.le_refl _)).more b4.size)
      have HO4 := Lib.hid hown4
      have HB4 := Lib.hid (bnext HB.out b4)
      clear hown4 b4 HC HB HR H
      have HC := Lib.hid (refPack_as Av cv k N l ps w4 HR4.out HF.out HN.out (by omega) HXS.out HNN.out)
      go_wp2_with fail
      refine HC.out.mono ?_
      rintro e w5 ⟨A5, c5, rfl, hown5, b5⟩
      have HX := Lib.hid (Row.of_own (own_below HO4.out b5 (Nat.le_refl _)))
      have HY := Lib.hid (Row.of_own hown5)
      have HB5 := Lib.hid (bnext HB4.out b5)
      have HLT : Hid (Fit ps) := Lib.hid (by rw [← HXS.out, ← fold_packS]; exact fold_fit l [] (by intro p hp; simp at hp) HF.out)
      clear hown5 b5 HC HO4 HB4 HR4 HXS HF
      go_wp2_with fail
      go_loopw [8] (fun i wx => ∃ k : Nat, k ≤ N ∧ i = .int .i64 k ∧ Hid (∃ q, wx = w5.drewN q)) (fun i _ => N - (intOf i).toNat)
      case atStart => exact ⟨0, Nat.zero_le _, rfl, Lib.hid ⟨0, rfl⟩⟩
      case round =>
        obtain ⟨j, hj, rfl, HW⟩ := hrel
        by_cases hlt2 : j < N
        · obtain ⟨⟨p, m⟩, hx⟩ : ∃ x, ps[j]? = some x := ⟨ps[j]'(by rw [HNN.out]; exact hlt2), by simp⟩
          obtain ⟨g1, o1, rfl, hg1, k1, k2⟩ := prC_at (by rw [HNN.out]; exact HX.out) j (p, m) hx
          obtain ⟨g2, o2, rfl, hg2, k3, k4⟩ := dpC_at (by rw [HNN.out]; exact HY.out) j (p, m) hx
          have d1 : wr.cell? ⟨g1, o1 + j * 2, none⟩ = some (.int .u16 (p : Int)) := by obtain ⟨q, rfl⟩ := HW.out; exact k1
          have d2 : wr.cell? ⟨g1, o1 + j * 2 + 1, none⟩ = some (.int .u16 (m : Int)) := by obtain ⟨q, rfl⟩ := HW.out; exact k2
          have d3 : wr.cell? ⟨g2, o2 + j * 2, none⟩ = some (.int .i64 (p : Int)) := by obtain ⟨q, rfl⟩ := HW.out; exact k3
          have d4 : wr.cell? ⟨g2, o2 + j * 2 + 1, none⟩ = some (.int .i64 (m : Int)) := by obtain ⟨q, rfl⟩ := HW.out; exact k4
          have hx6 := HLT.out (p, m) (List.mem_of_getElem? hx)
          have hp6 : p < 65536 := hx6.1
          have hm6 : m < 65536 := hx6.2
          have hi1 : (0 : Int) ≤ (j : Int) := by omega
          have hi2 : (j : Int) < (N : Int) := by omega
          clear k1 k2 k3 k4 hx hg1 hg2 hx6
          go_wp2_with fail
          go_quiet (fail)
          go_wp2
          go_roundw
          case rel => exact ⟨j + 1, by omega, by go_num, Lib.hid (by obtain ⟨q, rfl⟩ := HW.out; exact ⟨_, World.drewN_drewN _ _ _⟩)⟩
          case measure => simp [intOf]; omega
        · obtain rfl : j = N := by omega
          go_wp2
          go_ret
          obtain ⟨q, rfl⟩ := HW.out
          exact ⟨rfl, bdrewN HB5.out q⟩

set_option maxRecDepth 100000 in
theorem lifted (os : Os) (started : os.Started) (H : Type) (enc : TypeId × Value → H) :
    ReturnsInHanded {} Try.checked os 4 .any (Rows.nackPacksSpec.pre6 enc Try.prog Try.f4 Rows.nackPacksRow.domain false) (Rows.nackPacksSpec.post enc Try.prog Try.f4 false true false false) := by
  refine returnsInHanded_of_change (C := Try.checked) own started (by kernel_rfl) Try.func4
    (ChangeSpec.witness6 (enc := enc) (C := Try.checked) false ⟨#[], #[.slice none 0 0], []⟩ 8 (by kernel_rfl) (by kernel_rfl) (by kernel_rfl) (by kernel_rfl)) ?_
  intro W base args ds gs before hval0 hW _ _
  have hval : ∀ (j : Nat) t v, Try.f4.params[j]? = some t → args[j]? = some v → Value.okWide Try.prog W .any base t v := hval0
  have hW' := hW
  obtain ⟨p, q, hA0, hV, _, _, _⟩ := hW
  have hA : DataW.TrodAll enc Try.prog W 0 (fun _ => true) true Try.f4.params.toList args.toList ds p := hA0
  rw [Try.params4] at hA hval
  obtain ⟨v0, vs0, d0, ds0, p0, q0, hargs, rfl, _, h0, r0⟩ := trodAll_cons hA
  obtain ⟨rfl, rfl, _⟩ := trodAll_nil r0
  obtain rfl : args = #[v0] := by cases args; simp_all
  obtain ⟨rfl, _⟩ := trodVars_none hV
  refine law_post (s := Rows.nackPacksSpec) rfl rfl (by rw [Try.params4]; intro t ht; simp at ht; rcases ht with rfl <;> exact ⟨by kernel_rfl, of_decide_eq_true (by kernel_rfl)⟩) rfl hW' ?_
  obtain ⟨A0, c0, l0, rfl, hl0, hr0, hx0⟩ := open_u16s (hval 0 30 v0 rfl rfl) h0
  exact walk W A0 c0 l0 hl0 hr0 hx0

theorem over : Rows.nackPacksRow.holds Try.pinned (OpenSpec.ofChange Rows.nackPacksSpec) :=
  OpenClaim.holds_of_wide 4 Try.f4 rfl rfl rfl rfl rfl rfl rfl ⟨rfl, rfl, rfl, rfl, rfl⟩ rfl rfl rfl rfl rfl (by kernel_rfl) Try.func4 (by kernel_rfl)
    (of_decide_eq_true (by kernel_rfl)) (by unfold Func.isWrapper; first | (rw [if_pos (by decide +kernel)]; kernel_rfl) | (rw [if_neg (by decide +kernel)]; exact ⟨rfl, rfl⟩))
    (fun os started H enc _ => lifted os started H enc)

/-- The statement. -/
theorem nackPacks_holds : Rows.NackPacksSaid := over

end Go.Proofs.Ytoooemmjfmdiaaa.NPacks
