/-
  Proved: NackWithin returns true for every pair: its packets are its first one, and as many as bits, each 1 to 16 behind it, rising. Conditions: none.
-/
import Derived.Test.YtoooemmjfmdiaaaNacF
import Derived.Lib.SmallJoins
namespace Go.Proofs.Ytoooemmjfmdiaaa.NWithin
open Go.Joins Go.ChangeShapes Go.WideShapes Go.ChangeAt Go.RowKit

theorem open_pair {H : Type} {enc : TypeId × Value → H} {W : World} {r : Reach} {b0 : Nat} {v : Value} {d : DataW H} {p : List MemPlace} (hok : Value.okWide Try.prog W r b0 27 v) (h : DataW.Trod enc Try.prog W 0 (fun _ => true) true 27 v d p) :
    ∃ x y : Nat, v = .agg #[.int .u16 (x : Int), .int .u16 (y : Int)] ∧ x < 65536 ∧ y < 65536 := by
  obtain ⟨v0, v1, y0, y1, n, rfl, _, _, h0, h1⟩ := open_agg2 Try.underlying27 (by kernel_rfl) (by kernel_rfl) hok h
  obtain ⟨a, ha, _, hwa⟩ := DataW.trod_int Try.underlying25 h0
  obtain ⟨b, hb, _, hwb⟩ := DataW.trod_int Try.underlying25 h1
  have h3 := wf_u16 hwa
  have h4 := wf_u16 hwb
  simp only [List.cons.injEq, and_true] at ha hb
  exact ⟨a.toNat, b.toNat, by rw [ha, hb, Int.toNat_of_nonneg h3.1, Int.toNat_of_nonneg h4.1], by omega, by omega⟩
theorem bitsN_snoc (m : Nat) : ∀ (n k : Nat), bitsN m k (n + 1) = bitsN m k n + m / 2 ^ (k + n) % 2
  | 0, k => by simp [bitsN]
  | n + 1, k => by
    have ih := bitsN_snoc m n (k + 1)
    rw [bitsN, ih, bitsN.eq_2 m k n, show k + 1 + n = k + (n + 1) by omega]
    omega
theorem bitsN_le (m : Nat) : ∀ (n k : Nat), bitsN m k n ≤ n
  | 0, k => by simp [bitsN]
  | n + 1, k => by have := bitsN_le m n (k + 1); unfold bitsN; omega
theorem listP_length (p m : Nat) : (listP p m).length = 1 + bitsN m 0 16 := by unfold listP; rw [List.length_cons, aft_length]; omega
theorem list_steps (p m : Nat) (hp : p < 65536) (i x y : Nat) (hx : (listP p m)[i + 1]? = some x) (hy : (listP p m)[i]? = some y) : farN p x ≤ 16 ∧ farN p y < farN p x := by
  unfold listP at hx hy
  rw [List.getElem?_cons_succ] at hx
  obtain ⟨h1, h2, _⟩ := aft_steps p m hp 16 0 i x hx (by decide)
  cases i with
  | zero =>
    simp at hy
    subst hy
    exact ⟨by omega, by rw [farN_self p hp]; omega⟩
  | succ i =>
    rw [List.getElem?_cons_succ] at hy
    obtain ⟨_, _, h3⟩ := aft_steps p m hp 16 0 i y hy (by decide)
    exact ⟨by omega, h3 x hx⟩
theorem wrap_far (p x : Nat) (hp : p < 65536) (hx : x < 65536) : IntKind.u16.wrap ((x : Int) - p) = ((farN p x : Nat) : Int) := by
  rw [IntKind.wrap_u16]; unfold farN; omega

set_option maxRecDepth 100000 in
set_option maxHeartbeats 1600000 in
theorem walk (w : World) (p : Nat) (hp : p < 65536) (m : Nat) (hm : m < 65536) :
    Calls Try.prog 7 #[.agg #[.int .u16 (p : Int), .int .u16 (m : Int)]] w fun e w' => e = .returned (.bool true) ∧ Below w.heap.size w w' := by
  have HB := Lib.hid ((Below.refl w.heap.size w).alloc (Nat.le_refl _) (.cells #[.int .u16 (p : Int), .int .u16 (m : Int)] 27))
  have HW := Lib.hid (Whole.new w 27 #[.int .u16 (p : Int), .int .u16 (m : Int)])
  obtain ⟨xs, hxs⟩ : ∃ x, listP p m = x := ⟨_, rfl⟩
  obtain ⟨N, hN⟩ : ∃ x, xs.length = x := ⟨_, rfl⟩
  have hNb : N = 1 + bitsN m 0 16 := by rw [← hN, ← hxs, listP_length]
  have hN17 : N ≤ 17 := by have := bitsN_le m 16 0; omega
  have hN1 : 1 ≤ N := by omega
  have HST := Lib.hid (list_steps p m hp)
  have HH := Lib.hid (show xs[0]? = some p by rw [← hxs]; rfl)
  have HXS := Lib.hid hxs
  have HLT := Lib.hid (show ∀ x ∈ xs, x < 65536 by
    rw [← hxs]
    intro x hx
    have := listS_lt [(p, m)] (by simpa using hp) x
    simp [listS] at this
    exact this hx)
  have HNN := Lib.hid hN
  have HNB := Lib.hid hNb
  clear hxs hN hNb
  go_enter Try.func7, Try.ntmps7
  go_wp2_with fail
  refine (awake_any _).mono ?_
  rintro e w1 ⟨rfl, b1⟩
  have HW1 := Lib.hid (HW.out.below b1 HW.out.lt)
  have HB1 := Lib.hid (HB.out.trans (b1.mono (by simp)))
  have hsz1 := HB1.out.size
  have hlt1 := HW1.out.lt
  have hd0 := HW1.out.cell 0
  have hd1 := HW1.out.cell 1
  simp at hd0 hd1
  have HR := Lib.hid (row_pair w1 (.int .u16 (p : Int)) (.int .u16 (m : Int)))
  clear b1 HB HW
  have HC := Lib.hid (list_as (some ⟨w1.heap.size, 0, none⟩) 1 1 N [(p, m)] xs (w1.alloc (.cells #[.int .u16 (p : Int), .int .u16 (m : Int)] 27)) (by simpa [prC] using HR.out) (by intro q hq; simp at hq; subst hq; exact ⟨hp, hm⟩) rfl (by decide) (by rw [← HXS.out]; simp [listS]) HNN.out)
  clear HR
  go_wp2_with fail
  refine HC.out.mono ?_
  rintro e w2 ⟨A2, c2, rfl, hown2, b2⟩
  have HW2 := Lib.hid ((HW1.out.alloc (.cells #[.int .u16 (p : Int), .int .u16 (m : Int)] 27)).below b2 (by simp; omega))
  have HB2 := Lib.hid ((HB1.out.alloc hsz1 (.cells #[.int .u16 (p : Int), .int .u16 (m : Int)] 27)).trans (b2.mono (by simp; omega)))
  obtain ⟨g2, rfl, _, _, hx2⟩ := own_cell hown2 (by omega)
  have HX : Hid (∀ j x : Nat, xs[j]? = some x → w2.cell? ⟨g2, j, none⟩ = some (.int .u16 (x : Int))) := Lib.hid (fun j x h => by
    have hj := (List.getElem?_eq_some_iff.1 h).1
    rw [HNN.out] at hj
    rw [hx2 j (by omega)]
    exact n16_get _ _ _ h)
  clear hown2 b2 HC HB1 HW1 hd0 hd1 hlt1 hsz1 hx2
  have e0 := HW2.out.cell 0
  have e1 := HW2.out.cell 1
  simp at e0 e1
  go_wp2_with fail
  go_loop [5, 6, 7] (fun n q i => ∃ (j Q S : Nat), j ≤ 16 ∧ i = .int .i64 j ∧ q = .int .u16 Q ∧ Q < 65536 ∧ Hid (Q = m / 2 ^ j) ∧ n = .int .i64 S ∧ S ≤ 1 + j ∧ Hid (S = 1 + bitsN m 0 j)) (fun _ _ i => 16 - (intOf i).toNat)
  case atStart => exact ⟨0, m, 1, by omega, rfl, rfl, hm, Lib.hid (by simp), rfl, by omega, Lib.hid rfl⟩
  case round =>
    obtain ⟨j, Q, S, hj, rfl, rfl, hQ, HQ, rfl, hS, HS⟩ := hrel
    by_cases hj16 : j < 16
    · have HS' : Hid (S + Q % 2 = 1 + bitsN m 0 (j + 1)) := Lib.hid (by rw [bitsN_snoc, HS.out, HQ.out, Nat.zero_add]; omega)
      have HQ' : Hid (Q / 2 = m / 2 ^ (j + 1)) := Lib.hid (by rw [HQ.out, half_half])
      go_wp2
      go_round
      case rel => exact ⟨j + 1, Q / 2, S + Q % 2, by omega, by go_num, by go_num, by omega, HQ', by go_num, by omega, HS'⟩
      case measure => simp [intOf]; omega
    · obtain rfl : j = 16 := by omega
      obtain rfl : S = N := by rw [HS.out, HNB.out]
      have d0 := HX.out 0 p HH.out
      have hi0 : (0 : Int) < (S : Int) := by omega
      clear hQ HQ HS
      go_wp2_with fail
      go_quiet (fail)
      obtain ⟨w3, hw3⟩ : ∃ w3, w3 = w2.drewN nq := ⟨_, rfl⟩
      rw [← hw3]
      have HX3 : Hid (∀ j x : Nat, xs[j]? = some x → w3.cell? ⟨g2, j, none⟩ = some (.int .u16 (x : Int))) := Lib.hid (by rw [hw3]; exact HX.out)
      have HP3 : Hid (w3.cell? ⟨w.heap.size, 0, none⟩ = some (.int .u16 (p : Int))) := Lib.hid (by rw [hw3]; exact e0)
      have HB3 : Hid (Below w.heap.size w w3) := Lib.hid (by rw [hw3]; exact bdrewN HB2.out _)
      clear hw3 HX HB2 HW2 e0 e1 d0
      go_wp2_with fail
      go_loopw [8] (fun i wx => ∃ k : Nat, 1 ≤ k ∧ k ≤ S ∧ i = .int .i64 k ∧ Hid (∃ q, wx = w3.drewN q)) (fun i _ => S - (intOf i).toNat)
      case atStart => exact ⟨1, by omega, by omega, rfl, Lib.hid ⟨0, rfl⟩⟩
      case round =>
        obtain ⟨k, hk1, hk, rfl, HW⟩ := hrel
        by_cases hlt2 : k < S
        · obtain ⟨x, hx⟩ : ∃ x, xs[k]? = some x := ⟨xs[k]'(by rw [HNN.out]; exact hlt2), by simp⟩
          obtain ⟨y, hy⟩ : ∃ y, xs[k - 1]? = some y := ⟨xs[k - 1]'(by rw [HNN.out]; omega), by simp⟩
          have d1 : wr.cell? ⟨g2, k, none⟩ = some (.int .u16 (x : Int)) := by obtain ⟨q, rfl⟩ := HW.out; exact HX3.out k x hx
          have d2 : wr.cell? ⟨g2, k - 1, none⟩ = some (.int .u16 (y : Int)) := by obtain ⟨q, rfl⟩ := HW.out; exact HX3.out (k - 1) y hy
          have d3 : wr.cell? ⟨w.heap.size, 0, none⟩ = some (.int .u16 (p : Int)) := by obtain ⟨q, rfl⟩ := HW.out; exact HP3.out
          have hx6 := HLT.out x (List.mem_of_getElem? hx)
          have hy6 := HLT.out y (List.mem_of_getElem? hy)
          have hst := HST.out (k - 1) x y (by rw [HXS.out, show k - 1 + 1 = k by omega]; exact hx) (by rw [HXS.out]; exact hy)
          have wx := wrap_far p x hp hx6
          have wy := wrap_far p y hp hy6
          have t1 : decide (16 < IntKind.u16.wrap ((x : Int) - p)) = false := by rw [wx]; simp; omega
          have t2 : decide (IntKind.u16.wrap ((x : Int) - p) ≤ IntKind.u16.wrap ((y : Int) - p)) = false := by rw [wx, wy]; simp; omega
          have hi1 : (0 : Int) ≤ (k : Int) := by omega
          have hi2 : (k : Int) < (S : Int) := by omega
          have hi3 : (0 : Int) ≤ (k : Int) - 1 := by omega
          have hi4 : (k : Int) - 1 < (S : Int) := by omega
          clear hx hy hst wx wy hx6 hy6 hN17 hN1
          go_wp2_with fail
          go_quiet (fail)
          go_wp2
          go_roundw
          case rel => exact ⟨k + 1, by omega, by omega, by go_num, Lib.hid (by obtain ⟨q, rfl⟩ := HW.out; exact ⟨_, World.drewN_drewN _ _ _⟩)⟩
          case measure => simp [intOf]; omega
        · obtain rfl : k = S := by omega
          go_wp2
          go_ret
          obtain ⟨q, rfl⟩ := HW.out
          exact ⟨rfl, bdrewN HB3.out q⟩

set_option maxRecDepth 100000 in
theorem lifted (os : Os) (started : os.Started) (H : Type) (enc : TypeId × Value → H) :
    ReturnsInHanded {} Try.checked os 7 .any (Rows.nackWithinSpec.pre6 enc Try.prog Try.f7 Rows.nackWithinRow.domain false) (Rows.nackWithinSpec.post enc Try.prog Try.f7 false true false false) := by
  refine returnsInHanded_of_change (C := Try.checked) own started (by kernel_rfl) Try.func7
    (ChangeSpec.witness6 (enc := enc) (C := Try.checked) false ⟨#[], #[.agg #[.int .u16 0, .int .u16 0]], []⟩ 8 (by kernel_rfl) (by kernel_rfl) (by kernel_rfl) (by kernel_rfl)) ?_
  intro W base args ds gs before hval0 hW _ _
  have hval : ∀ (j : Nat) t v, Try.f7.params[j]? = some t → args[j]? = some v → Value.okWide Try.prog W .any base t v := hval0
  have hW' := hW
  obtain ⟨p, q, hA0, hV, _, _, _⟩ := hW
  have hA : DataW.TrodAll enc Try.prog W 0 (fun _ => true) true Try.f7.params.toList args.toList ds p := hA0
  rw [Try.params7] at hA hval
  obtain ⟨v0, vs0, d0, ds0, p0, q0, hargs, rfl, _, h0, r0⟩ := trodAll_cons hA
  obtain ⟨rfl, rfl, _⟩ := trodAll_nil r0
  obtain rfl : args = #[v0] := by cases args; simp_all
  obtain ⟨rfl, _⟩ := trodVars_none hV
  refine law_post (s := Rows.nackWithinSpec) rfl rfl (by rw [Try.params7]; intro t ht; simp at ht; rcases ht with rfl <;> exact ⟨by kernel_rfl, of_decide_eq_true (by kernel_rfl)⟩) rfl hW' ?_
  obtain ⟨x0, y0, rfl, hx0, hy0⟩ := open_pair (hval 0 27 v0 rfl rfl) h0
  exact walk W x0 hx0 y0 hy0

theorem over : Rows.nackWithinRow.holds Try.pinned (OpenSpec.ofChange Rows.nackWithinSpec) :=
  OpenClaim.holds_of_wide 7 Try.f7 rfl rfl rfl rfl rfl rfl rfl ⟨rfl, rfl, rfl, rfl, rfl⟩ rfl rfl rfl rfl rfl (by kernel_rfl) Try.func7 (by kernel_rfl)
    (of_decide_eq_true (by kernel_rfl)) (by unfold Func.isWrapper; first | (rw [if_pos (by decide +kernel)]; kernel_rfl) | (rw [if_neg (by decide +kernel)]; exact ⟨rfl, rfl⟩))
    (fun os started H enc _ => lifted os started H enc)

/-- The statement. -/
theorem nackWithin_holds : Rows.NackWithinSaid := over

end Go.Proofs.Ytoooemmjfmdiaaa.NWithin
