/-
  Proved: RecvOrder returns true for every two numbers: packets that come one behind the other are new each, none is lost, and none misses. Conditions: none.
-/
import Derived.Test.YtphhhfgenhbmlaaRvD
import Derived.Test.YtphhhfgenhbmlaaLift
namespace Go.Proofs.Ytphhhfgenhbmlaa.VOrder
open Go.ChangeShapes Go.WideShapes Go.ChangeAt Go.RowKit
set_option linter.unusedSimpArgs false

/-- A track that k packets came to, one behind the other, from a on. -/
def Ord (a : Int) (k : Nat) (t : Trk) : Prop :=
  (k = 0 ∧ t = Trk.zero) ∨ (1 ≤ k ∧ t.on = true ∧ t.base = a ∧ t.high = a + k - 1 ∧ t.got = k ∧ t.seen < 2 ^ 64 ∧ ∀ j, j < 64 → j < k → t.seen.testBit j = true)
theorem Ord.fit {a : Int} {k : Nat} {t : Trk} (h : Ord a k t) (ha : 0 ≤ a ∧ a < 65536) (hk : k ≤ 3000) : t.Fit := by
  rcases h with ⟨_, rfl⟩ | ⟨h1, _, h2, h3, h4, h5, _⟩
  · exact Trk.Ok.zero.more (by decide)
  · exact ⟨by omega, by omega, by omega, by omega, by omega, by omega, h5⟩
theorem Ord.step {a : Int} {k : Nat} {t : Trk} (h : Ord a k t) (ha : 0 ≤ a ∧ a < 65536) :
    ∃ q, Tk t ((a + k) % 65536) ⟨true, a, a + k, (k : Int) + 1, q⟩ (a + k) 0 ∧ Ord a (k + 1) ⟨true, a, a + k, (k : Int) + 1, q⟩ := by
  rcases h with ⟨rfl, rfl⟩ | ⟨h1, ho, h2, h3, h4, h5, h6⟩
  · refine ⟨1, ⟨?_, rfl, ?_⟩, .inr ⟨by omega, rfl, rfl, by dsimp only; omega, by dsimp only; omega, by dsimp only; decide, fun j _ hj => ?_⟩⟩
    · show (a + ((0 : Nat) : Int)) % 65536 = _
      omega
    · show (⟨true, a + ((0 : Nat) : Int), a + ((0 : Nat) : Int), 1, 1⟩ : Trk) = _
      rw [show a + ((0 : Nat) : Int) = a by omega, show ((0 : Nat) : Int) + 1 = 1 by omega]
    · obtain rfl : j = 0 := by omega
      dsimp only
      decide
  · refine ⟨shlS t.seen 1, ⟨?_, ?_, ?_⟩, .inr ⟨by omega, rfl, rfl, by dsimp only; omega, by dsimp only; omega, by dsimp only; exact shlS_lt _ _, fun j hj1 hj2 => ?_⟩⟩
    · unfold Trk.num
      rw [if_pos ho, h3]
      exact nearS_of _ _ (by omega) (by omega)
    · unfold Trk.kind
      rw [if_pos ho, if_pos (by omega)]
    · unfold Trk.take
      rw [if_pos ho, if_pos (by omega), h2, h4, h3, show (a + (k : Int) - (a + k - 1)).toNat = 1 by omega]
    · dsimp only
      rw [shlS_bit _ _ _ hj1]
      by_cases h0 : j = 0
      · simp [h0]
      · rw [decide_eq_true (show 1 ≤ j by omega), h6 _ (by omega) (by omega)]
        simp
theorem Ord.lost {a : Int} {k : Nat} {t : Trk} (h : Ord a k t) : t.lost = 0 := by
  rcases h with ⟨_, rfl⟩ | ⟨h1, ho, h2, h3, h4, _⟩
  · rfl
  · unfold Trk.lost
    rw [if_pos ho]
    omega
theorem Ord.missing {a : Int} {k : Nat} {t : Trk} (h : Ord a k t) : t.missing = [] := by
  rcases h with ⟨_, rfl⟩ | ⟨h1, ho, h2, h3, h4, h5, h6⟩
  · rfl
  · unfold Trk.missing
    rw [if_pos ho, List.eq_nil_iff_forall_not_mem]
    intro x hx
    obtain ⟨g1, g2, g3, g4⟩ := (t.mem_miss x).1 hx
    rw [h6 _ (by omega) (by omega)] at g4
    cases g4
theorem Ord.got {a : Int} {k : Nat} {t : Trk} (h : Ord a k t) : t.got = k := by
  rcases h with ⟨rfl, rfl⟩ | ⟨_, _, _, _, h4, _⟩
  · rfl
  · exact h4

set_option maxRecDepth 100000 in
set_option maxHeartbeats 1600000 in
theorem walk (w : World) (a : Int) (ha : (Lit.int .u16 a).wf = true) (m : Int) (hm : (Lit.int .u16 m).wf = true) :
    Calls Try.prog 5 #[.int .u16 a, .int .u16 m] w fun e w' => e = .returned (.bool true) ∧ Below w.heap.size w w' := by
  have ha := wf_u16 ha
  have hm := wf_u16 hm
  have CA := Lib.hid (awake_any w)
  obtain ⟨n, hn⟩ : ∃ n : Nat, m % 3000 = (n : Int) := ⟨(m % 3000).toNat, by omega⟩
  have hn2 : n < 3000 := by omega
  go_enter Try.func5, Try.ntmps5
  go_wp2_with fail
  refine CA.out.mono ?_
  rintro e w1 ⟨rfl, b1⟩
  have HW := Lib.hid (Whole.new w1 26 #[.bool false, .int .i64 0, .int .i64 0, .int .i64 0, .int .u64 0])
  have HB := Lib.hid (b1.alloc b1.size (.cells #[.bool false, .int .i64 0, .int .i64 0, .int .i64 0, .int .u64 0] 26))
  obtain ⟨gt, hgt⟩ : ∃ g, g = w1.heap.size := ⟨_, rfl⟩
  have hg := b1.size
  rw [← hgt] at hg HW
  clear b1 CA
  go_wp2_with fail
  rw [← hgt]
  clear hn
  go_loopw [8] (fun i wr => ∃ (k : Nat) (t : Trk), k ≤ n ∧ i = .int .i64 (k : Int) ∧ Hid (Ord a k t) ∧ Hid (Whole wr gt 26 t.cells) ∧ Below w.heap.size w wr) (fun i _ => n - (intOf i).toNat)
  case atStart => exact ⟨0, Trk.zero, Nat.zero_le _, rfl, Lib.hid (.inl ⟨rfl, rfl⟩), HW, HB.out⟩
  case round =>
    clear HW HB hgt
    obtain ⟨k, t, hk, rfl, HT, HW, hb⟩ := hrel
    have HB := Lib.hid hb
    have hgl := HW.out.lt
    clear hb
    by_cases hlt : k < n
    · obtain ⟨q, htk, hq⟩ := HT.out.step ha
      obtain ⟨s, hs⟩ : ∃ s, IntKind.u16.wrap (a + (k : Int)) = s := ⟨_, rfl⟩
      have hsw : (a + (k : Int)) % 65536 = s := by rw [← hs, IntKind.wrap_u16]
      rw [hsw] at htk
      have C := fun w => tk_any t s _ _ _ htk (HT.out.fit ha (by omega)) (by omega) (by omega) w
      have CL := fun w => lost_any _ (hq.fit ha (by omega)) w
      rw [hq.lost] at CL
      have HQ := Lib.hid hq
      simp only [Trk.cells] at CL
      have CL := Lib.hid CL
      clear HT hq hsw htk
      obtain ⟨on, base, high, got, seen⟩ := t
      dsimp only [Trk.cells] at C HW
      have C := Lib.hid C
      have k0 := HW.out.cell 0
      have k1 := HW.out.cell 1
      have k2 := HW.out.cell 2
      have k3 := HW.out.cell 3
      have k4 := HW.out.cell 4
      have hi1 : (0 : Int) ≤ (k : Int) := by omega
      have hi2 : (k : Int) < (n : Int) := by omega
      go_wp2_with fail
      refine (C.out _).mono ?_
      rintro e w2 ⟨rfl, b2⟩
      simp only [Trk.cells]
      have W2 := HW.out.below b2 HW.out.lt
      clear k0 k1 k2 k3 k4 C hs
      have HW2 := Lib.hid W2
      have HB2 := Lib.hid (HB.out.trans (b2.mono HB.out.size))
      have hg2 := W2.lt
      have k0 := W2.cell 0
      have k1 := W2.cell 1
      have k2 := W2.cell 2
      have k3 := W2.cell 3
      have k4 := W2.cell 4
      have f0 := W2.free 0
      have f1 := W2.free 1
      have f2 := W2.free 2
      have f3 := W2.free 3
      have f4 := W2.free 4
      clear b2 W2 HB HW hgl
      go_wp2_with fail
      refine (CL.out _).mono ?_
      rintro e w3 ⟨rfl, b3⟩
      have W3 := ((HW2.out.five (.bool true) (.int .i64 a) (.int .i64 (a + (k : Int))) (.int .i64 ((k : Int) + 1)) (.int .u64 (q : Int))).alloc (.cells #[.bool true, .int .i64 a, .int .i64 (a + (k : Int)), .int .i64 ((k : Int) + 1), .int .u64 (q : Int)] 26)).below b3 (by have := HW2.out.lt; simp; omega)
      have B3 := ((five HB2.out hg (.bool true) (.int .i64 a) (.int .i64 (a + (k : Int))) (.int .i64 ((k : Int) + 1)) (.int .u64 (q : Int))).alloc (five HB2.out hg (.bool true) (.int .i64 a) (.int .i64 (a + (k : Int))) (.int .i64 ((k : Int) + 1)) (.int .u64 (q : Int))).size (.cells #[.bool true, .int .i64 a, .int .i64 (a + (k : Int)), .int .i64 ((k : Int) + 1), .int .u64 (q : Int)] 26))
      have HB3 := Lib.hid (B3.trans (b3.mono B3.size))
      have HW3 := Lib.hid W3
      clear k0 k1 k2 k3 k4 f0 f1 f2 f3 f4 b3 B3 W3 CL HB2 HW2 hg2
      go_wp2
      go_roundw
      case rel => exact ⟨k + 1, _, by omega, by go_num, HQ, HW3, HB3.out⟩
      case measure => simp [intOf]; omega
    · obtain rfl : k = n := by omega
      have CM := fun w => missing_any t (HT.out.fit ha (by omega)) w
      rw [HT.out.missing] at CM
      have hgot := HT.out.got
      obtain ⟨on, base, high, got, seen⟩ := t
      dsimp only at hgot
      subst hgot
      clear HT
      dsimp only [Trk.cells] at CM HW
      have CM := Lib.hid CM
      have k0 := HW.out.cell 0
      have k1 := HW.out.cell 1
      have k2 := HW.out.cell 2
      have k3 := HW.out.cell 3
      have k4 := HW.out.cell 4
      go_wp2_with fail
      refine (CM.out _).mono ?_
      rintro e w2 ⟨A, c, rfl, _, b2⟩
      have W2 := HW.out.below b2 HW.out.lt
      have HB2 := Lib.hid (HB.out.trans (b2.mono HB.out.size))
      clear k0 k1 k2 k3 k4 b2 HB HW CM
      rw [show ([] : List Int).length = 0 from rfl]
      have k3 := W2.cell 3
      go_wp2
      go_ret
      exact ⟨ret_bool rfl, HB2.out⟩

set_option maxRecDepth 100000 in
theorem lifted (os : Os) (started : os.Started) (H : Type) (enc : TypeId × Value → H) :
    ReturnsInHanded {} Try.checked os 5 .any (Rows.recvOrderSpec.pre6 enc Try.prog Try.f5 Rows.recvOrderRow.domain false) (Rows.recvOrderSpec.post enc Try.prog Try.f5 false true false false) := by
  refine returnsInHanded_of_change (C := Try.checked) own started (by kernel_rfl) Try.func5
    (ChangeSpec.witness6 (enc := enc) (C := Try.checked) false ⟨#[], #[.int .u16 0, .int .u16 0], []⟩ 8 (by kernel_rfl) (by kernel_rfl) (by kernel_rfl) (by kernel_rfl)) ?_
  intro W base args ds gs before hval0 hW _ _
  have hval : ∀ (j : Nat) t v, Try.f5.params[j]? = some t → args[j]? = some v → Value.okWide Try.prog W .any base t v := hval0
  have hW' := hW
  obtain ⟨p, q, hA0, hV, _, _, _⟩ := hW
  have hA : DataW.TrodAll enc Try.prog W 0 (fun _ => true) true Try.f5.params.toList args.toList ds p := hA0
  rw [Try.params5] at hA hval
  obtain ⟨v0, vs0, d0, ds0, p0, q0, hargs, rfl, _, h0, r0⟩ := trodAll_cons hA
  obtain ⟨v1, vs1, d1, ds1, p1, q1, rfl, rfl, _, h1, r1⟩ := trodAll_cons r0
  obtain ⟨rfl, rfl, _⟩ := trodAll_nil r1
  obtain rfl : args = #[v0, v1] := by cases args; simp_all
  obtain ⟨rfl, _⟩ := trodVars_none hV
  refine law_post (s := Rows.recvOrderSpec) rfl rfl (by rw [Try.params5]; intro t ht; simp at ht; rcases ht with rfl | rfl <;> exact ⟨by kernel_rfl, of_decide_eq_true (by kernel_rfl)⟩) rfl hW' ?_
  obtain ⟨a0, rfl, _, _, w0⟩ := open_int Try.underlying32 (hval 0 32 v0 rfl rfl) h0
  obtain ⟨a1, rfl, _, _, w1⟩ := open_int Try.underlying32 (hval 1 32 v1 rfl rfl) h1
  exact walk W a0 w0 a1 w1

theorem over : Rows.recvOrderRow.holds Try.pinned (OpenSpec.ofChange Rows.recvOrderSpec) :=
  OpenClaim.holds_of_wide 5 Try.f5 rfl rfl rfl rfl rfl rfl rfl ⟨rfl, rfl, rfl, rfl, rfl⟩ rfl rfl rfl rfl rfl (by kernel_rfl) Try.func5 (by kernel_rfl)
    (of_decide_eq_true (by kernel_rfl)) (by unfold Func.isWrapper; first | (rw [if_pos (by decide +kernel)]; kernel_rfl) | (rw [if_neg (by decide +kernel)]; exact ⟨rfl, rfl⟩))
    (fun os started H enc _ => lifted os started H enc)

/-- The statement. -/
theorem recvOrder_holds : Rows.RecvOrderSaid := over

end Go.Proofs.Ytphhhfgenhbmlaa.VOrder
