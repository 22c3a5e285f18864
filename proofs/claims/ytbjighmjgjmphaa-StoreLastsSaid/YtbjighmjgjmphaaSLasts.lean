/-
  Proved: StoreLasts returns true for every room, every first number and any slices of bytes: of packets of which no two have one number just the last ones are kept, as they were added. Conditions: none.
-/
import Derived.Test.YtbjighmjgjmphaaStoE
namespace Go.Proofs.Ytbjighmjgjmphaa.SLasts
open Go.ChangeShapes Go.WideShapes Go.ChangeAt Go.RowKit

/-- Packets whose numbers are one behind the other. -/
def rowF (f : Int) (l : List (List UInt8)) : List Pk := l.mapIdx fun i d => ⟨(f + i) % 65536, d⟩
theorem rowF_len (f : Int) (l : List (List UInt8)) : (rowF f l).length = l.length := by simp [rowF]
theorem rowF_get (f : Int) (l : List (List UInt8)) (i : Nat) : (rowF f l)[i]? = l[i]?.map fun d => ⟨(f + i) % 65536, d⟩ := by simp [rowF]

theorem lasts_get (L : List Pk) (hd : ∀ (i j : Nat) (p q : Pk), L[i]? = some p → L[j]? = some q → p.seq = q.seq → i = j) (n i : Nat) (p : Pk) (h : L[i]? = some p) : getL (lastN n L) p.seq = if L.length - n ≤ i then some p.d else none := by
  unfold lastN
  generalize L.length - n = q
  by_cases hq : q ≤ i
  · rw [if_pos hq]
    have h1 : (L.drop q)[i - q]? = some p := by rw [List.getElem?_drop, show q + (i - q) = i by omega]; exact h
    have h2 : lastAt ((L.drop q).drop (i - q + 1)) p.seq = none := by
      refine lastAt_none.2 fun p' hp' hs => ?_
      rw [List.drop_drop] at hp'
      obtain ⟨j, hj⟩ := List.getElem?_of_mem hp'
      rw [List.getElem?_drop] at hj
      have := hd i _ p p' h hj hs.symm
      omega
    unfold getL
    rw [lastAt_here _ _ p _ h1 rfl h2, Option.bind_some, h1]
    rfl
  · rw [if_neg hq]
    refine getL_none _ _ fun p' hp' hs => ?_
    obtain ⟨j, hj⟩ := List.getElem?_of_mem hp'
    rw [List.getElem?_drop] at hj
    have := hd i _ p p' h hj hs.symm
    omega

theorem rowF_apart (f : Int) (l : List (List UInt8)) (hl : l.length ≤ 120) (i j : Nat) (p q : Pk) (hi : (rowF f l)[i]? = some p) (hj : (rowF f l)[j]? = some q) (hs : p.seq = q.seq) : i = j := by
  have h1 := (List.getElem?_eq_some_iff.1 hi).1
  have h2 := (List.getElem?_eq_some_iff.1 hj).1
  rw [rowF_len] at h1 h2
  rw [rowF_get] at hi hj
  rw [List.getElem?_eq_getElem h1] at hi
  rw [List.getElem?_eq_getElem h2] at hj
  simp at hi hj
  subst hi
  subst hj
  dsimp only at hs
  omega

theorem bt_at {w wx : World} {A : Option Addr} {ps : List (List UInt8 × Option Addr × Nat)} (h : Row w w.heap.size 1 A ps.length (btC ps)) (h2 : ∀ x ∈ ps, Row w w.heap.size 1 x.2.1 x.1.length (u8s x.1) ∧ x.1.length ≤ maxLen) (hb : Below w.heap.size w wx) (k : Nat) (hk : k < ps.length) :
    ∃ gs o x, A = some ⟨gs, o, none⟩ ∧ gs < w.heap.size ∧ ps[k]? = some x ∧ wx.cell? ⟨gs, o + k, none⟩ = some (.slice x.2.1 x.1.length x.2.2) ∧ Row wx w.heap.size 1 x.2.1 x.1.length (u8s x.1) ∧ x.1.length ≤ maxLen := by
  obtain ⟨gs, o, e1, e2, e3⟩ := (h.below hb (Nat.le_refl _)).2 (by omega)
  obtain ⟨q1, q2⟩ := h2 ps[k] (List.getElem_mem _)
  exact ⟨gs, o, ps[k], e1, e2, by simp [hk], e3 k _ (by simp [btC, hk]), q1.below hb (Nat.le_refl _), q2⟩

set_option maxRecDepth 100000 in
set_option maxHeartbeats 1600000 in
theorem walk (w : World) (r0 : Int) (hr0 : (Lit.int .u8 r0).wf = true) (f : Int) (hf0 : (Lit.int .u16 f).wf = true) (A : Option Addr) (c : Nat) (ps : List (List UInt8 × Option Addr × Nat)) (hl : ps.length ≤ maxLen)
    (hP : Row w w.heap.size 1 A ps.length (btC ps)) (hQ : ∀ x ∈ ps, Row w w.heap.size 1 x.2.1 x.1.length (u8s x.1) ∧ x.1.length ≤ maxLen) :
    Calls Try.prog 4 #[.int .u8 r0, .int .u16 f, .slice A ps.length c] w fun e w' => e = .returned (.bool true) ∧ Below w.heap.size w w' := by
  have hr' := wf_u8 hr0
  have hf' := wf_u16 hf0
  unfold maxLen at hl
  clear hr0 hf0
  by_cases h120 : 120 < ps.length
  · have h1 : (120 : Int) < (ps.length : Int) := by omega
    clear hP hQ hr' hf' h120
    go_enter Try.func4, Try.ntmps4
    go_wp2_with (go_at_call 8; refine (awake_any w).mono ?_; rintro e w1 ⟨rfl, b1⟩)
    go_ret
    exact ⟨rfl, b1⟩
  · have h1 : ¬ (120 : Int) < (ps.length : Int) := by omega
    obtain ⟨N, hN⟩ : ∃ N : Nat, r0 % 60 + 1 = (N : Int) := ⟨(r0 % 60 + 1).toNat, by omega⟩
    have hN1 : 1 ≤ N := by omega
    have hN2 : N ≤ 60 := by omega
    go_enter Try.func4, Try.ntmps4
    go_wp2_with fail
    refine (awake_any w).mono ?_
    rintro e w1 ⟨rfl, b1⟩
    have HB := Lib.hid b1
    clear b1
    go_wp2_with fail
    refine (snew_off N _ hN1 (by omega)).mono ?_
    rintro e w3 ⟨g, m, r, rfl, s3, hg, hm, hr, b3⟩
    have hg' : w.heap.size ≤ g := Nat.le_trans HB.out.size hg
    have hm' : w.heap.size ≤ m := Nat.le_trans HB.out.size hm
    have hr'' : w.heap.size ≤ r := Nat.le_trans HB.out.size hr
    have B3 := bnext HB.out b3
    have hS : ∀ k, k < w.heap.size → ¬ (k = g ∨ k = m ∨ k = r) := by intro k hk; omega
    have HS := Lib.hid hS
    have HP := Lib.hid hP
    have HQ := Lib.hid hQ
    have HF := Lib.hid hf'
    have hat : SKept w g m r N ((rowF f (ps.map (·.1))).take 0) w3 := ⟨by rw [List.take_zero, lastN_nil]; exact s3, B3⟩
    clear hg hm hr s3 b3 HB hN hr' hS hP hQ B3 hf'
    go_wp2_with fail
    go_loopw [10] (fun i wx => ∃ k : Nat, k ≤ ps.length ∧ i = .int .i64 k ∧ SKept w g m r N ((rowF f (ps.map (·.1))).take k) wx) (fun i _ => ps.length - (intOf i).toNat)
    case atStart => exact ⟨0, Nat.zero_le _, rfl, hat⟩
    case round =>
      clear hat
      obtain ⟨k, hk, rfl, hs, hb⟩ := hrel
      obtain ⟨wo, rfl⟩ : ∃ wo : World, wo = wr := ⟨_, rfl⟩
      have zo := hb.size
      by_cases hkl : k < ps.length
      · obtain ⟨gs, o, ⟨d, xA, xc⟩, hA, hgs, hx, hc0, hrow, hdl⟩ := bt_at HP.out HQ.out hb k hkl
        subst hA
        dsimp only at hc0 hrow hdl
        unfold maxLen at hdl
        have hi1 : (0 : Int) ≤ (k : Int) := by omega
        have hi2 : (k : Int) < (ps.length : Int) := by omega
        by_cases h60 : 60 < d.length
        · have h6 : (60 : Int) < (d.length : Int) := by omega
          have HB := Lib.hid hb
          clear hs hb hx hrow h60
          go_wp2
          go_ret
          exact ⟨rfl, HB.out⟩
        · have h6 : ¬ (60 : Int) < (d.length : Int) := by omega
          have hfk := HF.out
          have C1 := add_off g m r N _ ((f + (k : Int)) % 65536) (by
            rw [Lit.wf]
            simp only [Bool.and_eq_true, decide_eq_true_eq]
            have e1 : IntKind.u16.min = 0 := by decide
            have e2 : IntKind.u16.max = 65535 := by decide
            omega) w.heap.size xA xc d (by omega) wo hrow zo (FarA.row hrow hg' hm' hr'') hs
          have e1 := lastN_add N hN1 ((rowF f (ps.map (·.1))).take k) ⟨(f + (k : Int)) % 65536, d⟩
          have e2 := take_one (rowF f (ps.map (·.1))) k ⟨(f + (k : Int)) % 65536, d⟩ (by rw [rowF_get]; simp [hx])
          rw [e1, ← e2] at C1
          have HC1 := Lib.hid C1
          have HB := Lib.hid hb
          have hkw : IntKind.u16.wrap (k : Int) = (k : Int) := by
            show (k : Int) % 65536 = k
            omega
          clear C1 hs hb e1 e2 hx hrow h60 hfk
          go_wp2_with fail
          rw [show IntKind.u16.wrap (f + (k : Int)) = (f + (k : Int)) % 65536 from rfl]
          refine HC1.out.mono ?_
          rintro e w4 ⟨rfl, s4, b4⟩
          have H4 : Hid (SKept w g m r N ((rowF f (ps.map (·.1))).take (k + 1)) w4) := ⟨s4, HB.out.trans (b4.below (B := w.heap.size) zo HS.out)⟩
          clear HC1 s4 b4 HB hc0
          go_wp2
          go_roundw
          case rel => exact ⟨k + 1, hkl, by go_num, H4.out⟩
          case measure => simp [intOf]; omega
      · obtain rfl : k = ps.length := by omega
        have hlr := rowF_len f (ps.map (·.1))
        rw [List.length_map] at hlr
        have hat : SKept w g m r N (rowF f (ps.map (·.1))) wo := by
          rw [List.take_of_length_le (by omega)] at hs
          exact ⟨hs, hb⟩
        have hap := rowF_apart f (ps.map (·.1)) (by simp; omega)
        have HAP := Lib.hid hap
        have HLR := Lib.hid hlr
        clear hs hb hap hlr
        go_wp2_with fail
        go_loopw [11] (fun i wx => ∃ k : Nat, k ≤ ps.length ∧ i = .int .i64 k ∧ SKept w g m r N (rowF f (ps.map (·.1))) wx) (fun i _ => ps.length - (intOf i).toNat)
        case atStart => exact ⟨0, Nat.zero_le _, rfl, hat⟩
        case round =>
          clear hat
          obtain ⟨k, hk, rfl, hs, hb⟩ := hrel
          obtain ⟨w2, rfl⟩ : ∃ w2 : World, w2 = wr := ⟨_, rfl⟩
          have z2 := hb.size
          have hfk := HF.out
          by_cases hkl : k < ps.length
          · obtain ⟨gs, o, ⟨d, xA, xc⟩, hA, hgs, hx, hc0, hrow, hdl⟩ := bt_at HP.out HQ.out hb k hkl
            subst hA
            dsimp only at hc0 hrow hdl
            unfold maxLen at hdl
            have hi1 : (0 : Int) ≤ (k : Int) := by omega
            have hi2 : (k : Int) < (ps.length : Int) := by omega
            have hkw : IntKind.u16.wrap (k : Int) = (k : Int) := by
              show (k : Int) % 65536 = k
              omega
            have hget := lasts_get (rowF f (ps.map (·.1))) HAP.out N k ⟨(f + (k : Int)) % 65536, d⟩ (by rw [rowF_get]; simp [hx])
            rw [HLR.out] at hget
            have C1 := get_any _ g m r N _ ((f + (k : Int)) % 65536) (by
              rw [Lit.wf]
              simp only [Bool.and_eq_true, decide_eq_true_eq]
              have e1 : IntKind.u16.min = 0 := by decide
              have e2 : IntKind.u16.max = 65535 := by decide
              omega) w2 hs
            rw [hget] at C1
            by_cases hin : ps.length - N ≤ k
            · rw [if_pos hin] at C1
              dsimp only at C1
              have HC1 := Lib.hid C1
              have hge : (ps.length : Int) - (N : Int) ≤ (k : Int) := by omega
              have hged : decide ((ps.length : Int) - (N : Int) ≤ (k : Int)) = true := by simpa using hge
              have hgl : gs < w2.heap.size := by omega
              have HH := Lib.hid (fun i => show SKept w g m r N (rowF f (ps.map (·.1))) ((w2.alloc (.cells (u8s d).toArray 5)).drewN i) from ⟨(hs.alloc _).drewN i, bdrewN (hb.alloc z2 _) i⟩)
              have ht1 := fun i => run_text (P := Try.prog) ((w2.alloc (.cells (u8s d).toArray 5)).drewN i) 30 5 9 Try.underlying30 Try.underlying5 Try.underlying9 _ _ _ d.length d (Row.fresh w2 5 (u8s d).toArray 1 d.length (u8s d) (by simp [u8s_length]) (by simp))
              have ht2 := fun i => run_text (P := Try.prog) ((w2.alloc (.cells (u8s d).toArray 5)).drewN i) 30 5 9 Try.underlying30 Try.underlying5 Try.underlying9 _ _ _ xc d (hrow.alloc z2 _)
              have hcg : (w2.alloc (.cells (u8s d).toArray 5)).cell? ⟨gs, o + k, none⟩ = some (.slice xA d.length xc) := (World.cell?_alloc_lt w2 _ ⟨gs, o + k, none⟩ hgl).trans hc0
              clear C1 hs hb hx hrow hget hin
              go_wp2_with fail
              rw [show IntKind.u16.wrap (f + (k : Int)) = (f + (k : Int)) % 65536 from rfl]
              refine HC1.out.mono ?_
              rintro e w5 ⟨rfl, h5⟩
              subst h5
              clear HC1
              go_wp2_with fail
              go_quiet (fail)
              go_wp2
              go_roundw
              case rel => exact ⟨k + 1, hkl, by go_num, HH.out _⟩
              case measure => simp [intOf]; omega
            · rw [if_neg hin] at C1
              have HC1 := Lib.hid C1
              have hge : ¬ (ps.length : Int) - (N : Int) ≤ (k : Int) := by omega
              have hged : decide ((ps.length : Int) - (N : Int) ≤ (k : Int)) = false := by simpa using hge
              have HH := Lib.hid (fun i => show SKept w g m r N (rowF f (ps.map (·.1))) (w2.drewN i) from ⟨hs.drewN i, bdrewN hb i⟩)
              clear C1 hs hb hx hrow hget hin
              go_wp2_with fail
              rw [show IntKind.u16.wrap (f + (k : Int)) = (f + (k : Int)) % 65536 from rfl]
              refine HC1.out.mono ?_
              rintro e w5 ⟨rfl, h5⟩
              subst h5
              clear HC1
              go_wp2_with fail
              go_quiet (fail)
              go_wp2
              go_roundw
              case rel => exact ⟨k + 1, hkl, by go_num, HH.out _⟩
              case measure => simp [intOf]; omega
          · obtain rfl : k = ps.length := by omega
            have hget : getL (lastN N (rowF f (ps.map (·.1)))) ((f - 1) % 65536) = none := by
              refine getL_none _ _ fun p hp hs => ?_
              obtain ⟨j, hj⟩ := List.getElem?_of_mem (lastN_mem hp)
              have hjl := (List.getElem?_eq_some_iff.1 hj).1
              rw [HLR.out] at hjl
              rw [rowF_get, List.getElem?_eq_getElem (by simpa using hjl)] at hj
              simp at hj
              subst hj
              dsimp only at hs
              omega
            have C1 := get_any _ g m r N _ ((f - 1) % 65536) (by
              rw [Lit.wf]
              simp only [Bool.and_eq_true, decide_eq_true_eq]
              have e1 : IntKind.u16.min = 0 := by decide
              have e2 : IntKind.u16.max = 65535 := by decide
              omega) w2 hs
            rw [hget] at C1
            have HC1 := Lib.hid C1
            have C2 := slen_any _ g m r N _ w2 hs
            rw [lastN_length, HLR.out] at C2
            have HC2 := Lib.hid C2
            have HB := Lib.hid hb
            clear C1 C2 hs hb hget
            go_wp2_with fail
            rw [show IntKind.u16.wrap (f - 1) = (f - 1) % 65536 from rfl]
            refine HC1.out.mono ?_
            rintro e w5 ⟨rfl, h5⟩
            subst h5
            clear HC1
            go_wp2_with fail
            refine HC2.out.mono ?_
            rintro e w6 ⟨rfl, rfl⟩
            go_wp2
            all_goals (go_ret; exact ⟨ret_bool (by simp; omega), HB.out⟩)
set_option maxRecDepth 100000 in
theorem lifted (os : Os) (started : os.Started) (H : Type) (enc : TypeId × Value → H) :
    ReturnsInHanded {} Try.checked os 4 .any (Rows.storeLastsSpec.pre6 enc Try.prog Try.f4 Rows.storeLastsRow.domain false) (Rows.storeLastsSpec.post enc Try.prog Try.f4 false true false false) := by
  refine returnsInHanded_of_change (C := Try.checked) own started (by kernel_rfl) Try.func4
    (ChangeSpec.witness6 (enc := enc) (C := Try.checked) false ⟨#[], #[.int .u8 0, .int .u16 0, .slice none 0 0], []⟩ 8 (by kernel_rfl) (by kernel_rfl) (by kernel_rfl) (by kernel_rfl)) ?_
  intro W base args ds gs before hval0 hW _ _
  have hval : ∀ (j : Nat) t v, Try.f4.params[j]? = some t → args[j]? = some v → Value.okWide Try.prog W .any base t v := hval0
  have hW' := hW
  obtain ⟨p, q, hA0, hV, _, _, _⟩ := hW
  have hA : DataW.TrodAll enc Try.prog W 0 (fun _ => true) true Try.f4.params.toList args.toList ds p := hA0
  rw [Try.params4] at hA hval
  obtain ⟨v0, vs0, d0, ds0, p0, q0, hargs, rfl, _, h0, r0⟩ := trodAll_cons hA
  obtain ⟨v1, vs1, d1, ds1, p1, q1, rfl, rfl, _, h1, r1⟩ := trodAll_cons r0
  obtain ⟨v2, vs2, d2, ds2, p2, q2, rfl, rfl, _, h2, r2⟩ := trodAll_cons r1
  obtain ⟨rfl, rfl, _⟩ := trodAll_nil r2
  obtain rfl : args = #[v0, v1, v2] := by cases args; simp_all
  obtain ⟨rfl, _⟩ := trodVars_none hV
  refine law_post (s := Rows.storeLastsSpec) rfl rfl (by rw [Try.params4]; intro t ht; simp at ht; rcases ht with rfl | rfl | rfl <;> exact ⟨by kernel_rfl, of_decide_eq_true (by kernel_rfl)⟩) rfl hW' ?_
  obtain ⟨a0, rfl, _, _, w0⟩ := open_int Try.underlying5 (hval 0 5 v0 rfl rfl) h0
  obtain ⟨a1, rfl, _, _, w1⟩ := open_int Try.underlying29 (hval 1 29 v1 rfl rfl) h1
  obtain ⟨A2, c2, l2, rfl, hl2, hr2, hq2⟩ := open_lists (hval 2 40 v2 rfl rfl) h2
  exact walk W a0 w0 a1 w1 A2 c2 l2 hl2 hr2 hq2

theorem over : Rows.storeLastsRow.holds Try.pinned (OpenSpec.ofChange Rows.storeLastsSpec) :=
  OpenClaim.holds_of_wide 4 Try.f4 rfl rfl rfl rfl rfl rfl rfl ⟨rfl, rfl, rfl, rfl, rfl⟩ rfl rfl rfl rfl rfl (by kernel_rfl) Try.func4 (by kernel_rfl)
    (of_decide_eq_true (by kernel_rfl)) (by unfold Func.isWrapper; first | (rw [if_pos (by decide +kernel)]; kernel_rfl) | (rw [if_neg (by decide +kernel)]; exact ⟨rfl, rfl⟩))
    (fun os started H enc _ => lifted os started H enc)

/-- The statement. -/
theorem storeLasts_holds : Rows.StoreLastsSaid := over
end Go.Proofs.Ytbjighmjgjmphaa.SLasts
