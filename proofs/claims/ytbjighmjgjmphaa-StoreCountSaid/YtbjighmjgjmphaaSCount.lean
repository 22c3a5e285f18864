/-
  Proved: StoreCount returns true for every room, every row of packets and every number: as many are kept as were added, but no more than may be; a number that was never added is not kept. Conditions: none.
-/
import Derived.Test.YtbjighmjgjmphaaStoE
namespace Go.Proofs.Ytbjighmjgjmphaa.SCount
open Go.ChangeShapes Go.WideShapes Go.ChangeAt Go.RowKit

theorem getL_addL (room : Nat) (l : List Pk) (p : Pk) : getL (addL room l p) p.seq = some p.d := by
  unfold addL
  split <;> rw [getL_snoc, if_pos rfl]

/-- Was a packet of this number among them? -/
def Was (l : List Pk) (k : Int) (b : Bool) : Prop := b = true ↔ ∃ p ∈ l, p.seq = k

set_option maxRecDepth 100000 in
set_option maxHeartbeats 1600000 in
theorem walk (w : World) (a : Int) (ha : (Lit.int .u8 a).wf = true) (A : Option Addr) (c : Nat) (ps : List Pp) (hl : ps.length ≤ maxLen) (hP : Pps w w.heap.size A ps) (sq : Int) (hsq : (Lit.int .u16 sq).wf = true) :
    Calls Try.prog 7 #[.int .u8 a, .slice A ps.length c, .int .u16 sq] w fun e w' => e = .returned (.bool true) ∧ Below w.heap.size w w' := by
  have ha' := wf_u8 ha
  clear ha
  have HFew := Lib.hid (fun w1 (b1 : Below w.heap.size w w1) => few_any A c ps w1 w.heap.size (hP.below b1 (Nat.le_refl _)) hl)
  unfold FewTold at HFew
  cases hf : fewB (ps.map Pp.p) with
  | false =>
    rw [hf] at HFew
    unfold maxLen at hl
    go_enter Try.func7, Try.ntmps7
    go_wp2_with fail
    refine (awake_any w).mono ?_
    rintro e w1 ⟨rfl, b1⟩
    have HB := Lib.hid b1
    clear b1
    go_wp2_with fail
    refine (HFew.out w1 HB.out).mono ?_
    rintro e w2 ⟨rfl, rfl⟩
    go_wp2
    go_ret
    exact ⟨rfl, HB.out⟩
  | true =>
    rw [hf] at HFew
    obtain ⟨hsz, hsm⟩ := few_small hf
    clear hf hl
    obtain ⟨N, hN⟩ : ∃ N : Nat, a % 60 + 1 = (N : Int) := ⟨(a % 60 + 1).toNat, by omega⟩
    have hN1 : 1 ≤ N := by omega
    have hN2 : N ≤ 60 := by omega
    go_enter Try.func7, Try.ntmps7
    go_wp2_with fail
    refine (awake_any w).mono ?_
    rintro e w1 ⟨rfl, b1⟩
    have HB := Lib.hid b1
    clear b1
    go_wp2_with fail
    refine (HFew.out w1 HB.out).mono ?_
    rintro e w2 ⟨rfl, rfl⟩
    clear HFew
    go_wp2_with fail
    refine (snew_off N _ hN1 (by omega)).mono ?_
    rintro e w3 ⟨g, m, r, rfl, s3, hg, hm, hr, b3⟩
    have hg' : w.heap.size ≤ g := Nat.le_trans HB.out.size hg
    have hm' : w.heap.size ≤ m := Nat.le_trans HB.out.size hm
    have hr' : w.heap.size ≤ r := Nat.le_trans HB.out.size hr
    have B3 := bnext HB.out b3
    have hat : SKept w g m r N [] w3 := ⟨by rw [lastN_nil]; exact s3, B3⟩
    have hS : ∀ k, k < w.heap.size → ¬ (k = g ∨ k = m ∨ k = r) := by intro k hk; omega
    have HS := Lib.hid hS
    have HP := Lib.hid hP
    have HSM := Lib.hid hsm
    have HSQ := Lib.hid hsq
    clear hg hm hr s3 b3 B3 HB hN ha' hS hP hsm hsq
    go_wp2_with fail
    go_loopw [11, 12] (fun v i wx => ∃ k : Nat, k ≤ ps.length ∧ i = .int .i64 k ∧ ∃ b : Bool, v = .bool b ∧ Hid (Was ((ps.map Pp.p).take k) sq b) ∧ SKept w g m r N ((ps.map Pp.p).take k) wx) (fun _ i _ => ps.length - (intOf i).toNat)
    case atStart => exact ⟨0, Nat.zero_le _, rfl, false, rfl, by unfold Hid Was; simp, hat⟩
    case round =>
      clear hat
      obtain ⟨k, hk, rfl, b, rfl, hwas, hs, hb⟩ := hrel
      obtain ⟨wo, rfl⟩ : ∃ wo : World, wo = wr := ⟨_, rfl⟩
      have zo := hb.size
      by_cases hkl : k < ps.length
      · obtain ⟨gs, o, x, hA, hgs, hx, hc0, hc1, hrow, hwf⟩ := pps_at HP.out hb k hkl
        subst hA
        have hxl := HSM.out x (List.mem_of_getElem? hx)
        have hmap := map_at hx
        have hi1 : (0 : Int) ≤ (k : Int) := by omega
        have hi2 : (k : Int) < (ps.length : Int) := by omega
        have hlen := hs.len
        obtain ⟨⟨seq, d⟩, xA, xc⟩ := x
        dsimp only at hc0 hc1 hrow hwf hxl hmap
        have e1 := lastN_add N hN1 ((ps.map Pp.p).take k) ⟨seq, d⟩
        have e2 := getL_addL N (lastN N ((ps.map Pp.p).take k)) ⟨seq, d⟩
        rw [e1] at e2
        have e3 := take_one _ _ _ hmap
        rw [← e3] at e1 e2
        have hlm := lastN_length N ((ps.map Pp.p).take (k + 1))
        rw [List.length_take, List.length_map, Nat.min_eq_left (show k + 1 ≤ ps.length by omega)] at hlm
        have C1 := add_off g m r N _ seq hwf w.heap.size xA xc d (by omega) wo.drew hrow.drew zo (FarA.row hrow hg' hm' hr') (hs.drewN 1)
        rw [e1] at C1
        dsimp only at e2
        have HC1 := Lib.hid C1
        have HX := Lib.hid (And.intro hmap (And.intro e2 (And.intro hlm (And.intro hwf e3))))
        have HB := Lib.hid hb
        have hzg : gs + 1 ≤ wo.drew.heap.size := by show gs + 1 ≤ wo.heap.size; omega
        have hG : ∀ i, i < gs + 1 → ¬ (i = g ∨ i = m ∨ i = r) := by intro i hi; omega
        have HG := Lib.hid hG
        clear C1 hx hmap hrow hs hb e1 e2 e3 hwf hG hlm
        go_wp2_with fail
        go_region_held3 (fun w' => w'.cell? ⟨gs, o + k * 2, none⟩ = some (.int .u16 seq) ∧ w'.cell? ⟨gs, o + k * 2 + 1, none⟩ = some (.slice xA d.length xc))
          (first | go_keep | exact ⟨hc0, hc1⟩ | exact keep2 hc0 hc1 ((Below.refl (gs + 1) wo).drew.trans (b3.below hzg HG.out)) rfl)
          ((go_at_call 11; refine HC1.out.mono ?_; rintro e w3 ⟨rfl, s3, b3⟩))
        have B3 := HB.out.trans ((Below.refl _ wo).drew.trans (b3.below (B := w.heap.size) zo HS.out))
        have hd0 : w3.cell? ⟨gs, o + k * 2, none⟩ = some (.int .u16 seq) := ‹w3.cell? ⟨gs, o + k * 2, none⟩ = some (.int .u16 seq) ∧ _›.1
        clear ‹w3.cell? _ = _ ∧ _›
        obtain ⟨hmap, e2, hlm, hwf, e3⟩ := HX.out
        have hwas2 : Was ((ps.map Pp.p).take (k + 1)) sq (b || seq == sq) := by
          have := hwas.out
          unfold Was at this ⊢
          rw [e3]
          simp only [Bool.or_eq_true, this, beq_iff_eq, List.mem_append, List.mem_singleton]
          constructor
          · rintro (⟨p, hp, h⟩ | h)
            · exact ⟨p, .inl hp, h⟩
            · exact ⟨_, .inr rfl, h⟩
          · rintro ⟨p, hp | hp, h⟩
            · exact .inl ⟨p, hp, h⟩
            · subst hp; exact .inr h
        have C2 := get_any _ g m r N _ seq hwf w3 s3
        rw [e2] at C2
        have C3 := slen_any (Off g m r) g m r N (lastN N ((ps.map Pp.p).take (k + 1)))
        rw [hlm] at C3
        have HC3 := Lib.hid (fun o => C3 (w3.alloc o) (s3.alloc o))
        have HC2 := Lib.hid C2
        have HW := Lib.hid hwas2
        have HSK := Lib.hid (fun o => show SKept w g m r N ((ps.map Pp.p).take (k + 1)) (w3.alloc o) from ⟨s3.alloc o, B3.alloc B3.size o⟩)
        clear hwas hwas2 C2 C3 s3 B3 b3 hmap e2 hlm e3 HX HC1 HB HG hzg hlen hc0 hc1
        have hmin : min (N : Int) ((k : Int) + 1) = ((min N (k + 1) : Nat) : Int) := by omega
        have hcase : b = true ∨ (b = false ∧ (seq == sq) = true) ∨ (b = false ∧ (seq == sq) = false) := by cases b <;> cases (seq == sq) <;> simp
        rcases hcase with rfl | ⟨rfl, hq⟩ | ⟨rfl, hq⟩
        · replace HW : Hid (Was ((ps.map Pp.p).take (k + 1)) sq true) := HW
          go_wp2_with fail
          refine HC2.out.mono ?_
          rintro e w5 ⟨rfl, h5⟩
          subst h5
          clear HC2
          go_wp2_with fail
          refine (HC3.out _).mono ?_
          rintro e w6 ⟨rfl, rfl⟩
          clear HC3
          go_wp2
          go_roundw
          case rel => exact ⟨k + 1, hkl, by go_num, _, rfl, HW, HSK.out _⟩
          case measure => simp [intOf]; omega
        · rw [hq] at HW
          replace HW : Hid (Was ((ps.map Pp.p).take (k + 1)) sq true) := HW
          go_wp2_with fail
          refine HC2.out.mono ?_
          rintro e w5 ⟨rfl, h5⟩
          subst h5
          clear HC2
          go_wp2_with fail
          refine (HC3.out _).mono ?_
          rintro e w6 ⟨rfl, rfl⟩
          clear HC3
          go_wp2
          go_roundw
          case rel => exact ⟨k + 1, hkl, by go_num, _, rfl, HW, HSK.out _⟩
          case measure => simp [intOf]; omega
        · rw [hq] at HW
          replace HW : Hid (Was ((ps.map Pp.p).take (k + 1)) sq false) := HW
          go_wp2_with fail
          refine HC2.out.mono ?_
          rintro e w5 ⟨rfl, h5⟩
          subst h5
          clear HC2
          go_wp2_with fail
          refine (HC3.out _).mono ?_
          rintro e w6 ⟨rfl, rfl⟩
          clear HC3
          go_wp2
          go_roundw
          case rel => exact ⟨k + 1, hkl, by go_num, _, rfl, HW, HSK.out _⟩
          case measure => simp [intOf]; omega
      · have HB := Lib.hid hb
        have C1 := get_any _ g m r N _ sq HSQ.out wo hs
        cases hgt : getL (lastN N ((ps.map Pp.p).take k)) sq with
        | some d =>
          rw [hgt] at C1
          have hb1 : b = true := by
            obtain ⟨p, hp, h1, _⟩ := getL_mem hgt
            exact hwas.out.2 ⟨p, lastN_mem hp, h1⟩
          subst hb1
          have HC1 := Lib.hid C1
          clear hgt hwas hs hb C1
          go_wp2_with fail
          refine HC1.out.mono ?_
          rintro e w5 ⟨rfl, h5⟩
          subst h5
          clear HC1
          go_wp2
          go_ret
          exact ⟨rfl, HB.out.alloc HB.out.size _⟩
        | none =>
          rw [hgt] at C1
          have HC1 := Lib.hid C1
          clear hgt hwas hs hb C1
          cases b with
          | false =>
            go_wp2_with fail
            refine HC1.out.mono ?_
            rintro e w5 ⟨rfl, h5⟩
            subst h5
            clear HC1
            go_wp2
            go_ret
            exact ⟨rfl, HB.out⟩
          | true =>
            go_wp2_with fail
            refine HC1.out.mono ?_
            rintro e w5 ⟨rfl, h5⟩
            subst h5
            clear HC1
            go_wp2
            go_ret
            exact ⟨rfl, HB.out⟩
set_option maxRecDepth 100000 in
theorem lifted (os : Os) (started : os.Started) (H : Type) (enc : TypeId × Value → H) :
    ReturnsInHanded {} Try.checked os 7 .any (Rows.storeCountSpec.pre6 enc Try.prog Try.f7 Rows.storeCountRow.domain false) (Rows.storeCountSpec.post enc Try.prog Try.f7 false true false false) := by
  refine returnsInHanded_of_change (C := Try.checked) own started (by kernel_rfl) Try.func7
    (ChangeSpec.witness6 (enc := enc) (C := Try.checked) false ⟨#[], #[.int .u8 0, .slice none 0 0, .int .u16 0], []⟩ 8 (by kernel_rfl) (by kernel_rfl) (by kernel_rfl) (by kernel_rfl)) ?_
  intro W base args ds gs before hval0 hW _ _
  have hval : ∀ (j : Nat) t v, Try.f7.params[j]? = some t → args[j]? = some v → Value.okWide Try.prog W .any base t v := hval0
  have hW' := hW
  obtain ⟨p, q, hA0, hV, _, _, _⟩ := hW
  have hA : DataW.TrodAll enc Try.prog W 0 (fun _ => true) true Try.f7.params.toList args.toList ds p := hA0
  rw [Try.params7] at hA hval
  obtain ⟨v0, vs0, d0, ds0, p0, q0, hargs, rfl, _, h0, r0⟩ := trodAll_cons hA
  obtain ⟨v1, vs1, d1, ds1, p1, q1, rfl, rfl, _, h1, r1⟩ := trodAll_cons r0
  obtain ⟨v2, vs2, d2, ds2, p2, q2, rfl, rfl, _, h2, r2⟩ := trodAll_cons r1
  obtain ⟨rfl, rfl, _⟩ := trodAll_nil r2
  obtain rfl : args = #[v0, v1, v2] := by cases args; simp_all
  obtain ⟨rfl, _⟩ := trodVars_none hV
  refine law_post (s := Rows.storeCountSpec) rfl rfl (by rw [Try.params7]; intro t ht; simp at ht; rcases ht with rfl | rfl | rfl <;> exact ⟨by kernel_rfl, of_decide_eq_true (by kernel_rfl)⟩) rfl hW' ?_
  obtain ⟨a0, rfl, _, _, w0⟩ := open_int Try.underlying5 (hval 0 5 v0 rfl rfl) h0
  obtain ⟨A1, c1, ps1, rfl, hl1, hp1⟩ := open_puts (hval 1 22 v1 rfl rfl) h1
  obtain ⟨a2, rfl, _, _, w2⟩ := open_int Try.underlying29 (hval 2 29 v2 rfl rfl) h2
  exact walk W a0 w0 A1 c1 ps1 hl1 hp1 a2 w2

theorem over : Rows.storeCountRow.holds Try.pinned (OpenSpec.ofChange Rows.storeCountSpec) :=
  OpenClaim.holds_of_wide 7 Try.f7 rfl rfl rfl rfl rfl rfl rfl ⟨rfl, rfl, rfl, rfl, rfl⟩ rfl rfl rfl rfl rfl (by kernel_rfl) Try.func7 (by kernel_rfl)
    (of_decide_eq_true (by kernel_rfl)) (by unfold Func.isWrapper; first | (rw [if_pos (by decide +kernel)]; kernel_rfl) | (rw [if_neg (by decide +kernel)]; exact ⟨rfl, rfl⟩))
    (fun os started H enc _ => lifted os started H enc)

/-- The statement. -/
theorem storeCount_holds : Rows.StoreCountSaid := over
end Go.Proofs.Ytbjighmjgjmphaa.SCount
