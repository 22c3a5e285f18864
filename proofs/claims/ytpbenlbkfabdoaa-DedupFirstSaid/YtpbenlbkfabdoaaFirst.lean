/-
  Proved: DedupFirst returns true for every room, every list of acts, every request and every answer: whatever is done, a request that is there keeps its first answer, for as long as it is there. Conditions: none.
-/
import Derived.Test.YtpbenlbkfabdoaaDedP
import Derived.Deep.CutBlock
namespace Go.Proofs.Ytpbenlbkfabdoaa.First
open Go.ChangeShapes Go.WideShapes Go.ChangeAt Go.RowKit

/-- Request k is not there, or it has this answer. -/
def Keeps (k : Int) (s : ByteArray) (l : List Ent) : Prop := fnd l k = none ∨ fnd l k = some ⟨k, s, true⟩

theorem keeps_start {k : Int} {s : ByteArray} {N : Nat} {l : List Ent} {k' : Int} (h : Keeps k s l) (hap : IdsApart l) (hne : k' ≠ k) : Keeps k s (startL N l k').2 := by
  unfold startL
  cases hf : fnd l k' with
  | some x => exact h
  | none =>
    dsimp only
    by_cases hl : l.length < N
    · rw [if_pos hl]
      unfold Keeps at *
      dsimp only
      rw [fnd_snoc, if_neg hne]
      simpa using h
    · rw [if_neg hl]
      cases l with
      | nil => exact h
      | cons x t =>
        dsimp only
        split
        · unfold Keeps at *
          dsimp only
          rw [fnd_snoc, if_neg hne, fnd_tail hap]
          split
          · simp
          · simpa using h
        · exact h
theorem keeps_end {k : Int} {s : ByteArray} {l : List Ent} {k' : Int} {s' : ByteArray} (h : Keeps k s l) : Keeps k s (endL l k' s').2 := by
  unfold endL
  cases hf : fnd l k' with
  | none => exact h
  | some x =>
    dsimp only
    cases hd : x.done with
    | true => exact h
    | false =>
      unfold Keeps at *
      simp only [Bool.false_eq_true, if_false]
      rw [fnd_upd]
      by_cases e : k = k'
      · subst e
        rw [hf] at h
        rcases h with h | h
        · cases h
        · injection h with h
          subst h
          cases hd
      · rw [if_neg e]
        exact h

/-- What the round keeps. -/
def At (w0 : World) (g m r N : Nat) (k : Int) (s : ByteArray) (wx : World) : Prop := ∃ l, DAt wx g m r N l ∧ Keeps k s l ∧ Below w0.heap.size w0 wx

set_option maxRecDepth 100000 in
set_option maxHeartbeats 3200000 in
theorem walk (w : World) (a : Int) (ha : (Lit.int .u8 a).wf = true) (A : Option Addr) (c : Nat) (l : List Deed) (hl : l.length ≤ maxLen) (hr : Row w w.heap.size 3 A l.length (deedC l)) (hq : ∀ x ∈ l, (Lit.int .u64 x.id).wf = true) (q : Int) (hqw : (Lit.int .u64 q).wf = true) (t : ByteArray) (ht : t.size ≤ maxLen) :
    Calls Try.prog 7 #[.int .u8 a, .slice A l.length c, .int .u64 q, .string t] w fun e w' => e = .returned (.bool true) ∧ Below w.heap.size w w' := by
  unfold maxLen at hl ht
  have ha' := wf_u8 ha
  clear ha
  by_cases hlong : 200 < l.length
  · have hb1 : decide ((200 : Int) < (l.length : Int)) = true := by simp; omega
    go_enter Try.func7, Try.ntmps7
    go_wp2_with (go_at_call 8; refine (awake_any w).mono ?_; rintro e w1 ⟨rfl, b1⟩)
    go_ret
    exact ⟨rfl, b1⟩
  have hb1 : decide ((200 : Int) < (l.length : Int)) = false := by simp; omega
  by_cases hwide : 60 < t.size
  · have hb2 : decide ((60 : Int) < (t.size : Int)) = true := by simp; omega
    go_enter Try.func7, Try.ntmps7
    go_wp2_with (go_at_call 8; refine (awake_any w).mono ?_; rintro e w1 ⟨rfl, b1⟩)
    go_ret
    exact ⟨rfl, b1⟩
  have hb2 : decide ((60 : Int) < (t.size : Int)) = false := by simp; omega
  obtain ⟨N, hN⟩ : ∃ N : Nat, a % 6 + 1 = (N : Int) := ⟨(a % 6 + 1).toNat, by omega⟩
  have hN1 : 1 ≤ N := by omega
  have hN2 : N ≤ 6 := by omega
  have HQ := Lib.hid hqw
  clear hqw
  go_enter Try.func7, Try.ntmps7
  go_wp2_with fail
  refine (awake_any w).mono ?_
  rintro e w1 ⟨rfl, b1⟩
  go_wp2_with fail
  refine (new_any N _ hN1 (by omega)).mono ?_
  rintro e w2 ⟨g, m, r, rfl, d2, hg, hm, hr2, b2⟩
  have hg' : w.heap.size ≤ g := Nat.le_trans b1.size hg
  have hm' : w.heap.size ≤ m := Nat.le_trans b1.size hm
  have hr' : w.heap.size ≤ r := Nat.le_trans b1.size hr2
  have B2 := bnext b1 b2
  have HS := Lib.hid (show ∀ k, k < w.heap.size → ¬ (k = g ∨ k = m ∨ k = r) by intro k hk; omega)
  clear b1 b2 hg hm hr2
  go_wp2_with fail
  refine (start_yes g m r N [] q HQ.out _ d2 rfl (by simp; omega)).mono ?_
  rintro e w3 ⟨rfl, d3, b3⟩
  have B3 := B2.trans (b3.below B2.size HS.out)
  go_wp2_with fail
  refine (end_yes g m r N [fresh q] q HQ.out t (fresh q) _ d3 (by simp [fnd, fresh]) rfl).mono ?_
  rintro e w4 ⟨rfl, d4, b4⟩
  have B4 := B3.trans (b4.below B3.size HS.out)
  have hat : At w g m r N q t w4 := ⟨_, d4, .inr (by simp [fnd, upd, fresh]), B4⟩
  clear d2 d3 d4 b3 b4 B2 B3 B4 hN
  go_wp2_with fail
  go_loopw [11] (fun i wx => ∃ k : Nat, k ≤ l.length ∧ i = .int .i64 k ∧ At w g m r N q t wx) (fun i _ => l.length - (intOf i).toNat)
  case atStart => exact ⟨0, Nat.zero_le _, rfl, hat⟩
  case round =>
    clear hat
    obtain ⟨k, hk, rfl, s, d, hkeep, B⟩ := hrel
    by_cases hkl : k < l.length
    · obtain ⟨gs, o, hA, hgs, hc0, hc1, hc2⟩ := deed_cells hr B k hkl
      subst hA
      have hwf := hq l[k] (by simp)
      generalize l[k] = p at hc0 hc1 hc2 hwf
      obtain ⟨wo, rfl⟩ : ∃ wo : World, wo = wr := ⟨_, rfl⟩
      have zo := B.size
      have hi1 : (0 : Int) ≤ (k : Int) := by omega
      have hi2 : (k : Int) < (l.length : Int) := by omega
      have hap := d.apart
      have HB := Lib.hid B
      clear hr hq
      obtain ⟨fin, id, ans⟩ := p
      dsimp only at hc0 hc1 hc2 hwf
      cases fin with
      | true =>
        obtain ⟨cc, s', hcs⟩ : ∃ cc s', endL s id ans = (cc, s') := ⟨_, _, rfl⟩
        have hkeep' : Keeps q t s' := by have := keeps_end (k' := id) (s' := ans) hkeep; rwa [hcs] at this
        have C1 : ∀ w', DAt w' g m r N s → Calls Try.prog 11 #[.pointer (some ⟨g, 0, none⟩), .int .u64 id, .string ans] w' (Leaves g m r N cc s' w') := by
          intro w' h
          have := end_any g m r N s id hwf ans w' h
          rw [hcs] at this
          exact this
        have HC := Lib.hid C1
        have HK := Lib.hid hkeep'
        have HDR := Lib.hid (show DAt wo.drew g m r N s from d)
        have hzg : gs + 1 ≤ wo.drew.heap.size := show gs + 1 ≤ wo.heap.size by omega
        have HG := Lib.hid (show ∀ i, i < gs + 1 → ¬ (i = g ∨ i = m ∨ i = r) by intro i hi; omega)
        clear C1 hcs hap hwf d hkeep hkeep' B
        by_cases hid : id = q
        · have hbe : (id == q) = true := by simpa using hid
          clear hid
          go_wp2_with fail
          go_region_held3 (fun w' => w'.cell? ⟨gs, o + k * 3 + 1, none⟩ = some (.int .u64 id) ∧ w'.cell? ⟨gs, o + k * 3 + 2, none⟩ = some (.string ans))
            (first | go_keep | exact ⟨hc1, hc2⟩ | exact keep2 hc1 hc2 ((Below.refl (gs + 1) wo).drew.trans (b3.below hzg HG.out)) rfl)
            ((go_at_call 11; refine (HC.out _ HDR.out).mono ?_; rintro e w3 ⟨rfl, d3, b3⟩))
          have B3 := HB.out.trans ((Below.refl _ wo).drew.trans (b3.below (B := w.heap.size) zo HS.out))
          have HD3 := Lib.hid d3
          have HB3 := Lib.hid B3
          clear d3 b3 B3 HB HC HG hc0 hc1 hc2 hzg HDR hbe
          rcases HK.out with hf | hf
          all_goals
            have HF := Lib.hid hf
            clear hf
            go_wp2_with fail
            refine (find_any g m r N s' q HQ.out _ HD3.out).mono ?_
            rintro e w5 ⟨rfl, b5⟩
            rw [HF.out]
            dsimp only [foundV]
            have HA := Lib.hid (show At w g m r N q t w5 from ⟨_, HD3.out.next b5, HK.out, bnext HB3.out b5⟩)
            clear b5
            go_wp2
            go_roundw
            case rel => exact ⟨k + 1, hkl, by go_num, HA.out⟩
            case measure => simp [intOf]; omega
        · have hbe : (id == q) = false := by simpa using hid
          clear hid
          go_wp2_with fail
          go_region_held3 (fun w' => w'.cell? ⟨gs, o + k * 3 + 1, none⟩ = some (.int .u64 id) ∧ w'.cell? ⟨gs, o + k * 3 + 2, none⟩ = some (.string ans))
            (first | go_keep | exact ⟨hc1, hc2⟩ | exact keep2 hc1 hc2 ((Below.refl (gs + 1) wo).drew.trans (b3.below hzg HG.out)) rfl)
            ((go_at_call 11; refine (HC.out _ HDR.out).mono ?_; rintro e w3 ⟨rfl, d3, b3⟩))
          have B3 := HB.out.trans ((Below.refl _ wo).drew.trans (b3.below (B := w.heap.size) zo HS.out))
          have HD3 := Lib.hid d3
          have HB3 := Lib.hid B3
          clear d3 b3 B3 HB HC HG hc0 hc1 hc2 hzg HDR hbe
          rcases HK.out with hf | hf
          all_goals
            have HF := Lib.hid hf
            clear hf
            go_wp2_with fail
            refine (find_any g m r N s' q HQ.out _ HD3.out).mono ?_
            rintro e w5 ⟨rfl, b5⟩
            rw [HF.out]
            dsimp only [foundV]
            have HA := Lib.hid (show At w g m r N q t w5 from ⟨_, HD3.out.next b5, HK.out, bnext HB3.out b5⟩)
            clear b5
            go_wp2
            go_roundw
            case rel => exact ⟨k + 1, hkl, by go_num, HA.out⟩
            case measure => simp [intOf]; omega
      | false =>
        by_cases hid : id = q
        · have hbe : (id == q) = true := by simpa using hid
          have HA := Lib.hid (show At w g m r N q t wo from ⟨_, d, hkeep, B⟩)
          clear d hkeep hap hwf B HB hid
          go_wp2
          go_roundw
          case rel => exact ⟨k + 1, hkl, by go_num, HA.out⟩
          case measure => simp [intOf]; omega
        · obtain ⟨cc, s', hcs⟩ : ∃ cc s', startL N s id = (cc, s') := ⟨_, _, rfl⟩
          have hkeep' : Keeps q t s' := by have := keeps_start (N := N) (k' := id) hkeep hap hid; rwa [hcs] at this
          have C1 := start_any g m r N s id hwf wo d
          rw [hcs] at C1
          have HC := Lib.hid C1
          have HK := Lib.hid hkeep'
          have hbe : (id == q) = false := by simpa using hid
          clear C1 hcs hap hwf d hkeep hkeep' B hid
          go_wp2_with fail
          refine HC.out.mono ?_
          rintro e w3 ⟨rfl, d3, b3⟩
          have HD3 := Lib.hid d3
          have HB3 := Lib.hid (HB.out.trans (b3.below (B := w.heap.size) zo HS.out))
          clear d3 b3 HB HC hc0 hc1 hc2 hbe
          rcases HK.out with hf | hf
          all_goals
            have HF := Lib.hid hf
            clear hf
            go_wp2_with fail
            refine (find_any g m r N s' q HQ.out _ HD3.out).mono ?_
            rintro e w5 ⟨rfl, b5⟩
            rw [HF.out]
            dsimp only [foundV]
            have HA := Lib.hid (show At w g m r N q t w5 from ⟨_, HD3.out.next b5, HK.out, bnext HB3.out b5⟩)
            clear b5
            go_wp2
            go_roundw
            case rel => exact ⟨k + 1, hkl, by go_num, HA.out⟩
            case measure => simp [intOf]; omega
    · have H := Lib.hid B
      clear B d hr hq hkeep
      go_wp2
      go_ret
      exact ⟨rfl, H.out⟩

set_option maxRecDepth 100000 in
theorem lifted (os : Os) (started : os.Started) (H : Type) (enc : TypeId × Value → H) :
    ReturnsInHanded {} Try.checked os 7 .any (Rows.dedupFirstSpec.pre6 enc Try.prog Try.f7 Rows.dedupFirstRow.domain false) (Rows.dedupFirstSpec.post enc Try.prog Try.f7 false true false false) := by
  refine returnsInHanded_of_change (C := Try.checked) own started (by kernel_rfl) Try.func7
    (ChangeSpec.witness6 (enc := enc) (C := Try.checked) false ⟨#[], #[.int .u8 0, .slice none 0 0, .int .u64 0, .string ⟨#[]⟩], []⟩ 8 (by kernel_rfl) (by kernel_rfl) (by kernel_rfl) (by kernel_rfl)) ?_
  intro W base args ds gs before hval0 hW _ _
  have hval : ∀ (j : Nat) t v, Try.f7.params[j]? = some t → args[j]? = some v → Value.okWide Try.prog W .any base t v := hval0
  have hW' := hW
  obtain ⟨p, q, hA0, hV, _, _, _⟩ := hW
  have hA : DataW.TrodAll enc Try.prog W 0 (fun _ => true) true Try.f7.params.toList args.toList ds p := hA0
  rw [Try.params7] at hA hval
  obtain ⟨v0, vs0, d0, ds0, p0, q0, hargs, rfl, _, h0, r0⟩ := trodAll_cons hA
  obtain ⟨v1, vs1, d1, ds1, p1, q1, rfl, rfl, _, h1, r1⟩ := trodAll_cons r0
  obtain ⟨v2, vs2, d2, ds2, p2, q2, rfl, rfl, _, h2, r2⟩ := trodAll_cons r1
  obtain ⟨v3, vs3, d3, ds3, p3, q3, rfl, rfl, _, h3, r3⟩ := trodAll_cons r2
  obtain ⟨rfl, rfl, _⟩ := trodAll_nil r3
  obtain rfl : args = #[v0, v1, v2, v3] := by cases args; simp_all
  obtain ⟨rfl, _⟩ := trodVars_none hV
  refine law_post (s := Rows.dedupFirstSpec) rfl rfl (by rw [Try.params7]; intro t ht; simp at ht; rcases ht with rfl | rfl | rfl | rfl <;> exact ⟨by kernel_rfl, of_decide_eq_true (by kernel_rfl)⟩) rfl hW' ?_
  obtain ⟨a0, rfl, _, _, w0⟩ := open_int Try.underlying5 (hval 0 5 v0 rfl rfl) h0
  obtain ⟨A1, c1, l1, rfl, hl1, hr1, hq1⟩ := open_deeds (hval 1 22 v1 rfl rfl) h1
  obtain ⟨a2, rfl, _, _, w2⟩ := open_int Try.underlying29 (hval 2 29 v2 rfl rfl) h2
  obtain ⟨a3, rfl, _, _, w3⟩ := Go.ChangeMaps.open_string Try.underlying9 (hval 3 9 v3 rfl rfl) h3
  exact walk W a0 w0 A1 c1 l1 hl1 hr1 hq1 a2 w2 a3 w3

theorem over : Rows.dedupFirstRow.holds Try.pinned (OpenSpec.ofChange Rows.dedupFirstSpec) :=
  OpenClaim.holds_of_wide 7 Try.f7 rfl rfl rfl rfl rfl rfl rfl ⟨rfl, rfl, rfl, rfl, rfl⟩ rfl rfl rfl rfl rfl (by kernel_rfl) Try.func7 (by kernel_rfl)
    (of_decide_eq_true (by kernel_rfl)) (by unfold Func.isWrapper; first | (rw [if_pos (by decide +kernel)]; kernel_rfl) | (rw [if_neg (by decide +kernel)]; exact ⟨rfl, rfl⟩))
    (fun os started H enc _ => lifted os started H enc)

/-- The statement. -/
theorem dedupFirst_holds : Rows.DedupFirstSaid := over
end Go.Proofs.Ytpbenlbkfabdoaa.First
