/-
  Proved: DedupKeeps returns true for every room, every number of others and every answer: a request that was started, and answered, is found with its first answer for as long as fewer than room others were started behind it, and no longer. Conditions: none.
-/
import Derived.Test.YtpbenlbkfabdoaaDedC
import Derived.Test.YtpbenlbkfabdoaaLift
import Derived.Deep.CutBlock
namespace Go.Proofs.Ytpbenlbkfabdoaa.Keeps
open Go.ChangeShapes Go.WideShapes Go.ChangeAt Go.RowKit

/-- What the table holds when j others were started, and answered. -/
structure Good (s : ByteArray) (N j : Nat) (l : List Ent) : Prop where
  done : ∀ e ∈ l, e.done = true
  ids : ∀ e ∈ l, e.id < 100 + j
  len : l.length = min N (j + 1)
  first : (j < N ∧ ∃ t, l = ⟨7, s, true⟩ :: t ∧ ∀ e ∈ t, 100 ≤ e.id) ∨ (N ≤ j ∧ ∀ e ∈ l, 100 ≤ e.id)

theorem good_start (s : ByteArray) (N : Nat) (h : 1 ≤ N) : Good s N 0 [⟨7, s, true⟩] :=
  ⟨by simp, by simp, by simp; omega, .inl ⟨by omega, [], rfl, by simp⟩⟩

theorem upd_last {t : List Ent} {k : Int} {s : ByteArray} (h : fnd t k = none) : upd (t ++ [fresh k]) k s = t ++ [⟨k, s, true⟩] := by
  have := upd_none (s := s) h
  unfold upd at *
  rw [List.map_append, this]
  simp [fresh]

/-- Behind the tail t of what was there stands the next one. -/
theorem good_snoc {s : ByteArray} {N j : Nat} {l t : List Ent} (h : Good s N j l) (ht : (l.length < N ∧ t = l) ∨ (l.length = N ∧ ∃ e, l = e :: t)) : Good s N (j + 1) (t ++ [⟨100 + j, ⟨#[]⟩, true⟩]) := by
  obtain ⟨h1, h2, h3, h4⟩ := h
  have hsub : ∀ e ∈ t, e ∈ l := by
    rcases ht with ⟨_, rfl⟩ | ⟨_, x, rfl⟩ <;> intro e he
    · exact he
    · simp [he]
  refine ⟨fun e he => ?_, fun e he => ?_, ?_, ?_⟩
  · rcases List.mem_append.1 he with he | he
    · exact h1 e (hsub e he)
    · simp at he; subst he; rfl
  · rcases List.mem_append.1 he with he | he
    · have := h2 e (hsub e he); omega
    · simp at he; subst he; simp; omega
  · rcases ht with ⟨hl, rfl⟩ | ⟨hl, x, rfl⟩
    · simp; omega
    · simp at hl ⊢; simp at h3; omega
  · rcases h4 with ⟨hj, u, rfl, hu⟩ | ⟨hj, hu⟩
    · rcases ht with ⟨hl, rfl⟩ | ⟨hl, x, hx⟩
      · refine .inl ⟨by omega, u ++ [⟨100 + j, ⟨#[]⟩, true⟩], rfl, fun e he => ?_⟩
        rcases List.mem_append.1 he with he | he
        · exact hu e he
        · simp at he; subst he; simp; omega
      · have : u = t := by injection hx
        subst this
        refine .inr ⟨by omega, fun e he => ?_⟩
        rcases List.mem_append.1 he with he | he
        · exact hu e he
        · simp at he; subst he; simp; omega
    · refine .inr ⟨by omega, fun e he => ?_⟩
      rcases List.mem_append.1 he with he | he
      · exact hu e (hsub e he)
      · simp at he; subst he; simp; omega

theorem good_step {s : ByteArray} {N j : Nat} {l : List Ent} (hN : 1 ≤ N) (h : Good s N j l) :
    ∃ l', startL N l (100 + j) = (0, l') ∧ fnd l' (100 + j) = some (fresh (100 + j)) ∧ Good s N (j + 1) (upd l' (100 + j) ⟨#[]⟩) := by
  have hf : fnd l (100 + j) = none := fnd_none.2 fun e he => by have := h.ids e he; omega
  have hlen := h.len
  unfold startL
  rw [hf]
  dsimp only
  by_cases hl : l.length < N
  · rw [if_pos hl]
    refine ⟨_, rfl, by rw [fnd_snoc, hf, if_pos rfl]; rfl, ?_⟩
    rw [upd_last hf]
    exact good_snoc h (.inl ⟨hl, rfl⟩)
  · rw [if_neg hl]
    cases l with
    | nil => simp at hl; omega
    | cons x t =>
      have hx := h.done x (by simp)
      dsimp only
      rw [if_pos hx]
      have hft : fnd t (100 + j) = none := fnd_none.2 fun e he => fnd_none.1 hf e (by simp [he])
      refine ⟨_, rfl, by rw [fnd_snoc, hft, if_pos rfl]; rfl, ?_⟩
      rw [upd_last hft]
      exact good_snoc h (.inr ⟨by omega, x, rfl⟩)

theorem good_find {s : ByteArray} {N j : Nat} {l : List Ent} (h : Good s N j l) : fnd l 7 = if j < N then some ⟨7, s, true⟩ else none := by
  rcases h.first with ⟨hj, t, rfl, _⟩ | ⟨hj, hu⟩
  · rw [if_pos hj, fnd_cons, if_pos rfl]
  · rw [if_neg (by omega)]
    exact fnd_none.2 fun e he => by have := hu e he; omega

theorem ret_bool {a b : Bool} (h : a = b) : Ending.returned (.bool a) = .returned (.bool b) := by rw [h]

/-- What the round keeps. -/
def At (s : ByteArray) (w0 : World) (g m r N j : Nat) (wx : World) : Prop := ∃ l, DAt wx g m r N l ∧ Good s N j l ∧ Below w0.heap.size w0 wx

set_option maxRecDepth 100000 in
set_option maxHeartbeats 1600000 in
theorem walk (w : World) (a : Int) (ha : (Lit.int .u8 a).wf = true) (b : Int) (hb : (Lit.int .u8 b).wf = true) (s : ByteArray) :
    Calls Try.prog 4 #[.int .u8 a, .int .u8 b, .string s] w fun e w' => e = .returned (.bool true) ∧ Below w.heap.size w w' := by

  have ha' := wf_u8 ha
  have hb' := wf_u8 hb
  clear ha hb
  obtain ⟨N, hN⟩ : ∃ N : Nat, a % 40 + 1 = (N : Int) := ⟨(a % 40 + 1).toNat, by omega⟩
  obtain ⟨K, hK⟩ : ∃ K : Nat, b % 60 = (K : Int) := ⟨(b % 60).toNat, by omega⟩
  have hN1 : 1 ≤ N := by omega
  have hN2 : N ≤ 40 := by omega
  have hK2 : K ≤ 60 := by omega
  go_enter Try.func4, Try.ntmps4
  go_wp2_with fail
  refine (awake_any w).mono ?_
  rintro e w1 ⟨rfl, b1⟩
  go_wp2_with fail
  refine (new_any N _ (by omega) (by omega)).mono ?_
  rintro e w2 ⟨g, m, r, rfl, d2, hg, hm, hr, b2⟩
  have hg' : w.heap.size ≤ g := Nat.le_trans b1.size hg
  have hm' : w.heap.size ≤ m := Nat.le_trans b1.size hm
  have hr' : w.heap.size ≤ r := Nat.le_trans b1.size hr
  have B2 := bnext b1 b2
  have HS : ∀ k, k < w.heap.size → ¬ (k = g ∨ k = m ∨ k = r) := by intro k hk; omega
  have HS' := Lib.hid HS
  clear b1 b2 hg hm hr HS
  go_wp2_with fail
  refine (start_yes g m r N [] 7 (by decide) _ d2 rfl (by simp; omega)).mono ?_
  rintro e w3 ⟨rfl, d3, b3⟩
  have B3 := B2.trans (b3.below B2.size HS'.out)
  go_wp2_with fail
  refine (end_yes g m r N [fresh 7] 7 (by decide) s (fresh 7) _ d3 rfl rfl).mono ?_
  rintro e w4 ⟨rfl, d4, b4⟩
  have B4 := B3.trans (b4.below B3.size HS'.out)
  rw [show upd [fresh 7] 7 s = [⟨7, s, true⟩] from rfl] at d4
  go_wp2_with fail
  refine (end_done g m r N [⟨7, s, true⟩] 7 (by decide) _ ⟨7, s, true⟩ _ d4 rfl rfl).mono ?_
  rintro e w5 ⟨rfl, d5, b5⟩
  have B5 := B4.trans (b5.below B4.size HS'.out)
  go_wp2_with fail
  refine (start_there g m r N [⟨7, s, true⟩] 7 (by decide) ⟨7, s, true⟩ _ d5 rfl).mono ?_
  rintro e w6 ⟨rfl, d6, b6⟩
  have B6 := B5.trans (b6.below B5.size HS'.out)
  have hat : At s w g m r N 0 w6 := ⟨_, d6, good_start s N hN1, B6⟩
  clear d2 d3 d4 d5 d6 b3 b4 b5 b6 B2 B3 B4 B5 B6 hN hK
  go_wp2_with fail
  go_loopw [11] (fun i wx => ∃ j : Nat, j ≤ K ∧ i = .int .i64 j ∧ At s w g m r N j wx) (fun i _ => K - (intOf i).toNat)
  case atStart => exact ⟨0, Nat.zero_le _, rfl, hat⟩
  case round =>
    clear hat
    obtain ⟨j, hj, rfl, l, d, hgood, B⟩ := hrel
    by_cases hjn : j < K
    · obtain ⟨l', hs1, hs2, hs3⟩ := good_step hN1 hgood
      have HD := Lib.hid d
      have HB := Lib.hid B
      have HS1 := Lib.hid hs1
      have HS2 := Lib.hid hs2
      have HS3 := Lib.hid hs3
      have hz := B.size
      clear d B hgood hs1 hs2 hs3
      have C1 := start_any g m r N l (100 + j) (WalkArith.wf_u64 (by omega)) wr HD.out
      rw [HS1.out] at C1
      have HC1 := Lib.hid C1
      clear C1
      go_wp2_with fail
      refine HC1.out.mono ?_
      rintro e w3 ⟨rfl, d3, b3⟩
      have B3 := HB.out.trans (b3.below hz HS'.out)
      have HB3 := Lib.hid B3
      have hz3 := B3.size
      have HD3 := Lib.hid d3
      clear d3 b3 B3 HC1 HD HB hz
      go_wp2_with fail
      refine (end_yes g m r N l' (100 + j) (WalkArith.wf_u64 (by omega)) _ (fresh (100 + j)) _ HD3.out HS2.out rfl).mono ?_
      rintro e w4 ⟨rfl, d4, b4⟩
      have H4 := Lib.hid (show At s w g m r N (j + 1) w4 from ⟨_, d4, HS3.out, HB3.out.trans (b4.below hz3 HS'.out)⟩)
      clear d4 b4 HD3 HB3 hz3 HS1 HS2 HS3
      go_wp2
      go_roundw
      case rel => exact ⟨j + 1, by omega, by go_num, H4.out⟩
      case measure => simp [intOf]; omega
    · obtain rfl : j = K := by omega
      have hlen := hgood.len
      have hfnd := good_find hgood
      have HD := Lib.hid d
      have HB := Lib.hid B
      have HL := Lib.hid hlen
      have hz := B.size
      clear d B hgood hlen
      by_cases hjN : j < N
      · rw [if_pos hjN] at hfnd
        have HF := Lib.hid hfnd
        have hdec : decide (j < N) = true := by simpa using hjN
        clear hfnd
        go_wp2_with fail
        refine (find_any g m r N l 7 (by decide) _ HD.out).mono ?_
        rintro e w3 ⟨rfl, b3⟩
        rw [HF.out]
        dsimp only [foundV]
        have HD3 := Lib.hid (HD.out.next b3)
        have HB3 := Lib.hid (bnext HB.out b3)
        clear b3 HD HB HF
        go_wp2_with fail
        refine (len_any g m r N l _ HD3.out).mono ?_
        rintro e w4 ⟨rfl, rfl⟩
        go_wp2
        all_goals
          go_ret
          exact ⟨ret_bool (by have := HL.out; simp; omega), HB3.out⟩
      · rw [if_neg hjN] at hfnd
        have HF := Lib.hid hfnd
        have hdec : decide (j < N) = false := by simpa using hjN
        clear hfnd
        go_wp2_with fail
        refine (find_any g m r N l 7 (by decide) _ HD.out).mono ?_
        rintro e w3 ⟨rfl, b3⟩
        rw [HF.out]
        dsimp only [foundV]
        have HD3 := Lib.hid (HD.out.next b3)
        have HB3 := Lib.hid (bnext HB.out b3)
        clear b3 HD HB HF
        go_wp2_with fail
        refine (len_any g m r N l _ HD3.out).mono ?_
        rintro e w4 ⟨rfl, rfl⟩
        go_wp2
        all_goals
          go_ret
          exact ⟨ret_bool (by have := HL.out; simp; omega), HB3.out⟩

set_option maxRecDepth 100000 in
theorem lifted (os : Os) (started : os.Started) (H : Type) (enc : TypeId × Value → H) :
    ReturnsInHanded {} Try.checked os 4 .any (Rows.dedupKeepsSpec.pre6 enc Try.prog Try.f4 Rows.dedupKeepsRow.domain false) (Rows.dedupKeepsSpec.post enc Try.prog Try.f4 false true false false) := by
  refine returnsInHanded_of_change (C := Try.checked) own started (by kernel_rfl) Try.func4
    (ChangeSpec.witness6 (enc := enc) (C := Try.checked) false ⟨#[], #[.int .u8 0, .int .u8 0, .string ⟨#[]⟩], []⟩ 8 (by kernel_rfl) (by kernel_rfl) (by kernel_rfl) (by kernel_rfl)) ?_
  intro W base args ds gs before hval0 hW _ _
  have hval : ∀ (j : Nat) t v, Try.f4.params[j]? = some t → args[j]? = some v → Value.okWide Try.prog W .any base t v := hval0
  have hW' := hW
  obtain ⟨p, q, hA0, hV, _, _, _⟩ := hW
  have hA : DataW.TrodAll enc Try.prog W 0 (fun _ => true) true Try.f4.params.toList args.toList ds p := hA0
  rw [Try.params4] at hA hval
  obtain ⟨v0, vs0, d0, ds0, p0, q0, hargs, rfl, _, h0, r0⟩ := trodAll_cons hA
  obtain ⟨v1, vs1, d1, ds1, p1, q1, rfl, rfl, _, h1, r1⟩ := trodAll_cons r0
  obtain ⟨v2, vs2, d2, ds2, p2, q2, rfl, rfl, _, h2, r2⟩ := trodAll_cons r1
  obtain ⟨rfl, rfl, _⟩ := trodAll_nil r2
  obtain rfl : args = #[v0, v1, v2] := by cases args; simp_all
  obtain ⟨rfl, _⟩ := trodVars_none hV
  refine law_post (s := Rows.dedupKeepsSpec) rfl rfl (by rw [Try.params4]; intro t ht; simp at ht; rcases ht with rfl | rfl | rfl <;> exact ⟨by kernel_rfl, of_decide_eq_true (by kernel_rfl)⟩) rfl hW' ?_
  obtain ⟨a0, rfl, _, _, w0⟩ := open_int Try.underlying5 (hval 0 5 v0 rfl rfl) h0
  obtain ⟨a1, rfl, _, _, w1⟩ := open_int Try.underlying5 (hval 1 5 v1 rfl rfl) h1
  obtain ⟨a2, rfl, _, _, w2⟩ := Go.ChangeMaps.open_string Try.underlying9 (hval 2 9 v2 rfl rfl) h2
  exact walk W a0 w0 a1 w1 a2

theorem over : Rows.dedupKeepsRow.holds Try.pinned (OpenSpec.ofChange Rows.dedupKeepsSpec) :=
  OpenClaim.holds_of_wide 4 Try.f4 rfl rfl rfl rfl rfl rfl rfl ⟨rfl, rfl, rfl, rfl, rfl⟩ rfl rfl rfl rfl rfl (by kernel_rfl) Try.func4 (by kernel_rfl)
    (of_decide_eq_true (by kernel_rfl)) (by unfold Func.isWrapper; first | (rw [if_pos (by decide +kernel)]; kernel_rfl) | (rw [if_neg (by decide +kernel)]; exact ⟨rfl, rfl⟩))
    (fun os started H enc _ => lifted os started H enc)

/-- The statement. -/
theorem dedupKeeps_holds : Rows.DedupKeepsSaid := over
end Go.Proofs.Ytpbenlbkfabdoaa.Keeps
