/-
  Contracts of the document's answers of layer 8: Pack.
-/
import Derived.Test.YtoooemmjfmdiaaaNacB
import Derived.Test.YtoooemmjfmdiaaaNacC
import Derived.Deep.QuietTactic
import Derived.BigQuiet
namespace Go.Proofs.Ytoooemmjfmdiaaa
open Go.RowKit

theorem info_P : (Try.prog.info? 29).map (fun i => (i.zero, i.size, i.bytes)) = some (some (.agg #[.int .i64 0, .int .i64 0]), 2, 16) := by kernel_rfl
/-- New pairs, as the document has them. -/
def NewPs (ps : List (Nat × Nat)) (w : World) (e : Ending) (w' : World) : Prop :=
  ∃ A c, e = .returned (.slice A ps.length c) ∧ w'.ownsRow w.heap.size 29 2 (.slice A ps.length c) ps.length (dpC ps) ∧ Below w.heap.size w w'

theorem i64s_at {w : World} {B : Nat} {A : Option Addr} {l : List Nat} (h : Row w B 1 A l.length (i64s l)) (k x : Nat) (hp : l[k]? = some x) :
    ∃ g o, A = some ⟨g, o, none⟩ ∧ g < B ∧ w.cell? ⟨g, o + k, none⟩ = some (.int .i64 (x : Int)) := by
  have hk := (List.getElem?_eq_some_iff.1 hp).1
  obtain ⟨g, o, hA, hg, hc⟩ := h.2 (by omega)
  exact ⟨g, o, hA, hg, hc _ _ (i64s_get l k x hp)⟩
theorem row_P (w : World) (a b : Value) : Row (w.alloc (.cells #[a, b] 29)) (w.heap.size + 1) 2 (some ⟨w.heap.size, 0, none⟩) 1 [a, b] :=
  Row.lit w 29 #[a, b] 2 1 rfl
theorem last_P {w : World} {base : Nat} {A : Option Addr} {c M : Nat} {acc : List (Nat × Nat)} {p m : Nat} (h : w.ownsRow base 29 2 (.slice A (M + 1) c) (M + 1) (dpC (acc ++ [(p, m)]))) (hM : acc.length = M) :
    ∃ g, A = some ⟨g, 0, none⟩ ∧ base ≤ g ∧ g < w.heap.size ∧ w.cell? ⟨g, M * 2, none⟩ = some (.int .i64 (p : Int)) ∧ w.cell? ⟨g, M * 2 + 1, none⟩ = some (.int .i64 (m : Int)) ∧ w.frozen? ⟨g, M * 2 + 1, none⟩ = false := by
  obtain ⟨g, cap, hv, hb, hg⟩ := h.form (by omega)
  have hA : A = some ⟨g, 0, none⟩ := by injection hv
  subst hA
  obtain ⟨k0, k1⟩ := dpC_get (acc ++ [(p, m)]) M (p, m) (by rw [← hM]; simp)
  refine ⟨g, rfl, hb, hg, ?_, ?_, h.frozenAt _⟩
  · rw [h.cellAt _ (by omega)]; exact k0
  · rw [h.cellAt _ (by omega)]; exact k1
theorem dpC_set (acc : List (Nat × Nat)) (p m y : Nat) : (dpC (acc ++ [(p, m)])).set (acc.length * 2 + 1) (.int .i64 (y : Int)) = dpC (acc ++ [(p, y)]) := by
  rw [dpC_append, dpC_append, List.set_append_right _ _ (by rw [dpC_length]; omega), dpC_length]
  rw [show acc.length * 2 + 1 - acc.length * 2 = 1 by omega]
  rfl
theorem test_ref (m V : Nat) (hm : m < 65536) : ((wrap64 ((m : Int) / (V : Int))).tmod 2 == 0) = decide (m / V % 2 = 0) := by
  have h1 : m / V ≤ m := Nat.div_le_self _ _
  have e : ((m : Int) / (V : Int)) = ((m / V : Nat) : Int) := by simp
  rw [e]
  obtain ⟨q, hq⟩ : ∃ q, m / V = q := ⟨_, rfl⟩
  rw [hq] at h1 ⊢
  rw [IntWalk.wrap64_in _ (by omega), Int.tmod_eq_emod_of_nonneg (by omega)]
  by_cases h : q % 2 = 0
  · have : ((q : Int) % 2) = 0 := by omega
    simp [h, this]
  · have : ((q : Int) % 2) = 1 := by omega
    simp [h, this]
theorem far_ref (p x : Nat) (hp : p < 65536) (_hx : x < 65536) : ((x : Int) - p + 65536) % 65536 = ((farN p x : Nat) : Int) := by
  unfold farN; omega

set_option maxRecDepth 100000 in
set_option maxHeartbeats 1600000 in
theorem refPack_any (A : Option Addr) (c : Nat) (l : List Nat) (w : World) (h : Row w w.heap.size 1 A l.length (i64s l)) (hf : ∀ x ∈ l, x < 65536) (hl : l.length ≤ 4096) :
    Calls Try.prog 13 #[.slice A l.length c] w (NewPs (packS l) w) := by
  have H := Lib.hid h
  have HFIT := Lib.hid hf
  clear h hf
  go_enter Try.func13, Try.ntmps13
  go_wp2
  go_loopw [3, 4] (fun v i wr => ∃ (k N : Nat) (ps : List (Nat × Nat)), k ≤ l.length ∧ i = .int .i64 k ∧ N ≤ k ∧ wr.ownsRow w.heap.size 29 2 v N (dpC ps) ∧ Hid ((l.take k).foldl stepP [] = ps) ∧ Hid (Fit ps) ∧ Below w.heap.size w wr) (fun _ i _ => l.length - (intOf i).toNat)
  case atStart => exact ⟨0, 0, [], Nat.zero_le _, rfl, by omega, World.ownsRow_nil _ _ _ _, Lib.hid rfl, Lib.hid (fun _ h => by simp at h), Below.refl _ _⟩
  case round =>
    obtain ⟨k, N, ps, hk, rfl, hN, hown, HX, HFP, hb⟩ := hrel
    obtain ⟨Av, cv, rfl⟩ := own_form hown
    have hpl : ps.length = N := by have := hown.1; rw [dpC_length] at this; omega
    by_cases hlt : k < l.length
    · obtain ⟨x, hp⟩ : ∃ x, l[k]? = some x := ⟨l[k], by simp [hlt]⟩
      obtain ⟨g, o, hA, hg, hc0⟩ := i64s_at ((H.out.below hb (Nat.le_refl _)).more (Nat.le_refl _)) k x hp
      subst hA
      have hi1 : (0 : Int) ≤ (k : Int) := by omega
      have hi2 : (k : Int) < (l.length : Int) := by omega
      have hsz := hb.size
      have hx := HFIT.out _ (List.mem_of_getElem? hp)
      have HX' : Hid ((l.take (k + 1)).foldl stepP [] = stepP ps x) := Lib.hid (by rw [fold_take l k x hp, HX.out])
      have HFP' : Hid (Fit (stepP ps x)) := Lib.hid (stepP_fit ps x HFP.out hx)
      have hne : ∀ q, (Value.slice Av N cv).ownBlock = some q → w.heap.size ≤ q ∧ q < wr.heap.size := fun q hq => hown.lt q hq
      have HNE := Lib.hid hne
      clear hp hne HX
      rcases List.eq_nil_or_concat ps with rfl | ⟨acc, ⟨p, m⟩, hps⟩
      · obtain rfl : N = 0 := by simpa using hpl.symm
        have HO := Lib.hid hown
        have HB := Lib.hid hb
        have HR := Lib.hid (row_P wr (.int .i64 (x : Int)) (.int .i64 0))
        clear hown hb hpl
        go_wp2_with (at_builtin; refine wpl_append _ rfl (.tmp 34) (.tmp 40) 24 rfl w.heap.size 29 (.agg #[.int .i64 0, .int .i64 0]) 2 16 Try.underlying24 info_P rfl (by decide) (.slice Av 0 cv) 0 (dpC []) rfl (HO.out.alloc _) (wr.heap.size + 1) (some ⟨wr.heap.size, 0, none⟩) 1 1 [.int .i64 (x : Int), .int .i64 0] rfl HR.out (by simp [Value.oneCell']) ?c1 ?c2 ?c3 ?_)
        case c1 => unfold maxLen; omega
        case c2 => omega
        case c3 => simp; omega
        intro v3 w3 hown3 hg3 _
        have hb3 : Below w.heap.size w w3 := (HB.out.alloc (by omega) _).grown hg3 (by simp; omega) (fun q hq => (HNE.out q hq).1)
        clear hg3 HO HB HR HNE hsz hc0
        go_wp2
        go_roundw
        case rel => exact ⟨k + 1, 1, [(x, 0)], by omega, by go_num, by omega, hown3, HX', HFP', hb3⟩
        case measure => simp [intOf]; omega
      · rw [List.concat_eq_append] at hps
        subst hps
        obtain ⟨M, hM⟩ : ∃ M, acc.length = M := ⟨_, rfl⟩
        obtain rfl : N = M + 1 := by simp at hpl; omega
        obtain ⟨gv, hAv, hgv, hgv2, d0, d1, df⟩ := last_P hown hM
        subst hAv
        have hpm := HFP.out (p, m) (by simp)
        have hp6 : p < 65536 := hpm.1
        have hm6 : m < 65536 := hpm.2
        have HO := Lib.hid hown
        have HB := Lib.hid hb
        have HM := Lib.hid hM
        have HE := Lib.hid (far_ref p x hp6 hx)
        have hf6 := farN_lt p x
        clear hown hb hpl hpm hM
        go_wp2_with fail
        go_quiet (fail)
        rw [HE.out]
        obtain ⟨f, hf⟩ : ∃ f, farN p x = f := ⟨_, rfl⟩
        obtain ⟨w1, hw1⟩ : ∃ w1, w1 = wr.drewN nq := ⟨_, rfl⟩
        rw [hf] at hf6 ⊢
        rw [← hw1]
        have HO1 : Hid (w1.ownsRow w.heap.size 29 2 (.slice (some ⟨gv, 0, none⟩) (M + 1) cv) (M + 1) (dpC (acc ++ [(p, m)]))) := Lib.hid (by rw [hw1]; exact HO.out)
        have HB1 : Hid (Below w.heap.size w w1) := Lib.hid (by rw [hw1]; exact bdrewN HB.out _)
        have c1 : w1.cell? ⟨g, o + k, none⟩ = some (.int .i64 (x : Int)) := by rw [hw1]; exact hc0
        have e1 : w1.cell? ⟨gv, M * 2 + 1, none⟩ = some (.int .i64 (m : Int)) := by rw [hw1]; exact d1
        have ef : w1.frozen? ⟨gv, M * 2 + 1, none⟩ = false := by rw [hw1]; exact df
        have hsz1 : w.heap.size ≤ w1.heap.size := HB1.out.size
        have hgv1 : gv < w1.heap.size := by rw [hw1]; exact hgv2
        have HFA := Lib.hid hf
        clear hw1 HO HB hc0 d0 d1 df hsz hgv2 HE hf
        by_cases h16 : 16 < f
        · have HS : Hid (stepP (acc ++ [(p, m)]) x = acc ++ [(p, m)] ++ [(x, 0)]) := Lib.hid (by rw [stepP_snoc, HFA.out, if_pos h16])
          have HR := Lib.hid (row_P w1 (.int .i64 (x : Int)) (.int .i64 0))
          have HNE1 : Hid (∀ q, (Value.slice (some ⟨gv, 0, none⟩) (M + 1) cv).ownBlock = some q → w.heap.size ≤ q ∧ q < w1.heap.size) := Lib.hid (fun q hq => HO1.out.lt q hq)
          clear e1 ef
          go_wp2_with (at_builtin; refine wpl_append _ rfl (.tmp 34) (.tmp 40) 24 rfl w.heap.size 29 (.agg #[.int .i64 0, .int .i64 0]) 2 16 Try.underlying24 info_P rfl (by decide) (.slice (some ⟨gv, 0, none⟩) (M + 1) cv) (M + 1) (dpC (acc ++ [(p, m)])) rfl (HO1.out.alloc _) (w1.heap.size + 1) (some ⟨w1.heap.size, 0, none⟩) 1 1 [.int .i64 (x : Int), .int .i64 0] rfl HR.out (by simp [Value.oneCell']) ?c1 ?c2 ?c3 ?_)
          case c1 => unfold maxLen; omega
          case c2 => omega
          case c3 => simp; omega
          intro v3 w3 hown3 hg3 _
          have hb3 : Below w.heap.size w w3 := (HB1.out.alloc (by omega) _).grown hg3 (by simp; omega) (fun q hq => (HNE1.out q hq).1)
          have hown3' : w3.ownsRow w.heap.size 29 2 v3 (M + 1 + 1) (dpC (stepP (acc ++ [(p, m)]) x)) := by
            rw [HS.out, dpC_append]
            exact hown3
          clear hg3 HO1 HB1 HR HNE1 hsz1 hown3 HS c1
          go_wp2
          go_roundw
          case rel => exact ⟨k + 1, M + 1 + 1, _, by omega, by go_num, by omega, hown3', HX', HFP', hb3⟩
          case measure => simp [intOf]; omega
        · go_wp2_with fail
          go_loop [7, 8] (fun v i => ∃ j V : Nat, Hid (V = 2 ^ j) ∧ V ≤ 32768 ∧ j ≤ f - 1 ∧ i = .int .i64 (j + 1 : Nat) ∧ v = .int .i64 V) (fun _ i => f - (intOf i).toNat)
          case atStart => exact ⟨0, 1, Lib.hid rfl, by decide, by omega, rfl, rfl⟩
          case round =>
            obtain ⟨j, V, HV, hV, hj, rfl, rfl⟩ := hrel
            by_cases hjf : j + 1 < f
            · have HV' : Hid (V * 2 = 2 ^ (j + 1)) := Lib.hid (by rw [HV.out, Nat.pow_succ])
              have hV2 : V * 2 ≤ 32768 := by
                have h1 := HV'.out
                have h2 : (2 : Nat) ^ (j + 1) ≤ 2 ^ 15 := Nat.pow_le_pow_right (by decide) (by omega)
                omega
              go_wp2
              go_round
              case rel => exact ⟨j + 1, V * 2, HV', hV2, by omega, by go_num, by go_num⟩
              case measure => simp [intOf]; omega
            · by_cases h0 : f = 0
              · subst h0
                have HS : Hid (stepP (acc ++ [(p, m)]) x = acc ++ [(p, m)]) := Lib.hid (by rw [stepP_snoc, HFA.out, if_neg (by omega), if_pos rfl])
                have HO2 := HO1.out
                rw [← HS.out] at HO2
                clear HO1
                go_wp2
                go_roundw
                case rel => exact ⟨k + 1, M + 1, _, by omega, by go_num, by omega, HO2, HX', HFP', HB1.out⟩
                case measure => simp [intOf]; omega
              · obtain rfl : j = f - 1 := by omega
                have HS : Hid (stepP (acc ++ [(p, m)]) x = acc ++ [(p, setb m (f - 1))]) := Lib.hid (by rw [stepP_snoc, HFA.out, if_neg h16, if_neg h0])
                have hfp : 0 < f := by omega
                have hVp : 0 < V := by rw [HV.out]; exact Nat.two_pow_pos _
                clear h0
                have ht := test_ref m V hm6
                have hbit := bit_mod m (f - 1)
                rw [← HV.out] at hbit
                by_cases hb : m / V % 2 = 0
                · rw [show decide (m / V % 2 = 0) = true by simp [hb]] at ht
                  have HS2 : Hid (stepP (acc ++ [(p, m)]) x = acc ++ [(p, m + V)]) := Lib.hid (by
                    rw [HS.out, HV.out, setb_add (by rw [hbit]; simp; omega)])
                  have hst := (HO1.out.stored (M * 2 + 1) (.int .i64 ((m + V : Nat) : Int))).1
                  have hset := dpC_set acc p m (m + V)
                  rw [HM.out] at hset
                  rw [hset, ← HS2.out] at hst
                  have HST := Lib.hid hst
                  have HB2 : Hid (Below w.heap.size w (w1.setCell ⟨gv, M * 2 + 1, none⟩ (.int .i64 ((m + V : Nat) : Int)))) := Lib.hid (HB1.out.setCell hgv _)
                  clear hb hbit HS HS2 HO1 HB1 hst hset
                  go_wp2
                  go_roundw
                  case rel => exact ⟨k + 1, M + 1, _, by omega, by go_num, by omega, HST.out, HX', HFP', HB2.out⟩
                  case measure => simp [intOf]; omega
                · rw [show decide (m / V % 2 = 0) = false by simp [hb]] at ht
                  have HS2 : Hid (stepP (acc ++ [(p, m)]) x = acc ++ [(p, m)]) := Lib.hid (by
                    rw [HS.out, setb_same (by rw [hbit]; simp; omega)])
                  have HO2 := HO1.out
                  rw [← HS2.out] at HO2
                  clear hb hbit HS HS2 HO1
                  go_wp2
                  go_roundw
                  case rel => exact ⟨k + 1, M + 1, _, by omega, by go_num, by omega, HO2, HX', HFP', HB1.out⟩
                  case measure => simp [intOf]; omega
    · obtain rfl : k = l.length := by omega
      have HF : Hid (NewPs (packS l) w (.returned (.slice Av N cv)) wr) := Lib.hid (by
        have e1 := HX.out
        rw [List.take_length, fold_packS] at e1
        subst e1
        subst hpl
        exact ⟨Av, cv, rfl, hown, hb⟩)
      clear hown hb HX
      go_wp2
      go_ret
      exact HF.out
end Go.Proofs.Ytoooemmjfmdiaaa
