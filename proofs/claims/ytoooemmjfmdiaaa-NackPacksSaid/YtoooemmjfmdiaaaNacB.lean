/-
  Contracts of the document's answers of layer 8: List.
-/
import Derived.Test.YtoooemmjfmdiaaaNacA
namespace Go.Proofs.Ytoooemmjfmdiaaa
open Go.RowKit

/-- Numbers as the document has them. -/
def i64s (l : List Nat) : List Value := l.map fun (x : Nat) => .int .i64 (x : Int)
theorem i64s_length (l : List Nat) : (i64s l).length = l.length := by simp [i64s]
theorem i64s_append (a b : List Nat) : i64s (a ++ b) = i64s a ++ i64s b := by simp [i64s]
theorem i64s_get (l : List Nat) (j x : Nat) (h : l[j]? = some x) : (i64s l)[j]? = some (.int .i64 (x : Int)) := by simp [i64s, h]
/-- Pairs as the document has them. -/
def dpC (l : List (Nat × Nat)) : List Value := l.flatMap fun p => [.int .i64 (p.1 : Int), .int .i64 (p.2 : Int)]
theorem dpC_length (l : List (Nat × Nat)) : (dpC l).length = l.length * 2 := by induction l <;> simp_all [dpC]; omega
theorem dpC_append (a b : List (Nat × Nat)) : dpC (a ++ b) = dpC a ++ dpC b := by simp [dpC]
theorem dpC_get (l : List (Nat × Nat)) (k : Nat) (p : Nat × Nat) (h : l[k]? = some p) : (dpC l)[k * 2]? = some (.int .i64 (p.1 : Int)) ∧ (dpC l)[k * 2 + 1]? = some (.int .i64 (p.2 : Int)) := by
  induction l generalizing k with
  | nil => simp at h
  | cons q l ih =>
    cases k with
    | zero => simp at h; subst h; simp [dpC]
    | succ k =>
      have h' := ih k (by simpa using h)
      have e : (k + 1) * 2 = k * 2 + 1 + 1 := by omega
      simpa [dpC, e] using h'
theorem dpC_at {w : World} {B : Nat} {A : Option Addr} {l : List (Nat × Nat)} (h : Row w B 2 A l.length (dpC l)) (k : Nat) (p : Nat × Nat) (hp : l[k]? = some p) :
    ∃ g o, A = some ⟨g, o, none⟩ ∧ g < B ∧ w.cell? ⟨g, o + k * 2, none⟩ = some (.int .i64 (p.1 : Int)) ∧ w.cell? ⟨g, o + k * 2 + 1, none⟩ = some (.int .i64 (p.2 : Int)) := by
  have hk := (List.getElem?_eq_some_iff.1 hp).1
  obtain ⟨g, o, hA, hg, hc⟩ := h.2 (by omega)
  exact ⟨g, o, hA, hg, hc _ _ (dpC_get l k p hp).1, hc _ _ (dpC_get l k p hp).2⟩
theorem info_int : (Try.prog.info? 3).map (fun i => (i.zero, i.size, i.bytes)) = some (some (.int .i64 0), 1, 8) := by kernel_rfl
theorem half_half (m k : Nat) : m / 2 ^ k / 2 = m / 2 ^ (k + 1) := by rw [Nat.div_div_eq_div_mul, Nat.pow_succ]
theorem bit_mod (m k : Nat) : m.testBit k = decide (m / 2 ^ k % 2 = 1) := Nat.testBit_eq_decide_div_mod_eq

/-- New numbers, as the document has them. -/
def NewInts (xs : List Nat) (w : World) (e : Ending) (w' : World) : Prop :=
  ∃ A c, e = .returned (.slice A xs.length c) ∧ w'.ownsRow w.heap.size 3 1 (.slice A xs.length c) xs.length (i64s xs) ∧ Below w.heap.size w w'

set_option maxRecDepth 100000 in
theorem refList_any (A : Option Addr) (c : Nat) (l : List (Nat × Nat)) (w : World) (h : Row w w.heap.size 2 A l.length (dpC l)) (hf : Fit l) (hl : l.length ≤ 4096) :
    Calls Try.prog 11 #[.slice A l.length c] w (NewInts (listS l) w) := by
  have H := Lib.hid h
  have HFIT := Lib.hid hf
  clear h hf
  go_enter Try.func11, Try.ntmps11
  go_wp2
  go_loopw [3, 4] (fun v i wr => ∃ (k N : Nat) (xs : List Nat), k ≤ l.length ∧ i = .int .i64 k ∧ N ≤ 17 * k ∧ wr.ownsRow w.heap.size 3 1 v N (i64s xs) ∧ Hid (listS (l.take k) = xs) ∧ Below w.heap.size w wr) (fun _ i _ => l.length - (intOf i).toNat)
  case atStart => exact ⟨0, 0, [], Nat.zero_le _, rfl, by omega, World.ownsRow_nil _ _ _ _, Lib.hid rfl, Below.refl _ _⟩
  case round =>
    obtain ⟨k, N, xs, hk, rfl, hN, hown, HX, hb⟩ := hrel
    obtain ⟨Av, cv, rfl⟩ := own_form hown
    by_cases hlt : k < l.length
    · obtain ⟨⟨p0, p1⟩, hp⟩ : ∃ p, l[k]? = some p := ⟨l[k], by simp [hlt]⟩
      obtain ⟨g, o, hA, hg, hc0, hc1⟩ := dpC_at ((H.out.below hb (Nat.le_refl _)).more (Nat.le_refl _)) k (p0, p1) hp
      subst hA
      have HAT := Lib.hid (fun w' (b' : Below w.heap.size w w') => show w'.cell? ⟨g, o + k * 2, none⟩ = some (.int .i64 (p0 : Int)) ∧ w'.cell? ⟨g, o + k * 2 + 1, none⟩ = some (.int .i64 (p1 : Int)) from by
        obtain ⟨g', o', e', _, k0, k1⟩ := dpC_at ((H.out.below b' (Nat.le_refl _)).more (Nat.le_refl _)) k (p0, p1) hp
        injection e' with e'
        injection e' with e1 e2
        subst e1 e2
        exact ⟨k0, k1⟩)
      have hi1 : (0 : Int) ≤ (k : Int) := by omega
      have hi2 : (k : Int) < (l.length : Int) := by omega
      have hsz := hb.size
      obtain ⟨hp0, hp1⟩ := HFIT.out _ (List.mem_of_getElem? hp)
      dsimp only at hp0 hp1
      have hrow : Row (wr.alloc (.cells #[.int .i64 (p0 : Int)] 3)) (wr.heap.size + 1) 1 (some ⟨wr.heap.size, 0, none⟩) 1 [.int .i64 (p0 : Int)] := Row.one _ _ _
      have hne : ∀ q, (Value.slice Av N cv).ownBlock = some q → w.heap.size ≤ q ∧ q < wr.heap.size := fun q hq => hown.lt q hq
      have HO := Lib.hid hown
      have HB := Lib.hid hb
      have HP := Lib.hid hp
      have HR := Lib.hid hrow
      have HNE := Lib.hid hne
      clear hown hb hp hrow hne
      go_wp2_with (at_builtin; refine wpl_append _ rfl (.tmp 13) (.tmp 19) 32 rfl w.heap.size 3 (.int .i64 0) 1 8 Try.underlying32 info_int rfl (by decide) (.slice Av N cv) N (i64s xs) rfl (HO.out.alloc _) (wr.heap.size + 1) (some ⟨wr.heap.size, 0, none⟩) 1 1 [.int .i64 (p0 : Int)] rfl HR.out (by simp [Value.oneCell']) ?c1 ?c2 ?c3 ?_)
      case c1 => unfold maxLen; omega
      case c2 => omega
      case c3 => omega
      intro v3 w3 hown3 hg3 _
      have hb3 : Below w.heap.size w w3 := (HB.out.alloc (by omega) _).grown hg3 (by simp; omega) (fun q hq => (HNE.out q hq).1)
      have hown3' : w3.ownsRow w.heap.size 3 1 v3 (N + 1) (i64s (xs ++ [p0])) := by
        rw [i64s_append]
        exact hown3
      clear hc0 hc1 hown3 hg3 HO HB HR HNE hsz
      obtain ⟨hc0, hc1⟩ := HAT.out _ hb3
      go_wp2_with fail
      clear hc0 hc1
      go_loopw [3, 5, 6] (fun v m i wx => ∃ (j M : Nat) (ys : List Nat) (q : Nat), j ≤ 16 ∧ i = .int .i64 (j + 1 : Nat) ∧ m = .int .i64 q ∧ q < 65536 ∧ Hid (q = p1 / 2 ^ j) ∧ M ≤ N + 1 + j ∧ wx.ownsRow w.heap.size 3 1 v M (i64s ys) ∧ Hid (ys = xs ++ p0 :: aft p0 p1 0 j) ∧ Below w.heap.size w wx) (fun _ _ i _ => 17 - (intOf i).toNat)
      case atStart => exact ⟨0, N + 1, xs ++ [p0], p1, by omega, rfl, rfl, hp1, Lib.hid (by simp), by omega, hown3', Lib.hid rfl, hb3⟩
      case round =>
        clear hb3 hown3'
        obtain ⟨j, M, ys, q, hj, rfl, rfl, hq, HQ, hM, hown, HY, hb⟩ := hrel
        obtain ⟨A3, c3, rfl⟩ := own_form hown
        by_cases hj16 : j < 16
        · have hsz := hb.size
          obtain ⟨hc0, hc1⟩ := HAT.out _ hb
          have hne : ∀ q, (Value.slice A3 M c3).ownBlock = some q → w.heap.size ≤ q ∧ q < wr.heap.size := fun q hq => hown.lt q hq
          have HO := Lib.hid hown
          have HB := Lib.hid hb
          have HNE := Lib.hid hne
          have HQ' : Hid (q / 2 = p1 / 2 ^ (j + 1)) := Lib.hid (by rw [HQ.out, half_half])
          have hbit := bit_mod p1 j
          rw [← HQ.out] at hbit
          have HBI := Lib.hid hbit
          have hq2 : q / 2 < 65536 := by omega
          clear hown hb hne hbit
          by_cases hbt : q % 2 = 1
          · have hbi : (((q : Int) % 2) == 1) = true := by simp; omega
            have HBT : Hid (p1.testBit j = true) := Lib.hid (by rw [HBI.out]; simpa using hbt)
            clear hbt HBI HQ
            have hrow : Row (wr.alloc (.cells #[.int .i64 (((p0 : Int) + ((j : Int) + 1)) % 65536)] 3)) (wr.heap.size + 1) 1 (some ⟨wr.heap.size, 0, none⟩) 1 [.int .i64 (((p0 : Int) + ((j : Int) + 1)) % 65536)] := Row.one _ _ _
            have HR := Lib.hid hrow
            clear hrow
            go_wp2_with (at_builtin; refine wpl_append _ rfl (.tmp 33) (.tmp 42) 32 rfl w.heap.size 3 (.int .i64 0) 1 8 Try.underlying32 info_int rfl (by decide) (.slice A3 M c3) M (i64s ys) rfl (HO.out.alloc _) (wr.heap.size + 1) (some ⟨wr.heap.size, 0, none⟩) 1 1 [.int .i64 (((p0 : Int) + ((j : Int) + 1)) % 65536)] rfl HR.out (by simp [Value.oneCell']) ?c1 ?c2 ?c3 ?_)
            case c1 => unfold maxLen; omega
            case c2 => omega
            case c3 => simp; omega
            intro v4 w4 hown4 hg4 _
            have hb4 : Below w.heap.size w w4 := (HB.out.alloc (by omega) _).grown hg4 (by simp; omega) (fun q hq => (HNE.out q hq).1)
            have hown4' : w4.ownsRow w.heap.size 3 1 v4 (M + 1) (i64s (ys ++ [(p0 + j + 1) % 65536])) := by
              rw [i64s_append]
              rw [show ((p0 : Int) + ((j : Int) + 1)) % 65536 = (((p0 + j + 1) % 65536 : Nat) : Int) by omega] at hown4
              exact hown4
            have HY' : Hid (ys ++ [(p0 + j + 1) % 65536] = xs ++ p0 :: aft p0 p1 0 (j + 1)) := Lib.hid (by
              rw [aft_snoc, Nat.zero_add, if_pos HBT.out, HY.out]; simp)
            clear hown4 hg4 HO HB HR HNE hsz hbi hc0 hc1
            go_wp2
            go_roundw
            case rel => exact ⟨j + 1, M + 1, _, q / 2, by omega, by go_num, by go_num, hq2, HQ', by omega, hown4', HY', hb4⟩
            case measure => simp [intOf]; omega
          · have hbi : (((q : Int) % 2) == 1) = false := by simp; omega
            have HBT : Hid (p1.testBit j = false) := Lib.hid (by rw [HBI.out]; simpa using hbt)
            clear hbt HBI HQ
            have HY' : Hid (ys = xs ++ p0 :: aft p0 p1 0 (j + 1)) := Lib.hid (by
              rw [aft_snoc, Nat.zero_add, if_neg (by rw [HBT.out]; decide), HY.out]; simp)
            go_wp2
            go_roundw
            case rel => exact ⟨j + 1, M, ys, q / 2, by omega, by go_num, by go_num, hq2, HQ', by omega, HO.out, HY', HB.out⟩
            case measure => simp [intOf]; omega
        · obtain rfl : j = 16 := by omega
          have HX' : Hid (listS (l.take (k + 1)) = ys) := Lib.hid (by
            rw [List.take_add_one, HP.out, listS_append, HX.out, HY.out]
            simp [listS, listP])
          have HO := Lib.hid hown
          clear hown HY HX HQ
          go_wp2
          go_roundw
          case rel => exact ⟨k + 1, M, ys, by omega, by go_num, by omega, HO.out, HX', hb⟩
          case measure => simp [intOf]; omega
    · obtain rfl : k = l.length := by omega
      have HF : Hid (NewInts (listS l) w (.returned (.slice Av N cv)) wr) := Lib.hid (by
        have e1 := HX.out
        rw [List.take_length] at e1
        have e2 : xs.length = N := by have := hown.1; rw [i64s_length] at this; omega
        subst e1
        subst e2
        exact ⟨Av, cv, rfl, hown, hb⟩)
      clear hown hb HX
      go_wp2
      go_ret
      exact HF.out
end Go.Proofs.Ytoooemmjfmdiaaa
