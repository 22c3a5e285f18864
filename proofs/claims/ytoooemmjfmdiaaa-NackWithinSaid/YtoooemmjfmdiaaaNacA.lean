/-
  Contracts of package nack: List.
-/
import Derived.Test.YtoooemmjfmdiaaaProg
import Derived.Test.YtoooemmjfmdiaaaWords
import Derived.Test.YtoooemmjfmdiaaaNacL
import Derived.Test.YtoooemmjfmdiaaaQueL
import Derived.Deep.DeepCutAuto
import Derived.RegionTactic
import Derived.StillTailTactics
import Derived.Laws.OwnMore
import Derived.Deep.AppendLies
import Derived.Laws.BitsAllLaws
namespace Go.Proofs.Ytoooemmjfmdiaaa
open Go.RowKit

theorem ret_bool {a b : Bool} (h : a = b) : Ending.returned (.bool a) = .returned (.bool b) := by rw [h]

/-- Numbers of 16 bits as cells. -/
def n16 (l : List Nat) : List Value := l.map fun (x : Nat) => .int .u16 (x : Int)
theorem n16_length (l : List Nat) : (n16 l).length = l.length := by simp [n16]
theorem n16_append (a b : List Nat) : n16 (a ++ b) = n16 a ++ n16 b := by simp [n16]
theorem n16_get (l : List Nat) (j x : Nat) (h : l[j]? = some x) : (n16 l)[j]? = some (.int .u16 (x : Int)) := by simp [n16, h]
theorem n16_one (l : List Nat) : ∀ u ∈ n16 l, u.oneCell' = true := by
  intro u hu
  obtain ⟨_, _, rfl⟩ := List.mem_map.1 hu
  rfl
/-- Pairs as cells. -/
def prC (l : List (Nat × Nat)) : List Value := l.flatMap fun p => [.int .u16 (p.1 : Int), .int .u16 (p.2 : Int)]
theorem prC_length (l : List (Nat × Nat)) : (prC l).length = l.length * 2 := by induction l <;> simp_all [prC]; omega
theorem prC_append (a b : List (Nat × Nat)) : prC (a ++ b) = prC a ++ prC b := by simp [prC]
theorem prC_one (l : List (Nat × Nat)) : ∀ u ∈ prC l, u.oneCell' = true := by
  intro u hu
  obtain ⟨p, _, h⟩ := List.mem_flatMap.1 hu
  simp at h
  rcases h with rfl | rfl <;> rfl
theorem prC_get (l : List (Nat × Nat)) (k : Nat) (p : Nat × Nat) (h : l[k]? = some p) : (prC l)[k * 2]? = some (.int .u16 (p.1 : Int)) ∧ (prC l)[k * 2 + 1]? = some (.int .u16 (p.2 : Int)) := by
  induction l generalizing k with
  | nil => simp at h
  | cons q l ih =>
    cases k with
    | zero => simp at h; subst h; simp [prC]
    | succ k =>
      have h' := ih k (by simpa using h)
      have e : (k + 1) * 2 = k * 2 + 1 + 1 := by omega
      simpa [prC, e] using h'
theorem prC_at {w : World} {B : Nat} {A : Option Addr} {l : List (Nat × Nat)} (h : Row w B 2 A l.length (prC l)) (k : Nat) (p : Nat × Nat) (hp : l[k]? = some p) :
    ∃ g o, A = some ⟨g, o, none⟩ ∧ g < B ∧ w.cell? ⟨g, o + k * 2, none⟩ = some (.int .u16 (p.1 : Int)) ∧ w.cell? ⟨g, o + k * 2 + 1, none⟩ = some (.int .u16 (p.2 : Int)) := by
  have hk := (List.getElem?_eq_some_iff.1 hp).1
  obtain ⟨g, o, hA, hg, hc⟩ := h.2 (by omega)
  exact ⟨g, o, hA, hg, hc _ _ (prC_get l k p hp).1, hc _ _ (prC_get l k p hp).2⟩
def Fit (l : List (Nat × Nat)) : Prop := ∀ p ∈ l, p.1 < 65536 ∧ p.2 < 65536

theorem aft_snoc (p m : Nat) : ∀ (n k : Nat), aft p m k (n + 1) = aft p m k n ++ if m.testBit (k + n) then [(p + (k + n) + 1) % 65536] else []
  | 0, k => by
    unfold aft
    split <;> simp_all [aft]
  | n + 1, k => by
    have ih := aft_snoc p m n (k + 1)
    rw [show k + 1 + n = k + (n + 1) by omega] at ih
    rw [aft, ih, aft.eq_2 p m k n]
    split <;> simp
theorem bit_is (m j : Nat) (hm : m < 65536) : bits .and .u16 ((m : Int) / 2 ^ j) 1 = if m.testBit j then 1 else 0 := by
  have e : ((m : Int) / 2 ^ j) = ((m / 2 ^ j : Nat) : Int) := by simp
  have hlt : m / 2 ^ j < 65536 := Nat.lt_of_le_of_lt (Nat.div_le_self _ _) hm
  rw [e]
  refine (u16_and_nat (m / 2 ^ j) 1 hlt (by decide)).trans ?_
  rw [nat_mask1, Nat.testBit_eq_decide_div_mod_eq]
  by_cases h : m / 2 ^ j % 2 = 1
  · simp [h]
  · have h0 : m / 2 ^ j % 2 = 0 := by omega
    simp [h0]
theorem wrap_pid (p j : Nat) : IntKind.u16.wrap (IntKind.u16.wrap ((p : Int) + j) + 1) = (((p + j + 1) % 65536 : Nat) : Int) := by
  rw [IntKind.wrap_u16, IntKind.wrap_u16]; omega
theorem info_u16 : (Try.prog.info? 25).map (fun i => (i.zero, i.size, i.bytes)) = some (some (.int .u16 0), 1, 2) := by kernel_rfl

/-- New numbers. -/
def NewNums (xs : List Nat) (w : World) (e : Ending) (w' : World) : Prop :=
  ∃ A c, e = .returned (.slice A xs.length c) ∧ w'.ownsRow w.heap.size 25 1 (.slice A xs.length c) xs.length (n16 xs) ∧ Below w.heap.size w w'

set_option maxRecDepth 100000 in
theorem list_any (A : Option Addr) (c : Nat) (l : List (Nat × Nat)) (w : World) (h : Row w w.heap.size 2 A l.length (prC l)) (hf : Fit l) (hl : l.length ≤ 4096) :
    Calls Try.prog 10 #[.slice A l.length c] w (NewNums (listS l) w) := by
  have H := Lib.hid h
  have HFIT := Lib.hid hf
  clear h hf
  go_enter Try.func10, Try.ntmps10
  go_wp2
  go_loopw [3, 9] (fun v i wr => ∃ k : Nat, k ≤ l.length ∧ i = .int .i64 k ∧ wr.ownsRow w.heap.size 25 1 v (listS (l.take k)).length (n16 (listS (l.take k))) ∧ Below w.heap.size w wr) (fun _ i _ => l.length - (intOf i).toNat)
  case atStart => exact ⟨0, Nat.zero_le _, rfl, World.ownsRow_nil _ _ _ _, Below.refl _ _⟩
  case round =>
    obtain ⟨k, hk, rfl, hown, hb⟩ := hrel
    obtain ⟨Av, cv, rfl⟩ := own_form hown
    by_cases hlt : k < l.length
    · obtain ⟨p, hp⟩ : ∃ p, l[k]? = some p := ⟨l[k], by simp [hlt]⟩
      obtain ⟨g, o, hA, hg, hc0, hc1⟩ := prC_at ((H.out.below hb (Nat.le_refl _)).more (Nat.le_refl _)) k p hp
      subst hA
      have hi1 : (0 : Int) ≤ (k : Int) := by omega
      have hi2 : (k : Int) < (l.length : Int) := by omega
      have hlen := listS_length (l.take k)
      have hlen2 : (l.take k).length ≤ k := List.length_take_le _ _
      obtain ⟨N, hN⟩ : ∃ N, (listS (l.take k)).length = N := ⟨_, rfl⟩
      obtain ⟨xs, hxs⟩ : ∃ xs, listS (l.take k) = xs := ⟨_, rfl⟩
      rw [hxs] at hN hlen hown ⊢
      obtain ⟨p0, p1⟩ := p
      dsimp only at hc0 hc1
      have hsz := hb.size
      rw [hN] at hlen hown ⊢
      have HO := Lib.hid hown
      have HB := Lib.hid hb
      have HP := Lib.hid hp
      have HX := Lib.hid hxs
      have HN := Lib.hid hN
      clear hown hb hp hxs hN
      have hrow : Row ((wr.alloc (.cells #[.int .u16 (p0 : Int), .int .u16 (p1 : Int)] 27)).alloc (.cells #[.int .u16 (p0 : Int)] 25)) (wr.heap.size + 2) 1 (some ⟨wr.heap.size + 1, 0, none⟩) 1 [.int .u16 (p0 : Int)] := by
        have := Row.one (wr.alloc (.cells #[.int .u16 (p0 : Int), .int .u16 (p1 : Int)] 27)) 25 (.int .u16 (p0 : Int))
        simpa using this
      have HR := Lib.hid hrow
      clear hrow
      go_wp2_with (at_builtin; refine wpl_append _ rfl (.tmp 13) (.tmp 16) 30 rfl w.heap.size 25 (.int .u16 0) 1 2 Try.underlying30 info_u16 rfl (by decide) (.slice Av N cv) N (n16 xs) rfl ((HO.out.alloc _).alloc _) (wr.heap.size + 2) (some ⟨wr.heap.size + 1, 0, none⟩) 1 1 [.int .u16 (p0 : Int)] rfl HR.out (by simp [Value.oneCell']) ?c1 ?c2 ?c3 ?_)
      case c1 => unfold maxLen; omega
      case c2 => omega
      case c3 => simp; omega
      intro v3 w3 hown3 hg3 _
      have hne : ∀ q, (Value.slice Av N cv).ownBlock = some q → w.heap.size ≤ q ∧ q < wr.heap.size := fun q hq => HO.out.lt q hq
      have hwp : Whole w3 wr.heap.size 27 #[.int .u16 (p0 : Int), .int .u16 (p1 : Int)] := ((Whole.new wr _ _).alloc _).grown hg3 (fun e => by have := (hne _ e.symm).2; omega)
      have hb3 : Below w.heap.size w w3 := ((HB.out.alloc (by omega) _).alloc (by simp; omega) _).grown hg3 (by simp; omega) (fun q hq => (hne q hq).1)
      have hown3' : w3.ownsRow w.heap.size 25 1 v3 (N + 1) (n16 (xs ++ [p0])) := by
        rw [n16_append]
        exact hown3
      clear hown3 hg3 hne HO HB HR hsz
      go_wp2_with fail
      obtain ⟨gp, hgp⟩ : ∃ gp, gp = wr.heap.size := ⟨_, rfl⟩
      rw [← hgp] at hwp ⊢
      clear hc0 hc1
      clear hgp
      go_loopw [3, 18] (fun v i wx => ∃ (j M : Nat) (ys : List Nat), j ≤ 16 ∧ i = .int .i64 j ∧ M ≤ N + 1 + j ∧ wx.ownsRow w.heap.size 25 1 v M (n16 ys) ∧ Hid (ys = xs ++ p0 :: aft p0 p1 0 j) ∧ Whole wx gp 27 #[.int .u16 (p0 : Int), .int .u16 (p1 : Int)] ∧ Below w.heap.size w wx) (fun _ i _ => 16 - (intOf i).toNat)
      case atStart => exact ⟨0, N + 1, xs ++ [p0], by omega, rfl, by omega, hown3', Lib.hid rfl, hwp, hb3⟩
      case round =>
        clear hwp hb3 hown3'
        obtain ⟨j, M, ys, hj, rfl, hM, hown, HY, hw, hb⟩ := hrel
        obtain ⟨A3, c3, rfl⟩ := own_form hown
        have hp16 : p1 < 65536 := (HFIT.out _ (List.mem_of_getElem? HP.out)).2
        by_cases hj16 : j < 16
        · have hd0 := hw.cell 0
          have hd1 := hw.cell 1
          simp at hd0 hd1
          have hsz := hb.size
          have hbi := bit_is p1 j hp16
          have hne : ∀ q, (Value.slice A3 M c3).ownBlock = some q → w.heap.size ≤ q ∧ q < wr.heap.size := fun q hq => hown.lt q hq
          have hfar := own_far hown hw (by decide)
          have HO := Lib.hid hown
          have HB := Lib.hid hb
          have HW := Lib.hid hw
          have HNE := Lib.hid hne
          have HFR := Lib.hid hfar
          clear hown hb hw hne hfar
          by_cases hbit : p1.testBit j = true
          · rw [if_pos hbit] at hbi
            have HBT := Lib.hid hbit
            clear hbit
            have hrow : Row (wr.alloc (.cells #[.int .u16 (((p0 + j + 1) % 65536 : Nat) : Int)] 25)) (wr.heap.size + 1) 1 (some ⟨wr.heap.size, 0, none⟩) 1 [.int .u16 (((p0 + j + 1) % 65536 : Nat) : Int)] := Row.one _ _ _
            rw [← wrap_pid] at hrow
            have HR := Lib.hid hrow
            clear hrow
            go_wp2_with (at_builtin; refine wpl_append _ rfl (.tmp 27) (.tmp 34) 30 rfl w.heap.size 25 (.int .u16 0) 1 2 Try.underlying30 info_u16 rfl (by decide) (.slice A3 M c3) M (n16 ys) rfl (HO.out.alloc _) (wr.heap.size + 1) (some ⟨wr.heap.size, 0, none⟩) 1 1 [.int .u16 (IntKind.u16.wrap (IntKind.u16.wrap ((p0 : Int) + j) + 1))] rfl HR.out (by simp [Value.oneCell']) ?c1 ?c2 ?c3 ?_)
            case c1 => unfold maxLen; omega
            case c2 => omega
            case c3 => simp; omega
            intro v4 w4 hown4 hg4 _
            have hw4 := (HW.out.alloc (.cells #[.int .u16 (IntKind.u16.wrap (IntKind.u16.wrap ((p0 : Int) + j) + 1))] 25)).grown hg4 HFR.out
            have hb4 : Below w.heap.size w w4 := (HB.out.alloc (by omega) _).grown hg4 (by simp; omega) (fun q hq => (HNE.out q hq).1)
            have hown4' : w4.ownsRow w.heap.size 25 1 v4 (M + 1) (n16 (ys ++ [(p0 + j + 1) % 65536])) := by
              rw [n16_append]
              rw [wrap_pid] at hown4
              exact hown4
            have HY' : Hid (ys ++ [(p0 + j + 1) % 65536] = xs ++ p0 :: aft p0 p1 0 (j + 1)) := Lib.hid (by
              rw [aft_snoc, Nat.zero_add, if_pos HBT.out, HY.out]; simp)
            clear hown4 hg4 HO HB HR HW HNE HFR hsz hd0 hd1 hbi
            go_wp2
            go_roundw
            case rel => exact ⟨j + 1, M + 1, _, by omega, by go_num, by omega, hown4', HY', hw4, hb4⟩
            case measure => simp [intOf]; omega
          · rw [if_neg hbit] at hbi
            have HY' : Hid (ys = xs ++ p0 :: aft p0 p1 0 (j + 1)) := Lib.hid (by
              rw [aft_snoc, Nat.zero_add, if_neg hbit, HY.out]; simp)
            clear hbit
            go_wp2
            go_roundw
            case rel => exact ⟨j + 1, M, ys, by omega, by go_num, by omega, HO.out, HY', HW.out, HB.out⟩
            case measure => simp [intOf]; omega
        · obtain rfl : j = 16 := by omega
          have hfin : wr.ownsRow w.heap.size 25 1 (.slice A3 M c3) (listS (l.take (k + 1))).length (n16 (listS (l.take (k + 1)))) := by
            have e : listS (l.take (k + 1)) = ys := by
              rw [List.take_add_one, HP.out, listS_append, HX.out, HY.out]
              simp [listS, listP]
            rw [e]
            have e2 : ys.length = M := by have := hown.1; rw [n16_length] at this; omega
            rw [e2]
            exact hown
          clear hown hw HY
          go_wp2
          go_roundw
          case rel => exact ⟨k + 1, by omega, by go_num, hfin, hb⟩
          case measure => simp [intOf]; omega
    · obtain rfl : k = l.length := by omega
      rw [List.take_length] at hown ⊢
      have HF : Hid (NewNums (listS l) w (.returned (.slice Av (listS l).length cv)) wr) := Lib.hid ⟨Av, cv, rfl, hown, hb⟩
      clear hown hb
      go_wp2
      go_ret
      exact HF.out
end Go.Proofs.Ytoooemmjfmdiaaa
