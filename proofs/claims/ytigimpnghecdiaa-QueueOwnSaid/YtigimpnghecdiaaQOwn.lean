/-
  Proved: QueueOwn returns true for every list of numbers: what All tells can be written over, and two queues play no part for each other. Conditions: none.
-/
import Derived.Test.YtigimpnghecdiaaQueP
import Derived.Laws.OwnMore
namespace Go.Proofs.Ytigimpnghecdiaa.QOwn
open Go.ChangeShapes Go.WideShapes Go.ChangeAt Go.RowKit

def AllInts (xs : List Value) : Prop := ∀ u ∈ xs, ∃ x : Int, u = .int .i64 x
theorem AllInts.set {xs : List Value} (h : AllInts xs) (j : Nat) (x : Int) : AllInts (xs.set j (.int .i64 x)) := by
  intro u hu
  rcases List.mem_or_eq_of_mem_set hu with h1 | h1
  · exact h u h1
  · exact ⟨x, h1⟩

set_option maxRecDepth 100000 in
set_option maxHeartbeats 3200000 in
theorem walk (w : World) (A : Option Addr) (c : Nat) (l : List Int) (hl : l.length ≤ maxLen) (hr : Row w w.heap.size 1 A l.length (l.map (Value.int .i64))) :
    Calls Try.prog 6 #[.slice A l.length c] w fun e w' => e = .returned (.bool true) ∧ Below w.heap.size w w' := by
  unfold maxLen at hl
  by_cases hlong : 100 < l.length
  · go_enter Try.func6, Try.ntmps6
    go_wp2_with (go_at_call 8; refine (awake_any w).mono ?_; rintro e w1 ⟨rfl, b1⟩)
    go_ret
    exact ⟨rfl, b1⟩
  go_enter Try.func6, Try.ntmps6
  go_wp2_with fail
  refine (awake_any w).mono ?_
  rintro e w1 ⟨rfl, b1⟩
  go_wp2_with fail
  refine (newI_any 200 _ (by decide) (by decide)).mono ?_
  rintro e w2 ⟨g, r, rfl, q2, hg, hr2, b2⟩
  have hg' : w.heap.size ≤ g := Nat.le_trans b1.size hg
  have hr' : w.heap.size ≤ r := Nat.le_trans b1.size hr2
  have B2 := bnext b1 b2
  clear b1 b2 hg hr2
  go_wp2_with fail
  refine (newI_any 200 _ (by decide) (by decide)).mono ?_
  rintro e w3 ⟨g2, r2, rfl, p3, hg, hr2, b3⟩
  have hlt2 := q2.lt
  have q3 := q2.next b3
  have hg2' : w.heap.size ≤ g2 := Nat.le_trans B2.size hg
  have hr2' : w.heap.size ≤ r2 := Nat.le_trans B2.size hr2
  have d1 : g ≠ g2 := by omega
  have d2 : g ≠ r2 := by omega
  have d3 : r ≠ g2 := by omega
  have d4 : r ≠ r2 := by omega
  have B3 := bnext B2 b3
  clear b3 B2 q2
  go_wp2_with fail
  go_loopw [6] (fun i wx => ∃ k : Nat, k ≤ l.length ∧ i = .int .i64 k ∧ QI wx g r 200 (l.take k) ∧ QI wx g2 r2 200 (l.reverse.take k) ∧ Below w.heap.size w wx) (fun i _ => l.length - (intOf i).toNat)
  case atStart => exact ⟨0, Nat.zero_le _, rfl, q3, p3, B3⟩
  case round =>
    clear q3 p3 B3
    obtain ⟨k, hk, rfl, q, p, B⟩ := hrel
    by_cases hkl : k < l.length
    · obtain ⟨m, hm⟩ : ∃ m, l.length - 1 - k = m := ⟨_, rfl⟩
      have hml : m < l.length := by omega
      obtain ⟨gs, o, hA, hgs, hc0⟩ := map_cell hr B k hkl
      obtain ⟨gs', o', hA', _, hc1⟩ := map_cell hr B m hml
      subst hA
      injection hA' with hA'
      injection hA' with hA1 hA2
      subst hA1
      subst hA2
      obtain ⟨u, hu⟩ : ∃ u, l[k] = u := ⟨_, rfl⟩
      obtain ⟨v, hv⟩ : ∃ v, l[m] = v := ⟨_, rfl⟩
      rw [hu] at hc0
      rw [hv] at hc1
      have e1 : l.take k ++ [u] = l.take (k + 1) := by rw [← hu]; simp
      have e2 : l.reverse.take k ++ [v] = l.reverse.take (k + 1) := by
        rw [List.take_succ_eq_append_getElem (by simpa using hkl), List.getElem_reverse, ← hv]
        subst hm
        rfl
      have E1 := Lib.hid e1
      have E2 := Lib.hid e2
      have hmi : (l.length : Int) - 1 - (k : Int) = (m : Int) := by omega
      have hi1 : (0 : Int) ≤ (m : Int) := by omega
      have hi2 : (m : Int) < (l.length : Int) := by omega
      have L1 : (l.take k).length < 200 := by simp; omega
      have L2 : (l.reverse.take k).length < 200 := by simp; omega
      clear hu hv e1 e2 hm
      go_wp2_with fail
      refine (pushI_yes g r 200 _ u _ q L1).mono ?_
      rintro e w4 ⟨rfl, q4, t4⟩
      have p4 := p.two t4 (Ne.symm d1) (Ne.symm d3) (Ne.symm d2) (Ne.symm d4)
      have B4 := B.trans (t4.below hg' hr')
      have hc4 := ((t4.below (B := w.heap.size) hg' hr').cell (p := ⟨gs, o + m, none⟩) hgs).trans hc1
      rw [E1.out] at q4
      clear q p B t4 hc0 hc1 L1
      go_wp2_with fail
      refine (pushI_yes g2 r2 200 _ v _ p4 L2).mono ?_
      rintro e w5 ⟨rfl, p5, t5⟩
      have q5 := q4.two t5 d1 d2 d3 d4
      have B5 := B4.trans (t5.below hg2' hr2')
      rw [E2.out] at p5
      clear q4 p4 B4 t5 hc4 L2 E1 E2 hmi
      go_wp2_with fail
      go_roundw
      case rel => exact ⟨k + 1, hkl, by go_num, q5, p5, B5⟩
      case measure => simp [intOf]; omega
    · obtain rfl : k = l.length := by omega
      rw [List.take_length] at q
      rw [show l.reverse.take l.length = l.reverse from List.take_of_length_le (by simp)] at p
      go_wp2_with fail
      refine (allI_any g r 200 l _ q).mono ?_
      rintro e w4 ⟨A4, c4, rfl, own4, b4⟩
      have q4 := q.next b4
      have p4 := p.next b4
      have B4 := bnext B b4
      have hql := q.lt
      have hpl := p.lt
      clear q p B b4
      obtain ⟨z, hz⟩ : ∃ z, wr.heap.size = z := ⟨_, rfl⟩
      rw [hz] at own4 hql hpl
      clear hz
      have hall : AllInts (l.map (Value.int .i64)) := by intro u hu; obtain ⟨x, _, rfl⟩ := List.mem_map.1 hu; exact ⟨x, rfl⟩
      generalize l.map (Value.int .i64) = xs0 at own4 hall
      go_wp2_with fail
      go_loopw [8] (fun i wx => ∃ (j : Nat) (xs : List Value), j ≤ l.length ∧ i = .int .i64 j ∧ wx.ownsRow z 3 1 (.slice A4 l.length c4) l.length xs ∧ AllInts xs ∧ QI wx g r 200 l ∧ QI wx g2 r2 200 l.reverse ∧ Below w.heap.size w wx) (fun i _ => l.length - (intOf i).toNat)
      case atStart => exact ⟨0, _, Nat.zero_le _, rfl, own4, hall, q4, p4, B4⟩
      case round =>
        clear own4 hall q4 p4 B4
        obtain ⟨j, xs, hj, rfl, own, hall, q, p, B⟩ := hrel
        by_cases hjl : j < l.length
        · have hxl : j < xs.length := by have := own.1; omega
          obtain ⟨ga, cap, hva, hza, hga⟩ := own.form (by omega)
          injection hva with hA4 _ hcap
          subst hA4
          subst hcap
          obtain ⟨x, hx⟩ := hall _ (List.getElem_mem hxl)
          have hcx := own.cells (g := ga) rfl j (.int .i64 x) (by rw [List.getElem?_eq_getElem hxl, hx])
          rw [Addr.add_lit, Nat.zero_add] at hcx
          have hfx := own.frozenAt j
          have hi1 : (0 : Int) ≤ (j : Int) := by omega
          have hi2 : (j : Int) < (l.length : Int) := by omega
          clear hx
          have hkeep : ∀ y : Int, (wr.setCell ⟨ga, j, none⟩ (.int .i64 y)).ownsRow z 3 1 (.slice (some ⟨ga, 0, none⟩) l.length c4) l.length (xs.set j (.int .i64 y)) ∧ AllInts (xs.set j (.int .i64 y)) ∧ QI (wr.setCell ⟨ga, j, none⟩ (.int .i64 y)) g r 200 l ∧ QI (wr.setCell ⟨ga, j, none⟩ (.int .i64 y)) g2 r2 200 l.reverse ∧ Below w.heap.size w (wr.setCell ⟨ga, j, none⟩ (.int .i64 y)) := by
            intro y
            have n1 : g ≠ ga := by omega
            have n2 : r ≠ ga := by omega
            have n3 : g2 ≠ ga := by omega
            have n4 : r2 ≠ ga := by omega
            exact ⟨(own.stored j _).1, hall.set j y, q.far n1 n2 _, p.far n3 n4 _, B.setCell (by simp; omega) _⟩
          have HK := Lib.hid hkeep
          clear hkeep own hall q p B
          go_wp2_with fail
          go_roundw
          case rel => exact ⟨j + 1, _, hjl, by go_num, HK.out _⟩
          case measure => simp [intOf]; omega
        · clear own hall
          go_wp2_with fail
          go_loopw [9] (fun i wx => ∃ k : Nat, k ≤ l.length ∧ i = .int .i64 k ∧ QI wx g r 200 (l.drop k) ∧ QI wx g2 r2 200 (l.reverse.drop k) ∧ Below w.heap.size w wx) (fun i _ => l.length - (intOf i).toNat)
          case atStart => exact ⟨0, Nat.zero_le _, rfl, q, p, B⟩
          case round =>
            clear q p B
            obtain ⟨k, hk, rfl, q, p, B⟩ := hrel
            by_cases hkl : k < l.length
            · obtain ⟨m, hm⟩ : ∃ m, l.length - 1 - k = m := ⟨_, rfl⟩
              have hml : m < l.length := by omega
              have e1 : l.drop k = l[k] :: l.drop (k + 1) := List.drop_eq_getElem_cons hkl
              have e2 : l.reverse.drop k = l[m] :: l.reverse.drop (k + 1) := by
                rw [List.drop_eq_getElem_cons (by simpa using hkl), List.getElem_reverse]
                subst hm
                rfl
              rw [e1] at q
              rw [e2] at p
              clear e1 e2
              obtain ⟨gs, o, hA, hgs, hc0⟩ := map_cell hr B k hkl
              obtain ⟨gs', o', hA', _, hc1⟩ := map_cell hr B m hml
              subst hA
              injection hA' with hA'
              injection hA' with hA1 hA2
              subst hA1
              subst hA2
              generalize l[k] = u at q hc0
              generalize l[m] = v at p hc1
              have hmi : (l.length : Int) - 1 - (k : Int) = (m : Int) := by omega
              have hi1 : (0 : Int) ≤ (m : Int) := by omega
              have hi2 : (m : Int) < (l.length : Int) := by omega
              clear hm
              go_wp2_with fail
              refine (popI_yes g r 200 _ u _ q).mono ?_
              rintro e w5 ⟨rfl, q5, t5⟩
              have p5 := p.two t5 (Ne.symm d1) (Ne.symm d3) (Ne.symm d2) (Ne.symm d4)
              have B5 := B.trans (t5.below hg' hr')
              have hc50 := ((t5.below (B := w.heap.size) hg' hr').cell (p := ⟨gs, o + k, none⟩) hgs).trans hc0
              have hc51 := ((t5.below (B := w.heap.size) hg' hr').cell (p := ⟨gs, o + m, none⟩) hgs).trans hc1
              clear q p B t5 hc0 hc1
              go_wp2_with fail
              refine (popI_yes g2 r2 200 _ v _ p5).mono ?_
              rintro e w6 ⟨rfl, p6, t6⟩
              have q6 := q5.two t6 d1 d2 d3 d4
              have B6 := B5.trans (t6.below hg2' hr2')
              have hc60 := ((t6.below (B := w.heap.size) hg2' hr2').cell (p := ⟨gs, o + k, none⟩) hgs).trans hc50
              have hc61 := ((t6.below (B := w.heap.size) hg2' hr2').cell (p := ⟨gs, o + m, none⟩) hgs).trans hc51
              clear q5 p5 B5 t6 hc50 hc51
              go_wp2_with fail
              go_roundw
              case rel => exact ⟨k + 1, hkl, by go_num, q6, p6, B6⟩
              case measure => simp [intOf]; omega
            · obtain rfl : k = l.length := by omega
              rw [List.drop_length] at q
              rw [show l.reverse.drop l.length = [] from List.drop_of_length_le (by simp)] at p
              go_wp2_with fail
              refine (lenI_any g r 200 [] _ q).mono ?_
              rintro e w5 ⟨rfl, rfl⟩
              go_wp2_with fail
              refine (lenI_any g2 r2 200 [] _ p).mono ?_
              rintro e w5 ⟨rfl, rfl⟩
              rw [show ((([] : List Int).length : Nat) : Int) = 0 from rfl]
              have H := Lib.hid B
              clear q p B hr
              go_wp2
              go_ret
              exact ⟨rfl, H.out⟩

set_option maxRecDepth 100000 in
theorem lifted (os : Os) (started : os.Started) (H : Type) (enc : TypeId × Value → H) :
    ReturnsInHanded {} Try.checked os 6 .any (Rows.queueOwnSpec.pre6 enc Try.prog Try.f6 Rows.queueOwnRow.domain false) (Rows.queueOwnSpec.post enc Try.prog Try.f6 false true false false) := by
  refine returnsInHanded_of_change (C := Try.checked) own started (by kernel_rfl) Try.func6
    (ChangeSpec.witness6 (enc := enc) (C := Try.checked) false ⟨#[], #[.slice none 0 0], []⟩ 8 (by kernel_rfl) (by kernel_rfl) (by kernel_rfl) (by kernel_rfl)) ?_
  intro W base args ds gs before hval0 hW _ _
  have hval : ∀ (j : Nat) t v, Try.f6.params[j]? = some t → args[j]? = some v → Value.okWide Try.prog W .any base t v := hval0
  have hW' := hW
  obtain ⟨p, q, hA0, hV, _, _, _⟩ := hW
  have hA : DataW.TrodAll enc Try.prog W 0 (fun _ => true) true Try.f6.params.toList args.toList ds p := hA0
  rw [Try.params6] at hA hval
  obtain ⟨v0, vs0, d0, ds0, p0, q0, hargs, rfl, _, h0, r0⟩ := trodAll_cons hA
  obtain ⟨rfl, rfl, _⟩ := trodAll_nil r0
  obtain rfl : args = #[v0] := by cases args; simp_all
  obtain ⟨rfl, _⟩ := trodVars_none hV
  refine law_post (s := Rows.queueOwnSpec) rfl rfl (by rw [Try.params6]; intro t ht; simp at ht; rcases ht with rfl <;> exact ⟨by kernel_rfl, of_decide_eq_true (by kernel_rfl)⟩) rfl hW' ?_
  obtain ⟨A0, c0, l0, rfl, hl0, hr0, _, _, hw0⟩ := open_nums Try.underlying26 Try.underlying3 (by kernel_rfl) (hval 0 26 v0 rfl rfl) h0
  exact walk W A0 c0 l0 hl0 hr0

theorem over : Rows.queueOwnRow.holds Try.pinned (OpenSpec.ofChange Rows.queueOwnSpec) :=
  OpenClaim.holds_of_wide 6 Try.f6 rfl rfl rfl rfl rfl rfl rfl ⟨rfl, rfl, rfl, rfl, rfl⟩ rfl rfl rfl rfl rfl (by kernel_rfl) Try.func6 (by kernel_rfl)
    (of_decide_eq_true (by kernel_rfl)) (by unfold Func.isWrapper; first | (rw [if_pos (by decide +kernel)]; kernel_rfl) | (rw [if_neg (by decide +kernel)]; exact ⟨rfl, rfl⟩))
    (fun os started H enc _ => lifted os started H enc)

/-- The statement. -/
theorem queueOwn_holds : Rows.QueueOwnSaid := over
end Go.Proofs.Ytigimpnghecdiaa.QOwn
