/-
  Proved: PinsPlays returns true for every number of workers and every row of acts: whatever is done, what is told, the oldest epoch, and what is swept, are the document's, step by step. Conditions: none.
-/
import Derived.Test.YtgacejencnkpmaaPnS
import Derived.Test.YtgacejencnkpmaaPnM
import Derived.Test.YtgacejencnkpmaaPnO
import Derived.Test.YtgacejencnkpmaaLift
import Derived.Deep.CutBlock
import Derived.Deep.DeepCutAuto
import Derived.Deep.RegionHeld3
import Derived.RegionTactic
import Derived.IntWalk
namespace Go.Proofs.Ytgacejencnkpmaa.PPlays
open Go.ChangeShapes Go.WideShapes Go.ChangeAt Go.RowKit
set_option linter.unusedSimpArgs false
set_option linter.unusedVariables false
set_option maxRecDepth 100000

theorem made_workers (n : Nat) : (madeCells #[.int .u64 0, .int .u64 0, .bool false] (n * 3)).toList = wdC (freshK n) := by
  apply List.ext_getElem?
  intro j
  by_cases hj : j < n * 3
  · have e1 : (madeCells #[.int .u64 0, .int .u64 0, .bool false] (n * 3)).toList[j]? = some ((#[.int .u64 0, .int .u64 0, .bool false] : Array Value)[j % 3]!) := by
      simp [madeCells, hj]
    have hf : (freshK n)[j / 3]? = some ⟨0, none⟩ := by
      unfold freshK
      rw [List.getElem?_replicate, if_pos (by omega)]
    obtain ⟨g0, g1, g2⟩ := wdC_get hf
    rw [e1]
    have h3 : j % 3 = 0 ∨ j % 3 = 1 ∨ j % 3 = 2 := by omega
    rcases h3 with h | h | h
    · rw [h, show j = j / 3 * 3 by omega, g0]; rfl
    · rw [h, show j = j / 3 * 3 + 1 by omega, g1]; rfl
    · rw [h, show j = j / 3 * 3 + 2 by omega, g2]; rfl
  · rw [List.getElem?_eq_none (by simp [madeCells]; omega), List.getElem?_eq_none (by rw [wdC_length, freshK_length]; omega)]
theorem make_workers (n : Nat) (h2 : n ≤ 4096) (w : World) : ∃ cs : Array Value, cs.toList = wdC (freshK n) ∧ cs.size = n * 3 ∧ (Instr.makeSlice 26 (.int .i64 n) (.int .i64 n)).run Try.prog w = .ok (.slice (some ⟨w.heap.size, 0, none⟩) n n) (w.alloc (.cells cs 65)) := by
  obtain ⟨i, hi0, hi1, hi2, hi3⟩ := info_parts info_WD
  have h := run_make (P := Try.prog) w 26 65 i (.agg #[.int .u64 0, .int .u64 0, .bool false]) Try.underlying26 hi0 hi1 .i64 .i64 n n (by omega) (Int.le_refl _) (by rw [hi3]; omega) (by omega)
  rw [Int.toNat_natCast, hi2] at h
  exact ⟨_, made_workers n, by rw [size_madeCells], h⟩

/-- What a round keeps. -/
def Keeps (w0 : World) (g W : Nat) (wr : World) : Prop := ∃ (l : List Wk) (q : List Wt) (S : Nat → Prop) (A B : Option Addr) (c d : Nat), Syn w0 g W l l q q S A B c d wr

set_option maxHeartbeats 6400000 in
theorem walk (w : World) (a : Int) (ha : (Lit.int .u8 a).wf = true) (A : Option Addr) (c : Nat) (ps : List Pc) (hl : ps.length ≤ maxLen) (hr : Row w w.heap.size 5 A ps.length (rowC Pc.cells ps)) (ho : ∀ x ∈ ps, x.Fit) :
    Calls Try.prog 3 #[.int .u8 a, .slice A ps.length c] w fun e w' => e = .returned (.bool true) ∧ Below w.heap.size w w' := by
  unfold maxLen at hl
  have ha' := wf_u8 ha
  clear ha
  obtain ⟨m, hm⟩ : ∃ m, ps.length = m := ⟨_, rfl⟩
  have HM := Lib.hid hm
  rw [hm] at hr hl ⊢
  have HR := Lib.hid (fun (h0 : 0 < m) => row_at Pc.cells_length hr h0)
  clear hr ho hm
  by_cases hlong : 200 < m
  · go_enter Try.func3, Try.ntmps3
    go_wp2_with (go_at_call 8; refine (awake16 w).mono ?_; rintro e w1 ⟨rfl, b1⟩)
    go_ret
    exact ⟨rfl, b1⟩
  obtain ⟨n, hn⟩ : ∃ n : Nat, a % 4 + 1 = (n : Int) := ⟨(a % 4 + 1).toNat, by omega⟩
  have hn1 : 1 ≤ n := by omega
  have hn2 : n ≤ 4 := by omega
  go_enter Try.func3, Try.ntmps3
  go_wp2_with fail
  refine (awake16 w).mono ?_
  rintro e w1 ⟨rfl, b1⟩
  have HB1 := Lib.hid b1
  clear b1
  go_wp2_with fail
  refine (pnew_any w1 n hn1 hn2).mono ?_
  rintro e w2 ⟨g, S, rfl, d2, s2, b2⟩
  obtain ⟨cs, hcs, hcz, mk⟩ := make_workers n (by omega) w2
  have hlt2 := d2.lt
  have H3 := Lib.hid (show Keeps w g (w2.heap.size + 1) ((w2.alloc (.cells cs 65)).alloc (.cells #[.slice (some ⟨w2.heap.size, 0, none⟩) n n, .slice none 0 0] 29)) from by
    have bA : Below w2.heap.size w2 (w2.alloc (.cells cs 65)) := (Below.refl _ _).alloc (Nat.le_refl _) _
    have bB : Below w2.heap.size w2 ((w2.alloc (.cells cs 65)).alloc (.cells #[.slice (some ⟨w2.heap.size, 0, none⟩) n n, .slice none 0 0] 29)) := bA.alloc (by simp) _
    have b0 : Below w.heap.size w w2 := bnext HB1.out b2
    refine ⟨freshK n, [], S, some ⟨w2.heap.size, 0, none⟩, none, n, 0, d2.next bB, fun k hk => Nat.le_trans HB1.out.size (s2 k hk), ?_, by have := b0.size; omega, fun h => by have := hlt2 _ h; omega, ?_, Row.nil, fun _ a ha => ?_, fun h => by simp at h, b0.trans (bB.mono b0.size)⟩
    · rw [freshK_length]; exact Whole.new2 w2 _ _ _
    · rw [freshK_length]
      have h := (Row.fresh w2 65 cs 3 n _ hcz hcs)
      exact (h.alloc (by simp) _).more (by simp)
    · injection ha with ha
      subst ha
      exact ⟨fun h => by have h1 := hlt2 _ h; exact Nat.lt_irrefl _ h1, by show w2.heap.size ≠ w2.heap.size + 1; omega⟩)
  clear d2 s2 b2 HB1 hlt2 hcs hcz
  go_wp2_with fail
  obtain ⟨W, hW⟩ : ∃ W, w2.heap.size + 1 = W := ⟨_, rfl⟩
  rw [hW] at H3 ⊢
  go_loopw [9] (fun i wr => ∃ k : Nat, k ≤ m ∧ i = .int .i64 (k : Int) ∧ Keeps w g W wr) (fun i _ => m - (intOf i).toNat)
  case atStart => exact ⟨0, Nat.zero_le _, rfl, H3.out⟩
  case round =>
    clear H3 mk hW
    obtain ⟨k, hk, rfl, hK⟩ := hrel
    have HK := Lib.hid hK
    clear hK
    by_cases hlt : k < m
    · obtain ⟨ga, oa, rfl, hga, hca⟩ := HR.out (by omega)
      obtain ⟨x, hx⟩ : ∃ x, ps[k]? = some x := ⟨_, List.getElem?_eq_getElem (by rw [HM.out]; exact hlt)⟩
      have HC := Lib.hid (fun w' b => And.intro (hca w' b k x 0 _ hx rfl) (And.intro (hca w' b k x 1 _ hx rfl) (And.intro (hca w' b k x 2 _ hx rfl) (And.intro (hca w' b k x 3 _ hx rfl) (hca w' b k x 4 _ hx rfl)))))
      clear hca hx
      have i0 : (0 : Int) ≤ (k : Int) := by omega
      have i1 : (k : Int) < (m : Int) := by omega
      obtain ⟨kind, who, ep, rs, rt⟩ := x
      dsimp only at HC
      obtain ⟨l, q, S, A, B, c, d, hsy⟩ := HK.out
      obtain ⟨a0, a1, a2, a3, a4⟩ := HC.out wr hsy.below
      rw [Nat.add_zero] at a0
      have hz := hsy.below.size
      have hgo : ga < wr.heap.size := by omega
      have hlen := hsy.at'.len
      go_upto_region 13 with fail
      obtain ⟨wo, hwo⟩ : ∃ z, z = wr.alloc (.cells #[.int .i64 kind, .int .i64 who, .int .u64 ep, .int .i64 rs, .int .u32 rt] 35) := ⟨_, rfl⟩
      have HSY := Lib.hid (show Syn w g W l l q q S A B c d wo by rw [hwo]; exact hsy.next ((Below.refl _ _).alloc (Nat.le_refl _) _))
      have HX := Lib.hid (show Whole wo wr.heap.size 35 #[.int .i64 kind, .int .i64 who, .int .u64 ep, .int .i64 rs, .int .u32 rt] by rw [hwo]; exact Whole.new wr _ _)
      have hnX : ¬ S wr.heap.size := fun h => Nat.lt_irrefl _ (hsy.at'.lt _ h)
      have hWX : W ≠ wr.heap.size := fun h => Nat.lt_irrefl _ (h ▸ hsy.x.lt)
      obtain ⟨X, hX⟩ : ∃ z, wr.heap.size = z := ⟨_, rfl⟩
      rw [hX] at HX hnX hWX
      rw [← hwo, hX]
      have hXW : X ≠ W := fun h => hWX h.symm
      have HNX := Lib.hid hnX
      clear hwo hsy HK a0 a1 a2 a3 a4 hX hz hgo hnX HC
      have x0 := HX.out.cell 0
      have x1 := HX.out.cell 1
      have x2 := HX.out.cell 2
      have x3 := HX.out.cell 3
      have x4 := HX.out.cell 4
      have lX := HX.out.lt
      have p0 := HSY.out.x.cell 0
      have p1 := HSY.out.x.cell 1
      have pf0 := HSY.out.x.free 0
      have pf1 := HSY.out.x.free 1
      have lW := HSY.out.x.lt
      obtain ⟨ln, hln⟩ : ∃ z, l.length = z := ⟨_, rfl⟩
      obtain ⟨qn, hqn⟩ : ∃ z, q.length = z := ⟨_, rfl⟩
      have HLN := Lib.hid hln
      have HQN := Lib.hid hqn
      rw [hln, hqn] at p0 p1 hlen
      clear hln hqn
      go_upto_block 2 with fail
      go_cut [] (fun wx => Keeps w g W wx)
      case first =>
        by_cases h01 : kind = 0 ∨ kind = 1
        · have D := rinst_any A c l B q.length d who ep wo HSY.out.rA (by rw [HLN.out]; omega)
          unfold POut at D
          have CI := Lib.hid (fun S' w' (h : PAt w' g S' l q) => pinst_any l q g S' w' who ep h)
          obtain ⟨er, her⟩ : ∃ z, instE l who ep = z := ⟨_, rfl⟩
          have hll := instS_length l who ep
          obtain ⟨l2, hl2⟩ : ∃ z, instS l who ep = z := ⟨_, rfl⟩
          rw [her, hl2] at D CI
          rw [hl2, HLN.out] at hll
          rw [HLN.out, HQN.out] at D
          replace D := Lib.hid D
          have D := D.out
          have HL2 := Lib.hid hll
          have D := Lib.hid D
          clear her hl2 hll
          rcases h01 with rfl | rfl
          all_goals
            go_wp2_with fail
            refine D.out.mono ?_
            rintro e w3 ⟨A3, c3, rfl, p3⟩
            have X3 := HX.out.below p3.2.2 HX.out.lt
            have W3 := HSY.out.x.below p3.2.2 HSY.out.x.lt
            rw [HLN.out, HQN.out] at W3
            have HS4 := Lib.hid (show Syn w g W l l2 q q S A3 B c3 d (((w3.setCell ⟨W, 0, none⟩ (.slice A3 ln c3)).setCell ⟨W, 1, none⟩ (.slice B qn d)).alloc (.cells #[.slice A3 ln c3, .slice B qn d] 29)) from by
              have h := HSY.out.docA (ld' := l2) (c' := c3) (w1 := w3) (w' := w3) (by rw [HLN.out, HL2.out]; exact p3) (Below.refl _ _)
              rw [HL2.out, HQN.out] at h
              exact h.next ((Below.refl _ _).alloc (Nat.le_refl _) _))
            clear x0 x1 x2 x3 x4 lX p0 p1 pf0 pf1 lW
            have x0 := X3.cell 0
            have x1 := X3.cell 1
            have x2 := X3.cell 2
            have x3 := X3.cell 3
            have x4 := X3.cell 4
            have lX := X3.lt
            have p0 := W3.cell 0
            have p1 := W3.cell 1
            have pf0 := W3.free 0
            have pf1 := W3.free 1
            have lW := W3.lt
            clear p3 X3 W3 D HSY HX
            go_wp2_with fail
            obtain ⟨w4, hw4⟩ : ∃ z, z = (((w3.setCell ⟨W, 0, none⟩ (.slice A3 ln c3)).setCell ⟨W, 1, none⟩ (.slice B qn d)).alloc (.cells #[.slice A3 ln c3, .slice B qn d] 29)) := ⟨_, rfl⟩
            rw [← hw4] at HS4 ⊢
            clear hw4 x0 x1 x2 x3 x4 lX p0 p1 pf0 pf1 lW
            refine (CI.out S w4 HS4.out.at').mono ?_
            rintro e w5 ⟨S5, rfl, d5, k5, m5⟩
            have HF := Lib.hid (show Keeps w g W w5 from ⟨l2, q, S5, A3, B, c3, d, HS4.out.code d5 k5 m5⟩)
            clear d5 k5 m5 HS4 CI
            go_wp2_with fail
            go_meet
            exact HF.out
        · have z0 : ¬ kind = 0 := fun h => h01 (.inl h)
          have z1 : ¬ kind = 1 := fun h => h01 (.inr h)
          clear h01
          by_cases h2 : kind = 2
          · subst h2
            have D := rpin_any A c l B q.length d who wo HSY.out.rA (by rw [HLN.out]; omega)
            unfold POut at D
            have CI := Lib.hid (fun S' w' (h : PAt w' g S' l q) => ppin_any l q g S' w' who h)
            obtain ⟨er, her⟩ : ∃ z, pinE l who = z := ⟨_, rfl⟩
            obtain ⟨xr, hxr⟩ : ∃ z, pinX l who = z := ⟨_, rfl⟩
            have hll := pinS_length l who
            obtain ⟨l2, hl2⟩ : ∃ z, pinS l who = z := ⟨_, rfl⟩
            rw [her, hxr, hl2] at D CI
            rw [hl2, HLN.out] at hll
            rw [HLN.out, HQN.out] at D
            replace D := Lib.hid D
            have HL2 := Lib.hid hll
            clear her hxr hl2 hll
            go_wp2_with fail
            refine D.out.mono ?_
            rintro e w3 ⟨A3, c3, rfl, p3⟩
            have X3 := HX.out.below p3.2.2 HX.out.lt
            have W3 := HSY.out.x.below p3.2.2 HSY.out.x.lt
            rw [HLN.out, HQN.out] at W3
            have HS4 := Lib.hid (show Syn w g W l l2 q q S A3 B c3 d (((w3.setCell ⟨W, 0, none⟩ (.slice A3 ln c3)).setCell ⟨W, 1, none⟩ (.slice B qn d)).alloc (.cells #[.slice A3 ln c3, .slice B qn d] 29)) from by
              have h := HSY.out.docA (ld' := l2) (c' := c3) (w1 := w3) (w' := w3) (by rw [HLN.out, HL2.out]; exact p3) (Below.refl _ _)
              rw [HL2.out, HQN.out] at h
              exact h.next ((Below.refl _ _).alloc (Nat.le_refl _) _))
            clear x0 x1 x2 x3 x4 lX p0 p1 pf0 pf1 lW
            have x0 := X3.cell 0
            have x1 := X3.cell 1
            have x2 := X3.cell 2
            have x3 := X3.cell 3
            have x4 := X3.cell 4
            have lX := X3.lt
            have p0 := W3.cell 0
            have p1 := W3.cell 1
            have pf0 := W3.free 0
            have pf1 := W3.free 1
            have lW := W3.lt
            clear p3 X3 W3 D HSY HX
            go_wp2_with fail
            obtain ⟨w4, hw4⟩ : ∃ z, z = (((w3.setCell ⟨W, 0, none⟩ (.slice A3 ln c3)).setCell ⟨W, 1, none⟩ (.slice B qn d)).alloc (.cells #[.slice A3 ln c3, .slice B qn d] 29)) := ⟨_, rfl⟩
            rw [← hw4] at HS4 ⊢
            clear hw4 x0 x1 x2 x3 x4 lX p0 p1 pf0 pf1 lW
            refine (CI.out S w4 HS4.out.at').mono ?_
            rintro e w5 ⟨S5, rfl, d5, k5, m5⟩
            have HF := Lib.hid (show Keeps w g W w5 from ⟨l2, q, S5, A3, B, c3, d, HS4.out.code d5 k5 m5⟩)
            clear d5 k5 m5 HS4 CI
            go_wp2_with fail
            go_meet
            exact HF.out
          · by_cases h3 : kind = 3
            · subst h3
              have D := runpin_any A c l B q.length d who wo HSY.out.rA (by rw [HLN.out]; omega)
              unfold POut at D
              have CI := Lib.hid (fun S' w' (h : PAt w' g S' l q) => punpin_any l q g S' w' who h)
              obtain ⟨er, her⟩ : ∃ z, unpE l who = z := ⟨_, rfl⟩
              have hll := unpS_length l who
              obtain ⟨l2, hl2⟩ : ∃ z, unpS l who = z := ⟨_, rfl⟩
              rw [her, hl2] at D CI
              rw [hl2, HLN.out] at hll
              rw [HLN.out, HQN.out] at D
              replace D := Lib.hid D
              have HL2 := Lib.hid hll
              clear her hl2 hll
              go_wp2_with fail
              refine D.out.mono ?_
              rintro e w3 ⟨A3, c3, rfl, p3⟩
              have X3 := HX.out.below p3.2.2 HX.out.lt
              have W3 := HSY.out.x.below p3.2.2 HSY.out.x.lt
              rw [HLN.out, HQN.out] at W3
              have HS4 := Lib.hid (show Syn w g W l l2 q q S A3 B c3 d (((w3.setCell ⟨W, 0, none⟩ (.slice A3 ln c3)).setCell ⟨W, 1, none⟩ (.slice B qn d)).alloc (.cells #[.slice A3 ln c3, .slice B qn d] 29)) from by
                have h := HSY.out.docA (ld' := l2) (c' := c3) (w1 := w3) (w' := w3) (by rw [HLN.out, HL2.out]; exact p3) (Below.refl _ _)
                rw [HL2.out, HQN.out] at h
                exact h.next ((Below.refl _ _).alloc (Nat.le_refl _) _))
              clear x0 x1 x2 x3 x4 lX p0 p1 pf0 pf1 lW
              have x0 := X3.cell 0
              have x1 := X3.cell 1
              have x2 := X3.cell 2
              have x3 := X3.cell 3
              have x4 := X3.cell 4
              have lX := X3.lt
              have p0 := W3.cell 0
              have p1 := W3.cell 1
              have pf0 := W3.free 0
              have pf1 := W3.free 1
              have lW := W3.lt
              clear p3 X3 W3 D HSY HX
              go_wp2_with fail
              obtain ⟨w4, hw4⟩ : ∃ z, z = (((w3.setCell ⟨W, 0, none⟩ (.slice A3 ln c3)).setCell ⟨W, 1, none⟩ (.slice B qn d)).alloc (.cells #[.slice A3 ln c3, .slice B qn d] 29)) := ⟨_, rfl⟩
              rw [← hw4] at HS4 ⊢
              clear hw4 x0 x1 x2 x3 x4 lX p0 p1 pf0 pf1 lW
              refine (CI.out S w4 HS4.out.at').mono ?_
              rintro e w5 ⟨S5, rfl, d5, k5, m5⟩
              have HF := Lib.hid (show Keeps w g W w5 from ⟨l2, q, S5, A3, B, c3, d, HS4.out.code d5 k5 m5⟩)
              clear d5 k5 m5 HS4 CI
              go_wp2_with fail
              go_meet
              exact HF.out
            · by_cases h45 : kind = 4 ∨ kind = 5
              · have D := rret_any A l.length c B q d rs rt ep wo HSY.out.rB (by rw [HQN.out]; omega)
                unfold ROut at D
                have CI := Lib.hid (fun S' w' (h : PAt w' g S' l q) => pret_any l q g S' w' rs rt ep h)
                obtain ⟨er, her⟩ : ∃ z, retE q = z := ⟨_, rfl⟩
                obtain ⟨q2, hq2⟩ : ∃ z, retS q ⟨rs, rt, ep⟩ = z := ⟨_, rfl⟩
                rw [her, hq2] at D CI
                obtain ⟨q2n, hq2n⟩ : ∃ z, q2.length = z := ⟨_, rfl⟩
                have HQ2 := Lib.hid hq2n
                rw [HLN.out, HQN.out, hq2n] at D
                replace D := Lib.hid D
                clear her hq2 hq2n
                rcases h45 with rfl | rfl
                all_goals
                  go_wp2_with fail
                  refine D.out.mono ?_
                  rintro e w3 ⟨B3, d3, rfl, p3⟩
                  have X3 := HX.out.below p3.2.2 HX.out.lt
                  have W3 := HSY.out.x.below p3.2.2 HSY.out.x.lt
                  rw [HLN.out, HQN.out] at W3
                  have HS4 := Lib.hid (show Syn w g W l l q q2 S A B3 c d3 (((w3.setCell ⟨W, 0, none⟩ (.slice A ln c)).setCell ⟨W, 1, none⟩ (.slice B3 q2n d3)).alloc (.cells #[.slice A ln c, .slice B3 q2n d3] 29)) from by
                    have h := HSY.out.docB (qd' := q2) (d' := d3) (w1 := w3) (w' := w3) (by rw [HQN.out, HQ2.out]; exact p3) (Below.refl _ _)
                    rw [HLN.out, HQ2.out] at h
                    exact h.next ((Below.refl _ _).alloc (Nat.le_refl _) _))
                  clear x0 x1 x2 x3 x4 lX p0 p1 pf0 pf1 lW
                  have x0 := X3.cell 0
                  have x1 := X3.cell 1
                  have x2 := X3.cell 2
                  have x3 := X3.cell 3
                  have x4 := X3.cell 4
                  have lX := X3.lt
                  have p0 := W3.cell 0
                  have p1 := W3.cell 1
                  have pf0 := W3.free 0
                  have pf1 := W3.free 1
                  have lW := W3.lt
                  clear p3 X3 W3 D HSY HX
                  go_wp2_with fail
                  obtain ⟨w4, hw4⟩ : ∃ z, z = (((w3.setCell ⟨W, 0, none⟩ (.slice A ln c)).setCell ⟨W, 1, none⟩ (.slice B3 q2n d3)).alloc (.cells #[.slice A ln c, .slice B3 q2n d3] 29)) := ⟨_, rfl⟩
                  rw [← hw4] at HS4 ⊢
                  clear hw4 x0 x1 x2 x3 x4 lX p0 p1 pf0 pf1 lW
                  refine (CI.out S w4 HS4.out.at').mono ?_
                  rintro e w5 ⟨S5, rfl, d5, k5, m5⟩
                  have HF := Lib.hid (show Keeps w g W w5 from ⟨l, q2, S5, A, B3, c, d3, HS4.out.code d5 k5 m5⟩)
                  clear d5 k5 m5 HS4 CI
                  go_wp2_with fail
                  go_meet
                  exact HF.out
              · have z3 : ¬ kind = 4 := fun h => h45 (.inl h)
                have z4 : ¬ kind = 5 := fun h => h45 (.inr h)
                clear h45
                have D := rsweep_any A c l B q d wo HSY.out.rA (by rw [HLN.out]; omega) (by rw [HLN.out]; omega) HSY.out.rB (by rw [HQN.out]; omega)
                unfold SOut at D
                have CI := Lib.hid (fun S' w' (h : PAt w' g S' l q) => psweep_any l q g S' w' h)
                unfold PSwept at CI
                obtain ⟨x, hx⟩ : ∃ z, oldS l = z := ⟨_, rfl⟩
                obtain ⟨G, hG⟩ : ∃ z, goes x q = z := ⟨_, rfl⟩
                obtain ⟨q2, hq2⟩ : ∃ z, stays x q = z := ⟨_, rfl⟩
                obtain ⟨q2n, hq2n⟩ : ∃ z, q2.length = z := ⟨_, rfl⟩
                obtain ⟨N, hN⟩ : ∃ z, G.length = z := ⟨_, rfl⟩
                have hN64 : N ≤ 64 := by have := goes_le x q; rw [hG, hN, HQN.out] at this; omega
                have HQ2 := Lib.hid hq2n
                have HGN := Lib.hid hN
                rw [hx, hG, hq2] at D CI
                rw [hN] at D CI
                rw [HLN.out, HQN.out, hq2n] at D
                replace D := Lib.hid D
                clear hx hG hq2 hq2n hN
                go_wp2_with fail
                refine D.out.mono ?_
                rintro e w3 ⟨B3, d3, R3, rc3, rfl, p3, row3, new3⟩
                have X3 := HX.out.below p3.2.2 HX.out.lt
                have W3 := HSY.out.x.below p3.2.2 HSY.out.x.lt
                rw [HLN.out, HQN.out] at W3
                have HS4 := Lib.hid (show Syn w g W l l q q2 S A B3 c d3 (((w3.setCell ⟨W, 0, none⟩ (.slice A ln c)).setCell ⟨W, 1, none⟩ (.slice B3 q2n d3)).alloc (.cells #[.slice A ln c, .slice B3 q2n d3] 29)) from by
                  have h := HSY.out.docB (qd' := q2) (d' := d3) (w1 := w3) (w' := w3) (by rw [HQN.out, HQ2.out]; exact p3) (Below.refl _ _)
                  rw [HLN.out, HQ2.out] at h
                  exact h.next ((Below.refl _ _).alloc (Nat.le_refl _) _))
                clear x0 x1 x2 x3 x4 lX p0 p1 pf0 pf1 lW
                have x0 := X3.cell 0
                have x1 := X3.cell 1
                have x2 := X3.cell 2
                have x3 := X3.cell 3
                have x4 := X3.cell 4
                have lX := X3.lt
                have p0 := W3.cell 0
                have p1 := W3.cell 1
                have pf0 := W3.free 0
                have pf1 := W3.free 1
                have lW := W3.lt
                have HR4 := Lib.hid (show Row (((w3.setCell ⟨W, 0, none⟩ (.slice A ln c)).setCell ⟨W, 1, none⟩ (.slice B3 q2n d3)).alloc (.cells #[.slice A ln c, .slice B3 q2n d3] 29)) (((w3.setCell ⟨W, 0, none⟩ (.slice A ln c)).setCell ⟨W, 1, none⟩ (.slice B3 q2n d3)).alloc (.cells #[.slice A ln c, .slice B3 q2n d3] 29)).heap.size 2 R3 N (rfC G) from ((row_farN (p := ⟨W, 1, none⟩) (row_farN (p := ⟨W, 0, none⟩) row3 (fun hn a ha => by have h1 := new3 a ha; show a.block ≠ W; have h2 := HSY.out.x.lt; omega)) (fun hn a ha => by have h1 := new3 a ha; show a.block ≠ W; have h2 := HSY.out.x.lt; omega)).alloc (Nat.le_refl _) _).more (by simp))
                have NEW := Lib.hid (fun a (ha : R3 = some a) (hs : S a.block) => (by have h1 := new3 a ha; have h2 := HSY.out.at'.lt _ hs; omega : False))
                clear row3 new3
                clear p3 X3 W3 D HSY HX
                go_wp2_with fail
                obtain ⟨w4, hw4⟩ : ∃ z, z = (((w3.setCell ⟨W, 0, none⟩ (.slice A ln c)).setCell ⟨W, 1, none⟩ (.slice B3 q2n d3)).alloc (.cells #[.slice A ln c, .slice B3 q2n d3] 29)) := ⟨_, rfl⟩
                rw [← hw4] at HS4 HR4 ⊢
                clear hw4 x0 x1 x2 x3 x4 lX p0 p1 pf0 pf1 lW
                refine (CI.out S w4 HS4.out.at').mono ?_
                rintro e w5 ⟨A5, c5, S5, rfl, row5, d5, k5, m5⟩
                have HR5 := Lib.hid (row_butN HR4.out k5 (fun _ a ha hs => NEW.out a ha hs))
                have HC5 := Lib.hid row5
                have HF := Lib.hid (fun w' (b : Below w5.heap.size w5 w') => show Keeps w g W w' from ⟨l, q2, S5, A, B3, c, d3, (HS4.out.code d5 k5 m5).next b⟩)
                clear d5 k5 m5 HS4 CI HR4 NEW row5
                go_wp2_with fail
                go_loopw [25] (fun v25 wr => ∃ j : Nat, j ≤ N ∧ v25 = .int .i64 (j : Int) ∧ Below w5.heap.size w5 wr) (fun v25 _ => N - (intOf v25).toNat)
                case atStart => exact ⟨0, Nat.zero_le _, rfl, Below.refl _ _⟩
                case round =>
                  obtain ⟨j, hj, rfl, hb⟩ := hrel
                  have HB := Lib.hid hb
                  have hz5 := hb.size
                  clear hb
                  by_cases hjn : j < N
                  · obtain ⟨y, hy⟩ : ∃ y, G[j]? = some y := ⟨_, List.getElem?_eq_getElem (by rw [HGN.out]; exact hjn)⟩
                    obtain ⟨f0, f1⟩ := rfC_get hy
                    obtain ⟨g1, p1, e1, l1, r1⟩ := HR5.out.2 (by omega)
                    cases e1
                    obtain ⟨g2, p2, e2, l2', r2⟩ := HC5.out.2 (by omega)
                    cases e2
                    have c0 := (HB.out.cell (p := ⟨g1, p1 + j * 2, none⟩) l1).trans (r1 _ _ f0)
                    have c1 := (HB.out.cell (p := ⟨g1, p1 + (j * 2 + 1), none⟩) l1).trans (r1 _ _ f1)
                    have u0 := (HB.out.cell (p := ⟨g2, p2 + j * 2, none⟩) l2').trans (r2 _ _ f0)
                    have u1 := (HB.out.cell (p := ⟨g2, p2 + (j * 2 + 1), none⟩) l2').trans (r2 _ _ f1)
                    rw [← Nat.add_assoc] at c1 u1
                    obtain ⟨ys, yt, ye⟩ := y
                    dsimp only at c0 c1 u0 u1
                    have EQ := fun w : World => neq_ref16 w ys yt ys yt false (by simp)
                    have i2 : (0 : Int) ≤ (j : Int) := by omega
                    have i3 : (j : Int) < (N : Int) := by omega
                    have lg1 : g1 < wr.heap.size := Nat.lt_of_lt_of_le l1 hz5
                    have lg2 : g2 < wr.heap.size := Nat.lt_of_lt_of_le l2' hz5
                    clear hy f0 f1 r1 r2
                    go_wp2_with fail
                    go_region
                    go_wp2_with fail
                    go_roundw
                    case rel => exact ⟨j + 1, by omega, by go_num, HB.out.drew⟩
                    case measure => simp [intOf]; omega
                  · have hjN : j = N := by omega
                    subst hjN
                    have HE := Lib.hid (HF.out wr HB.out)
                    clear HF HB HR5 HC5
                    go_wp2_with fail
                    go_meet
                    exact HE.out
      case rest =>
      obtain ⟨l2, q2, S2, A2, B2, c2, d2, hsy⟩ := hcut
      obtain ⟨l2n, hl2n⟩ : ∃ z, l2.length = z := ⟨_, rfl⟩
      obtain ⟨q2n, hq2n⟩ : ∃ z, q2.length = z := ⟨_, rfl⟩
      obtain ⟨xo, hxo⟩ : ∃ z, oldS l2 = z := ⟨_, rfl⟩
      have hlen2 := hsy.at'.len
      have HS2 := Lib.hid hsy
      have H1 := Lib.hid (fun w' (b : Below wc.heap.size wc w') => (show Calls Try.prog 20 #[.pointer (some ⟨g, 0, none⟩)] w' (fun e w'' => e = .returned (.int .u64 xo) ∧ Below wc.heap.size wc w'') by rw [← hxo]; exact (pold_any l2 q2 g S2 w' (HS2.out.at'.next b)).mono (fun _ _ h => ⟨h.1, b.trans (h.2.mono b.size)⟩)))
      have H2 := Lib.hid (fun w' (b : Below wc.heap.size wc w') => (show Calls Try.prog 21 #[.agg #[.slice A2 l2n c2, .slice B2 q2n d2]] w' (fun e w'' => e = .returned (.int .u64 xo) ∧ Below wc.heap.size wc w'') by rw [← hxo, ← hl2n]; exact (rold_any A2 c2 l2 B2 q2n d2 w' ((HS2.out.rA.below b (Nat.le_refl _)).more b.size) (by omega) (by omega)).mono (fun _ _ h => ⟨h.1, b.trans (h.2.mono b.size)⟩)))
      have H3 := Lib.hid (fun w' (b : Below wc.heap.size wc w') => (show Calls Try.prog 22 #[.pointer (some ⟨g, 0, none⟩)] w' (fun e w'' => e = .returned (.int .i64 (q2n : Int)) ∧ Below wc.heap.size wc w'') by rw [← hq2n]; exact (pwait_any l2 q2 g S2 w' (HS2.out.at'.next b)).mono (fun _ _ h => ⟨h.1, b.trans (h.2.mono b.size)⟩)))
      have HF := Lib.hid (fun w' (b : Below wc.heap.size wc w') => show Keeps w g W w' from ⟨l2, q2, S2, A2, B2, c2, d2, HS2.out.next b⟩)
      have x2 := hsy.x
      rw [hl2n, hq2n] at x2
      have KEEP := Lib.hid (fun w' (b : Below wc.heap.size wc w') => show (fun w' => w'.cell? ⟨W, 0, none⟩ = some (.slice A2 l2n c2) ∧ w'.cell? ⟨W, 1, none⟩ = some (.slice B2 q2n d2) ∧ Below wc.heap.size wc w') w' from ⟨(x2.below b x2.lt).cell 0, (x2.below b x2.lt).cell 1, b⟩)
      have hK0 := KEEP.out wc (Below.refl _ _)
      have lW2 := x2.lt
      clear hsy x2 hl2n hq2n hxo
      clear HSY HX x0 x1 x2 x3 x4 lX p0 p1 pf0 pf1 lW HLN HQN HNX
      go_upto_region 47 with fail
      go_region_held3 (fun w' => w'.cell? ⟨W, 0, none⟩ = some (.slice A2 l2n c2) ∧ w'.cell? ⟨W, 1, none⟩ = some (.slice B2 q2n d2) ∧ Below wc.heap.size wc w')
        (first | exact hK0 | exact KEEP.out _ (Below.refl _ _).drew | exact KEEP.out _ ‹Below wc.heap.size wc _› | exact ‹_ ∧ _ ∧ Below _ _ _› | go_keep)
        (first
          | (go_at_call 20; refine (H1.out _ ?_).mono ?_; (first | exact (Below.refl _ _).drew | exact (‹_ ∧ _ ∧ Below _ _ _›).2.2); rintro e v1 ⟨rfl, b1⟩)
          | (go_at_call 21; refine (H2.out _ ?_).mono ?_; (first | exact (Below.refl _ _).drew | exact (‹_ ∧ _ ∧ Below _ _ _›).2.2); rintro e v2 ⟨rfl, b2⟩)
          | (go_at_call 22; refine (H3.out _ ?_).mono ?_; (first | exact (Below.refl _ _).drew | exact (‹_ ∧ _ ∧ Below _ _ _›).2.2); rintro e v3 ⟨rfl, b3⟩))
      have HE := Lib.hid (HF.out v3 b3)
      clear HF b1 b2 b3 KEEP H1 H2 H3 hK0 HS2
      go_wp2_with fail
      go_roundw
      case rel => exact ⟨k + 1, by omega, by go_num, HE.out⟩
      case measure => simp [intOf]; omega
    · obtain rfl : k = m := by omega
      have HF : Hid (Below w.heap.size w wr) := Lib.hid (by obtain ⟨_, _, _, _, _, _, _, h⟩ := HK.out; exact h.below)
      clear HK
      go_wp2_with fail
      go_ret
      exact ⟨rfl, HF.out⟩

set_option maxRecDepth 100000 in
theorem lifted (os : Os) (started : os.Started) (H : Type) (enc : TypeId × Value → H) :
    ReturnsInHanded {} Try.checked os 3 .any (Rows.pinsPlaysSpec.pre6 enc Try.prog Try.f3 Rows.pinsPlaysRow.domain false) (Rows.pinsPlaysSpec.post enc Try.prog Try.f3 false true false false) := by
  refine returnsInHanded_of_change (C := Try.checked) own started (by kernel_rfl) Try.func3
    (ChangeSpec.witness6 (enc := enc) (C := Try.checked) false ⟨#[], #[.int .u8 0, .slice none 0 0], []⟩ 8 (by kernel_rfl) (by kernel_rfl) (by kernel_rfl) (by kernel_rfl)) ?_
  intro W base args ds gs before hval0 hW _ _
  have hval : ∀ (j : Nat) t v, Try.f3.params[j]? = some t → args[j]? = some v → Value.okWide Try.prog W .any base t v := hval0
  have hW' := hW
  obtain ⟨p, q, hA0, hV, _, _, _⟩ := hW
  have hA : DataW.TrodAll enc Try.prog W 0 (fun _ => true) true Try.f3.params.toList args.toList ds p := hA0
  rw [Try.params3] at hA hval
  obtain ⟨v0, vs0, d0, ds0, p0, q0, hargs, rfl, _, h0, r0⟩ := trodAll_cons hA
  obtain ⟨v1, vs1, d1, ds1, p1, q1, rfl, rfl, _, h1, r1⟩ := trodAll_cons r0
  obtain ⟨rfl, rfl, _⟩ := trodAll_nil r1
  obtain rfl : args = #[v0, v1] := by cases args; simp_all
  obtain ⟨rfl, _⟩ := trodVars_none hV
  refine law_post (s := Rows.pinsPlaysSpec) rfl rfl (by rw [Try.params3]; intro t ht; simp at ht; rcases ht with rfl | rfl <;> exact ⟨by kernel_rfl, of_decide_eq_true (by kernel_rfl)⟩) rfl hW' ?_
  obtain ⟨a0, rfl, _, _, w0⟩ := open_int Try.underlying5 (hval 0 5 v0 rfl rfl) h0
  obtain ⟨A1, c1, l1, rfl, hl1, hr1, ho1⟩ := open_acts16 (hval 1 22 v1 rfl rfl) h1
  exact walk W a0 w0 A1 c1 l1 hl1 hr1 ho1

theorem over : Rows.pinsPlaysRow.holds Try.pinned (OpenSpec.ofChange Rows.pinsPlaysSpec) :=
  OpenClaim.holds_of_wide 3 Try.f3 rfl rfl rfl rfl rfl rfl rfl ⟨rfl, rfl, rfl, rfl, rfl⟩ rfl rfl rfl rfl rfl (by kernel_rfl) Try.func3 (by kernel_rfl)
    (of_decide_eq_true (by kernel_rfl)) (by unfold Func.isWrapper; first | (rw [if_pos (by decide +kernel)]; kernel_rfl) | (rw [if_neg (by decide +kernel)]; exact ⟨rfl, rfl⟩))
    (fun os started H enc _ => lifted os started H enc)

/-- The statement. -/
theorem pinsPlays_holds : Rows.PinsPlaysSaid := over

end Go.Proofs.Ytgacejencnkpmaa.PPlays
