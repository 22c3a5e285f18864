/-
  Proved: PinsSafe returns true for every number of workers and every row of acts: what is swept is told once, and then no worker is at, or looks at, an epoch below the one that it was retired at; once all are at it, and look at nothing older, it is swept. Conditions: none.
-/
import Derived.Test.YtgacejencnkpmaaPnT
import Derived.Test.YtgacejencnkpmaaPnO
import Derived.Test.YtgacejencnkpmaaLift
import Derived.Deep.CutBlock
import Derived.Deep.DeepCutAuto
import Derived.RegionTactic
import Derived.IntWalk
namespace Go.Proofs.Ytgacejencnkpmaa.PSafe
open Go.ChangeShapes Go.WideShapes Go.ChangeAt Go.RowKit
set_option linter.unusedSimpArgs false
set_option linter.unusedVariables false
set_option maxRecDepth 1000000

theorem info_u : (Try.prog.info? 30).map (fun i => (i.zero, i.size, i.bytes)) = some (some (.int .u64 0), 1, 8) := by kernel_rfl
theorem info_bo : (Try.prog.info? 4).map (fun i => (i.zero, i.size, i.bytes)) = some (some (.bool false), 1, 1) := by kernel_rfl
theorem make_at (n : Nat) (h2 : n ≤ 4096) (w : World) : (Instr.makeSlice 56 (.int .i64 n) (.int .i64 n)).run Try.prog w = .ok (.slice (some ⟨w.heap.size, 0, none⟩) n n) (w.alloc (.cells (atC (freshK n)) 30)) := by
  obtain ⟨i, hi0, hi1, hi2, hi3⟩ := info_parts info_u
  have h := run_make (P := Try.prog) w 56 30 i (.int .u64 0) Try.underlying56 hi0 hi1 .i64 .i64 n n (by omega) (Int.le_refl _) (by rw [hi3]; omega) (by omega)
  rw [Int.toNat_natCast, hi2, Nat.mul_one] at h
  rw [h]
  have e : madeCells (Value.int .u64 0).cells n = atC (freshK n) := by
    apply Array.toList_inj.1
    show (madeCells #[.int .u64 0] n).toList = _
    rw [toList_madeCells_one]
    simp [atC, freshK]
  rw [← e]
theorem make_lk (n : Nat) (h2 : n ≤ 4096) (w : World) : (Instr.makeSlice 57 (.int .i64 n) (.int .i64 n)).run Try.prog w = .ok (.slice (some ⟨w.heap.size, 0, none⟩) n n) (w.alloc (.cells (lkC (freshK n)) 4)) := by
  obtain ⟨i, hi0, hi1, hi2, hi3⟩ := info_parts info_bo
  have h := run_make (P := Try.prog) w 57 4 i (.bool false) Try.underlying57 hi0 hi1 .i64 .i64 n n (by omega) (Int.le_refl _) (by rw [hi3]; omega) (by omega)
  rw [Int.toNat_natCast, hi2, Nat.mul_one] at h
  rw [h]
  have e : madeCells (Value.bool false).cells n = lkC (freshK n) := by
    apply Array.toList_inj.1
    show (madeCells #[.bool false] n).toList = _
    rw [toList_madeCells_one]
    simp [lkC, freshK]
  rw [← e]
theorem at_fresh (n : Nat) : atC (freshK n) = svC (List.replicate n 0) := by simp [atC, svC, freshK]

/-- What a round keeps. -/
structure Inv (w0 : World) (g g8 g9 g10 n k s : Nat) (l : List Wk) (q : List Wt) (sv E : List Int) (S : Nat → Prop) (v11 : Value) (wr : World) : Prop where
  saf : Saf w0 g g8 g9 g10 l q sv l l E S v11 wr
  sees : Sees l sv
  told : Told q E
  atM : ∀ k ∈ l, k.at' ≤ 18446744073709551615
  eM : ∀ e ∈ E, e ≤ 18446744073709551615
  len : l.length = n
  sum : s + q.length = E.length
  few : E.length ≤ k
def Keeps (w0 : World) (g g8 g9 g10 n k s : Nat) (v11 : Value) (wr : World) : Prop := ∃ (l : List Wk) (q : List Wt) (sv E : List Int) (S : Nat → Prop), Inv w0 g g8 g9 g10 n k s l q sv E S v11 wr
theorem atM_set {l : List Wk} {M : Int} (h : ∀ k ∈ l, k.at' ≤ M) (i : Nat) {k : Wk} (hk : k.at' ≤ M) : ∀ y ∈ l.set i k, y.at' ≤ M := fun y hy => (List.mem_or_eq_of_mem_set hy).elim (h y) (fun e => by rw [e]; exact hk)
theorem same_at {l : List Wk} {i : Nat} {k k' : Wk} (h : l[i]? = some k) (e : k.at' = k'.at') : atC (l.set i k') = atC l := by rw [atC_set]; exact arr_same (by rw [atC_get h, e])
theorem same_lk {l : List Wk} {i : Nat} {k k' : Wk} (h : l[i]? = some k) (e : k.sees.isSome = k'.sees.isSome) : lkC (l.set i k') = lkC l := by rw [lkC_set]; exact arr_same (by rw [lkC_get h, e])

set_option maxHeartbeats 12800000 in
theorem walk (w : World) (a : Int) (ha : (Lit.int .u8 a).wf = true) (A : Option Addr) (c : Nat) (ps : List Pc) (hl : ps.length ≤ maxLen) (hr : Row w w.heap.size 5 A ps.length (rowC Pc.cells ps)) (ho : ∀ x ∈ ps, x.Fit) :
    Calls Try.prog 4 #[.int .u8 a, .slice A ps.length c] w fun e w' => e = .returned (.bool true) ∧ Below w.heap.size w w' := by
  unfold maxLen at hl
  have ha' := wf_u8 ha
  clear ha
  obtain ⟨m, hm⟩ : ∃ m, ps.length = m := ⟨_, rfl⟩
  have HM := Lib.hid hm
  rw [hm] at hr hl ⊢
  have HR := Lib.hid (fun (h0 : 0 < m) => row_at Pc.cells_length hr h0)
  have HO := Lib.hid ho
  clear hr ho hm
  by_cases hlong : 60 < m
  · go_enter Try.func4, Try.ntmps4
    go_wp2_with (go_at_call 8; refine (awake16 w).mono ?_; rintro e w1 ⟨rfl, b1⟩)
    go_ret
    exact ⟨rfl, b1⟩
  obtain ⟨n, hn⟩ : ∃ n : Nat, a % 4 + 1 = (n : Int) := ⟨(a % 4 + 1).toNat, by omega⟩
  have hn1 : 1 ≤ n := by omega
  have hn2 : n ≤ 4 := by omega
  go_enter Try.func4, Try.ntmps4
  go_wp2_with fail
  refine (awake16 w).mono ?_
  rintro e w1 ⟨rfl, b1⟩
  have HB1 := Lib.hid b1
  clear b1
  go_wp2_with fail
  refine (pnew_any w1 n hn1 hn2).mono ?_
  rintro e w2 ⟨g, S, rfl, d2, s2, b2⟩
  have mk8 := fun w => make_at n (by omega) w
  have mk10 := fun w => make_lk n (by omega) w
  obtain ⟨w5, hw5⟩ : ∃ z, z = ((w2.alloc (.cells (atC (freshK n)) 30)).alloc (.cells (atC (freshK n)) 30)).alloc (.cells (lkC (freshK n)) 4) := ⟨_, rfl⟩
  have b5 : Below w2.heap.size w2 w5 := by rw [hw5]; exact (((Below.refl _ _).alloc (Nat.le_refl _) _).alloc (by simp) _).alloc (by simp; omega) _
  have b0 : Below w.heap.size w w2 := bnext HB1.out b2
  have hlt2 := d2.lt
  have H5 := Lib.hid (show Keeps w g w2.heap.size (w2.heap.size + 1) (w2.heap.size + 1 + 1) n 0 0 (.slice none 0 0) w5 from by
    refine ⟨freshK n, [], List.replicate n 0, [], S, ⟨d2.next b5, fun k hk => Nat.le_trans HB1.out.size (s2 k hk), ?_, ?_, ?_, ⟨b0.size, by have := b0.size; omega, by have := b0.size; omega⟩, ⟨by omega, by omega, by omega⟩,
      ⟨fun h => by have := hlt2 _ h; omega, fun h => by have := hlt2 _ h; omega, fun h => by have := hlt2 _ h; omega⟩, World.ownsRow_nil _ _ _ _, fun b hb => by simp [Value.ownBlock] at hb, b0.trans (b5.mono b0.size)⟩,
      ⟨by simp [freshK], fun i k s hi hk => ?_⟩, fun t ht => by simp at ht, fun k hk => ?_, fun e he => by simp at he, freshK_length n, rfl, Nat.le_refl _⟩
    · rw [hw5]; exact ((Whole.new w2 _ _).alloc _).alloc _
    · rw [hw5, ← at_fresh]; exact (Whole.new2 w2 _ _ _).alloc _
    · rw [hw5]
      have := Whole.new ((w2.alloc (.cells (atC (freshK n)) 30)).alloc (.cells (atC (freshK n)) 30)) 4 (lkC (freshK n))
      simpa using this
    · have : k = ⟨0, none⟩ := by have := List.mem_of_getElem? hi; unfold freshK at this; exact List.eq_of_mem_replicate this
      rw [this] at hk
      cases hk
    · have : k = ⟨0, none⟩ := by unfold freshK at hk; exact List.eq_of_mem_replicate hk
      rw [this]
      show (0 : Int) ≤ _
      omega)
  clear d2 s2 b2 HB1 b5 b0 hlt2
  go_wp2_with fail
  rw [← hw5]
  clear hw5 mk8 mk10
  obtain ⟨g8, hg8⟩ : ∃ z, w2.heap.size = z := ⟨_, rfl⟩
  obtain ⟨g9, hg9⟩ : ∃ z, w2.heap.size + 1 = z := ⟨_, rfl⟩
  obtain ⟨g10, hg10⟩ : ∃ z, w2.heap.size + 1 + 1 = z := ⟨_, rfl⟩
  rw [hg10, hg9, hg8] at H5 ⊢
  clear hg8 hg9 hg10
  go_loopw [11, 12, 13] (fun v11 v12 i wr => ∃ k s : Nat, k ≤ m ∧ i = .int .i64 (k : Int) ∧ v12 = .int .i64 (s : Int) ∧ Keeps w g g8 g9 g10 n k s v11 wr) (fun _ _ i _ => m - (intOf i).toNat)
  case atStart => exact ⟨0, 0, Nat.zero_le _, rfl, rfl, H5.out⟩
  case round =>
    clear H5
    obtain ⟨k, s, hk, rfl, rfl, hK⟩ := hrel
    have HK := Lib.hid hK
    clear hK
    by_cases hlt : k < m
    · obtain ⟨ga, oa, rfl, hga, hca⟩ := HR.out (by omega)
      obtain ⟨x, hx⟩ : ∃ x, ps[k]? = some x := ⟨_, List.getElem?_eq_getElem (by rw [HM.out]; exact hlt)⟩
      have hfit := HO.out x (List.mem_of_getElem? hx)
      have HC := Lib.hid (fun w' b => And.intro (hca w' b k x 0 _ hx rfl) (And.intro (hca w' b k x 1 _ hx rfl) (hca w' b k x 2 _ hx rfl)))
      clear hca hx
      have i0 : (0 : Int) ≤ (k : Int) := by omega
      have i1 : (k : Int) < (m : Int) := by omega
      obtain ⟨kind, who, ep, rs, rt⟩ := x
      obtain ⟨⟨hep0, hep1⟩, _⟩ := hfit
      dsimp only at HC hep0 hep1
      obtain ⟨l, q, sv, E, S, hin⟩ := HK.out
      obtain ⟨a0, a1, a2⟩ := HC.out wr hin.saf.below
      rw [Nat.add_zero] at a0
      have hz := hin.saf.below.size
      have hgo : ga < wr.heap.size := by omega
      obtain ⟨A11, c11, rfl⟩ := own_form hin.saf.own
      obtain ⟨EL, hEL⟩ : ∃ z, E.length = z := ⟨_, rfl⟩
      have HEL := Lib.hid hEL
      rw [hEL] at hin ⊢
      have HI := Lib.hid hin
      have hfew : EL ≤ k := by have := hin.few; omega
      have hsum : s + q.length = EL := by have := hin.sum; omega
      clear hin hEL HK
      go_upto_region 17 with fail
      go_cut [15] (fun s15 wx => wx = wr ∧ ∃ bb, s15 = .bool bb ∧ (bb = true ↔ 0 ≤ who ∧ who < n))
      case first =>
        clear HC HI
        by_cases h1 : 0 ≤ who
        · by_cases h2 : who < (n : Int)
          · go_wp2_with fail
            go_meet
            exact ⟨rfl, true, rfl, by simp [h1, h2]⟩
          · go_wp2_with fail
            go_meet
            exact ⟨rfl, false, rfl, ⟨fun h => (by cases h), fun h => (by omega)⟩⟩
        · go_wp2_with fail
          go_meet
          exact ⟨rfl, false, rfl, ⟨fun h => (by cases h), fun h => (by omega)⟩⟩
      case rest =>
      obtain ⟨hwx, bb, rfl, hbb⟩ := hcut
      have HBB := Lib.hid hbb
      obtain ⟨wo, hwo⟩ : ∃ z, z = wc := ⟨_, rfl⟩
      rw [← hwo] at hwx ⊢
      have hwr : wr = wo := hwx.symm
      subst hwr
      clear hbb hwo
      go_upto_block 2 with fail
      go_cut [11] (fun v11 wx => Keeps w g g8 g9 g10 n (k + 1) s v11 wx)
      case first =>
        by_cases h01 : kind = 0 ∨ kind = 1
        · have CI := pinst_any l q g S wr who ep HI.out.saf.at'
          by_cases her : instE l who ep = 0
          · as_aux_lemma =>
              have hin : 0 ≤ who ∧ who < n := by
                by_cases h : 0 ≤ who ∧ who < (l.length : Int)
                · rw [HI.out.len] at h; exact h
                · unfold instE at her; rw [out_none h] at her; simp at her
              obtain ⟨j, rfl⟩ : ∃ j : Nat, who = (j : Int) := ⟨who.toNat, by omega⟩
              obtain ⟨k0, hk0, hge, hset⟩ := inst_ok her
              rw [her, hset] at CI
              replace CI := Lib.hid CI
              have hbt : bb = true := HBB.out.2 hin
              subst hbt
              have HK0 := Lib.hid (And.intro hk0 hge)
              have j0 : (0 : Int) ≤ (j : Int) := by omega
              have j1 : (j : Int) < (n : Int) := hin.2
              have j2 : j < n := by omega
              clear her hk0 hge hset hin HBB
              rcases h01 with rfl | rfl
              all_goals
                go_wp2_with fail
                refine CI.out.mono ?_
                rintro e w5 ⟨S5, rfl, d5, k5, m5⟩
                have HS5 := Lib.hid (HI.out.saf.code d5 k5 m5)
                clear d5 k5 m5 CI
                obtain ⟨c0, c1, c2⟩ := HC.out w5 HS5.out.below
                have hgo5 : ga < w5.heap.size := by have := HS5.out.below.size; omega
                have z0 := (HS5.out.b8.cell j).trans (atC_get HK0.out.1)
                have z1 := HS5.out.b8.free j
                have z2 := HS5.out.b8.lt
                have HF := Lib.hid (show Keeps w g g8 g9 g10 n (k + 1) s (.slice A11 EL c11) (w5.setCell ⟨g8, j, none⟩ (.int .u64 ep)) from
                  ⟨l.set j ⟨ep, k0.sees⟩, q, sv, E, S5, ⟨(by have h := HS5.out.set8 j ⟨ep, k0.sees⟩; exact h.lk' (same_lk (k' := ⟨ep, k0.sees⟩) HK0.out.1 rfl).symm), HI.out.sees.set j (fun s hs => HI.out.sees.2 j k0 s HK0.out.1 hs), HI.out.told, atM_set HI.out.atM j (by show ep ≤ _; omega), HI.out.eM, by rw [List.length_set]; exact HI.out.len, HI.out.sum, by have := HI.out.few; omega⟩⟩)
                clear HS5 HI HK0
                go_wp2_with fail
                go_meet
                exact HF.out
          · as_aux_lemma =>
              have hno := inst_no her
              rw [hno] at CI
              obtain ⟨er, her2⟩ : ∃ z, instE l who ep = z := ⟨_, rfl⟩
              rw [her2] at CI her
              replace CI := Lib.hid CI
              clear hno her2 HBB
              rcases h01 with rfl | rfl
              all_goals
                go_wp2_with fail
                refine CI.out.mono ?_
                rintro e w5 ⟨S5, rfl, d5, k5, m5⟩
                have HF := Lib.hid (show Keeps w g g8 g9 g10 n (k + 1) s (.slice A11 EL c11) w5 from ⟨l, q, sv, E, S5, ⟨HI.out.saf.code d5 k5 m5, HI.out.sees, HI.out.told, HI.out.atM, HI.out.eM, HI.out.len, HI.out.sum, by have := HI.out.few; omega⟩⟩)
                clear d5 k5 m5 CI HI
                go_wp2_with fail
                go_meet
                exact HF.out
        · have n0 : ¬ kind = 0 := fun h => h01 (.inl h)
          have n1 : ¬ kind = 1 := fun h => h01 (.inr h)
          clear h01
          by_cases hk2 : kind = 2
          · subst hk2
            have CI := ppin_any l q g S wr who HI.out.saf.at'
            by_cases her : pinE l who = 0
            · as_aux_lemma =>
                have hin : 0 ≤ who ∧ who < n := by
                  by_cases h : 0 ≤ who ∧ who < (l.length : Int)
                  · rw [HI.out.len] at h; exact h
                  · unfold pinE at her; rw [out_none h] at her; simp at her
                obtain ⟨j, rfl⟩ : ∃ j : Nat, who = (j : Int) := ⟨who.toNat, by omega⟩
                have hbt : bb = true := HBB.out.2 hin
                subst hbt
                have j0 : (0 : Int) ≤ (j : Int) := by omega
                have j1 : (j : Int) < (n : Int) := hin.2
                have j2 : j < n := by omega
                clear hin HBB
                obtain ⟨k0, hk0, hnone, hx, hset⟩ := pin_ok her
                rw [her, hx, hset] at CI
                replace CI := Lib.hid CI
                have HK0 := Lib.hid (And.intro hk0 hnone)
                clear her hk0 hnone hx hset
                go_wp2_with fail
                refine CI.out.mono ?_
                rintro e w5 ⟨S5, rfl, d5, k5, m5⟩
                have HS5 := Lib.hid (HI.out.saf.code d5 k5 m5)
                clear d5 k5 m5 CI
                have z0 := (HS5.out.b10.cell j).trans (lkC_get HK0.out.1)
                have z1 := HS5.out.b10.free j
                have z2 := HS5.out.b10.lt
                obtain ⟨u9, y0⟩ : ∃ u, w5.cell? ⟨g9, j, none⟩ = some u := ⟨_, (HS5.out.b9.cell j).trans (Array.getElem?_eq_getElem (by rw [svC_size, HI.out.sees.1, HI.out.len]; exact j2))⟩
                have y1 := HS5.out.b9.free j
                have y2 := HS5.out.b9.lt
                have hne9 : g10 ≠ g9 := HS5.out.ne.2.2.symm
                have hne9' : g9 ≠ g10 := HS5.out.ne.2.2
                have HF := Lib.hid (show Keeps w g g8 g9 g10 n (k + 1) s (.slice A11 EL c11) ((w5.setCell ⟨g10, j, none⟩ (.bool true)).setCell ⟨g9, j, none⟩ (.int .u64 k0.at')) from
                  ⟨l.set j ⟨k0.at', some k0.at'⟩, q, sv.set j k0.at', E, S5, ⟨(by have h := (HS5.out.set10 j ⟨k0.at', some k0.at'⟩).set9 j k0.at'; exact h.la' (same_at (k' := ⟨k0.at', some k0.at'⟩) HK0.out.1 rfl).symm), HI.out.sees.put (by rw [HI.out.len]; exact j2) rfl, HI.out.told, atM_set HI.out.atM j (HI.out.atM k0 (List.mem_of_getElem? HK0.out.1)), HI.out.eM, by rw [List.length_set]; exact HI.out.len, HI.out.sum, by have := HI.out.few; omega⟩⟩)
                obtain ⟨ka, hka⟩ : ∃ z, k0.at' = z := ⟨_, rfl⟩
                rw [hka] at HF ⊢
                clear HS5 HI HK0 hka
                go_wp2_with fail
                go_meet
                exact HF.out
            · as_aux_lemma =>
                have hno := pin_no her
                rw [hno] at CI
                obtain ⟨er, her2⟩ : ∃ z, pinE l who = z := ⟨_, rfl⟩
                rw [her2] at CI her
                obtain ⟨xr, hxr⟩ : ∃ z, pinX l who = z := ⟨_, rfl⟩
                rw [hxr] at CI
                clear hxr
                replace CI := Lib.hid CI
                clear hno her2 HBB
                go_wp2_with fail
                refine CI.out.mono ?_
                rintro e w5 ⟨S5, rfl, d5, k5, m5⟩
                have HF := Lib.hid (show Keeps w g g8 g9 g10 n (k + 1) s (.slice A11 EL c11) w5 from ⟨l, q, sv, E, S5, ⟨HI.out.saf.code d5 k5 m5, HI.out.sees, HI.out.told, HI.out.atM, HI.out.eM, HI.out.len, HI.out.sum, by have := HI.out.few; omega⟩⟩)
                clear d5 k5 m5 CI HI
                go_wp2_with fail
                go_meet
                exact HF.out
          · by_cases hk3 : kind = 3
            · subst hk3
              have CI := punpin_any l q g S wr who HI.out.saf.at'
              by_cases her : unpE l who = 0
              · as_aux_lemma =>
                  have hin : 0 ≤ who ∧ who < n := by
                    by_cases h : 0 ≤ who ∧ who < (l.length : Int)
                    · rw [HI.out.len] at h; exact h
                    · unfold unpE at her; rw [out_none h] at her; simp at her
                  obtain ⟨j, rfl⟩ : ∃ j : Nat, who = (j : Int) := ⟨who.toNat, by omega⟩
                  have hbt : bb = true := HBB.out.2 hin
                  subst hbt
                  have j0 : (0 : Int) ≤ (j : Int) := by omega
                  have j1 : (j : Int) < (n : Int) := hin.2
                  have j2 : j < n := by omega
                  clear hin HBB
                  obtain ⟨k0, hk0, hset⟩ := unp_ok her
                  rw [her, hset] at CI
                  replace CI := Lib.hid CI
                  have HK0 := Lib.hid hk0
                  clear her hk0 hset
                  go_wp2_with fail
                  refine CI.out.mono ?_
                  rintro e w5 ⟨S5, rfl, d5, k5, m5⟩
                  have HS5 := Lib.hid (HI.out.saf.code d5 k5 m5)
                  clear d5 k5 m5 CI
                  have z0 := (HS5.out.b10.cell j).trans (lkC_get HK0.out)
                  have z1 := HS5.out.b10.free j
                  have z2 := HS5.out.b10.lt
                  have HF := Lib.hid (show Keeps w g g8 g9 g10 n (k + 1) s (.slice A11 EL c11) (w5.setCell ⟨g10, j, none⟩ (.bool false)) from
                    ⟨l.set j ⟨k0.at', none⟩, q, sv, E, S5, ⟨(by have h := HS5.out.set10 j ⟨k0.at', none⟩; exact h.la' (same_at (k' := ⟨k0.at', none⟩) HK0.out rfl).symm), HI.out.sees.set j (fun s hs => by cases hs), HI.out.told, atM_set HI.out.atM j (HI.out.atM k0 (List.mem_of_getElem? HK0.out)), HI.out.eM, by rw [List.length_set]; exact HI.out.len, HI.out.sum, by have := HI.out.few; omega⟩⟩)
                  clear HS5 HI HK0
                  go_wp2_with fail
                  go_meet
                  exact HF.out
              · as_aux_lemma =>
                  have hno := unp_no her
                  rw [hno] at CI
                  obtain ⟨er, her2⟩ : ∃ z, unpE l who = z := ⟨_, rfl⟩
                  rw [her2] at CI her
                  replace CI := Lib.hid CI
                  clear hno her2 HBB
                  go_wp2_with fail
                  refine CI.out.mono ?_
                  rintro e w5 ⟨S5, rfl, d5, k5, m5⟩
                  have HF := Lib.hid (show Keeps w g g8 g9 g10 n (k + 1) s (.slice A11 EL c11) w5 from ⟨l, q, sv, E, S5, ⟨HI.out.saf.code d5 k5 m5, HI.out.sees, HI.out.told, HI.out.atM, HI.out.eM, HI.out.len, HI.out.sum, by have := HI.out.few; omega⟩⟩)
                  clear d5 k5 m5 CI HI
                  go_wp2_with fail
                  go_meet
                  exact HF.out
            · as_aux_lemma =>
                have hq64 : ¬ 64 ≤ q.length := by omega
                have CI := pret_any l q g S wr EL 0 ep HI.out.saf.at'
                have he : retE q = 0 := by unfold retE; rw [if_neg hq64]
                have hs : retS q ⟨EL, 0, ep⟩ = q ++ [⟨EL, 0, ep⟩] := by unfold retS; rw [if_neg hq64]
                rw [he, hs] at CI
                replace CI := Lib.hid CI
                clear he hs HBB
                go_wp2_with fail
                refine CI.out.mono ?_
                rintro e w5 ⟨S5, rfl, d5, k5, m5⟩
                have HS5 := Lib.hid (HI.out.saf.code d5 k5 m5)
                clear d5 k5 m5 CI
                obtain ⟨c0, c1, c2⟩ := HC.out w5 HS5.out.below
                have hgo5 : ga < w5.heap.size := by have := HS5.out.below.size; omega
                have HS6 := Lib.hid (HS5.out.next ((Below.refl _ _).alloc (Nat.le_refl _) (.cells #[.int .u64 ep] 30)))
                have HO6 := Lib.hid (show (w5.alloc (.cells #[.int .u64 ep] 30)).ownsRow w.heap.size 30 1 (.slice A11 EL c11) EL (E.map (Value.int .u64)) by have h := HS6.out.own; rw [HEL.out] at h; exact h)
                have HW6 := Lib.hid (Row.fresh w5 30 #[.int .u64 ep] 1 1 [.int .u64 ep] rfl rfl)
                have hz5 := HS5.out.below.size
                clear HS5
                go_wp2_with (at_builtin; refine wpl_append _ rfl (.tmp 77) (.tmp 83) 56 rfl w.heap.size 30 (.int .u64 0) 1 8 Try.underlying56 info_u rfl (by decide) _ EL (E.map (Value.int .u64)) rfl HO6.out _ _ 1 1 [.int .u64 ep] rfl HW6.out (by simp [Value.oneCell']) ?c1 ?c2 ?c3 ?_)
                case c1 => unfold maxLen; omega
                case c2 => omega
                case c3 => first | omega | (simp; omega)
                intro v7 w7 hown7 hg7 hv7
                have HF := Lib.hid (show Keeps w g g8 g9 g10 n (k + 1) s v7 w7 from
                  ⟨l, q ++ [⟨EL, 0, ep⟩], sv, E ++ [ep], S5, ⟨HS6.out.add (by rw [HEL.out]; exact hown7) hg7 (by simpa using hv7), HI.out.sees, by rw [← HEL.out]; exact HI.out.told.add 0 ep, HI.out.atM, fun e he => (List.mem_append.1 he).elim (HI.out.eM e) (fun h => by rw [List.mem_singleton.1 h]; omega), HI.out.len, by rw [List.length_append, List.length_append, List.length_cons, List.length_nil, List.length_cons, List.length_nil]; have := HI.out.sum; omega, by rw [List.length_append, HEL.out]; simp; omega⟩⟩)
                clear hown7 hg7 hv7 HS6 HO6 HW6 HI
                go_wp2_with fail
                go_meet
                exact HF.out
      case rest =>
      obtain ⟨l2, q2, sv2, E2, S2, hi⟩ := hcut
      obtain ⟨A2, c2, rfl⟩ := own_form hi.saf.own
      obtain ⟨EL2, hEL2⟩ : ∃ z, E2.length = z := ⟨_, rfl⟩
      have HEL2 := Lib.hid hEL2
      rw [hEL2] at hi ⊢
      have HI2 := Lib.hid hi
      have CS := psweep_any l2 q2 g S2 wc hi.saf.at'
      unfold PSwept at CS
      obtain ⟨x, hx⟩ : ∃ z, oldS l2 = z := ⟨_, rfl⟩
      obtain ⟨G, hG⟩ : ∃ z, goes x q2 = z := ⟨_, rfl⟩
      obtain ⟨Q, hQ⟩ : ∃ z, stays x q2 = z := ⟨_, rfl⟩
      obtain ⟨N, hN⟩ : ∃ z, G.length = z := ⟨_, rfl⟩
      obtain ⟨M, hM⟩ : ∃ z, Q.length = z := ⟨_, rfl⟩
      rw [hx, hG, hQ, hN] at CS
      have hNM : s + N + M = EL2 := by have h1 := goes_stays x q2; rw [hG, hQ, hN, hM] at h1; have h2 := hi.sum; omega
      have hEk : EL2 ≤ 61 := by have := hi.few; omega
      have HX := Lib.hid hx
      have HG := Lib.hid hG
      have HQ := Lib.hid hQ
      have HNL := Lib.hid hN
      have HML := Lib.hid hM
      replace CS := Lib.hid CS
      clear HI HEL HBB HC hi hEL2 hx hG hQ hN hM a0 a1 a2 hfew hsum hgo hz
      go_wp2_with fail
      refine CS.out.mono ?_
      rintro e w5 ⟨A5, c5, S5, rfl, row5, d5, k5, m5⟩
      have HS5 := Lib.hid (HI2.out.saf.code d5 k5 m5)
      have HR5 := Lib.hid row5
      clear d5 k5 m5 row5 CS
      go_wp2_with fail
      go_loopw [21] (fun v21 wr => ∃ j : Nat, j ≤ N ∧ v21 = .int .i64 (j : Int) ∧ Below w5.heap.size w5 wr) (fun v21 _ => N - (intOf v21).toNat)
      case atStart => exact ⟨0, Nat.zero_le _, rfl, Below.refl _ _⟩
      case round =>
        as_aux_lemma =>
          obtain ⟨j, hj, rfl, hb⟩ := hrel
          have HB := Lib.hid hb
          have hz5 := hb.size
          clear hb
          by_cases hjn : j < N
          · obtain ⟨t, ht⟩ : ∃ y, G[j]? = some y := ⟨_, List.getElem?_eq_getElem (by rw [HNL.out]; exact hjn)⟩
            have hgt := goes_told (x := x) HI2.out.told (by rw [HG.out]; exact ht)
            obtain ⟨f0, _⟩ := rfC_get ht
            obtain ⟨t1, t2, t3, t4⟩ := hgt
            rw [HEL2.out] at t3
            obtain ⟨ts, tt, te⟩ := t
            dsimp only at t1 t2 t3 t4 f0
            obtain ⟨si, rfl⟩ : ∃ si : Nat, ts = (si : Int) := ⟨ts.toNat, by omega⟩
            rw [Int.toNat_natCast] at t4
            obtain ⟨gr, pr, er, lr, rr⟩ := HR5.out.2 (by omega)
            cases er
            have r0 := (HB.out.cell (p := ⟨gr, pr + j * 2, none⟩) lr).trans (rr _ _ f0)
            have oE := HS5.out.own
            rw [HEL2.out] at oE
            obtain ⟨ge, pe, ee, le', re⟩ := (Row.of_own oE).2 (by omega)
            cases ee
            have e0 := (HB.out.cell (p := ⟨ge, pe + si, none⟩) le').trans (re si (.int .u64 te) (by rw [List.getElem?_map, t4]; rfl))
            have i2 : (0 : Int) ≤ (j : Int) := by omega
            have i3 : (j : Int) < (N : Int) := by omega
            have i4 : ¬ (EL2 : Int) ≤ (si : Int) := by omega
            have i5 : (si : Int) < (EL2 : Int) := t3
            have lgr : gr < wr.heap.size := Nat.lt_of_lt_of_le lr hz5
            have lge : ge < wr.heap.size := Nat.lt_of_lt_of_le le' hz5
            clear ht f0 t4 rr oE re lr le'
            go_wp2_with fail
            go_loopw [23] (fun v23 wq => ∃ i : Nat, i ≤ n ∧ v23 = .int .i64 (i : Int) ∧ Below w5.heap.size w5 wq) (fun v23 _ => n - (intOf v23).toNat)
            case atStart => exact ⟨0, Nat.zero_le _, rfl, HB.out⟩
            case round =>
              clear r0 e0 lgr lge HB hz5
              obtain ⟨i, hi, rfl, hb⟩ := hrel
              have HB := Lib.hid hb
              have hz6 := hb.size
              clear hb
              by_cases hin : i < n
              · obtain ⟨k0, hk0⟩ : ∃ k0, l2[i]? = some k0 := ⟨_, List.getElem?_eq_getElem (by rw [HI2.out.len]; exact hin)⟩
                have hle := oldS_le (List.mem_of_getElem? hk0)
                rw [HX.out] at hle
                have H6 := HS5.out.next HB.out
                have z0 := (H6.b8.cell i).trans (atC_get hk0)
                have z1 := (H6.b10.cell i).trans (lkC_get hk0)
                have l8 := H6.b8.lt
                have l9 := H6.b9.lt
                have l10 := H6.b10.lt
                have i6 : (0 : Int) ≤ (i : Int) := by omega
                have i7 : (i : Int) < (n : Int) := by omega
                have hn1' : ¬ k0.at' < te := by omega
                have hsv := HI2.out.sees.2 i k0
                obtain ⟨ka, ks⟩ := k0
                dsimp only at z0 z1 hle hn1' hsv
                cases ks with
                | none =>
                  dsimp only [Option.isSome] at z1
                  clear hk0 hle H6 hsv
                  go_wp2_with fail
                  go_roundw
                  case rel => exact ⟨i + 1, by omega, by go_num, HB.out⟩
                  case measure => simp [intOf]; omega
                | some sn =>
                  dsimp only [Option.isSome] at z1
                  have z2 := (H6.b9.cell i).trans (svC_get (hsv sn hk0 rfl))
                  have hn2' : ¬ sn < te := by have := hle.2 sn rfl; omega
                  clear hk0 hle H6 hsv
                  go_wp2_with fail
                  go_roundw
                  case rel => exact ⟨i + 1, by omega, by go_num, HB.out⟩
                  case measure => simp [intOf]; omega
              · have hi' : i = n := by omega
                subst hi'
                go_wp2_with fail
                go_roundw
                case rel => exact ⟨j + 1, by omega, by go_num, HB.out⟩
                case measure => simp [intOf]; omega
          · have hjN : j = N := by omega
            subst hjN
            have H6 := Lib.hid (HS5.out.next HB.out)
            have CW := pwait_any l2 Q g S5 wr H6.out.at'
            rw [HML.out] at CW
            replace CW := Lib.hid CW
            have hsum : (s : Int) + (j : Int) + (M : Int) = (EL2 : Int) := by omega
            clear HB HS5 HR5 hz5
            go_wp2_with fail
            refine CW.out.mono ?_
            rintro e w7 ⟨rfl, b7⟩
            have HF := Lib.hid (show Keeps w g g8 g9 g10 n (k + 1) (s + j) (.slice A2 EL2 c2) w7 from
              ⟨l2, Q, sv2, E2, S5, ⟨H6.out.next b7, HI2.out.sees, by rw [← HQ.out]; exact HI2.out.told.stays x, HI2.out.atM, HI2.out.eM, HI2.out.len, by rw [HML.out, HEL2.out]; omega, HI2.out.few⟩⟩)
            clear b7 CW H6 HI2
            go_wp2_with fail
            go_roundw
            case rel => exact ⟨k + 1, s + j, by omega, by go_num, by go_num, HF.out⟩
            case measure => simp [intOf]; omega
    · obtain rfl : k = m := by omega
      obtain ⟨l, q, sv, E, S, hin⟩ := HK.out
      obtain ⟨A11, c11, rfl⟩ := own_form hin.saf.own
      obtain ⟨EL, hEL⟩ : ∃ z, E.length = z := ⟨_, rfl⟩
      have HEL := Lib.hid hEL
      rw [hEL] at hin ⊢
      have HI := Lib.hid hin
      have hEk : EL ≤ 61 := by have := hin.few; omega
      have hsum : s + q.length = EL := by have := hin.sum; omega
      have H0 := Lib.hid (show ∃ (li : List Wk) (S' : Nat → Prop), Saf w g g8 g9 g10 li q sv l l E S' (.slice A11 EL c11) wr ∧ li.length = n ∧ (∀ j : Nat, 0 ≤ j → li[j]? = l[j]?) ∧ (∀ (j : Nat) (z : Wk), j < 0 → li[j]? = some z → z.sees = none ∧ 18446744073709551615 ≤ z.at') from ⟨l, S, hin.saf, hin.len, fun _ _ => rfl, fun j z h => by omega⟩)
      clear hin hEL HK
      go_wp2_with fail
      go_loopw [24] (fun v24 wr => ∃ i : Nat, i ≤ n ∧ v24 = .int .i64 (i : Int) ∧ ∃ (li : List Wk) (S' : Nat → Prop), Saf w g g8 g9 g10 li q sv l l E S' (.slice A11 EL c11) wr ∧ li.length = n ∧ (∀ j : Nat, i ≤ j → li[j]? = l[j]?) ∧ (∀ (j : Nat) (z : Wk), j < i → li[j]? = some z → z.sees = none ∧ 18446744073709551615 ≤ z.at')) (fun v24 _ => n - (intOf v24).toNat)
      case atStart =>
        obtain ⟨li, S', q1, q2, q3, q4⟩ := H0.out
        exact ⟨0, Nat.zero_le _, rfl, li, S', q1, q2, fun j hj => q3 j (by omega), fun j z hj => by omega⟩
      case round =>
        as_aux_lemma =>
          clear H0
          obtain ⟨i, hi, rfl, li, S', hsf, hll, hge, hlo⟩ := hrel
          have HSF := Lib.hid hsf
          have HGE := Lib.hid hge
          have HLO := Lib.hid hlo
          have HLL := Lib.hid hll
          clear hsf hge hlo hll
          by_cases hi3 : i < n
          · obtain ⟨k0, hk0⟩ : ∃ k0, l[i]? = some k0 := ⟨_, List.getElem?_eq_getElem (by rw [HI.out.len]; exact hi3)⟩
            have hki : li[i]? = some k0 := by rw [HGE.out i (Nat.le_refl _)]; exact hk0
            have hM := HI.out.atM k0 (List.mem_of_getElem? hk0)
            have z0 := (HSF.out.b10.cell i).trans (lkC_get hk0)
            have l10 := HSF.out.b10.lt
            have HFR := Lib.hid (freed hki 18446744073709551615)
            have i0 : (0 : Int) ≤ (i : Int) := by omega
            have i1 : (i : Int) < (n : Int) := by omega
            have hii : i < li.length := by rw [HLL.out]; exact hi3
            have hNEXT := Lib.hid (fun S6 w6 (h : Saf w g g8 g9 g10 (instS (unpS li i) i 18446744073709551615) q sv l l E S6 (.slice A11 EL c11) w6) => (show ∃ (li : List Wk) (S' : Nat → Prop), Saf w g g8 g9 g10 li q sv l l E S' (.slice A11 EL c11) w6 ∧ li.length = n ∧ (∀ j : Nat, i + 1 ≤ j → li[j]? = l[j]?) ∧ (∀ (j : Nat) (z : Wk), j < i + 1 → li[j]? = some z → z.sees = none ∧ 18446744073709551615 ≤ z.at') from
              ⟨_, S6, h, by rw [instS_length, unpS_length]; exact HLL.out, fun j hj => by rw [inst_other (by omega), unp_other (by omega)]; exact HGE.out j (by omega), fun j z hj hjz => by
                by_cases hji : i = j
                · subst hji
                  obtain ⟨z2, e2, e3, e4⟩ := HFR.out
                  rw [e2] at hjz
                  injection hjz with hjz
                  rw [← hjz]
                  exact ⟨e3, e4⟩
                · rw [inst_other hji, unp_other hji] at hjz
                  exact HLO.out j z (by omega) hjz⟩))
            obtain ⟨ka, ks⟩ := k0
            dsimp only at z0 hM
            have he2 : instE (unpS li i) i 18446744073709551615 = 0 := by
              have h1 : ∃ ss, (unpS li (i : Int))[i]? = some ⟨ka, ss⟩ := by
                unfold unpS
                rw [wkAt_nat, hki]
                dsimp only
                split
                · exact ⟨none, by rw [Int.toNat_natCast, List.getElem?_set_self hii]⟩
                · exact ⟨ks, hki⟩
              obtain ⟨ss, h1⟩ := h1
              unfold instE
              rw [wkAt_nat, h1]
              dsimp only
              rw [if_neg (by omega)]
            cases ks with
            | none =>
              dsimp only [Option.isSome] at z0
              have hun : unpS li i = li := unp_no (by unfold unpE; rw [wkAt_nat, hki]; simp)
              rw [hun] at he2 hNEXT
              have CI := pinst_any li q g S' wr i 18446744073709551615 HSF.out.at'
              rw [he2] at CI
              replace CI := Lib.hid CI
              clear hk0 hki hM HFR he2 hun
              go_wp2_with fail
              refine CI.out.mono ?_
              rintro e w5 ⟨S5, rfl, d5, k5, m5⟩
              have HF := Lib.hid (hNEXT.out S5 w5 (HSF.out.code d5 k5 m5))
              clear d5 k5 m5 CI HSF hNEXT
              go_wp2_with fail
              go_roundw
              case rel => exact ⟨i + 1, by omega, by go_num, HF.out⟩
              case measure => simp [intOf]; omega
            | some sn =>
              dsimp only [Option.isSome] at z0
              have heu : unpE li i = 0 := by unfold unpE; rw [wkAt_nat, hki]; simp
              have CU := punpin_any li q g S' wr i HSF.out.at'
              rw [heu] at CU
              replace CU := Lib.hid CU
              have CI := fun S6 w6 (h : PAt w6 g S6 (unpS li i) q) => pinst_any (unpS li i) q g S6 w6 i 18446744073709551615 h
              rw [he2] at CI
              replace CI := Lib.hid CI
              clear hk0 hki hM HFR he2 heu
              go_wp2_with fail
              refine CU.out.mono ?_
              rintro e w5 ⟨S5, rfl, d5, k5, m5⟩
              have H5 := Lib.hid (HSF.out.code d5 k5 m5)
              clear d5 k5 m5 CU HSF
              go_wp2_with fail
              refine (CI.out S5 w5 H5.out.at').mono ?_
              rintro e w6 ⟨S6, rfl, d6, k6, m6⟩
              have HF := Lib.hid (hNEXT.out S6 w6 (H5.out.code d6 k6 m6))
              clear d6 k6 m6 CI H5 hNEXT
              go_wp2_with fail
              go_roundw
              case rel => exact ⟨i + 1, by omega, by go_num, HF.out⟩
              case measure => simp [intOf]; omega
          · have hi' : i = n := by omega
            subst hi'
            have hold : 18446744073709551615 ≤ oldS li := by
              obtain ⟨k1, hk1, h1⟩ := oldS_one (l := li) (ne_of_len (by rw [HLL.out]; exact hn1))
              obtain ⟨j, hj⟩ := List.mem_iff_getElem?.1 hk1
              obtain ⟨h2, h3⟩ := HLO.out j k1 (by have := (List.getElem?_eq_some_iff.1 hj).1; rw [HLL.out] at this; exact this) hj
              rcases h1 with h1 | h1
              · omega
              · rw [h2] at h1; cases h1
            have hall : ∀ t ∈ q, t.ep ≤ oldS li := fun t ht => by
              obtain ⟨_, _, h3⟩ := HI.out.told t ht
              have := HI.out.eM _ (List.mem_of_getElem? h3)
              omega
            have hg : goes (oldS li) q = q := List.filter_eq_self.2 (fun t ht => by simpa using hall t ht)
            have hst : stays (oldS li) q = [] := List.filter_eq_nil_iff.2 (fun t ht => by have := hall t ht; simp; omega)
            have CS := psweep_any li q g S' wr HSF.out.at'
            unfold PSwept at CS
            rw [hg, hst] at CS
            obtain ⟨N, hN⟩ : ∃ z, q.length = z := ⟨_, rfl⟩
            rw [hN] at CS hsum
            have hsum' : (N : Int) + (s : Int) = (EL : Int) := by omega
            replace CS := Lib.hid CS
            clear hold hall hg hst hN HI HGE HLO
            go_wp2_with fail
            refine CS.out.mono ?_
            rintro e w5 ⟨A5, c5, S5, rfl, row5, d5, k5, m5⟩
            have CW := Lib.hid (pwait_any li [] g S5 w5 d5)
            have HF := Lib.hid (HSF.out.code d5 k5 m5).below
            clear d5 k5 m5 CS row5 HSF
            go_wp2_with fail
            refine CW.out.mono ?_
            rintro e w6 ⟨rfl, b6⟩
            have HE := Lib.hid (HF.out.trans (b6.mono HF.out.size))
            clear b6 HF CW
            go_wp2_with fail
            go_ret
            exact ⟨rfl, HE.out⟩

set_option maxRecDepth 100000 in
theorem lifted (os : Os) (started : os.Started) (H : Type) (enc : TypeId × Value → H) :
    ReturnsInHanded {} Try.checked os 4 .any (Rows.pinsSafeSpec.pre6 enc Try.prog Try.f4 Rows.pinsSafeRow.domain false) (Rows.pinsSafeSpec.post enc Try.prog Try.f4 false true false false) := by
  refine returnsInHanded_of_change (C := Try.checked) own started (by kernel_rfl) Try.func4
    (ChangeSpec.witness6 (enc := enc) (C := Try.checked) false ⟨#[], #[.int .u8 0, .slice none 0 0], []⟩ 8 (by kernel_rfl) (by kernel_rfl) (by kernel_rfl) (by kernel_rfl)) ?_
  intro W base args ds gs before hval0 hW _ _
  have hval : ∀ (j : Nat) t v, Try.f4.params[j]? = some t → args[j]? = some v → Value.okWide Try.prog W .any base t v := hval0
  have hW' := hW
  obtain ⟨p, q, hA0, hV, _, _, _⟩ := hW
  have hA : DataW.TrodAll enc Try.prog W 0 (fun _ => true) true Try.f4.params.toList args.toList ds p := hA0
  rw [Try.params4] at hA hval
  obtain ⟨v0, vs0, d0, ds0, p0, q0, hargs, rfl, _, h0, r0⟩ := trodAll_cons hA
  obtain ⟨v1, vs1, d1, ds1, p1, q1, rfl, rfl, _, h1, r1⟩ := trodAll_cons r0
  obtain ⟨rfl, rfl, _⟩ := trodAll_nil r1
  obtain rfl : args = #[v0, v1] := by cases args; simp_all
  obtain ⟨rfl, _⟩ := trodVars_none hV
  refine law_post (s := Rows.pinsSafeSpec) rfl rfl (by rw [Try.params4]; intro t ht; simp at ht; rcases ht with rfl | rfl <;> exact ⟨by kernel_rfl, of_decide_eq_true (by kernel_rfl)⟩) rfl hW' ?_
  obtain ⟨a0, rfl, _, _, w0⟩ := open_int Try.underlying5 (hval 0 5 v0 rfl rfl) h0
  obtain ⟨A1, c1, l1, rfl, hl1, hr1, ho1⟩ := open_acts16 (hval 1 22 v1 rfl rfl) h1
  exact walk W a0 w0 A1 c1 l1 hl1 hr1 ho1

theorem over : Rows.pinsSafeRow.holds Try.pinned (OpenSpec.ofChange Rows.pinsSafeSpec) :=
  OpenClaim.holds_of_wide 4 Try.f4 rfl rfl rfl rfl rfl rfl rfl ⟨rfl, rfl, rfl, rfl, rfl⟩ rfl rfl rfl rfl rfl (by kernel_rfl) Try.func4 (by kernel_rfl)
    (of_decide_eq_true (by kernel_rfl)) (by unfold Func.isWrapper; first | (rw [if_pos (by decide +kernel)]; kernel_rfl) | (rw [if_neg (by decide +kernel)]; exact ⟨rfl, rfl⟩))
    (fun os started H enc _ => lifted os started H enc)

/-- The statement. -/
theorem pinsSafe_holds : Rows.PinsSafeSaid := over

end Go.Proofs.Ytgacejencnkpmaa.PSafe
