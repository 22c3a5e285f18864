/-
  Contracts of package arena: Get, Free, Refs, Live.
-/
import Derived.Test.YtejfjjgcajdjmaaArCt
import Derived.Test.YtejfjjgcajdjmaaArQ
import Derived.Deep.CutBlock
import Derived.Deep.DeepCutAuto
import Derived.Deep.QuietTactic
import Derived.Deep.RegionHeld3
import Derived.RegionTactic
import Derived.Laws.OwnMore
import Derived.Lib.SmallJoins
import Derived.BigQuiet
import Derived.IntWalk
namespace Go.Proofs.Ytejfjjgcajdjmaa
open Go.RowKit
set_option linter.unusedSimpArgs false
set_option linter.unusedVariables false
set_option maxRecDepth 100000

theorem info_ref : (Try.prog.info? 30).map (fun i => (i.zero, i.size, i.bytes)) = some (some (.agg #[.int .i64 0, .int .u32 0]), 2, 16) := by kernel_rfl
theorem refC_add (l : List (Nat × Nat)) (p : Nat × Nat) : refC (l ++ [p]) = refC l ++ [.int .i64 (p.1 : Int), .int .u32 (p.2 : Int)] := by simp [refC]
theorem refsF_add (y : Sl) : ∀ (l : List Sl) (i : Nat), refsF i (l ++ [y]) = refsF i l ++ (if y.used = true then [(i + l.length, y.turn)] else [])
  | [], i => by simp only [List.nil_append, List.length_nil, Nat.add_zero]; unfold refsF; by_cases h : y.used = true <;> simp [h, refsF]
  | z :: l, i => by
    rw [List.cons_append]
    unfold refsF
    have := refsF_add y l (i + 1)
    rw [this, List.length_cons, show i + 1 + l.length = i + (l.length + 1) by omega]
    by_cases h : z.used = true <;> simp [h]
theorem refsA_take {l : List Sl} {k : Nat} {y : Sl} (h : l[k]? = some y) : refsA (l.take (k + 1)) = refsA (l.take k) ++ (if y.used = true then [(k, y.turn)] else []) := by
  have hk : k < l.length := (List.getElem?_eq_some_iff.1 h).1
  have e : l.take (k + 1) = l.take k ++ [y] := by rw [List.take_add_one, h]; rfl
  unfold refsA
  rw [e, refsF_add, List.length_take, Nat.min_eq_left (by omega), Nat.zero_add]

set_option maxHeartbeats 1600000 in
theorem agetS_nil (s t : Int) (w : World) : Calls Try.prog 19 #[.pointer none, .agg #[.int .i64 s, .int .u32 t]] w fun e w' => e = .returned (.tuple #[zS, .int .i64 1]) ∧ Below w.heap.size w w' := by
  have hb0 := (Below.refl w.heap.size w).alloc (Nat.le_refl _) (.cells #[.int .i64 s, .int .u32 t] 30)
  have HB := Lib.hid hb0
  have CF := Lib.hid (fun w => findS_nil s t w)
  unfold zS
  clear hb0
  go_enter Try.func19, Try.ntmps19
  go_wp2_with fail
  refine (CF.out _).mono ?_
  rintro e w1 ⟨rfl, b1⟩
  have HB1 := Lib.hid (bnext HB.out b1)
  clear b1 HB CF
  go_wp2
  go_ret2
  exact ⟨rfl, HB1.out⟩
set_option maxHeartbeats 1600000 in
theorem afreeS_nil (s t : Int) (w : World) : Calls Try.prog 20 #[.pointer none, .agg #[.int .i64 s, .int .u32 t]] w fun e w' => e = .returned (.int .i64 1) ∧ Below w.heap.size w w' := by
  have hb0 := (Below.refl w.heap.size w).alloc (Nat.le_refl _) (.cells #[.int .i64 s, .int .u32 t] 30)
  have HB := Lib.hid hb0
  have CF := Lib.hid (fun w => findS_nil s t w)
  clear hb0
  go_enter Try.func20, Try.ntmps20
  go_wp2_with fail
  refine (CF.out _).mono ?_
  rintro e w1 ⟨rfl, b1⟩
  have HB1 := Lib.hid (bnext HB.out b1)
  clear b1 HB CF
  go_wp2
  go_ret
  exact ⟨rfl, HB1.out⟩
set_option maxHeartbeats 1600000 in
theorem arefsS_nil (w : World) : Calls Try.prog 22 #[.pointer none] w fun e w' => e = .returned (.slice none 0 0) ∧ Below w.heap.size w w' := by
  have HB := Lib.hid (Below.refl w.heap.size w)
  go_enter Try.func22, Try.ntmps22
  go_wp2
  go_ret
  exact ⟨rfl, HB.out⟩
set_option maxHeartbeats 1600000 in
theorem aliveS_nil (w : World) : Calls Try.prog 21 #[.pointer none] w fun e w' => e = .returned (.int .i64 0) ∧ Below w.heap.size w w' := by
  go_enter Try.func21, Try.ntmps21
  go_wp2_with fail
  refine (arefsS_nil _).mono ?_
  rintro e w1 ⟨rfl, b1⟩
  have HB1 := Lib.hid b1
  clear b1
  go_wp2
  go_ret
  exact ⟨rfl, HB1.out⟩

set_option maxHeartbeats 3200000 in
theorem arefsI_any (l : List Sl) (g : Nat) (S : Nat → Prop) (w : World) (h : ArAt true w g S l) (hl : l.length ≤ 64) :
    Calls Try.prog 15 #[.pointer (some ⟨g, 0, none⟩)] w fun e w' => ∃ A c, e = .returned (.slice A (liveA l) c) ∧ Row w' w'.heap.size 2 A (liveA l) (refC (refsA l)) ∧ Below w.heap.size w w' := by
  obtain ⟨r, hne, hS, hG, hR, hp⟩ := h
  rw [if_pos rfl] at hG hR
  obtain ⟨n, hn⟩ : ∃ n, l.length = n := ⟨_, rfl⟩
  have HN := Lib.hid hn
  rw [hn] at hG hl
  have HG := Lib.hid hG
  have HR := Lib.hid hR
  have g0 := hG.cell 0
  clear hG hR hS hp hn
  go_enter Try.func15, Try.ntmps15
  go_wp2_with fail
  clear g0
  go_loopw [3, 13] (fun v i wr => ∃ k : Nat, k ≤ n ∧ i = .int .i64 (k : Int) ∧ wr.ownsRow w.heap.size 30 2 v (refsA (l.take k)).length (refC (refsA (l.take k))) ∧ Below w.heap.size w wr) (fun _ i _ => n - (intOf i).toNat)
  case atStart => exact ⟨0, Nat.zero_le _, rfl, World.ownsRow_nil _ _ _ _, Below.refl _ _⟩
  case round =>
    obtain ⟨k, hk, rfl, hown, hb⟩ := hrel
    obtain ⟨Av, cv, rfl⟩ := own_form hown
    have HO := Lib.hid hown
    have HB := Lib.hid hb
    have hsz := hb.size
    clear hown hb
    by_cases hlt : k < n
    · obtain ⟨y, hy⟩ : ∃ y, l[k]? = some y := ⟨_, List.getElem?_eq_getElem (by rw [HN.out]; exact hlt)⟩
      have HY := Lib.hid hy
      obtain ⟨e0, e1, e2⟩ := slC_get hy
      have c0 := ((HR.out.below HB.out HR.out.lt).cell (k * 3)).trans e0
      have c1 := ((HR.out.below HB.out HR.out.lt).cell (k * 3 + 1)).trans e1
      have g0 := (HG.out.below HB.out HG.out.lt).cell 0
      have hgl : g < wr.heap.size := Nat.lt_of_lt_of_le HG.out.lt hsz
      have hrl : r < wr.heap.size := Nat.lt_of_lt_of_le HR.out.lt hsz
      have i0 : (0 : Int) ≤ (k : Int) := by omega
      have i1 : (k : Int) < (n : Int) := by omega
      obtain ⟨yx, yt, yu⟩ := y
      dsimp only at c0 c1
      have hnext := refsA_take HY.out
      obtain ⟨ps, hps⟩ : ∃ ps, refsA (l.take k) = ps := ⟨_, rfl⟩
      rw [hps] at hnext HO ⊢
      have hle : ps.length ≤ 64 := by
        have h1 : ps.length ≤ (l.take k).length := by rw [← hps, refsA, refsF_length]; exact liveA_le _
        have h2 : (l.take k).length ≤ k := by rw [List.length_take]; exact Nat.min_le_left _ _
        omega
      clear hy e0 e1 e2 hps
      cases yu with
      | false =>
        have HX := Lib.hid (show refsA (l.take (k + 1)) = ps by rw [hnext]; simp)
        clear c0 hnext
        go_wp2_with fail
        go_roundw
        case rel => exact ⟨k + 1, by omega, by go_num, by rw [HX.out]; exact HO.out, HB.out⟩
        case measure => simp [intOf]; omega
      | true =>
        have HX := Lib.hid (show refsA (l.take (k + 1)) = ps ++ [(k, yt)] by rw [hnext]; simp)
        clear hnext
        have HRow := Lib.hid (Row.fresh wr 30 #[.int .i64 (k : Int), .int .u32 (yt : Int)] 2 1 [.int .i64 (k : Int), .int .u32 (yt : Int)] rfl rfl)
        obtain ⟨N, hN⟩ : ∃ N, ps.length = N := ⟨_, rfl⟩
        rw [hN] at HO hle ⊢
        have HN2 := Lib.hid hN
        clear hN
        go_wp2_with (at_builtin; refine wpl_append _ rfl (.tmp 26) (.tmp 33) 27 rfl w.heap.size 30 (.agg #[.int .i64 0, .int .u32 0]) 2 16 Try.underlying27 info_ref rfl (by decide) _ N (refC ps) rfl (HO.out.alloc _) _ (some ⟨wr.heap.size, 0, none⟩) 1 1 [.int .i64 (k : Int), .int .u32 (yt : Int)] rfl HRow.out (by simp [Value.oneCell']) ?c1 ?c2 ?c3 ?_)
        case c1 => unfold maxLen; omega
        case c2 => omega
        case c3 => simp; omega
        intro v3 w3 hown3 hg3 _
        have HB3 := Lib.hid (show Below w.heap.size w w3 from (HB.out.alloc (by omega) _).grown hg3 (by simp; omega) (fun q hq => (HO.out.lt q hq).1))
        have HO3 := Lib.hid (show w3.ownsRow w.heap.size 30 2 v3 (refsA (l.take (k + 1))).length (refC (refsA (l.take (k + 1)))) by rw [HX.out, refC_add, List.length_append, HN2.out]; exact hown3)
        clear hown3 hg3 HO HB HRow HX
        go_wp2_with fail
        go_roundw
        case rel => exact ⟨k + 1, by omega, by go_num, HO3.out, HB3.out⟩
        case measure => simp [intOf]; omega
    · obtain rfl : k = n := by omega
      have hta : l.take k = l := by rw [← HN.out]; exact List.take_length
      have hlen : (refsA l).length = liveA l := refsF_length l 0
      have HF := Lib.hid (show Row wr wr.heap.size 2 Av (liveA l) (refC (refsA l)) by have h := Row.of_own HO.out; rw [hta, hlen] at h; exact h)
      rw [hta, hlen] at HO ⊢
      clear hta hlen HO
      go_wp2_with fail
      go_ret
      exact ⟨Av, cv, rfl, HF.out, HB.out⟩
set_option maxHeartbeats 1600000 in
theorem aliveI_any (l : List Sl) (g : Nat) (S : Nat → Prop) (w : World) (h : ArAt true w g S l) (hl : l.length ≤ 64) :
    Calls Try.prog 16 #[.pointer (some ⟨g, 0, none⟩)] w fun e w' => e = .returned (.int .i64 (liveA l : Int)) ∧ Below w.heap.size w w' := by
  have C := Lib.hid (arefsI_any l g S w h hl)
  clear h
  go_enter Try.func16, Try.ntmps16
  go_wp2_with fail
  refine C.out.mono ?_
  rintro e w1 ⟨A, c, rfl, _, b1⟩
  have HB1 := Lib.hid b1
  clear b1 C
  go_wp2
  go_ret
  exact ⟨rfl, HB1.out⟩

set_option maxHeartbeats 3200000 in
theorem arefsS_any (l : List Sl) (g : Nat) (S : Nat → Prop) (w : World) (h : ArAt false w g S l) (hl : l.length ≤ 64) :
    Calls Try.prog 22 #[.pointer (some ⟨g, 0, none⟩)] w fun e w' => ∃ A c, e = .returned (.slice A (liveA l) c) ∧ Row w' w'.heap.size 2 A (liveA l) (refC (refsA l)) ∧ Below w.heap.size w w' := by
  obtain ⟨r, hne, hS, hG, hR, hp⟩ := h
  rw [if_neg (by decide)] at hG hR
  obtain ⟨n, hn⟩ : ∃ n, l.length = n := ⟨_, rfl⟩
  have HN := Lib.hid hn
  rw [hn] at hG hl
  have HG := Lib.hid hG
  have HR := Lib.hid hR
  have g0 := hG.cell 0
  clear hG hR hS hp hn
  go_enter Try.func22, Try.ntmps22
  go_wp2_with fail
  clear g0
  go_loopw [3, 13] (fun v i wr => ∃ k : Nat, k ≤ n ∧ i = .int .i64 (k : Int) ∧ wr.ownsRow w.heap.size 30 2 v (refsA (l.take k)).length (refC (refsA (l.take k))) ∧ Below w.heap.size w wr) (fun _ i _ => n - (intOf i).toNat)
  case atStart => exact ⟨0, Nat.zero_le _, rfl, World.ownsRow_nil _ _ _ _, Below.refl _ _⟩
  case round =>
    obtain ⟨k, hk, rfl, hown, hb⟩ := hrel
    obtain ⟨Av, cv, rfl⟩ := own_form hown
    have HO := Lib.hid hown
    have HB := Lib.hid hb
    have hsz := hb.size
    clear hown hb
    by_cases hlt : k < n
    · obtain ⟨y, hy⟩ : ∃ y, l[k]? = some y := ⟨_, List.getElem?_eq_getElem (by rw [HN.out]; exact hlt)⟩
      have HY := Lib.hid hy
      obtain ⟨e0, e1, e2⟩ := slC_get hy
      have c0 := ((HR.out.below HB.out HR.out.lt).cell (k * 3)).trans e0
      have c1 := ((HR.out.below HB.out HR.out.lt).cell (k * 3 + 1)).trans e1
      have g0 := (HG.out.below HB.out HG.out.lt).cell 0
      have hgl : g < wr.heap.size := Nat.lt_of_lt_of_le HG.out.lt hsz
      have hrl : r < wr.heap.size := Nat.lt_of_lt_of_le HR.out.lt hsz
      have i0 : (0 : Int) ≤ (k : Int) := by omega
      have i1 : (k : Int) < (n : Int) := by omega
      obtain ⟨yx, yt, yu⟩ := y
      dsimp only at c0 c1
      have hnext := refsA_take HY.out
      obtain ⟨ps, hps⟩ : ∃ ps, refsA (l.take k) = ps := ⟨_, rfl⟩
      rw [hps] at hnext HO ⊢
      have hle : ps.length ≤ 64 := by
        have h1 : ps.length ≤ (l.take k).length := by rw [← hps, refsA, refsF_length]; exact liveA_le _
        have h2 : (l.take k).length ≤ k := by rw [List.length_take]; exact Nat.min_le_left _ _
        omega
      clear hy e0 e1 e2 hps
      cases yu with
      | false =>
        have HX := Lib.hid (show refsA (l.take (k + 1)) = ps by rw [hnext]; simp)
        clear c0 hnext
        go_wp2_with fail
        go_roundw
        case rel => exact ⟨k + 1, by omega, by go_num, by rw [HX.out]; exact HO.out, HB.out⟩
        case measure => simp [intOf]; omega
      | true =>
        have HX := Lib.hid (show refsA (l.take (k + 1)) = ps ++ [(k, yt)] by rw [hnext]; simp)
        clear hnext
        have HRow := Lib.hid (Row.fresh wr 30 #[.int .i64 (k : Int), .int .u32 (yt : Int)] 2 1 [.int .i64 (k : Int), .int .u32 (yt : Int)] rfl rfl)
        obtain ⟨N, hN⟩ : ∃ N, ps.length = N := ⟨_, rfl⟩
        rw [hN] at HO hle ⊢
        have HN2 := Lib.hid hN
        clear hN
        go_wp2_with (at_builtin; refine wpl_append _ rfl (.tmp 26) (.tmp 33) 27 rfl w.heap.size 30 (.agg #[.int .i64 0, .int .u32 0]) 2 16 Try.underlying27 info_ref rfl (by decide) _ N (refC ps) rfl (HO.out.alloc _) _ (some ⟨wr.heap.size, 0, none⟩) 1 1 [.int .i64 (k : Int), .int .u32 (yt : Int)] rfl HRow.out (by simp [Value.oneCell']) ?c1 ?c2 ?c3 ?_)
        case c1 => unfold maxLen; omega
        case c2 => omega
        case c3 => simp; omega
        intro v3 w3 hown3 hg3 _
        have HB3 := Lib.hid (show Below w.heap.size w w3 from (HB.out.alloc (by omega) _).grown hg3 (by simp; omega) (fun q hq => (HO.out.lt q hq).1))
        have HO3 := Lib.hid (show w3.ownsRow w.heap.size 30 2 v3 (refsA (l.take (k + 1))).length (refC (refsA (l.take (k + 1)))) by rw [HX.out, refC_add, List.length_append, HN2.out]; exact hown3)
        clear hown3 hg3 HO HB HRow HX
        go_wp2_with fail
        go_roundw
        case rel => exact ⟨k + 1, by omega, by go_num, HO3.out, HB3.out⟩
        case measure => simp [intOf]; omega
    · obtain rfl : k = n := by omega
      have hta : l.take k = l := by rw [← HN.out]; exact List.take_length
      have hlen : (refsA l).length = liveA l := refsF_length l 0
      have HF := Lib.hid (show Row wr wr.heap.size 2 Av (liveA l) (refC (refsA l)) by have h := Row.of_own HO.out; rw [hta, hlen] at h; exact h)
      rw [hta, hlen] at HO ⊢
      clear hta hlen HO
      go_wp2_with fail
      go_ret
      exact ⟨Av, cv, rfl, HF.out, HB.out⟩
set_option maxHeartbeats 1600000 in
theorem aliveS_any (l : List Sl) (g : Nat) (S : Nat → Prop) (w : World) (h : ArAt false w g S l) (hl : l.length ≤ 64) :
    Calls Try.prog 21 #[.pointer (some ⟨g, 0, none⟩)] w fun e w' => e = .returned (.int .i64 (liveA l : Int)) ∧ Below w.heap.size w w' := by
  have C := Lib.hid (arefsS_any l g S w h hl)
  clear h
  go_enter Try.func21, Try.ntmps21
  go_wp2_with fail
  refine C.out.mono ?_
  rintro e w1 ⟨A, c, rfl, _, b1⟩
  have HB1 := Lib.hid b1
  clear b1 C
  go_wp2
  go_ret
  exact ⟨rfl, HB1.out⟩

set_option maxHeartbeats 1600000 in
theorem agetI_any (l : List Sl) (s t : Int) (g : Nat) (S : Nat → Prop) (w : World) (h : ArAt true w g S l) (hl : l.length ≤ 64) :
    Calls Try.prog 13 #[.pointer (some ⟨g, 0, none⟩), .agg #[.int .i64 s, .int .u32 t]] w fun e w' => e = .returned (gotA zI l s t) ∧ Below w.heap.size w w' := by
  obtain ⟨r, hne, hS, hG, hR, hp⟩ := h
  rw [if_pos rfl] at hG hR
  have hb0 := (Below.refl w.heap.size w).alloc (Nat.le_refl _) (.cells #[.int .i64 s, .int .u32 t] 30)
  have hgl := hG.lt
  have hrl := hR.lt
  have CF := findI_any l s t g r (w.alloc (.cells #[.int .i64 s, .int .u32 t] 30)) (hG.alloc _) (hR.alloc _) hl
  have HR := Lib.hid (hR.alloc (.cells #[.int .i64 s, .int .u32 t] 30))
  have HB := Lib.hid hb0
  unfold foundI at CF
  unfold gotA
  cases hgv : getA l s t with
  | none =>
    rw [hgv] at CF
    dsimp only [Option.getD, Option.isSome] at CF ⊢
    rw [if_neg Bool.false_ne_true] at CF ⊢
    rw [if_neg Bool.false_ne_true] at CF
    replace CF := Lib.hid CF
    unfold zI
    clear hG hR hS hp hb0 hgv HR
    go_enter Try.func13, Try.ntmps13
    go_wp2_with fail
    refine CF.out.mono ?_
    rintro e w1 ⟨rfl, b1⟩
    have HB1 := Lib.hid (bnext HB.out b1)
    clear b1 HB CF
    go_wp2
    go_ret2
    exact ⟨rfl, HB1.out⟩
  | some v =>
    rw [hgv] at CF
    obtain ⟨hs0, y, hy, hyu, hyt, hyx⟩ := getA_turn hgv
    obtain ⟨k, hk⟩ : ∃ k : Nat, s.toNat = k := ⟨_, rfl⟩
    rw [hk] at hy CF
    obtain ⟨e0, e1, e2⟩ := slC_get hy
    rw [hyx] at e2
    have HE := Lib.hid e2
    obtain ⟨x, rfl⟩ : ∃ x : Int, v = .int .i64 x := by have h1 := hp y (List.mem_of_getElem? hy); rw [hyx] at h1; unfold Plain at h1; rw [if_pos rfl] at h1; exact h1
    dsimp only [Option.getD, Option.isSome] at CF ⊢
    rw [if_pos rfl] at CF ⊢
    rw [if_pos rfl] at CF
    replace CF := Lib.hid CF
    clear hG hR hS hp hb0 hgv hs0 hy hyu hyt hyx hk e0 e1 e2
    go_enter Try.func13, Try.ntmps13
    go_wp2_with fail
    refine CF.out.mono ?_
    rintro e w1 ⟨rfl, b1⟩
    have HB1 := Lib.hid (bnext HB.out b1)
    have c2 := ((HR.out.below b1 HR.out.lt).cell (k * 3 + 2)).trans HE.out
    clear b1 HB CF
    go_wp2
    go_ret2
    exact ⟨rfl, HB1.out⟩
set_option maxHeartbeats 1600000 in
theorem afreeI_any (l : List Sl) (s t : Int) (g : Nat) (S : Nat → Prop) (w : World) (h : ArAt true w g S l) (hl : l.length ≤ 64) :
    Calls Try.prog 12 #[.pointer (some ⟨g, 0, none⟩), .agg #[.int .i64 s, .int .u32 t]] w (ArDone true g S (.int .i64 (if (getA l s t).isSome = true then 0 else 26)) (freeA zI l s t) w) := by
  obtain ⟨r, hne, hS, hG, hR, hp⟩ := h
  rw [if_pos rfl] at hG hR
  have hb0 := (Below.refl w.heap.size w).alloc (Nat.le_refl _) (.cells #[.int .i64 s, .int .u32 t] 30)
  have hgl := hG.lt
  have hrl := hR.lt
  have CF := findI_any l s t g r (w.alloc (.cells #[.int .i64 s, .int .u32 t] 30)) (hG.alloc _) (hR.alloc _) hl
  have HR := Lib.hid (hR.alloc (.cells #[.int .i64 s, .int .u32 t] 30))
  have HG := Lib.hid (hG.alloc (.cells #[.int .i64 s, .int .u32 t] 30))
  have HB := Lib.hid hb0
  have HS := Lib.hid hS
  have HP := Lib.hid hp
  unfold foundI at CF
  cases hgv : getA l s t with
  | none =>
    have hf : freeA zI l s t = l := by unfold freeA; rw [hgv]; rfl
    rw [hgv] at CF
    rw [hf]
    dsimp only [Option.isSome] at CF ⊢
    rw [if_neg Bool.false_ne_true] at CF ⊢
    rw [if_neg Bool.false_ne_true] at CF
    replace CF := Lib.hid CF
    clear hG hR hS hp hb0 hgv hf
    go_enter Try.func12, Try.ntmps12
    go_wp2_with fail
    refine CF.out.mono ?_
    rintro e w1 ⟨rfl, b1⟩
    have HF := Lib.hid (show ArDone true g S (.int .i64 26) l w (.returned (.int .i64 26)) w1 from ⟨S, rfl, ⟨r, hne, HS.out, by rw [if_pos rfl]; exact HG.out.below b1 HG.out.lt, by rw [if_pos rfl]; exact HR.out.below b1 HR.out.lt, HP.out⟩, but_of_below (bnext HB.out b1), fun _ _ h => h⟩)
    clear b1 HB CF
    go_wp2
    go_ret
    exact HF.out
  | some v =>
    rw [hgv] at CF
    obtain ⟨hs0, y, hy, hyu, hyt, hyx⟩ := getA_turn hgv
    have hf : freeA zI l s t = l.set s.toNat ⟨zI, y.turn, false⟩ := by unfold freeA; rw [hgv, if_pos (by rfl), ← hyt, Int.toNat_natCast]
    rw [hf]
    obtain ⟨k, hk⟩ : ∃ k : Nat, s.toNat = k := ⟨_, rfl⟩
    rw [hk] at hy CF ⊢
    obtain ⟨e0, e1, e2⟩ := slC_get hy
    obtain ⟨yt, hyt2⟩ : ∃ yt, y.turn = yt := ⟨_, rfl⟩
    rw [hyt2] at e0 ⊢
    have HE := Lib.hid (And.intro e0 (And.intro e1 e2))
    dsimp only [Option.isSome] at CF ⊢
    rw [if_pos rfl] at CF ⊢
    rw [if_pos rfl] at CF
    replace CF := Lib.hid CF
    clear hG hR hS hp hb0 hgv hs0 hy hyu hyt hyx hk e0 e1 e2 hf hyt2
    go_enter Try.func12, Try.ntmps12
    go_wp2_with fail
    refine CF.out.mono ?_
    rintro e w1 ⟨rfl, b1⟩
    have R1 := HR.out.below b1 HR.out.lt
    have G1 := HG.out.below b1 HG.out.lt
    have hz1 : w.heap.size < w1.heap.size := by have := b1.size; simp at this; omega
    have hrl1 : r < w1.heap.size := by omega
    have hrg : g ≠ r := fun h => hne h.symm
    have HF := Lib.hid (show ArDone true g S (.int .i64 0) (l.set k ⟨zI, yt, false⟩) w (.returned (.int .i64 0)) (((w1.setCell ⟨r, k * 3, none⟩ (.int .u32 (yt : Int))).setCell ⟨r, k * 3 + 1, none⟩ (.bool false)).setCell ⟨r, k * 3 + 2, none⟩ zI) from
      ⟨S, rfl, ⟨r, hne, HS.out, by rw [if_pos rfl, List.length_set]; exact ((G1.far (p := ⟨r, k * 3, none⟩) hrg _).far (p := ⟨r, k * 3 + 1, none⟩) hrg _).far (p := ⟨r, k * 3 + 2, none⟩) hrg _,
        by rw [if_pos rfl, slC_set]; exact ((R1.set (k * 3) _).set (k * 3 + 1) _).set (k * 3 + 2) _, fun z hz => (List.mem_or_eq_of_mem_set hz).elim (HP.out z) (fun h => by rw [h]; exact ⟨_, rfl⟩)⟩,
        (((but_of_below (bnext HB.out b1)).set (p := ⟨r, k * 3, none⟩) (.inl ((HS.out r).2 (.inr rfl))) _).set (p := ⟨r, k * 3 + 1, none⟩) (.inl ((HS.out r).2 (.inr rfl))) _).set (p := ⟨r, k * 3 + 2, none⟩) (.inl ((HS.out r).2 (.inr rfl))) _, fun _ _ h => h⟩)
    have c0 := (R1.cell (k * 3)).trans HE.out.1
    have c1 := (R1.cell (k * 3 + 1)).trans HE.out.2.1
    have c2 := (R1.cell (k * 3 + 2)).trans HE.out.2.2
    have f0 := R1.free (k * 3)
    have f1 := R1.free (k * 3 + 1)
    have f2 := R1.free (k * 3 + 2)
    clear b1 HB CF R1 G1 HR HG HS HP HE
    go_wp2
    go_ret
    exact HF.out

end Go.Proofs.Ytejfjjgcajdjmaa
