/-
  slices.Insert of one element into a row of the call's own, for package delta's rows.
-/
import Derived.Test.YtmmeceehfdbdoaaOwnX
import Derived.Test.YtmmeceehfdbdoaaProg
import Derived.Lib.Overlaps
import Derived.Lib.AppendZerosOnto
import Derived.Lib.Walk
import Derived.RegionTactic
import Derived.Laws.IdiomCopy
import Derived.Laws.CopyRow
import Derived.Laws.Externs
import Derived.Deep.CutBlock
import Derived.Deep.DeepCutAuto
import Derived.IntWalk
namespace Go.Proofs.Ytmmeceehfdbdoaa
open Go.RowKit
set_option linter.unusedSimpArgs false
set_option linter.unusedVariables false
set_option maxRecDepth 100000

/-- copy(d, s) onto a block that is known whole. -/
theorem run_copy_z {P : Program} (w : World) (dT sT ty elem : TypeId) (z g o dLen dCap : Nat) (a : Addr) (sLen sCap : Nat) (cur : Array Value) (t : TypeId) (cs : List Value)
    (hu : P.underlying dT = some (.slice elem)) (hs : (P.info? elem).map (·.size) = some z) (hg : Whole w g t cur) {m : Nat} (hm : Nat.min sLen dLen = m) (hn : cs.length = m * z)
    (hsrc : ∀ j v, cs[j]? = some v → w.cell? (a.add j) = some v) (hfit : o + cs.length ≤ cur.size) (h1 : ∀ v ∈ cs, v.oneCell' = true) :
    (Builtin.copy_ #[dT, sT] ty #[.slice (some ⟨g, o, none⟩) dLen dCap, .slice (some a) sLen sCap]).run P w =
      .ok (goInt (m : Nat)) (w.setRow g (cur.toList.take o ++ cs ++ cur.toList.drop (o + cs.length)).toArray) := by
  have hl := run_loadCells_list (P := P) w a cs hsrc
  have hst := run_storeCells_at P g o t cs 0 cur w hg (by simpa using hfit) h1
  cases hq : P.info? elem with
  | none => simp [hq] at hs
  | some i =>
    have hi : i.size = z := by simpa [hq] using hs
    rw [hn] at hl
    simp [Builtin.copy_, run_underlying hu, Builtin.lenOf, Builtin.firstCells, sizeOf, typeInfo, hq, hi, hm, hl, hst]
theorem whole_setRow {w : World} {g : Nat} {t : TypeId} {cur cs : Array Value} (h : Whole w g t cur) : Whole (w.setRow g cs) g t cs := setRow_heap w g cur cs t (0, 0) h
theorem but_setRow {S : Nat → Prop} {w w' : World} (h : But S w w') {g : Nat} (hg : S g ∨ w.heap.size ≤ g) (cs : Array Value) : But S w (w'.setRow g cs) :=
  ⟨h.os, h.tape, h.output, by simpa using h.size, fun k h1 h2 => (setRow_other _ _ _ _ (fun e => by subst e; exact hg.elim h2 (by omega))).trans (h.block k h1 h2)⟩
theorem list_ins {α : Type} (xs vs : List α) (a : Nat) (cur : List α) (n v : Nat) (ht : cur.take n = xs) (hv : vs.length = v) (ha : a ≤ n) (hc : n + v ≤ cur.length) (hl : xs.length = n) :
    (((cur.take (a + v) ++ xs.drop a ++ cur.drop (a + v + (xs.drop a).length)).take a ++ vs ++ (cur.take (a + v) ++ xs.drop a ++ cur.drop (a + v + (xs.drop a).length)).drop (a + vs.length))).take (n + v) = xs.take a ++ vs ++ xs.drop a := by
  have e1 : (cur.take (a + v) ++ xs.drop a ++ cur.drop (a + v + (xs.drop a).length)).take a = xs.take a := by
    rw [List.append_assoc, List.take_append_of_le_length (by simp; omega), List.take_take, Nat.min_eq_left (by omega), ← ht, List.take_take, Nat.min_eq_left ha]
  have e2 : (cur.take (a + v) ++ xs.drop a ++ cur.drop (a + v + (xs.drop a).length)).drop (a + vs.length) = xs.drop a ++ cur.drop (a + v + (xs.drop a).length) := by
    rw [hv, List.append_assoc, List.drop_append_of_le_length (by simp; omega), List.drop_eq_nil_of_le (by simp; omega), List.nil_append]
  rw [e1, e2]
  rw [← List.append_assoc, List.take_append_of_le_length (by simp; omega), List.take_of_length_le (by simp; omega)]

theorem info_insP : (Try.prog.info? 71).map (fun i => (i.zero, i.size, i.bytes)) = some (some (Value.agg #[.int .i64 0, .int .i64 0, .int .i64 0]), 3, 24) := by kernel_rfl
theorem size_insP : (Try.prog.info? 71).map (·.size) = some 3 := by kernel_rfl
theorem sizeof_insP : ∀ w, (Go.sizeOf 71).run Try.prog w = .ok 3 w := by
  intro w
  obtain ⟨i, h0, h1, h2, h3⟩ := info_parts info_insP
  simp [sizeOf, typeInfo, h0, h2]
/-- slices.overlaps of two blocks apart. -/
theorem doverP (vb b o lb cb : Nat) (w : World) (cv cb' : Array Value) (hv : Whole w vb 71 cv) (hb : Whole w b 71 cb') (hne : vb ≠ b) (hs : cb'.size ≠ 0) :
    (callFunc 93 #[.slice (some ⟨vb, 0, none⟩) 1 1, .slice (some ⟨b, o, none⟩) lb cb]).run Try.prog w = .ok (.value (.bool false)) w := by
  have hv' : w.heap[vb]? = some (.cells cv 71 (0, 0)) := hv
  have hb' : w.heap[b]? = some (.cells cb' 71 (0, 0)) := hb
  rw [run_callFunc_extern Try.func93 (by kernel_rfl) (by kernel_rfl) (by kernel_rfl) (e := Extern.SlicesOverlaps.overlaps #[27, 27] #[4]) (by kernel_rfl),
    Lib.run_overlaps_apart w 27 4 71 Try.underlying27 3 sizeof_insP ⟨vb, 0, none⟩ ⟨b, o, none⟩ 1 1 lb cb hne 71 71 cv.size cb'.size (by simp [World.shape?, hv']) (by simp [World.shape?, hb']) hs (hv.free 0) (hv.free _)]
  rfl

set_option maxHeartbeats 3200000 in
/-- There is room. -/
theorem dinsP_room (base b c n i vb : Nat) (xs vs : List Value) (w : World) (h : w.ownsRow base 71 3 (.slice (some ⟨b, 0, none⟩) n c) n xs) (hi : i < n) (hn : n ≤ 4096) (hroom : n + 1 ≤ c)
    (hv : Whole w vb 71 vs.toArray) (hvl : vs.length = 3) (h1v : ∀ v ∈ vs, v.oneCell' = true) (h1x : ∀ v ∈ xs, v.oneCell' = true) (hne : vb ≠ b) :
    Calls Try.prog 81 #[.slice (some ⟨b, 0, none⟩) n c, .int .i64 (i : Int), .slice (some ⟨vb, 0, none⟩) 1 1] w fun e w' => ∃ A' c', e = .returned (.slice A' (n + 1) c') ∧ w'.ownsRow base 71 3 (.slice A' (n + 1) c') (n + 1) (xs.take (i * 3) ++ vs ++ xs.drop (i * 3)) ∧ But (fun k => k = b) w w' := by
  obtain ⟨hxl, hh⟩ := h
  obtain ⟨g, cap, cur, hval, hbg, hcell, h2, h3, h4, h5⟩ := hh.resolve_left (fun h => by cases h.1)
  injection hval with e1 _ e3
  injection e1 with e1
  injection e1 with e1 _ _
  subst e1
  subst e3
  unfold maxLen at h3
  have HB : Whole w b 71 cur := hcell
  have hdl : (xs.drop (i * 3)).length = (n - i) * 3 := by rw [List.length_drop, hxl]; omega
  have hov : ∀ lb cb, (callFunc 93 #[.slice (some ⟨vb, 0, none⟩) 1 1, .slice (some ⟨b, (i + 1) * 3, none⟩) lb cb]).run Try.prog w = .ok (.value (.bool false)) w := fun lb cb => doverP vb b _ lb cb w _ _ hv HB hne (by omega)
  obtain ⟨cs1, hcs1⟩ : ∃ z, (cur.toList.take ((i + 1) * 3) ++ xs.drop (i * 3) ++ cur.toList.drop ((i + 1) * 3 + (xs.drop (i * 3)).length)).toArray = z := ⟨_, rfl⟩
  have hsz1 : cs1.size = cur.size := by
    rw [← hcs1]
    simp only [List.size_toArray, List.length_append, List.length_take, List.length_drop, hxl, Array.length_toList]
    omega
  have hcp1 : ∀ wx : World, wx.heap = w.heap → ∀ ty dc sc, (Builtin.copy_ #[27, 27] ty #[.slice (some ⟨b, (i + 1) * 3, none⟩) (n - i) dc, .slice (some ⟨b, i * 3, none⟩) (n + 1 - i) sc]).run Try.prog wx = .ok (goInt ((n - i : Nat) : Int)) (wx.setRow b cs1) := fun wx hwx ty dc sc => by
    have hW : Whole wx b 71 cur := by unfold Whole; rw [hwx]; exact HB
    have := run_copy_z (P := Try.prog) wx 27 27 ty 71 3 b ((i + 1) * 3) (n - i) dc ⟨b, i * 3, none⟩ (n + 1 - i) sc cur 71 (xs.drop (i * 3)) Try.underlying27 size_insP hW
      (m := n - i) (by simp only [Nat.min_def]; split <;> omega) hdl (fun j v hj => by
        rw [Addr.add_lit, hW.cell]
        rw [List.getElem?_drop] at hj
        rw [← h5, List.getElem?_take] at hj
        split at hj
        · simpa using hj
        · cases hj) (by rw [hdl]; omega) (fun v hv => h1x v (List.mem_of_mem_drop hv))
    rw [hcs1] at this
    exact this
  obtain ⟨cs2, hcs2⟩ : ∃ z, (cs1.toList.take (i * 3) ++ vs ++ cs1.toList.drop (i * 3 + vs.length)).toArray = z := ⟨_, rfl⟩
  have hsz2 : cs2.size = cur.size := by
    rw [← hcs2]
    simp only [List.size_toArray, List.length_append, List.length_take, List.length_drop, hvl, Array.length_toList, hsz1]
    omega
  have hcp2 : ∀ wx : World, Whole wx b 71 cs1 → Whole wx vb 71 vs.toArray → ∀ ty dc, (Builtin.copy_ #[27, 27] ty #[.slice (some ⟨b, i * 3, none⟩) (n + 1 - i) dc, .slice (some ⟨vb, 0, none⟩) 1 1]).run Try.prog wx = .ok (goInt 1) (wx.setRow b cs2) := fun wx hW hV ty dc => by
    have := run_copy_z (P := Try.prog) wx 27 27 ty 71 3 b (i * 3) (n + 1 - i) dc ⟨vb, 0, none⟩ 1 1 cs1 71 vs Try.underlying27 size_insP hW
      (m := 1) (by simp only [Nat.min_def]; split <;> omega) (by rw [hvl]) (fun j v hj => by rw [Addr.add_lit, hV.cell]; simpa using hj) (by rw [hvl, hsz1]; omega) h1v
    rw [hcs2] at this
    exact this
  have HF : Hid (∀ wx : World, But (fun k => k = b) w wx → Whole wx b 71 cs2 → ∃ A' c', Ending.returned (.slice (some ⟨b, 0, none⟩) (n + 1) c) = .returned (.slice A' (n + 1) c') ∧ wx.ownsRow base 71 3 (.slice A' (n + 1) c') (n + 1) (xs.take (i * 3) ++ vs ++ xs.drop (i * 3)) ∧ But (fun k => k = b) w wx) := Lib.hid (fun wx hk hw =>
    ⟨_, _, rfl, ⟨by simp only [List.length_append, List.length_take, List.length_drop, hxl, hvl]; omega, .inr ⟨b, c, cs2, rfl, hbg, hw, hroom, by unfold maxLen; exact h3, by rw [hsz2]; exact h4, by
      rw [← hcs2, ← hcs1]
      have := list_ins xs vs (i * 3) cur.toList (n * 3) 3 h5 hvl (by omega) (by rw [Array.length_toList]; omega) hxl
      rw [show (i + 1) * 3 = i * 3 + 3 by omega, show (n + 1) * 3 = n * 3 + 3 by omega]
      exact this⟩⟩, hk⟩)
  have HWB := Lib.hid HB
  have HVB := Lib.hid hv
  have htn : ((i : Int) + 1).toNat = i + 1 := by omega
  have hz2 : ¬ ((i : Int) = (n : Int)) := by omega
  have hw1 : IntKind.i64.wrap ((i : Int) + 1) = (i : Int) + 1 := by rw [IntKind.wrap_i64]; omega
  have hw2 : IntKind.i64.wrap ((n : Int) + 1) = (n : Int) + 1 := by rw [IntKind.wrap_i64]; omega
  have hb1 : (0 : Int) ≤ (i : Int) + 1 := by omega
  have hb2 : (i : Int) + 1 ≤ (n : Int) + 1 := by omega
  have hin : i ≤ n := by omega
  have hi0 : (0 : Int) ≤ (i : Int) := by omega
  have hin2 : (i : Int) ≤ (n : Int) := by omega
  have hr2 : ¬ ((c : Int) < (n : Int) + 1) := by omega
  have hb3 : ¬ (c = i + 1) := by omega
  have hb4 : ¬ (c = i) := by omega
  have hcl : (n : Int) + 1 ≤ (c : Int) := by omega
  have hb5 : (i : Int) ≤ (n : Int) + 1 := by omega
  have mixed : Try.prog.follows Departure.mixedOrders = true := by kernel_rfl
  have HW1 := Lib.hid (show Whole (w.drew.setRow b cs1) b 71 cs1 from whole_setRow HWB.out)
  have HV1 := Lib.hid (show Whole (w.drew.setRow b cs1) vb 71 vs.toArray from (setRow_other _ _ _ _ hne).trans HVB.out)
  have HF2 := Lib.hid (HF.out ((w.drew.setRow b cs1).setRow b cs2) (but_setRow (S := fun k => k = b) (but_setRow (S := fun k => k = b) (But.refl _ _).drew (.inl rfl) _) (.inl rfl) _) (whole_setRow HW1.out))
  clear hcell hv HB hdl hcs1 hcs2 hsz1 hsz2 h1v h1x hvl hxl h4 h5 hbg hh
  go_enter Try.func81, Try.ntmps81
  have R1 := hcp1 w.drew rfl 3 (c - (i + 1)) (c - i)
  have R2 := hcp2 (w.drew.setRow b cs1) HW1.out HV1.out 3 (c - i)
  clear hcp1 hcp2
  go_wp2_with (simp only [hov])
  go_region
  go_wp2_with fail
  go_ret
  exact HF2.out

set_option maxHeartbeats 3200000 in
/-- There is no room: a new row. -/
theorem dinsP_grow (base b c n i vb : Nat) (xs vs : List Value) (w : World) (h : w.ownsRow base 71 3 (.slice (some ⟨b, 0, none⟩) n c) n xs) (hi : i < n) (hn : n ≤ 4096) (hroom : c < n + 1) (hbase : base ≤ w.heap.size)
    (hv : Whole w vb 71 vs.toArray) (hvl : vs.length = 3) (h1v : ∀ v ∈ vs, v.oneCell' = true) (h1x : ∀ v ∈ xs, v.oneCell' = true) (hne : vb ≠ b) :
    Calls Try.prog 81 #[.slice (some ⟨b, 0, none⟩) n c, .int .i64 (i : Int), .slice (some ⟨vb, 0, none⟩) 1 1] w fun e w' => ∃ A' c', e = .returned (.slice A' (n + 1) c') ∧ w'.ownsRow base 71 3 (.slice A' (n + 1) c') (n + 1) (xs.take (i * 3) ++ vs ++ xs.drop (i * 3)) ∧ But (fun k => k = b) w w' := by
  obtain ⟨hxl, hh⟩ := h
  obtain ⟨g, cap, cur, hval, hbg, hcell, h2, h3, h4, h5⟩ := hh.resolve_left (fun h => by cases h.1)
  injection hval with e1 _ e3
  injection e1 with e1
  injection e1 with e1 _ _
  subst e1
  subst e3
  unfold maxLen at h3
  have HB : Whole w b 71 cur := hcell
  have hbl := HB.lt
  have hvl2 := hv.lt
  obtain ⟨i0, hi0, hz0, hzs, hzb⟩ := info_parts info_insP
  have hdl : (xs.drop (i * 3)).length = (n - i) * 3 := by rw [List.length_drop, hxl]; omega
  have hxs : ∀ (j : Nat) (v : Value), xs[j]? = some v → cur[j]? = some v := fun j v hj => by
    rw [← h5, List.getElem?_take] at hj
    split at hj
    · simpa using hj
    · cases hj
  have hold : (Builtin.firstCells i0.size i (.slice (some ⟨b, 0, none⟩) i c)).run Try.prog w.drew = .ok (xs.take (i * 3)).toArray w.drew := by
    rw [hzs]
    exact run_firstCells_some w.drew 3 i ⟨b, 0, none⟩ i c (xs.take (i * 3)) (by rw [List.length_take]; omega) (fun j v hj => by
      rw [Addr.add_lit, HB.drew.cell]
      rw [List.getElem?_take] at hj
      split at hj
      · rw [Nat.zero_add]; exact hxs j v hj
      · cases hj)
  have hik : i + (n + 1 - i) = n + 1 := by omega
  have hkk : (n : Int) + 1 - (i : Int) = ((n + 1 - i : Nat) : Int) := by omega
  have hrz : ∀ ty, (Builtin.append_ #[27, 3] ty #[.slice (some ⟨b, 0, none⟩) i c, .int .i64 ((n : Int) + 1 - (i : Int))]).run Try.prog w =
      .ok (.slice (some ⟨w.heap.size, 0, none⟩) (n + 1) (grownCap w (n + 1) c 71)) (w.drew.alloc (.cells ((xs.take (i * 3)).toArray ++ Builtin.zeroCells (Value.agg #[.int .i64 0, .int .i64 0, .int .i64 0]).cells (n + 1 - i) ++ Builtin.zeroCells (Value.agg #[.int .i64 0, .int .i64 0, .int .i64 0]).cells (grownCap w (n + 1) c 71 - (n + 1))) 71)) := fun ty => by
    have h := Lib.run_append_grow_zeros (P := Try.prog) w 27 3 ty 71 i0 _ .i64 .i64 Try.underlying27 Try.underlying3 hi0 hz0 (some ⟨b, 0, none⟩) i c (xs.take (i * 3)) hold (n + 1 - i) (by omega) (by omega) (by omega) (by omega) (by rw [hzb]; omega) (by rw [hzb, hik]; exact growslice_fits hroom (by omega))
    rw [hik] at h
    rw [hkk]
    exact h
  obtain ⟨G, hG⟩ : ∃ G, G = grownCap w (n + 1) c 71 := ⟨_, rfl⟩
  have hGn : n + 1 ≤ G := by rw [hG]; exact grownCap_ge w _ _ _
  have hG63 : G ≤ 9223372036854775807 := by
    have := grownCap_le_maxLen w (n + 1) c 71 (by unfold maxLen; omega)
    rw [← hG] at this
    unfold maxLen at this
    omega
  rw [← hG] at hrz
  obtain ⟨ROW, hROW⟩ : ∃ ROW : Array Value, ROW = (xs.take (i * 3)).toArray ++ Builtin.zeroCells (Value.agg #[.int .i64 0, .int .i64 0, .int .i64 0]).cells (n + 1 - i) ++ Builtin.zeroCells (Value.agg #[.int .i64 0, .int .i64 0, .int .i64 0]).cells (G - (n + 1)) := ⟨_, rfl⟩
  rw [← hROW] at hrz
  have hRs : ROW.size = G * 3 := by
    rw [hROW]
    simp only [Array.size_append, List.size_toArray, List.length_take, hxl, Builtin.zeroCells, Value.cells, Array.size_map, Array.size_range]
    show min (i * 3) (n * 3) + (n + 1 - i) * 3 + (G - (n + 1)) * 3 = G * 3
    omega
  have hRt : ROW.toList.take (i * 3) = xs.take (i * 3) := by
    rw [hROW, Array.append_assoc, Array.toList_append, List.take_append_of_le_length (by simp; omega), List.take_take, Nat.min_self]
  obtain ⟨cs1, hcs1⟩ : ∃ z, (ROW.toList.take (i * 3) ++ vs ++ ROW.toList.drop (i * 3 + vs.length)).toArray = z := ⟨_, rfl⟩
  have hsz1 : cs1.size = G * 3 := by
    rw [← hcs1, ← hRs]
    simp only [List.size_toArray, List.length_append, List.length_take, List.length_drop, hvl, Array.length_toList, hRs]
    omega
  obtain ⟨cs2, hcs2⟩ : ∃ z, (cs1.toList.take ((i + 1) * 3) ++ xs.drop (i * 3) ++ cs1.toList.drop ((i + 1) * 3 + (xs.drop (i * 3)).length)).toArray = z := ⟨_, rfl⟩
  have hsz2 : cs2.size = G * 3 := by
    rw [← hcs2]
    simp only [List.size_toArray, List.length_append, List.length_take, List.length_drop, hdl, Array.length_toList, hsz1, hxl]
    omega
  have hcs2t : cs2.toList.take ((n + 1) * 3) = xs.take (i * 3) ++ vs ++ xs.drop (i * 3) := by
    rw [← hcs2, ← hcs1, hRt]
    simp only [List.toList_toArray]
    have e1 : (xs.take (i * 3) ++ vs ++ ROW.toList.drop (i * 3 + vs.length)).take ((i + 1) * 3) = xs.take (i * 3) ++ vs := by
      rw [List.take_append_of_le_length (by simp; omega), List.take_of_length_le (by simp; omega)]
    rw [e1, List.take_append_of_le_length (by simp; omega), List.take_of_length_le (by simp; omega)]
  obtain ⟨N, hN⟩ : ∃ N, w.heap.size = N := ⟨_, rfl⟩
  have hbN : b ≠ N := by omega
  have hvN : vb ≠ N := by omega
  have hcpA : ∀ wx : World, Whole wx N 71 ROW → Whole wx vb 71 vs.toArray → ∀ ty dc, (Builtin.copy_ #[27, 27] ty #[.slice (some ⟨N, i * 3, none⟩) (n + 1 - i) dc, .slice (some ⟨vb, 0, none⟩) 1 1]).run Try.prog wx = .ok (goInt 1) (wx.setRow N cs1) := fun wx hW hV ty dc => by
    have := run_copy_z (P := Try.prog) wx 27 27 ty 71 3 N (i * 3) (n + 1 - i) dc ⟨vb, 0, none⟩ 1 1 ROW 71 vs Try.underlying27 size_insP hW
      (m := 1) (by simp only [Nat.min_def]; split <;> omega) (by rw [hvl]) (fun j v hj => by rw [Addr.add_lit, hV.cell]; simpa using hj) (by rw [hvl, hRs]; omega) h1v
    rw [hcs1] at this
    exact this
  have hcpB : ∀ wx : World, Whole wx N 71 cs1 → Whole wx b 71 cur → ∀ ty dc sc, (Builtin.copy_ #[27, 27] ty #[.slice (some ⟨N, (i + 1) * 3, none⟩) (n - i) dc, .slice (some ⟨b, i * 3, none⟩) (n - i) sc]).run Try.prog wx = .ok (goInt ((n - i : Nat) : Int)) (wx.setRow N cs2) := fun wx hW hO ty dc sc => by
    have := run_copy_z (P := Try.prog) wx 27 27 ty 71 3 N ((i + 1) * 3) (n - i) dc ⟨b, i * 3, none⟩ (n - i) sc cs1 71 (xs.drop (i * 3)) Try.underlying27 size_insP hW
      (m := n - i) (by simp only [Nat.min_def]; split <;> omega) hdl (fun j v hj => by
        rw [Addr.add_lit, hO.cell]
        rw [List.getElem?_drop] at hj
        exact hxs _ v hj) (by rw [hdl, hsz1]; omega) (fun v hv => h1x v (List.mem_of_mem_drop hv))
    rw [hcs2] at this
    exact this
  rw [hN] at hrz hbase
  obtain ⟨W1, hW1⟩ : ∃ W1, W1 = w.drew.alloc (.cells ROW 71) := ⟨_, rfl⟩
  have hb1' : But (fun k => k = b) w W1 := by rw [hW1]; exact (But.refl _ _).drew.alloc _
  have HN1 := Lib.hid (show Whole W1 N 71 ROW by rw [hW1, ← hN]; exact Whole.new w.drew _ _)
  have HV1 := Lib.hid (show Whole W1 vb 71 vs.toArray by rw [hW1]; exact hv.drew.alloc _)
  have HO1 := Lib.hid (show Whole W1 b 71 cur by rw [hW1]; exact HB.drew.alloc _)
  rw [← hW1] at hrz
  have HN2 := Lib.hid (show Whole (W1.setRow N cs1) N 71 cs1 from whole_setRow HN1.out)
  have HO2 := Lib.hid (show Whole (W1.setRow N cs1) b 71 cur from (setRow_other _ _ _ _ hbN).trans HO1.out)
  have hWs : w.heap.size ≤ N := by omega
  have HF2 : Hid (∃ A' c', Ending.returned (.slice (some ⟨N, 0, none⟩) (n + 1) G) = .returned (.slice A' (n + 1) c') ∧ ((W1.setRow N cs1).drew.setRow N cs2).ownsRow base 71 3 (.slice A' (n + 1) c') (n + 1) (xs.take (i * 3) ++ vs ++ xs.drop (i * 3)) ∧ But (fun k => k = b) w ((W1.setRow N cs1).drew.setRow N cs2)) := Lib.hid
    ⟨_, _, rfl, ⟨by simp only [List.length_append, List.length_take, List.length_drop, hxl, hvl]; omega, .inr ⟨N, G, cs2, rfl, hbase, whole_setRow HN2.out.drew, hGn, by unfold maxLen; exact hG63, hsz2, hcs2t⟩⟩, but_setRow (S := fun k => k = b) (but_setRow (S := fun k => k = b) hb1' (.inr hWs) _).drew (.inr hWs) _⟩
  have htn : ((i : Int) + 1).toNat = i + 1 := by omega
  have hz2 : ¬ ((i : Int) = (n : Int)) := by omega
  have hw1 : IntKind.i64.wrap ((i : Int) + 1) = (i : Int) + 1 := by rw [IntKind.wrap_i64]; omega
  have hw2 : IntKind.i64.wrap ((n : Int) + 1) = (n : Int) + 1 := by rw [IntKind.wrap_i64]; omega
  have hw3 : IntKind.i64.wrap ((n : Int) + 1 - (i : Int)) = (n : Int) + 1 - (i : Int) := by rw [IntKind.wrap_i64]; omega
  have hb1 : (0 : Int) ≤ (i : Int) + 1 := by omega
  have hb2 : (i : Int) + 1 ≤ (n : Int) + 1 := by omega
  have hin : i ≤ n := by omega
  have hi0' : (0 : Int) ≤ (i : Int) := by omega
  have hin2 : (i : Int) ≤ (n : Int) := by omega
  have hic : (i : Int) ≤ (c : Int) := by omega
  have hr2 : (c : Int) < (n : Int) + 1 := by omega
  have hb3 : ¬ (G = i + 1) := by omega
  have hb4 : ¬ (G = i) := by omega
  have hb6 : ¬ (c = i) := by omega
  have hb5 : (i : Int) ≤ (n : Int) + 1 := by omega
  have mixed : Try.prog.follows Departure.mixedOrders = true := by kernel_rfl
  clear hcell hv HB hdl hcs1 hcs2 hsz1 hsz2 h1v h1x hvl hxl h4 h5 hbg hh hcs2t hRt hRs hROW hold hik hxs hi0 hz0 hzs hzb hb1' hW1 hWs hG hN hkk
  go_enter Try.func81, Try.ntmps81
  have R0 := hrz 27
  have RA := hcpA W1 HN1.out HV1.out 3 (G - i)
  have RB := hcpB (W1.setRow N cs1).drew HN2.out.drew HO2.out.drew 3 (G - (i + 1)) (c - i)
  clear hcpA hcpB hrz
  go_upto_region 9 with fail
  go_wp2_with (at_builtin; refine Lib.wpList_append_run _ rfl (.tmp 34) (.tmp 39) _ _ rfl _ _ rfl rfl _ _ R0 ?_)
  go_region
  go_wp2_with fail
  go_ret
  exact HF2.out

set_option maxHeartbeats 3200000 in
/-- At the end. -/
theorem dinsP_end (base : Nat) (A : Option Addr) (c n vb : Nat) (xs vs : List Value) (w : World) (h : w.ownsRow base 71 3 (.slice A n c) n xs) (hn : n ≤ 4096) (hbase : base ≤ w.heap.size)
    (hv : Whole w vb 71 vs.toArray) (hvl : vs.length = 3) (h1v : ∀ v ∈ vs, v.oneCell' = true) :
    Calls Try.prog 81 #[.slice A n c, .int .i64 (n : Int), .slice (some ⟨vb, 0, none⟩) 1 1] w fun e w' => ∃ A' c', e = .returned (.slice A' (n + 1) c') ∧ w'.ownsRow base 71 3 (.slice A' (n + 1) c') (n + 1) (xs ++ vs) ∧ But (fun k => (Value.slice A n c).ownBlock = some k) w w' := by
  have HR := Lib.hid (show Row w w.heap.size 3 (some ⟨vb, 0, none⟩) 1 vs from ⟨by rw [hvl], fun _ => ⟨vb, 0, rfl, hv.lt, fun j u hj => by rw [hv.cell]; simpa using hj⟩⟩)
  have H := Lib.hid h
  have H1 := Lib.hid h1v
  have hc := (own_cap h).1
  have hin : (n : Int) ≤ (n : Int) := Int.le_refl _
  have hic : (n : Int) ≤ (c : Int) := by omega
  have hi0' : (0 : Int) ≤ (n : Int) := by omega
  clear h hv hvl h1v
  obtain ⟨OB, hOB⟩ : ∃ z, z = (Value.slice A n c).ownBlock := ⟨_, rfl⟩
  have hOB' := hOB
  rw [← hOB]
  go_enter Try.func81, Try.ntmps81
  rcases A with _ | ⟨ag, ao, asp⟩
  · go_wp2_with (at_builtin; refine wpl_append _ rfl (.tmp 23) (.tmp 24) 27 rfl base 71 (Value.agg #[.int .i64 0, .int .i64 0, .int .i64 0]) 3 24 Try.underlying27 info_insP rfl (by decide) _ n xs rfl H.out _ (some ⟨vb, 0, none⟩) 1 1 vs rfl HR.out H1.out ?c1 ?c2 ?c3 ?_)
    case c1 => unfold maxLen; omega
    case c2 => omega
    try (case c3 => exact hbase)
    intro v' w' hown hg hat
    obtain ⟨A', c', rfl⟩ := own_form hown
    have HF := Lib.hid (show ∃ A'' c'', Ending.returned (Value.slice A' (n + 1) c') = .returned (.slice A'' (n + 1) c'') ∧ w'.ownsRow base 71 3 (.slice A'' (n + 1) c'') (n + 1) (xs ++ vs) ∧ But (fun k => OB = some k) w w' from ⟨_, _, rfl, hown, ⟨hg.os, hg.tape, hg.output, hg.size, fun k hk hs => hg.block k hk (fun e => hs (hOB.trans e.symm))⟩⟩)
    clear hown hg hat
    go_wp2_with fail
    go_ret
    exact HF.out
  · by_cases hcn : c = n
    · obtain rfl : n = c := hcn.symm
      go_wp2_with (at_builtin; refine wpl_append _ rfl (.tmp 23) (.tmp 24) 27 rfl base 71 (Value.agg #[.int .i64 0, .int .i64 0, .int .i64 0]) 3 24 Try.underlying27 info_insP rfl (by decide) _ n xs rfl H.out _ (some ⟨vb, 0, none⟩) 1 1 vs rfl HR.out H1.out ?d1 ?d2 ?d3 ?_)
      case d1 => unfold maxLen; omega
      case d2 => omega
      try (case d3 => exact hbase)
      intro v' w' hown hg hat
      obtain ⟨A', c', rfl⟩ := own_form hown
      have HF := Lib.hid (show ∃ A'' c'', Ending.returned (Value.slice A' (n + 1) c') = .returned (.slice A'' (n + 1) c'') ∧ w'.ownsRow base 71 3 (.slice A'' (n + 1) c'') (n + 1) (xs ++ vs) ∧ But (fun k => OB = some k) w w' from ⟨_, _, rfl, hown, ⟨hg.os, hg.tape, hg.output, hg.size, fun k hk hs => hg.block k hk (fun e => hs (hOB.trans e.symm))⟩⟩)
      clear hown hg hat
      go_wp2_with fail
      go_ret
      exact HF.out
    · skip
      go_wp2_with (at_builtin; refine wpl_append _ rfl (.tmp 23) (.tmp 24) 27 rfl base 71 (Value.agg #[.int .i64 0, .int .i64 0, .int .i64 0]) 3 24 Try.underlying27 info_insP rfl (by decide) _ n xs rfl H.out _ (some ⟨vb, 0, none⟩) 1 1 vs rfl HR.out H1.out ?e1 ?e2 ?e3 ?_)
      case e1 => unfold maxLen; omega
      case e2 => omega
      try (case e3 => exact hbase)
      intro v' w' hown hg hat
      obtain ⟨A', c', rfl⟩ := own_form hown
      have HF := Lib.hid (show ∃ A'' c'', Ending.returned (Value.slice A' (n + 1) c') = .returned (.slice A'' (n + 1) c'') ∧ w'.ownsRow base 71 3 (.slice A'' (n + 1) c'') (n + 1) (xs ++ vs) ∧ But (fun k => OB = some k) w w' from ⟨_, _, rfl, hown, ⟨hg.os, hg.tape, hg.output, hg.size, fun k hk hs => hg.block k hk (fun e => hs (hOB.trans e.symm))⟩⟩)
      clear hown hg hat
      go_wp2_with fail
      go_ret
      exact HF.out
/-- slices.Insert of one element. -/
theorem dinsP (base : Nat) (A : Option Addr) (c n i vb : Nat) (xs vs : List Value) (w : World) (h : w.ownsRow base 71 3 (.slice A n c) n xs) (hi : i ≤ n) (hn : n ≤ 4096) (hbase : base ≤ w.heap.size)
    (hv : Whole w vb 71 vs.toArray) (hvl : vs.length = 3) (h1v : ∀ v ∈ vs, v.oneCell' = true) (h1x : ∀ v ∈ xs, v.oneCell' = true) (hne : (Value.slice A n c).ownBlock ≠ some vb) :
    Calls Try.prog 81 #[.slice A n c, .int .i64 (i : Int), .slice (some ⟨vb, 0, none⟩) 1 1] w fun e w' => ∃ A' c', e = .returned (.slice A' (n + 1) c') ∧ w'.ownsRow base 71 3 (.slice A' (n + 1) c') (n + 1) (xs.take (i * 3) ++ vs ++ xs.drop (i * 3)) ∧ But (fun k => (Value.slice A n c).ownBlock = some k) w w' := by
  rcases Nat.lt_or_ge i n with h1 | h1
  · obtain ⟨b, cur, rfl, _, hw, _⟩ := own_wholeX h (by omega)
    have hne' : vb ≠ b := fun e => hne (by rw [e]; rfl)
    have fin : ∀ e w', (∃ A' c', e = Ending.returned (.slice A' (n + 1) c') ∧ w'.ownsRow base 71 3 (.slice A' (n + 1) c') (n + 1) (xs.take (i * 3) ++ vs ++ xs.drop (i * 3)) ∧ But (fun k => k = b) w w') →
        ∃ A' c', e = Ending.returned (.slice A' (n + 1) c') ∧ w'.ownsRow base 71 3 (.slice A' (n + 1) c') (n + 1) (xs.take (i * 3) ++ vs ++ xs.drop (i * 3)) ∧ But (fun k => (Value.slice (some ⟨b, 0, none⟩) n c).ownBlock = some k) w w' := by
      rintro e w' ⟨A', c', e1, e2, e3⟩
      exact ⟨A', c', e1, e2, e3.mono (fun k _ h => by rw [h]; rfl)⟩
    rcases Nat.lt_or_ge c (n + 1) with h2 | h2
    · exact (dinsP_grow base b c n i vb xs vs w h h1 hn h2 hbase hv hvl h1v h1x hne').mono fin
    · exact (dinsP_room base b c n i vb xs vs w h h1 hn h2 hv hvl h1v h1x hne').mono fin
  · obtain rfl : i = n := by omega
    have hx := h.1
    rw [List.take_of_length_le (by omega), List.drop_eq_nil_of_le (by omega), List.append_nil]
    exact dinsP_end base A c i vb xs vs w h hn hbase hv hvl h1v

theorem info_insT : (Try.prog.info? 72).map (fun i => (i.zero, i.size, i.bytes)) = some (some (Value.agg #[.int .i64 0, .int .i64 0, .int .i64 0, .slice none 0 0]), 4, 48) := by kernel_rfl
theorem size_insT : (Try.prog.info? 72).map (·.size) = some 4 := by kernel_rfl
theorem sizeof_insT : ∀ w, (Go.sizeOf 72).run Try.prog w = .ok 4 w := by
  intro w
  obtain ⟨i, h0, h1, h2, h3⟩ := info_parts info_insT
  simp [sizeOf, typeInfo, h0, h2]
/-- slices.overlaps of two blocks apart. -/
theorem doverT (vb b o lb cb : Nat) (w : World) (cv cb' : Array Value) (hv : Whole w vb 72 cv) (hb : Whole w b 72 cb') (hne : vb ≠ b) (hs : cb'.size ≠ 0) :
    (callFunc 97 #[.slice (some ⟨vb, 0, none⟩) 1 1, .slice (some ⟨b, o, none⟩) lb cb]).run Try.prog w = .ok (.value (.bool false)) w := by
  have hv' : w.heap[vb]? = some (.cells cv 72 (0, 0)) := hv
  have hb' : w.heap[b]? = some (.cells cb' 72 (0, 0)) := hb
  rw [run_callFunc_extern Try.func97 (by kernel_rfl) (by kernel_rfl) (by kernel_rfl) (e := Extern.SlicesOverlaps.overlaps #[28, 28] #[4]) (by kernel_rfl),
    Lib.run_overlaps_apart w 28 4 72 Try.underlying28 4 sizeof_insT ⟨vb, 0, none⟩ ⟨b, o, none⟩ 1 1 lb cb hne 72 72 cv.size cb'.size (by simp [World.shape?, hv']) (by simp [World.shape?, hb']) hs (hv.free 0) (hv.free _)]
  rfl

set_option maxHeartbeats 3200000 in
/-- There is room. -/
theorem dinsT_room (base b c n i vb : Nat) (xs vs : List Value) (w : World) (h : w.ownsRow base 72 4 (.slice (some ⟨b, 0, none⟩) n c) n xs) (hi : i < n) (hn : n ≤ 4096) (hroom : n + 1 ≤ c)
    (hv : Whole w vb 72 vs.toArray) (hvl : vs.length = 4) (h1v : ∀ v ∈ vs, v.oneCell' = true) (h1x : ∀ v ∈ xs, v.oneCell' = true) (hne : vb ≠ b) :
    Calls Try.prog 91 #[.slice (some ⟨b, 0, none⟩) n c, .int .i64 (i : Int), .slice (some ⟨vb, 0, none⟩) 1 1] w fun e w' => ∃ A' c', e = .returned (.slice A' (n + 1) c') ∧ w'.ownsRow base 72 4 (.slice A' (n + 1) c') (n + 1) (xs.take (i * 4) ++ vs ++ xs.drop (i * 4)) ∧ But (fun k => k = b) w w' := by
  obtain ⟨hxl, hh⟩ := h
  obtain ⟨g, cap, cur, hval, hbg, hcell, h2, h3, h4, h5⟩ := hh.resolve_left (fun h => by cases h.1)
  injection hval with e1 _ e3
  injection e1 with e1
  injection e1 with e1 _ _
  subst e1
  subst e3
  unfold maxLen at h3
  have HB : Whole w b 72 cur := hcell
  have hdl : (xs.drop (i * 4)).length = (n - i) * 4 := by rw [List.length_drop, hxl]; omega
  have hov : ∀ lb cb, (callFunc 97 #[.slice (some ⟨vb, 0, none⟩) 1 1, .slice (some ⟨b, (i + 1) * 4, none⟩) lb cb]).run Try.prog w = .ok (.value (.bool false)) w := fun lb cb => doverT vb b _ lb cb w _ _ hv HB hne (by omega)
  obtain ⟨cs1, hcs1⟩ : ∃ z, (cur.toList.take ((i + 1) * 4) ++ xs.drop (i * 4) ++ cur.toList.drop ((i + 1) * 4 + (xs.drop (i * 4)).length)).toArray = z := ⟨_, rfl⟩
  have hsz1 : cs1.size = cur.size := by
    rw [← hcs1]
    simp only [List.size_toArray, List.length_append, List.length_take, List.length_drop, hxl, Array.length_toList]
    omega
  have hcp1 : ∀ wx : World, wx.heap = w.heap → ∀ ty dc sc, (Builtin.copy_ #[28, 28] ty #[.slice (some ⟨b, (i + 1) * 4, none⟩) (n - i) dc, .slice (some ⟨b, i * 4, none⟩) (n + 1 - i) sc]).run Try.prog wx = .ok (goInt ((n - i : Nat) : Int)) (wx.setRow b cs1) := fun wx hwx ty dc sc => by
    have hW : Whole wx b 72 cur := by unfold Whole; rw [hwx]; exact HB
    have := run_copy_z (P := Try.prog) wx 28 28 ty 72 4 b ((i + 1) * 4) (n - i) dc ⟨b, i * 4, none⟩ (n + 1 - i) sc cur 72 (xs.drop (i * 4)) Try.underlying28 size_insT hW
      (m := n - i) (by simp only [Nat.min_def]; split <;> omega) hdl (fun j v hj => by
        rw [Addr.add_lit, hW.cell]
        rw [List.getElem?_drop] at hj
        rw [← h5, List.getElem?_take] at hj
        split at hj
        · simpa using hj
        · cases hj) (by rw [hdl]; omega) (fun v hv => h1x v (List.mem_of_mem_drop hv))
    rw [hcs1] at this
    exact this
  obtain ⟨cs2, hcs2⟩ : ∃ z, (cs1.toList.take (i * 4) ++ vs ++ cs1.toList.drop (i * 4 + vs.length)).toArray = z := ⟨_, rfl⟩
  have hsz2 : cs2.size = cur.size := by
    rw [← hcs2]
    simp only [List.size_toArray, List.length_append, List.length_take, List.length_drop, hvl, Array.length_toList, hsz1]
    omega
  have hcp2 : ∀ wx : World, Whole wx b 72 cs1 → Whole wx vb 72 vs.toArray → ∀ ty dc, (Builtin.copy_ #[28, 28] ty #[.slice (some ⟨b, i * 4, none⟩) (n + 1 - i) dc, .slice (some ⟨vb, 0, none⟩) 1 1]).run Try.prog wx = .ok (goInt 1) (wx.setRow b cs2) := fun wx hW hV ty dc => by
    have := run_copy_z (P := Try.prog) wx 28 28 ty 72 4 b (i * 4) (n + 1 - i) dc ⟨vb, 0, none⟩ 1 1 cs1 72 vs Try.underlying28 size_insT hW
      (m := 1) (by simp only [Nat.min_def]; split <;> omega) (by rw [hvl]) (fun j v hj => by rw [Addr.add_lit, hV.cell]; simpa using hj) (by rw [hvl, hsz1]; omega) h1v
    rw [hcs2] at this
    exact this
  have HF : Hid (∀ wx : World, But (fun k => k = b) w wx → Whole wx b 72 cs2 → ∃ A' c', Ending.returned (.slice (some ⟨b, 0, none⟩) (n + 1) c) = .returned (.slice A' (n + 1) c') ∧ wx.ownsRow base 72 4 (.slice A' (n + 1) c') (n + 1) (xs.take (i * 4) ++ vs ++ xs.drop (i * 4)) ∧ But (fun k => k = b) w wx) := Lib.hid (fun wx hk hw =>
    ⟨_, _, rfl, ⟨by simp only [List.length_append, List.length_take, List.length_drop, hxl, hvl]; omega, .inr ⟨b, c, cs2, rfl, hbg, hw, hroom, by unfold maxLen; exact h3, by rw [hsz2]; exact h4, by
      rw [← hcs2, ← hcs1]
      have := list_ins xs vs (i * 4) cur.toList (n * 4) 4 h5 hvl (by omega) (by rw [Array.length_toList]; omega) hxl
      rw [show (i + 1) * 4 = i * 4 + 4 by omega, show (n + 1) * 4 = n * 4 + 4 by omega]
      exact this⟩⟩, hk⟩)
  have HWB := Lib.hid HB
  have HVB := Lib.hid hv
  have htn : ((i : Int) + 1).toNat = i + 1 := by omega
  have hz2 : ¬ ((i : Int) = (n : Int)) := by omega
  have hw1 : IntKind.i64.wrap ((i : Int) + 1) = (i : Int) + 1 := by rw [IntKind.wrap_i64]; omega
  have hw2 : IntKind.i64.wrap ((n : Int) + 1) = (n : Int) + 1 := by rw [IntKind.wrap_i64]; omega
  have hb1 : (0 : Int) ≤ (i : Int) + 1 := by omega
  have hb2 : (i : Int) + 1 ≤ (n : Int) + 1 := by omega
  have hin : i ≤ n := by omega
  have hi0 : (0 : Int) ≤ (i : Int) := by omega
  have hin2 : (i : Int) ≤ (n : Int) := by omega
  have hr2 : ¬ ((c : Int) < (n : Int) + 1) := by omega
  have hb3 : ¬ (c = i + 1) := by omega
  have hb4 : ¬ (c = i) := by omega
  have hcl : (n : Int) + 1 ≤ (c : Int) := by omega
  have hb5 : (i : Int) ≤ (n : Int) + 1 := by omega
  have mixed : Try.prog.follows Departure.mixedOrders = true := by kernel_rfl
  have HW1 := Lib.hid (show Whole (w.drew.setRow b cs1) b 72 cs1 from whole_setRow HWB.out)
  have HV1 := Lib.hid (show Whole (w.drew.setRow b cs1) vb 72 vs.toArray from (setRow_other _ _ _ _ hne).trans HVB.out)
  have HF2 := Lib.hid (HF.out ((w.drew.setRow b cs1).setRow b cs2) (but_setRow (S := fun k => k = b) (but_setRow (S := fun k => k = b) (But.refl _ _).drew (.inl rfl) _) (.inl rfl) _) (whole_setRow HW1.out))
  clear hcell hv HB hdl hcs1 hcs2 hsz1 hsz2 h1v h1x hvl hxl h4 h5 hbg hh
  go_enter Try.func91, Try.ntmps91
  have R1 := hcp1 w.drew rfl 3 (c - (i + 1)) (c - i)
  have R2 := hcp2 (w.drew.setRow b cs1) HW1.out HV1.out 3 (c - i)
  clear hcp1 hcp2
  go_wp2_with (simp only [hov])
  go_region
  go_wp2_with fail
  go_ret
  exact HF2.out

set_option maxHeartbeats 3200000 in
/-- There is no room: a new row. -/
theorem dinsT_grow (base b c n i vb : Nat) (xs vs : List Value) (w : World) (h : w.ownsRow base 72 4 (.slice (some ⟨b, 0, none⟩) n c) n xs) (hi : i < n) (hn : n ≤ 4096) (hroom : c < n + 1) (hbase : base ≤ w.heap.size)
    (hv : Whole w vb 72 vs.toArray) (hvl : vs.length = 4) (h1v : ∀ v ∈ vs, v.oneCell' = true) (h1x : ∀ v ∈ xs, v.oneCell' = true) (hne : vb ≠ b) :
    Calls Try.prog 91 #[.slice (some ⟨b, 0, none⟩) n c, .int .i64 (i : Int), .slice (some ⟨vb, 0, none⟩) 1 1] w fun e w' => ∃ A' c', e = .returned (.slice A' (n + 1) c') ∧ w'.ownsRow base 72 4 (.slice A' (n + 1) c') (n + 1) (xs.take (i * 4) ++ vs ++ xs.drop (i * 4)) ∧ But (fun k => k = b) w w' := by
  obtain ⟨hxl, hh⟩ := h
  obtain ⟨g, cap, cur, hval, hbg, hcell, h2, h3, h4, h5⟩ := hh.resolve_left (fun h => by cases h.1)
  injection hval with e1 _ e3
  injection e1 with e1
  injection e1 with e1 _ _
  subst e1
  subst e3
  unfold maxLen at h3
  have HB : Whole w b 72 cur := hcell
  have hbl := HB.lt
  have hvl2 := hv.lt
  obtain ⟨i0, hi0, hz0, hzs, hzb⟩ := info_parts info_insT
  have hdl : (xs.drop (i * 4)).length = (n - i) * 4 := by rw [List.length_drop, hxl]; omega
  have hxs : ∀ (j : Nat) (v : Value), xs[j]? = some v → cur[j]? = some v := fun j v hj => by
    rw [← h5, List.getElem?_take] at hj
    split at hj
    · simpa using hj
    · cases hj
  have hold : (Builtin.firstCells i0.size i (.slice (some ⟨b, 0, none⟩) i c)).run Try.prog w.drew = .ok (xs.take (i * 4)).toArray w.drew := by
    rw [hzs]
    exact run_firstCells_some w.drew 4 i ⟨b, 0, none⟩ i c (xs.take (i * 4)) (by rw [List.length_take]; omega) (fun j v hj => by
      rw [Addr.add_lit, HB.drew.cell]
      rw [List.getElem?_take] at hj
      split at hj
      · rw [Nat.zero_add]; exact hxs j v hj
      · cases hj)
  have hik : i + (n + 1 - i) = n + 1 := by omega
  have hkk : (n : Int) + 1 - (i : Int) = ((n + 1 - i : Nat) : Int) := by omega
  have hrz : ∀ ty, (Builtin.append_ #[28, 3] ty #[.slice (some ⟨b, 0, none⟩) i c, .int .i64 ((n : Int) + 1 - (i : Int))]).run Try.prog w =
      .ok (.slice (some ⟨w.heap.size, 0, none⟩) (n + 1) (grownCap w (n + 1) c 72)) (w.drew.alloc (.cells ((xs.take (i * 4)).toArray ++ Builtin.zeroCells (Value.agg #[.int .i64 0, .int .i64 0, .int .i64 0, .slice none 0 0]).cells (n + 1 - i) ++ Builtin.zeroCells (Value.agg #[.int .i64 0, .int .i64 0, .int .i64 0, .slice none 0 0]).cells (grownCap w (n + 1) c 72 - (n + 1))) 72)) := fun ty => by
    have h := Lib.run_append_grow_zeros (P := Try.prog) w 28 3 ty 72 i0 _ .i64 .i64 Try.underlying28 Try.underlying3 hi0 hz0 (some ⟨b, 0, none⟩) i c (xs.take (i * 4)) hold (n + 1 - i) (by omega) (by omega) (by omega) (by omega) (by rw [hzb]; omega) (by rw [hzb, hik]; exact growslice_fits hroom (by omega))
    rw [hik] at h
    rw [hkk]
    exact h
  obtain ⟨G, hG⟩ : ∃ G, G = grownCap w (n + 1) c 72 := ⟨_, rfl⟩
  have hGn : n + 1 ≤ G := by rw [hG]; exact grownCap_ge w _ _ _
  have hG63 : G ≤ 9223372036854775807 := by
    have := grownCap_le_maxLen w (n + 1) c 72 (by unfold maxLen; omega)
    rw [← hG] at this
    unfold maxLen at this
    omega
  rw [← hG] at hrz
  obtain ⟨ROW, hROW⟩ : ∃ ROW : Array Value, ROW = (xs.take (i * 4)).toArray ++ Builtin.zeroCells (Value.agg #[.int .i64 0, .int .i64 0, .int .i64 0, .slice none 0 0]).cells (n + 1 - i) ++ Builtin.zeroCells (Value.agg #[.int .i64 0, .int .i64 0, .int .i64 0, .slice none 0 0]).cells (G - (n + 1)) := ⟨_, rfl⟩
  rw [← hROW] at hrz
  have hRs : ROW.size = G * 4 := by
    rw [hROW]
    simp only [Array.size_append, List.size_toArray, List.length_take, hxl, Builtin.zeroCells, Value.cells, Array.size_map, Array.size_range]
    show min (i * 4) (n * 4) + (n + 1 - i) * 4 + (G - (n + 1)) * 4 = G * 4
    omega
  have hRt : ROW.toList.take (i * 4) = xs.take (i * 4) := by
    rw [hROW, Array.append_assoc, Array.toList_append, List.take_append_of_le_length (by simp; omega), List.take_take, Nat.min_self]
  obtain ⟨cs1, hcs1⟩ : ∃ z, (ROW.toList.take (i * 4) ++ vs ++ ROW.toList.drop (i * 4 + vs.length)).toArray = z := ⟨_, rfl⟩
  have hsz1 : cs1.size = G * 4 := by
    rw [← hcs1, ← hRs]
    simp only [List.size_toArray, List.length_append, List.length_take, List.length_drop, hvl, Array.length_toList, hRs]
    omega
  obtain ⟨cs2, hcs2⟩ : ∃ z, (cs1.toList.take ((i + 1) * 4) ++ xs.drop (i * 4) ++ cs1.toList.drop ((i + 1) * 4 + (xs.drop (i * 4)).length)).toArray = z := ⟨_, rfl⟩
  have hsz2 : cs2.size = G * 4 := by
    rw [← hcs2]
    simp only [List.size_toArray, List.length_append, List.length_take, List.length_drop, hdl, Array.length_toList, hsz1, hxl]
    omega
  have hcs2t : cs2.toList.take ((n + 1) * 4) = xs.take (i * 4) ++ vs ++ xs.drop (i * 4) := by
    rw [← hcs2, ← hcs1, hRt]
    simp only [List.toList_toArray]
    have e1 : (xs.take (i * 4) ++ vs ++ ROW.toList.drop (i * 4 + vs.length)).take ((i + 1) * 4) = xs.take (i * 4) ++ vs := by
      rw [List.take_append_of_le_length (by simp; omega), List.take_of_length_le (by simp; omega)]
    rw [e1, List.take_append_of_le_length (by simp; omega), List.take_of_length_le (by simp; omega)]
  obtain ⟨N, hN⟩ : ∃ N, w.heap.size = N := ⟨_, rfl⟩
  have hbN : b ≠ N := by omega
  have hvN : vb ≠ N := by omega
  have hcpA : ∀ wx : World, Whole wx N 72 ROW → Whole wx vb 72 vs.toArray → ∀ ty dc, (Builtin.copy_ #[28, 28] ty #[.slice (some ⟨N, i * 4, none⟩) (n + 1 - i) dc, .slice (some ⟨vb, 0, none⟩) 1 1]).run Try.prog wx = .ok (goInt 1) (wx.setRow N cs1) := fun wx hW hV ty dc => by
    have := run_copy_z (P := Try.prog) wx 28 28 ty 72 4 N (i * 4) (n + 1 - i) dc ⟨vb, 0, none⟩ 1 1 ROW 72 vs Try.underlying28 size_insT hW
      (m := 1) (by simp only [Nat.min_def]; split <;> omega) (by rw [hvl]) (fun j v hj => by rw [Addr.add_lit, hV.cell]; simpa using hj) (by rw [hvl, hRs]; omega) h1v
    rw [hcs1] at this
    exact this
  have hcpB : ∀ wx : World, Whole wx N 72 cs1 → Whole wx b 72 cur → ∀ ty dc sc, (Builtin.copy_ #[28, 28] ty #[.slice (some ⟨N, (i + 1) * 4, none⟩) (n - i) dc, .slice (some ⟨b, i * 4, none⟩) (n - i) sc]).run Try.prog wx = .ok (goInt ((n - i : Nat) : Int)) (wx.setRow N cs2) := fun wx hW hO ty dc sc => by
    have := run_copy_z (P := Try.prog) wx 28 28 ty 72 4 N ((i + 1) * 4) (n - i) dc ⟨b, i * 4, none⟩ (n - i) sc cs1 72 (xs.drop (i * 4)) Try.underlying28 size_insT hW
      (m := n - i) (by simp only [Nat.min_def]; split <;> omega) hdl (fun j v hj => by
        rw [Addr.add_lit, hO.cell]
        rw [List.getElem?_drop] at hj
        exact hxs _ v hj) (by rw [hdl, hsz1]; omega) (fun v hv => h1x v (List.mem_of_mem_drop hv))
    rw [hcs2] at this
    exact this
  rw [hN] at hrz hbase
  obtain ⟨W1, hW1⟩ : ∃ W1, W1 = w.drew.alloc (.cells ROW 72) := ⟨_, rfl⟩
  have hb1' : But (fun k => k = b) w W1 := by rw [hW1]; exact (But.refl _ _).drew.alloc _
  have HN1 := Lib.hid (show Whole W1 N 72 ROW by rw [hW1, ← hN]; exact Whole.new w.drew _ _)
  have HV1 := Lib.hid (show Whole W1 vb 72 vs.toArray by rw [hW1]; exact hv.drew.alloc _)
  have HO1 := Lib.hid (show Whole W1 b 72 cur by rw [hW1]; exact HB.drew.alloc _)
  rw [← hW1] at hrz
  have HN2 := Lib.hid (show Whole (W1.setRow N cs1) N 72 cs1 from whole_setRow HN1.out)
  have HO2 := Lib.hid (show Whole (W1.setRow N cs1) b 72 cur from (setRow_other _ _ _ _ hbN).trans HO1.out)
  have hWs : w.heap.size ≤ N := by omega
  have HF2 : Hid (∃ A' c', Ending.returned (.slice (some ⟨N, 0, none⟩) (n + 1) G) = .returned (.slice A' (n + 1) c') ∧ ((W1.setRow N cs1).drew.setRow N cs2).ownsRow base 72 4 (.slice A' (n + 1) c') (n + 1) (xs.take (i * 4) ++ vs ++ xs.drop (i * 4)) ∧ But (fun k => k = b) w ((W1.setRow N cs1).drew.setRow N cs2)) := Lib.hid
    ⟨_, _, rfl, ⟨by simp only [List.length_append, List.length_take, List.length_drop, hxl, hvl]; omega, .inr ⟨N, G, cs2, rfl, hbase, whole_setRow HN2.out.drew, hGn, by unfold maxLen; exact hG63, hsz2, hcs2t⟩⟩, but_setRow (S := fun k => k = b) (but_setRow (S := fun k => k = b) hb1' (.inr hWs) _).drew (.inr hWs) _⟩
  have htn : ((i : Int) + 1).toNat = i + 1 := by omega
  have hz2 : ¬ ((i : Int) = (n : Int)) := by omega
  have hw1 : IntKind.i64.wrap ((i : Int) + 1) = (i : Int) + 1 := by rw [IntKind.wrap_i64]; omega
  have hw2 : IntKind.i64.wrap ((n : Int) + 1) = (n : Int) + 1 := by rw [IntKind.wrap_i64]; omega
  have hw3 : IntKind.i64.wrap ((n : Int) + 1 - (i : Int)) = (n : Int) + 1 - (i : Int) := by rw [IntKind.wrap_i64]; omega
  have hb1 : (0 : Int) ≤ (i : Int) + 1 := by omega
  have hb2 : (i : Int) + 1 ≤ (n : Int) + 1 := by omega
  have hin : i ≤ n := by omega
  have hi0' : (0 : Int) ≤ (i : Int) := by omega
  have hin2 : (i : Int) ≤ (n : Int) := by omega
  have hic : (i : Int) ≤ (c : Int) := by omega
  have hr2 : (c : Int) < (n : Int) + 1 := by omega
  have hb3 : ¬ (G = i + 1) := by omega
  have hb4 : ¬ (G = i) := by omega
  have hb6 : ¬ (c = i) := by omega
  have hb5 : (i : Int) ≤ (n : Int) + 1 := by omega
  have mixed : Try.prog.follows Departure.mixedOrders = true := by kernel_rfl
  clear hcell hv HB hdl hcs1 hcs2 hsz1 hsz2 h1v h1x hvl hxl h4 h5 hbg hh hcs2t hRt hRs hROW hold hik hxs hi0 hz0 hzs hzb hb1' hW1 hWs hG hN hkk
  go_enter Try.func91, Try.ntmps91
  have R0 := hrz 28
  have RA := hcpA W1 HN1.out HV1.out 3 (G - i)
  have RB := hcpB (W1.setRow N cs1).drew HN2.out.drew HO2.out.drew 3 (G - (i + 1)) (c - i)
  clear hcpA hcpB hrz
  go_upto_region 9 with fail
  go_wp2_with (at_builtin; refine Lib.wpList_append_run _ rfl (.tmp 34) (.tmp 39) _ _ rfl _ _ rfl rfl _ _ R0 ?_)
  go_region
  go_wp2_with fail
  go_ret
  exact HF2.out

set_option maxHeartbeats 3200000 in
/-- At the end. -/
theorem dinsT_end (base : Nat) (A : Option Addr) (c n vb : Nat) (xs vs : List Value) (w : World) (h : w.ownsRow base 72 4 (.slice A n c) n xs) (hn : n ≤ 4096) (hbase : base ≤ w.heap.size)
    (hv : Whole w vb 72 vs.toArray) (hvl : vs.length = 4) (h1v : ∀ v ∈ vs, v.oneCell' = true) :
    Calls Try.prog 91 #[.slice A n c, .int .i64 (n : Int), .slice (some ⟨vb, 0, none⟩) 1 1] w fun e w' => ∃ A' c', e = .returned (.slice A' (n + 1) c') ∧ w'.ownsRow base 72 4 (.slice A' (n + 1) c') (n + 1) (xs ++ vs) ∧ But (fun k => (Value.slice A n c).ownBlock = some k) w w' := by
  have HR := Lib.hid (show Row w w.heap.size 4 (some ⟨vb, 0, none⟩) 1 vs from ⟨by rw [hvl], fun _ => ⟨vb, 0, rfl, hv.lt, fun j u hj => by rw [hv.cell]; simpa using hj⟩⟩)
  have H := Lib.hid h
  have H1 := Lib.hid h1v
  have hc := (own_cap h).1
  have hin : (n : Int) ≤ (n : Int) := Int.le_refl _
  have hic : (n : Int) ≤ (c : Int) := by omega
  have hi0' : (0 : Int) ≤ (n : Int) := by omega
  clear h hv hvl h1v
  obtain ⟨OB, hOB⟩ : ∃ z, z = (Value.slice A n c).ownBlock := ⟨_, rfl⟩
  have hOB' := hOB
  rw [← hOB]
  go_enter Try.func91, Try.ntmps91
  rcases A with _ | ⟨ag, ao, asp⟩
  · go_wp2_with (at_builtin; refine wpl_append _ rfl (.tmp 23) (.tmp 24) 28 rfl base 72 (Value.agg #[.int .i64 0, .int .i64 0, .int .i64 0, .slice none 0 0]) 4 48 Try.underlying28 info_insT rfl (by decide) _ n xs rfl H.out _ (some ⟨vb, 0, none⟩) 1 1 vs rfl HR.out H1.out ?c1 ?c2 ?c3 ?_)
    case c1 => unfold maxLen; omega
    case c2 => omega
    try (case c3 => exact hbase)
    intro v' w' hown hg hat
    obtain ⟨A', c', rfl⟩ := own_form hown
    have HF := Lib.hid (show ∃ A'' c'', Ending.returned (Value.slice A' (n + 1) c') = .returned (.slice A'' (n + 1) c'') ∧ w'.ownsRow base 72 4 (.slice A'' (n + 1) c'') (n + 1) (xs ++ vs) ∧ But (fun k => OB = some k) w w' from ⟨_, _, rfl, hown, ⟨hg.os, hg.tape, hg.output, hg.size, fun k hk hs => hg.block k hk (fun e => hs (hOB.trans e.symm))⟩⟩)
    clear hown hg hat
    go_wp2_with fail
    go_ret
    exact HF.out
  · by_cases hcn : c = n
    · obtain rfl : n = c := hcn.symm
      go_wp2_with (at_builtin; refine wpl_append _ rfl (.tmp 23) (.tmp 24) 28 rfl base 72 (Value.agg #[.int .i64 0, .int .i64 0, .int .i64 0, .slice none 0 0]) 4 48 Try.underlying28 info_insT rfl (by decide) _ n xs rfl H.out _ (some ⟨vb, 0, none⟩) 1 1 vs rfl HR.out H1.out ?d1 ?d2 ?d3 ?_)
      case d1 => unfold maxLen; omega
      case d2 => omega
      try (case d3 => exact hbase)
      intro v' w' hown hg hat
      obtain ⟨A', c', rfl⟩ := own_form hown
      have HF := Lib.hid (show ∃ A'' c'', Ending.returned (Value.slice A' (n + 1) c') = .returned (.slice A'' (n + 1) c'') ∧ w'.ownsRow base 72 4 (.slice A'' (n + 1) c'') (n + 1) (xs ++ vs) ∧ But (fun k => OB = some k) w w' from ⟨_, _, rfl, hown, ⟨hg.os, hg.tape, hg.output, hg.size, fun k hk hs => hg.block k hk (fun e => hs (hOB.trans e.symm))⟩⟩)
      clear hown hg hat
      go_wp2_with fail
      go_ret
      exact HF.out
    · skip
      go_wp2_with (at_builtin; refine wpl_append _ rfl (.tmp 23) (.tmp 24) 28 rfl base 72 (Value.agg #[.int .i64 0, .int .i64 0, .int .i64 0, .slice none 0 0]) 4 48 Try.underlying28 info_insT rfl (by decide) _ n xs rfl H.out _ (some ⟨vb, 0, none⟩) 1 1 vs rfl HR.out H1.out ?e1 ?e2 ?e3 ?_)
      case e1 => unfold maxLen; omega
      case e2 => omega
      try (case e3 => exact hbase)
      intro v' w' hown hg hat
      obtain ⟨A', c', rfl⟩ := own_form hown
      have HF := Lib.hid (show ∃ A'' c'', Ending.returned (Value.slice A' (n + 1) c') = .returned (.slice A'' (n + 1) c'') ∧ w'.ownsRow base 72 4 (.slice A'' (n + 1) c'') (n + 1) (xs ++ vs) ∧ But (fun k => OB = some k) w w' from ⟨_, _, rfl, hown, ⟨hg.os, hg.tape, hg.output, hg.size, fun k hk hs => hg.block k hk (fun e => hs (hOB.trans e.symm))⟩⟩)
      clear hown hg hat
      go_wp2_with fail
      go_ret
      exact HF.out
/-- slices.Insert of one element. -/
theorem dinsT (base : Nat) (A : Option Addr) (c n i vb : Nat) (xs vs : List Value) (w : World) (h : w.ownsRow base 72 4 (.slice A n c) n xs) (hi : i ≤ n) (hn : n ≤ 4096) (hbase : base ≤ w.heap.size)
    (hv : Whole w vb 72 vs.toArray) (hvl : vs.length = 4) (h1v : ∀ v ∈ vs, v.oneCell' = true) (h1x : ∀ v ∈ xs, v.oneCell' = true) (hne : (Value.slice A n c).ownBlock ≠ some vb) :
    Calls Try.prog 91 #[.slice A n c, .int .i64 (i : Int), .slice (some ⟨vb, 0, none⟩) 1 1] w fun e w' => ∃ A' c', e = .returned (.slice A' (n + 1) c') ∧ w'.ownsRow base 72 4 (.slice A' (n + 1) c') (n + 1) (xs.take (i * 4) ++ vs ++ xs.drop (i * 4)) ∧ But (fun k => (Value.slice A n c).ownBlock = some k) w w' := by
  rcases Nat.lt_or_ge i n with h1 | h1
  · obtain ⟨b, cur, rfl, _, hw, _⟩ := own_wholeX h (by omega)
    have hne' : vb ≠ b := fun e => hne (by rw [e]; rfl)
    have fin : ∀ e w', (∃ A' c', e = Ending.returned (.slice A' (n + 1) c') ∧ w'.ownsRow base 72 4 (.slice A' (n + 1) c') (n + 1) (xs.take (i * 4) ++ vs ++ xs.drop (i * 4)) ∧ But (fun k => k = b) w w') →
        ∃ A' c', e = Ending.returned (.slice A' (n + 1) c') ∧ w'.ownsRow base 72 4 (.slice A' (n + 1) c') (n + 1) (xs.take (i * 4) ++ vs ++ xs.drop (i * 4)) ∧ But (fun k => (Value.slice (some ⟨b, 0, none⟩) n c).ownBlock = some k) w w' := by
      rintro e w' ⟨A', c', e1, e2, e3⟩
      exact ⟨A', c', e1, e2, e3.mono (fun k _ h => by rw [h]; rfl)⟩
    rcases Nat.lt_or_ge c (n + 1) with h2 | h2
    · exact (dinsT_grow base b c n i vb xs vs w h h1 hn h2 hbase hv hvl h1v h1x hne').mono fin
    · exact (dinsT_room base b c n i vb xs vs w h h1 hn h2 hv hvl h1v h1x hne').mono fin
  · obtain rfl : i = n := by omega
    have hx := h.1
    rw [List.take_of_length_le (by omega), List.drop_eq_nil_of_le (by omega), List.append_nil]
    exact dinsT_end base A c i vb xs vs w h hn hbase hv hvl h1v

theorem info_insB : (Try.prog.info? 55).map (fun i => (i.zero, i.size, i.bytes)) = some (some (Value.agg #[.int .i64 0, .int .i64 0, .int .i64 0, .int .i64 0, .bool false]), 5, 40) := by kernel_rfl
theorem size_insB : (Try.prog.info? 55).map (·.size) = some 5 := by kernel_rfl
theorem sizeof_insB : ∀ w, (Go.sizeOf 55).run Try.prog w = .ok 5 w := by
  intro w
  obtain ⟨i, h0, h1, h2, h3⟩ := info_parts info_insB
  simp [sizeOf, typeInfo, h0, h2]
/-- slices.overlaps of two blocks apart. -/
theorem doverB (vb b o lb cb : Nat) (w : World) (cv cb' : Array Value) (hv : Whole w vb 55 cv) (hb : Whole w b 55 cb') (hne : vb ≠ b) (hs : cb'.size ≠ 0) :
    (callFunc 99 #[.slice (some ⟨vb, 0, none⟩) 1 1, .slice (some ⟨b, o, none⟩) lb cb]).run Try.prog w = .ok (.value (.bool false)) w := by
  have hv' : w.heap[vb]? = some (.cells cv 55 (0, 0)) := hv
  have hb' : w.heap[b]? = some (.cells cb' 55 (0, 0)) := hb
  rw [run_callFunc_extern Try.func99 (by kernel_rfl) (by kernel_rfl) (by kernel_rfl) (e := Extern.SlicesOverlaps.overlaps #[29, 29] #[4]) (by kernel_rfl),
    Lib.run_overlaps_apart w 29 4 55 Try.underlying29 5 sizeof_insB ⟨vb, 0, none⟩ ⟨b, o, none⟩ 1 1 lb cb hne 55 55 cv.size cb'.size (by simp [World.shape?, hv']) (by simp [World.shape?, hb']) hs (hv.free 0) (hv.free _)]
  rfl

set_option maxHeartbeats 3200000 in
/-- There is room. -/
theorem dinsB_room (base b c n i vb : Nat) (xs vs : List Value) (w : World) (h : w.ownsRow base 55 5 (.slice (some ⟨b, 0, none⟩) n c) n xs) (hi : i < n) (hn : n ≤ 4096) (hroom : n + 1 ≤ c)
    (hv : Whole w vb 55 vs.toArray) (hvl : vs.length = 5) (h1v : ∀ v ∈ vs, v.oneCell' = true) (h1x : ∀ v ∈ xs, v.oneCell' = true) (hne : vb ≠ b) :
    Calls Try.prog 92 #[.slice (some ⟨b, 0, none⟩) n c, .int .i64 (i : Int), .slice (some ⟨vb, 0, none⟩) 1 1] w fun e w' => ∃ A' c', e = .returned (.slice A' (n + 1) c') ∧ w'.ownsRow base 55 5 (.slice A' (n + 1) c') (n + 1) (xs.take (i * 5) ++ vs ++ xs.drop (i * 5)) ∧ But (fun k => k = b) w w' := by
  obtain ⟨hxl, hh⟩ := h
  obtain ⟨g, cap, cur, hval, hbg, hcell, h2, h3, h4, h5⟩ := hh.resolve_left (fun h => by cases h.1)
  injection hval with e1 _ e3
  injection e1 with e1
  injection e1 with e1 _ _
  subst e1
  subst e3
  unfold maxLen at h3
  have HB : Whole w b 55 cur := hcell
  have hdl : (xs.drop (i * 5)).length = (n - i) * 5 := by rw [List.length_drop, hxl]; omega
  have hov : ∀ lb cb, (callFunc 99 #[.slice (some ⟨vb, 0, none⟩) 1 1, .slice (some ⟨b, (i + 1) * 5, none⟩) lb cb]).run Try.prog w = .ok (.value (.bool false)) w := fun lb cb => doverB vb b _ lb cb w _ _ hv HB hne (by omega)
  obtain ⟨cs1, hcs1⟩ : ∃ z, (cur.toList.take ((i + 1) * 5) ++ xs.drop (i * 5) ++ cur.toList.drop ((i + 1) * 5 + (xs.drop (i * 5)).length)).toArray = z := ⟨_, rfl⟩
  have hsz1 : cs1.size = cur.size := by
    rw [← hcs1]
    simp only [List.size_toArray, List.length_append, List.length_take, List.length_drop, hxl, Array.length_toList]
    omega
  have hcp1 : ∀ wx : World, wx.heap = w.heap → ∀ ty dc sc, (Builtin.copy_ #[29, 29] ty #[.slice (some ⟨b, (i + 1) * 5, none⟩) (n - i) dc, .slice (some ⟨b, i * 5, none⟩) (n + 1 - i) sc]).run Try.prog wx = .ok (goInt ((n - i : Nat) : Int)) (wx.setRow b cs1) := fun wx hwx ty dc sc => by
    have hW : Whole wx b 55 cur := by unfold Whole; rw [hwx]; exact HB
    have := run_copy_z (P := Try.prog) wx 29 29 ty 55 5 b ((i + 1) * 5) (n - i) dc ⟨b, i * 5, none⟩ (n + 1 - i) sc cur 55 (xs.drop (i * 5)) Try.underlying29 size_insB hW
      (m := n - i) (by simp only [Nat.min_def]; split <;> omega) hdl (fun j v hj => by
        rw [Addr.add_lit, hW.cell]
        rw [List.getElem?_drop] at hj
        rw [← h5, List.getElem?_take] at hj
        split at hj
        · simpa using hj
        · cases hj) (by rw [hdl]; omega) (fun v hv => h1x v (List.mem_of_mem_drop hv))
    rw [hcs1] at this
    exact this
  obtain ⟨cs2, hcs2⟩ : ∃ z, (cs1.toList.take (i * 5) ++ vs ++ cs1.toList.drop (i * 5 + vs.length)).toArray = z := ⟨_, rfl⟩
  have hsz2 : cs2.size = cur.size := by
    rw [← hcs2]
    simp only [List.size_toArray, List.length_append, List.length_take, List.length_drop, hvl, Array.length_toList, hsz1]
    omega
  have hcp2 : ∀ wx : World, Whole wx b 55 cs1 → Whole wx vb 55 vs.toArray → ∀ ty dc, (Builtin.copy_ #[29, 29] ty #[.slice (some ⟨b, i * 5, none⟩) (n + 1 - i) dc, .slice (some ⟨vb, 0, none⟩) 1 1]).run Try.prog wx = .ok (goInt 1) (wx.setRow b cs2) := fun wx hW hV ty dc => by
    have := run_copy_z (P := Try.prog) wx 29 29 ty 55 5 b (i * 5) (n + 1 - i) dc ⟨vb, 0, none⟩ 1 1 cs1 55 vs Try.underlying29 size_insB hW
      (m := 1) (by simp only [Nat.min_def]; split <;> omega) (by rw [hvl]) (fun j v hj => by rw [Addr.add_lit, hV.cell]; simpa using hj) (by rw [hvl, hsz1]; omega) h1v
    rw [hcs2] at this
    exact this
  have HF : Hid (∀ wx : World, But (fun k => k = b) w wx → Whole wx b 55 cs2 → ∃ A' c', Ending.returned (.slice (some ⟨b, 0, none⟩) (n + 1) c) = .returned (.slice A' (n + 1) c') ∧ wx.ownsRow base 55 5 (.slice A' (n + 1) c') (n + 1) (xs.take (i * 5) ++ vs ++ xs.drop (i * 5)) ∧ But (fun k => k = b) w wx) := Lib.hid (fun wx hk hw =>
    ⟨_, _, rfl, ⟨by simp only [List.length_append, List.length_take, List.length_drop, hxl, hvl]; omega, .inr ⟨b, c, cs2, rfl, hbg, hw, hroom, by unfold maxLen; exact h3, by rw [hsz2]; exact h4, by
      rw [← hcs2, ← hcs1]
      have := list_ins xs vs (i * 5) cur.toList (n * 5) 5 h5 hvl (by omega) (by rw [Array.length_toList]; omega) hxl
      rw [show (i + 1) * 5 = i * 5 + 5 by omega, show (n + 1) * 5 = n * 5 + 5 by omega]
      exact this⟩⟩, hk⟩)
  have HWB := Lib.hid HB
  have HVB := Lib.hid hv
  have htn : ((i : Int) + 1).toNat = i + 1 := by omega
  have hz2 : ¬ ((i : Int) = (n : Int)) := by omega
  have hw1 : IntKind.i64.wrap ((i : Int) + 1) = (i : Int) + 1 := by rw [IntKind.wrap_i64]; omega
  have hw2 : IntKind.i64.wrap ((n : Int) + 1) = (n : Int) + 1 := by rw [IntKind.wrap_i64]; omega
  have hb1 : (0 : Int) ≤ (i : Int) + 1 := by omega
  have hb2 : (i : Int) + 1 ≤ (n : Int) + 1 := by omega
  have hin : i ≤ n := by omega
  have hi0 : (0 : Int) ≤ (i : Int) := by omega
  have hin2 : (i : Int) ≤ (n : Int) := by omega
  have hr2 : ¬ ((c : Int) < (n : Int) + 1) := by omega
  have hb3 : ¬ (c = i + 1) := by omega
  have hb4 : ¬ (c = i) := by omega
  have hcl : (n : Int) + 1 ≤ (c : Int) := by omega
  have hb5 : (i : Int) ≤ (n : Int) + 1 := by omega
  have mixed : Try.prog.follows Departure.mixedOrders = true := by kernel_rfl
  have HW1 := Lib.hid (show Whole (w.drew.setRow b cs1) b 55 cs1 from whole_setRow HWB.out)
  have HV1 := Lib.hid (show Whole (w.drew.setRow b cs1) vb 55 vs.toArray from (setRow_other _ _ _ _ hne).trans HVB.out)
  have HF2 := Lib.hid (HF.out ((w.drew.setRow b cs1).setRow b cs2) (but_setRow (S := fun k => k = b) (but_setRow (S := fun k => k = b) (But.refl _ _).drew (.inl rfl) _) (.inl rfl) _) (whole_setRow HW1.out))
  clear hcell hv HB hdl hcs1 hcs2 hsz1 hsz2 h1v h1x hvl hxl h4 h5 hbg hh
  go_enter Try.func92, Try.ntmps92
  have R1 := hcp1 w.drew rfl 3 (c - (i + 1)) (c - i)
  have R2 := hcp2 (w.drew.setRow b cs1) HW1.out HV1.out 3 (c - i)
  clear hcp1 hcp2
  go_wp2_with (simp only [hov])
  go_region
  go_wp2_with fail
  go_ret
  exact HF2.out

set_option maxHeartbeats 3200000 in
/-- There is no room: a new row. -/
theorem dinsB_grow (base b c n i vb : Nat) (xs vs : List Value) (w : World) (h : w.ownsRow base 55 5 (.slice (some ⟨b, 0, none⟩) n c) n xs) (hi : i < n) (hn : n ≤ 4096) (hroom : c < n + 1) (hbase : base ≤ w.heap.size)
    (hv : Whole w vb 55 vs.toArray) (hvl : vs.length = 5) (h1v : ∀ v ∈ vs, v.oneCell' = true) (h1x : ∀ v ∈ xs, v.oneCell' = true) (hne : vb ≠ b) :
    Calls Try.prog 92 #[.slice (some ⟨b, 0, none⟩) n c, .int .i64 (i : Int), .slice (some ⟨vb, 0, none⟩) 1 1] w fun e w' => ∃ A' c', e = .returned (.slice A' (n + 1) c') ∧ w'.ownsRow base 55 5 (.slice A' (n + 1) c') (n + 1) (xs.take (i * 5) ++ vs ++ xs.drop (i * 5)) ∧ But (fun k => k = b) w w' := by
  obtain ⟨hxl, hh⟩ := h
  obtain ⟨g, cap, cur, hval, hbg, hcell, h2, h3, h4, h5⟩ := hh.resolve_left (fun h => by cases h.1)
  injection hval with e1 _ e3
  injection e1 with e1
  injection e1 with e1 _ _
  subst e1
  subst e3
  unfold maxLen at h3
  have HB : Whole w b 55 cur := hcell
  have hbl := HB.lt
  have hvl2 := hv.lt
  obtain ⟨i0, hi0, hz0, hzs, hzb⟩ := info_parts info_insB
  have hdl : (xs.drop (i * 5)).length = (n - i) * 5 := by rw [List.length_drop, hxl]; omega
  have hxs : ∀ (j : Nat) (v : Value), xs[j]? = some v → cur[j]? = some v := fun j v hj => by
    rw [← h5, List.getElem?_take] at hj
    split at hj
    · simpa using hj
    · cases hj
  have hold : (Builtin.firstCells i0.size i (.slice (some ⟨b, 0, none⟩) i c)).run Try.prog w.drew = .ok (xs.take (i * 5)).toArray w.drew := by
    rw [hzs]
    exact run_firstCells_some w.drew 5 i ⟨b, 0, none⟩ i c (xs.take (i * 5)) (by rw [List.length_take]; omega) (fun j v hj => by
      rw [Addr.add_lit, HB.drew.cell]
      rw [List.getElem?_take] at hj
      split at hj
      · rw [Nat.zero_add]; exact hxs j v hj
      · cases hj)
  have hik : i + (n + 1 - i) = n + 1 := by omega
  have hkk : (n : Int) + 1 - (i : Int) = ((n + 1 - i : Nat) : Int) := by omega
  have hrz : ∀ ty, (Builtin.append_ #[29, 3] ty #[.slice (some ⟨b, 0, none⟩) i c, .int .i64 ((n : Int) + 1 - (i : Int))]).run Try.prog w =
      .ok (.slice (some ⟨w.heap.size, 0, none⟩) (n + 1) (grownCap w (n + 1) c 55)) (w.drew.alloc (.cells ((xs.take (i * 5)).toArray ++ Builtin.zeroCells (Value.agg #[.int .i64 0, .int .i64 0, .int .i64 0, .int .i64 0, .bool false]).cells (n + 1 - i) ++ Builtin.zeroCells (Value.agg #[.int .i64 0, .int .i64 0, .int .i64 0, .int .i64 0, .bool false]).cells (grownCap w (n + 1) c 55 - (n + 1))) 55)) := fun ty => by
    have h := Lib.run_append_grow_zeros (P := Try.prog) w 29 3 ty 55 i0 _ .i64 .i64 Try.underlying29 Try.underlying3 hi0 hz0 (some ⟨b, 0, none⟩) i c (xs.take (i * 5)) hold (n + 1 - i) (by omega) (by omega) (by omega) (by omega) (by rw [hzb]; omega) (by rw [hzb, hik]; exact growslice_fits hroom (by omega))
    rw [hik] at h
    rw [hkk]
    exact h
  obtain ⟨G, hG⟩ : ∃ G, G = grownCap w (n + 1) c 55 := ⟨_, rfl⟩
  have hGn : n + 1 ≤ G := by rw [hG]; exact grownCap_ge w _ _ _
  have hG63 : G ≤ 9223372036854775807 := by
    have := grownCap_le_maxLen w (n + 1) c 55 (by unfold maxLen; omega)
    rw [← hG] at this
    unfold maxLen at this
    omega
  rw [← hG] at hrz
  obtain ⟨ROW, hROW⟩ : ∃ ROW : Array Value, ROW = (xs.take (i * 5)).toArray ++ Builtin.zeroCells (Value.agg #[.int .i64 0, .int .i64 0, .int .i64 0, .int .i64 0, .bool false]).cells (n + 1 - i) ++ Builtin.zeroCells (Value.agg #[.int .i64 0, .int .i64 0, .int .i64 0, .int .i64 0, .bool false]).cells (G - (n + 1)) := ⟨_, rfl⟩
  rw [← hROW] at hrz
  have hRs : ROW.size = G * 5 := by
    rw [hROW]
    simp only [Array.size_append, List.size_toArray, List.length_take, hxl, Builtin.zeroCells, Value.cells, Array.size_map, Array.size_range]
    show min (i * 5) (n * 5) + (n + 1 - i) * 5 + (G - (n + 1)) * 5 = G * 5
    omega
  have hRt : ROW.toList.take (i * 5) = xs.take (i * 5) := by
    rw [hROW, Array.append_assoc, Array.toList_append, List.take_append_of_le_length (by simp; omega), List.take_take, Nat.min_self]
  obtain ⟨cs1, hcs1⟩ : ∃ z, (ROW.toList.take (i * 5) ++ vs ++ ROW.toList.drop (i * 5 + vs.length)).toArray = z := ⟨_, rfl⟩
  have hsz1 : cs1.size = G * 5 := by
    rw [← hcs1, ← hRs]
    simp only [List.size_toArray, List.length_append, List.length_take, List.length_drop, hvl, Array.length_toList, hRs]
    omega
  obtain ⟨cs2, hcs2⟩ : ∃ z, (cs1.toList.take ((i + 1) * 5) ++ xs.drop (i * 5) ++ cs1.toList.drop ((i + 1) * 5 + (xs.drop (i * 5)).length)).toArray = z := ⟨_, rfl⟩
  have hsz2 : cs2.size = G * 5 := by
    rw [← hcs2]
    simp only [List.size_toArray, List.length_append, List.length_take, List.length_drop, hdl, Array.length_toList, hsz1, hxl]
    omega
  have hcs2t : cs2.toList.take ((n + 1) * 5) = xs.take (i * 5) ++ vs ++ xs.drop (i * 5) := by
    rw [← hcs2, ← hcs1, hRt]
    simp only [List.toList_toArray]
    have e1 : (xs.take (i * 5) ++ vs ++ ROW.toList.drop (i * 5 + vs.length)).take ((i + 1) * 5) = xs.take (i * 5) ++ vs := by
      rw [List.take_append_of_le_length (by simp; omega), List.take_of_length_le (by simp; omega)]
    rw [e1, List.take_append_of_le_length (by simp; omega), List.take_of_length_le (by simp; omega)]
  obtain ⟨N, hN⟩ : ∃ N, w.heap.size = N := ⟨_, rfl⟩
  have hbN : b ≠ N := by omega
  have hvN : vb ≠ N := by omega
  have hcpA : ∀ wx : World, Whole wx N 55 ROW → Whole wx vb 55 vs.toArray → ∀ ty dc, (Builtin.copy_ #[29, 29] ty #[.slice (some ⟨N, i * 5, none⟩) (n + 1 - i) dc, .slice (some ⟨vb, 0, none⟩) 1 1]).run Try.prog wx = .ok (goInt 1) (wx.setRow N cs1) := fun wx hW hV ty dc => by
    have := run_copy_z (P := Try.prog) wx 29 29 ty 55 5 N (i * 5) (n + 1 - i) dc ⟨vb, 0, none⟩ 1 1 ROW 55 vs Try.underlying29 size_insB hW
      (m := 1) (by simp only [Nat.min_def]; split <;> omega) (by rw [hvl]) (fun j v hj => by rw [Addr.add_lit, hV.cell]; simpa using hj) (by rw [hvl, hRs]; omega) h1v
    rw [hcs1] at this
    exact this
  have hcpB : ∀ wx : World, Whole wx N 55 cs1 → Whole wx b 55 cur → ∀ ty dc sc, (Builtin.copy_ #[29, 29] ty #[.slice (some ⟨N, (i + 1) * 5, none⟩) (n - i) dc, .slice (some ⟨b, i * 5, none⟩) (n - i) sc]).run Try.prog wx = .ok (goInt ((n - i : Nat) : Int)) (wx.setRow N cs2) := fun wx hW hO ty dc sc => by
    have := run_copy_z (P := Try.prog) wx 29 29 ty 55 5 N ((i + 1) * 5) (n - i) dc ⟨b, i * 5, none⟩ (n - i) sc cs1 55 (xs.drop (i * 5)) Try.underlying29 size_insB hW
      (m := n - i) (by simp only [Nat.min_def]; split <;> omega) hdl (fun j v hj => by
        rw [Addr.add_lit, hO.cell]
        rw [List.getElem?_drop] at hj
        exact hxs _ v hj) (by rw [hdl, hsz1]; omega) (fun v hv => h1x v (List.mem_of_mem_drop hv))
    rw [hcs2] at this
    exact this
  rw [hN] at hrz hbase
  obtain ⟨W1, hW1⟩ : ∃ W1, W1 = w.drew.alloc (.cells ROW 55) := ⟨_, rfl⟩
  have hb1' : But (fun k => k = b) w W1 := by rw [hW1]; exact (But.refl _ _).drew.alloc _
  have HN1 := Lib.hid (show Whole W1 N 55 ROW by rw [hW1, ← hN]; exact Whole.new w.drew _ _)
  have HV1 := Lib.hid (show Whole W1 vb 55 vs.toArray by rw [hW1]; exact hv.drew.alloc _)
  have HO1 := Lib.hid (show Whole W1 b 55 cur by rw [hW1]; exact HB.drew.alloc _)
  rw [← hW1] at hrz
  have HN2 := Lib.hid (show Whole (W1.setRow N cs1) N 55 cs1 from whole_setRow HN1.out)
  have HO2 := Lib.hid (show Whole (W1.setRow N cs1) b 55 cur from (setRow_other _ _ _ _ hbN).trans HO1.out)
  have hWs : w.heap.size ≤ N := by omega
  have HF2 : Hid (∃ A' c', Ending.returned (.slice (some ⟨N, 0, none⟩) (n + 1) G) = .returned (.slice A' (n + 1) c') ∧ ((W1.setRow N cs1).drew.setRow N cs2).ownsRow base 55 5 (.slice A' (n + 1) c') (n + 1) (xs.take (i * 5) ++ vs ++ xs.drop (i * 5)) ∧ But (fun k => k = b) w ((W1.setRow N cs1).drew.setRow N cs2)) := Lib.hid
    ⟨_, _, rfl, ⟨by simp only [List.length_append, List.length_take, List.length_drop, hxl, hvl]; omega, .inr ⟨N, G, cs2, rfl, hbase, whole_setRow HN2.out.drew, hGn, by unfold maxLen; exact hG63, hsz2, hcs2t⟩⟩, but_setRow (S := fun k => k = b) (but_setRow (S := fun k => k = b) hb1' (.inr hWs) _).drew (.inr hWs) _⟩
  have htn : ((i : Int) + 1).toNat = i + 1 := by omega
  have hz2 : ¬ ((i : Int) = (n : Int)) := by omega
  have hw1 : IntKind.i64.wrap ((i : Int) + 1) = (i : Int) + 1 := by rw [IntKind.wrap_i64]; omega
  have hw2 : IntKind.i64.wrap ((n : Int) + 1) = (n : Int) + 1 := by rw [IntKind.wrap_i64]; omega
  have hw3 : IntKind.i64.wrap ((n : Int) + 1 - (i : Int)) = (n : Int) + 1 - (i : Int) := by rw [IntKind.wrap_i64]; omega
  have hb1 : (0 : Int) ≤ (i : Int) + 1 := by omega
  have hb2 : (i : Int) + 1 ≤ (n : Int) + 1 := by omega
  have hin : i ≤ n := by omega
  have hi0' : (0 : Int) ≤ (i : Int) := by omega
  have hin2 : (i : Int) ≤ (n : Int) := by omega
  have hic : (i : Int) ≤ (c : Int) := by omega
  have hr2 : (c : Int) < (n : Int) + 1 := by omega
  have hb3 : ¬ (G = i + 1) := by omega
  have hb4 : ¬ (G = i) := by omega
  have hb6 : ¬ (c = i) := by omega
  have hb5 : (i : Int) ≤ (n : Int) + 1 := by omega
  have mixed : Try.prog.follows Departure.mixedOrders = true := by kernel_rfl
  clear hcell hv HB hdl hcs1 hcs2 hsz1 hsz2 h1v h1x hvl hxl h4 h5 hbg hh hcs2t hRt hRs hROW hold hik hxs hi0 hz0 hzs hzb hb1' hW1 hWs hG hN hkk
  go_enter Try.func92, Try.ntmps92
  have R0 := hrz 29
  have RA := hcpA W1 HN1.out HV1.out 3 (G - i)
  have RB := hcpB (W1.setRow N cs1).drew HN2.out.drew HO2.out.drew 3 (G - (i + 1)) (c - i)
  clear hcpA hcpB hrz
  go_upto_region 9 with fail
  go_wp2_with (at_builtin; refine Lib.wpList_append_run _ rfl (.tmp 34) (.tmp 39) _ _ rfl _ _ rfl rfl _ _ R0 ?_)
  go_region
  go_wp2_with fail
  go_ret
  exact HF2.out

set_option maxHeartbeats 3200000 in
/-- At the end. -/
theorem dinsB_end (base : Nat) (A : Option Addr) (c n vb : Nat) (xs vs : List Value) (w : World) (h : w.ownsRow base 55 5 (.slice A n c) n xs) (hn : n ≤ 4096) (hbase : base ≤ w.heap.size)
    (hv : Whole w vb 55 vs.toArray) (hvl : vs.length = 5) (h1v : ∀ v ∈ vs, v.oneCell' = true) :
    Calls Try.prog 92 #[.slice A n c, .int .i64 (n : Int), .slice (some ⟨vb, 0, none⟩) 1 1] w fun e w' => ∃ A' c', e = .returned (.slice A' (n + 1) c') ∧ w'.ownsRow base 55 5 (.slice A' (n + 1) c') (n + 1) (xs ++ vs) ∧ But (fun k => (Value.slice A n c).ownBlock = some k) w w' := by
  have HR := Lib.hid (show Row w w.heap.size 5 (some ⟨vb, 0, none⟩) 1 vs from ⟨by rw [hvl], fun _ => ⟨vb, 0, rfl, hv.lt, fun j u hj => by rw [hv.cell]; simpa using hj⟩⟩)
  have H := Lib.hid h
  have H1 := Lib.hid h1v
  have hc := (own_cap h).1
  have hin : (n : Int) ≤ (n : Int) := Int.le_refl _
  have hic : (n : Int) ≤ (c : Int) := by omega
  have hi0' : (0 : Int) ≤ (n : Int) := by omega
  clear h hv hvl h1v
  obtain ⟨OB, hOB⟩ : ∃ z, z = (Value.slice A n c).ownBlock := ⟨_, rfl⟩
  have hOB' := hOB
  rw [← hOB]
  go_enter Try.func92, Try.ntmps92
  rcases A with _ | ⟨ag, ao, asp⟩
  · go_wp2_with (at_builtin; refine wpl_append _ rfl (.tmp 23) (.tmp 24) 29 rfl base 55 (Value.agg #[.int .i64 0, .int .i64 0, .int .i64 0, .int .i64 0, .bool false]) 5 40 Try.underlying29 info_insB rfl (by decide) _ n xs rfl H.out _ (some ⟨vb, 0, none⟩) 1 1 vs rfl HR.out H1.out ?c1 ?c2 ?c3 ?_)
    case c1 => unfold maxLen; omega
    case c2 => omega
    try (case c3 => exact hbase)
    intro v' w' hown hg hat
    obtain ⟨A', c', rfl⟩ := own_form hown
    have HF := Lib.hid (show ∃ A'' c'', Ending.returned (Value.slice A' (n + 1) c') = .returned (.slice A'' (n + 1) c'') ∧ w'.ownsRow base 55 5 (.slice A'' (n + 1) c'') (n + 1) (xs ++ vs) ∧ But (fun k => OB = some k) w w' from ⟨_, _, rfl, hown, ⟨hg.os, hg.tape, hg.output, hg.size, fun k hk hs => hg.block k hk (fun e => hs (hOB.trans e.symm))⟩⟩)
    clear hown hg hat
    go_wp2_with fail
    go_ret
    exact HF.out
  · by_cases hcn : c = n
    · obtain rfl : n = c := hcn.symm
      go_wp2_with (at_builtin; refine wpl_append _ rfl (.tmp 23) (.tmp 24) 29 rfl base 55 (Value.agg #[.int .i64 0, .int .i64 0, .int .i64 0, .int .i64 0, .bool false]) 5 40 Try.underlying29 info_insB rfl (by decide) _ n xs rfl H.out _ (some ⟨vb, 0, none⟩) 1 1 vs rfl HR.out H1.out ?d1 ?d2 ?d3 ?_)
      case d1 => unfold maxLen; omega
      case d2 => omega
      try (case d3 => exact hbase)
      intro v' w' hown hg hat
      obtain ⟨A', c', rfl⟩ := own_form hown
      have HF := Lib.hid (show ∃ A'' c'', Ending.returned (Value.slice A' (n + 1) c') = .returned (.slice A'' (n + 1) c'') ∧ w'.ownsRow base 55 5 (.slice A'' (n + 1) c'') (n + 1) (xs ++ vs) ∧ But (fun k => OB = some k) w w' from ⟨_, _, rfl, hown, ⟨hg.os, hg.tape, hg.output, hg.size, fun k hk hs => hg.block k hk (fun e => hs (hOB.trans e.symm))⟩⟩)
      clear hown hg hat
      go_wp2_with fail
      go_ret
      exact HF.out
    · skip
      go_wp2_with (at_builtin; refine wpl_append _ rfl (.tmp 23) (.tmp 24) 29 rfl base 55 (Value.agg #[.int .i64 0, .int .i64 0, .int .i64 0, .int .i64 0, .bool false]) 5 40 Try.underlying29 info_insB rfl (by decide) _ n xs rfl H.out _ (some ⟨vb, 0, none⟩) 1 1 vs rfl HR.out H1.out ?e1 ?e2 ?e3 ?_)
      case e1 => unfold maxLen; omega
      case e2 => omega
      try (case e3 => exact hbase)
      intro v' w' hown hg hat
      obtain ⟨A', c', rfl⟩ := own_form hown
      have HF := Lib.hid (show ∃ A'' c'', Ending.returned (Value.slice A' (n + 1) c') = .returned (.slice A'' (n + 1) c'') ∧ w'.ownsRow base 55 5 (.slice A'' (n + 1) c'') (n + 1) (xs ++ vs) ∧ But (fun k => OB = some k) w w' from ⟨_, _, rfl, hown, ⟨hg.os, hg.tape, hg.output, hg.size, fun k hk hs => hg.block k hk (fun e => hs (hOB.trans e.symm))⟩⟩)
      clear hown hg hat
      go_wp2_with fail
      go_ret
      exact HF.out
/-- slices.Insert of one element. -/
theorem dinsB (base : Nat) (A : Option Addr) (c n i vb : Nat) (xs vs : List Value) (w : World) (h : w.ownsRow base 55 5 (.slice A n c) n xs) (hi : i ≤ n) (hn : n ≤ 4096) (hbase : base ≤ w.heap.size)
    (hv : Whole w vb 55 vs.toArray) (hvl : vs.length = 5) (h1v : ∀ v ∈ vs, v.oneCell' = true) (h1x : ∀ v ∈ xs, v.oneCell' = true) (hne : (Value.slice A n c).ownBlock ≠ some vb) :
    Calls Try.prog 92 #[.slice A n c, .int .i64 (i : Int), .slice (some ⟨vb, 0, none⟩) 1 1] w fun e w' => ∃ A' c', e = .returned (.slice A' (n + 1) c') ∧ w'.ownsRow base 55 5 (.slice A' (n + 1) c') (n + 1) (xs.take (i * 5) ++ vs ++ xs.drop (i * 5)) ∧ But (fun k => (Value.slice A n c).ownBlock = some k) w w' := by
  rcases Nat.lt_or_ge i n with h1 | h1
  · obtain ⟨b, cur, rfl, _, hw, _⟩ := own_wholeX h (by omega)
    have hne' : vb ≠ b := fun e => hne (by rw [e]; rfl)
    have fin : ∀ e w', (∃ A' c', e = Ending.returned (.slice A' (n + 1) c') ∧ w'.ownsRow base 55 5 (.slice A' (n + 1) c') (n + 1) (xs.take (i * 5) ++ vs ++ xs.drop (i * 5)) ∧ But (fun k => k = b) w w') →
        ∃ A' c', e = Ending.returned (.slice A' (n + 1) c') ∧ w'.ownsRow base 55 5 (.slice A' (n + 1) c') (n + 1) (xs.take (i * 5) ++ vs ++ xs.drop (i * 5)) ∧ But (fun k => (Value.slice (some ⟨b, 0, none⟩) n c).ownBlock = some k) w w' := by
      rintro e w' ⟨A', c', e1, e2, e3⟩
      exact ⟨A', c', e1, e2, e3.mono (fun k _ h => by rw [h]; rfl)⟩
    rcases Nat.lt_or_ge c (n + 1) with h2 | h2
    · exact (dinsB_grow base b c n i vb xs vs w h h1 hn h2 hbase hv hvl h1v h1x hne').mono fin
    · exact (dinsB_room base b c n i vb xs vs w h h1 hn h2 hv hvl h1v h1x hne').mono fin
  · obtain rfl : i = n := by omega
    have hx := h.1
    rw [List.take_of_length_le (by omega), List.drop_eq_nil_of_le (by omega), List.append_nil]
    exact dinsB_end base A c i vb xs vs w h hn hbase hv hvl h1v
end Go.Proofs.Ytmmeceehfdbdoaa
