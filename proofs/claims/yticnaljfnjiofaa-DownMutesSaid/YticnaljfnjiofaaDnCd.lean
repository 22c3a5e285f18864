/-
  Package down (layer 14): the deeds, and the map of them.
-/
import Derived.Test.YticnaljfnjiofaaDnCb
import Derived.Test.YticnaljfnjiofaaInv
namespace Go.Proofs.Yticnaljfnjiofaa
open Go.RowKit
set_option linter.unusedSimpArgs false
set_option linter.unusedVariables false
set_option maxRecDepth 100000

/-- What a deed tells: numbers, whether they are sent; the downtrack's cells behind it. -/
def Deed (n : Mn) (ok : Bool) (g : Nat) (cs : Array Value) (w : World) (e : Ending) (w' : World) : Prop :=
  e = .returned (.tuple #[.agg n.cells, .bool ok]) ∧ Whole w' g 78 cs ∧ But (fun k => k = g) w w'
theorem four_far {w : World} {g r : Nat} {t : TypeId} {cs : Array Value} (h : Whole w g t cs) (hg : g ≠ r) (u0 u1 u2 u3 : Value) : Whole ((((w.setCell ⟨r, 0, none⟩ u0).setCell ⟨r, 1, none⟩ u1).setCell ⟨r, 2, none⟩ u2).setCell ⟨r, 3, none⟩ u3) g t cs :=
  (((h.far (p := ⟨r, 0, none⟩) hg u0).far (p := ⟨r, 1, none⟩) hg u1).far (p := ⟨r, 2, none⟩) hg u2).far (p := ⟨r, 3, none⟩) hg u3
theorem but_four {S : Nat → Prop} {w0 w : World} {r : Nat} (h : But S w0 w) (hr : w0.heap.size ≤ r) (u0 u1 u2 u3 : Value) : But S w0 ((((w.setCell ⟨r, 0, none⟩ u0).setCell ⟨r, 1, none⟩ u1).setCell ⟨r, 2, none⟩ u2).setCell ⟨r, 3, none⟩ u3) :=
  (((h.set (p := ⟨r, 0, none⟩) (.inr hr) u0).set (p := ⟨r, 1, none⟩) (.inr hr) u1).set (p := ⟨r, 2, none⟩) (.inr hr) u2).set (p := ⟨r, 3, none⟩) (.inr hr) u3
set_option maxHeartbeats 6400000 in
theorem deed_leave (ss : Nat) (pk : Cs) (m : Mst) (gs c0 c1 c2 c3 c4 g bd : Nat)  (w : World) (hW : Whole w g 78 (dcs ss pk m gs c0 c1 c2 c3 c4)) (hd : Whole w bd 26 #[.pointer (some ⟨g, 0, none⟩)]) (hc : c0 + c1 + c2 + c3 + c4 ≤ 1000000000) :
    Calls Try.prog 56 #[.pointer (some ⟨bd, 0, none⟩)] w (Deed Mn.zero false g (dcs ss pk m gs c0 (c1 + 1) c2 c3 c4) w) := by
  have hW : Whole w g 78 #[.int .u32 (ss : Int), .bool pk.on, .int .i64 pk.src, .int .i64 pk.lay, .int .i64 pk.tid, .bool m.on, .int .i64 m.high, .int .i64 m.since, .int .u16 m.off.seq, .int .u32 m.off.time, .int .u16 m.off.pic, .int .u8 m.off.tl0, .int .u16 m.out.seq, .int .u32 m.out.time, .int .u16 m.out.pic, .int .u8 m.out.tl0, .pointer (some ⟨gs, 0, none⟩), .int .i64 (c0 : Int), .int .i64 (c1 : Int), .int .i64 (c2 : Int), .int .i64 (c3 : Int), .int .i64 (c4 : Int)] := hW
  have d18 := hW.cell 18
  have fd18 := hW.free 18
  have b0 := hd.cell 0
  have hgl := hW.lt
  have hbl := hd.lt
  have hw1 : IntKind.i64.wrap ((c1 : Int) + 1) = c1 + 1 := IntWalk.i64_in _ (by omega)
  have HW := Lib.hid hW
  clear hW hd
  go_enter Try.func56, Try.ntmps56
  go_wp2_with fail
  have e1 : (c1 : Int) + 1 = ((c1 + 1 : Nat) : Int) := by omega
  rw [e1]
  exact bodyPost_ret (v := .tuple #[.agg #[.int .u16 0, .int .u32 0, .int .u16 0, .int .u8 0], .bool false]) (by simp [results, Try.results56, go_sem]) rfl ⟨rfl, ((show Whole _ _ _ #[.int .u32 (ss : Int), .bool pk.on, .int .i64 pk.src, .int .i64 pk.lay, .int .i64 pk.tid, .bool m.on, .int .i64 m.high, .int .i64 m.since, .int .u16 m.off.seq, .int .u32 m.off.time, .int .u16 m.off.pic, .int .u8 m.off.tl0, .int .u16 m.out.seq, .int .u32 m.out.time, .int .u16 m.out.pic, .int .u8 m.out.tl0, .pointer (some ⟨gs, 0, none⟩), .int .i64 (c0 : Int), .int .i64 ((c1 + 1 : Nat) : Int), .int .i64 (c2 : Int), .int .i64 (c3 : Int), .int .i64 (c4 : Int)] from (HW.out).set 18 (.int .i64 ((c1 + 1 : Nat) : Int)))).alloc _, (((But.refl (fun k => k = g) w).set (p := ⟨g, 18, none⟩) (.inl rfl) (.int .i64 ((c1 + 1 : Nat) : Int)))).alloc _⟩
set_option maxHeartbeats 6400000 in
theorem deed_drop (ss : Nat) (pk : Cs) (m : Mst) (gs c0 c1 c2 c3 c4 g bd : Nat) (bi bb : Nat) (x : Mn) (bg : Bool) (hm : m.Fit 1000000000000000) (hx : x.Fit) (w : World) (hW : Whole w g 78 (dcs ss pk m gs c0 c1 c2 c3 c4)) (hd : Whole w bd 26 #[.pointer (some ⟨g, 0, none⟩)]) (hi : Whole w bi 74 x.cells) (hb : Whole w bb 4 #[.bool bg]) (hc : c0 + c1 + c2 + c3 + c4 ≤ 1000000000) :
    Calls Try.prog 57 #[.pointer (some ⟨bd, 0, none⟩), .pointer (some ⟨bi, 0, none⟩), .pointer (some ⟨bb, 0, none⟩)] w (Deed Mn.zero false g (dcs ss pk (m.dropS x bg) gs c0 c1 (c2 + 1) c3 c4) w) := by
  have C := fun w => mdrop_any m x bg hm hx w
  obtain ⟨mm, hmm⟩ : ∃ z, m.dropS x bg = z := ⟨_, rfl⟩
  rw [hmm] at C ⊢
  dsimp only [Mst.cells, Mn.cells] at C
  replace C := Lib.hid C
  clear hmm hm hx
  have hW : Whole w g 78 #[.int .u32 (ss : Int), .bool pk.on, .int .i64 pk.src, .int .i64 pk.lay, .int .i64 pk.tid, .bool m.on, .int .i64 m.high, .int .i64 m.since, .int .u16 m.off.seq, .int .u32 m.off.time, .int .u16 m.off.pic, .int .u8 m.off.tl0, .int .u16 m.out.seq, .int .u32 m.out.time, .int .u16 m.out.pic, .int .u8 m.out.tl0, .pointer (some ⟨gs, 0, none⟩), .int .i64 (c0 : Int), .int .i64 (c1 : Int), .int .i64 (c2 : Int), .int .i64 (c3 : Int), .int .i64 (c4 : Int)] := hW
  have hi : Whole w bi 74 #[.int .u16 x.seq, .int .u32 x.time, .int .u16 x.pic, .int .u8 x.tl0] := hi
  have hgl := hW.lt
  have hbl := hd.lt
  have hil := hi.lt
  have hjl := hb.lt
  have hw1 : IntKind.i64.wrap ((c2 : Int) + 1) = c2 + 1 := IntWalk.i64_in _ (by omega)
  go_enter Try.func57, Try.ntmps57
  go_upto_region 1 with fail
  obtain ⟨wf1, hwf⟩ : ∃ z, z = (w.alloc (.cells #[.int .u16 0, .int .u32 0, .int .u16 0, .int .u8 0] 74)) := ⟨_, rfl⟩
  have NR : Whole (w.alloc (.cells #[.int .u16 0, .int .u32 0, .int .u16 0, .int .u8 0] 74)) (w.heap.size) 74 #[.int .u16 0, .int .u32 0, .int .u16 0, .int .u8 0] := by have := Whole.new w 74 #[.int .u16 0, .int .u32 0, .int .u16 0, .int .u8 0]; first | with_reducible exact this | simpa using this
  have SGf1 := (hW.alloc (.cells #[.int .u16 0, .int .u32 0, .int .u16 0, .int .u8 0] 74))
  have SDf1 := (hd.alloc (.cells #[.int .u16 0, .int .u32 0, .int .u16 0, .int .u8 0] 74))
  have SIf1 := (hi.alloc (.cells #[.int .u16 0, .int .u32 0, .int .u16 0, .int .u8 0] 74))
  have SBf1 := (hb.alloc (.cells #[.int .u16 0, .int .u32 0, .int .u16 0, .int .u8 0] 74))
  have SRf1 := NR
  have HBf1 := ((Below.refl w.heap.size w).alloc ((Below.refl w.heap.size w)).size (.cells #[.int .u16 0, .int .u32 0, .int .u16 0, .int .u8 0] 74))
  rw [← hwf] at SGf1 SDf1 SIf1 SBf1 SRf1 HBf1 ⊢
  clear hwf
  clear hW hd hi hb NR
  have lGf1 := SGf1.lt
  have lDf1 := SDf1.lt
  have lIf1 := SIf1.lt
  have lBf1 := SBf1.lt
  have lRf1 := SRf1.lt
  replace HBf1 := Lib.hid HBf1
  replace SGf1 := Lib.hid SGf1
  replace SDf1 := Lib.hid SDf1
  replace SIf1 := Lib.hid SIf1
  replace SBf1 := Lib.hid SBf1
  replace SRf1 := Lib.hid SRf1
  obtain ⟨wo, rfl⟩ : ∃ z, z = wf1 := ⟨_, rfl⟩
  have K6 := Lib.hid (fun w' (b' : Below wo.heap.size wo w') => show (fun w' => w'.cell? ⟨g, 0, none⟩ = some (.int .u32 (ss : Int)) ∧ w'.cell? ⟨g, 1, none⟩ = some (.bool pk.on) ∧ w'.cell? ⟨g, 2, none⟩ = some (.int .i64 pk.src) ∧ w'.cell? ⟨g, 3, none⟩ = some (.int .i64 pk.lay) ∧ w'.cell? ⟨g, 4, none⟩ = some (.int .i64 pk.tid) ∧ w'.cell? ⟨g, 5, none⟩ = some (.bool m.on) ∧ w'.cell? ⟨g, 6, none⟩ = some (.int .i64 m.high) ∧ w'.cell? ⟨g, 7, none⟩ = some (.int .i64 m.since) ∧ w'.cell? ⟨g, 8, none⟩ = some (.int .u16 m.off.seq) ∧ w'.cell? ⟨g, 9, none⟩ = some (.int .u32 m.off.time) ∧ w'.cell? ⟨g, 10, none⟩ = some (.int .u16 m.off.pic) ∧ w'.cell? ⟨g, 11, none⟩ = some (.int .u8 m.off.tl0) ∧ w'.cell? ⟨g, 12, none⟩ = some (.int .u16 m.out.seq) ∧ w'.cell? ⟨g, 13, none⟩ = some (.int .u32 m.out.time) ∧ w'.cell? ⟨g, 14, none⟩ = some (.int .u16 m.out.pic) ∧ w'.cell? ⟨g, 15, none⟩ = some (.int .u8 m.out.tl0) ∧ w'.cell? ⟨g, 16, none⟩ = some (.pointer (some ⟨gs, 0, none⟩)) ∧ w'.cell? ⟨g, 17, none⟩ = some (.int .i64 (c0 : Int)) ∧ w'.cell? ⟨g, 18, none⟩ = some (.int .i64 (c1 : Int)) ∧ w'.cell? ⟨g, 19, none⟩ = some (.int .i64 (c2 : Int)) ∧ w'.cell? ⟨g, 20, none⟩ = some (.int .i64 (c3 : Int)) ∧ w'.cell? ⟨g, 21, none⟩ = some (.int .i64 (c4 : Int)) ∧ w'.cell? ⟨bd, 0, none⟩ = some (.pointer (some ⟨g, 0, none⟩)) ∧ w'.cell? ⟨bi, 0, none⟩ = some (.int .u16 x.seq) ∧ w'.cell? ⟨bi, 1, none⟩ = some (.int .u32 x.time) ∧ w'.cell? ⟨bi, 2, none⟩ = some (.int .u16 x.pic) ∧ w'.cell? ⟨bi, 3, none⟩ = some (.int .u8 x.tl0) ∧ w'.cell? ⟨bb, 0, none⟩ = some (.bool bg)) w' from ⟨(SGf1.out.below b' SGf1.out.lt).cell 0, (SGf1.out.below b' SGf1.out.lt).cell 1, (SGf1.out.below b' SGf1.out.lt).cell 2, (SGf1.out.below b' SGf1.out.lt).cell 3, (SGf1.out.below b' SGf1.out.lt).cell 4, (SGf1.out.below b' SGf1.out.lt).cell 5, (SGf1.out.below b' SGf1.out.lt).cell 6, (SGf1.out.below b' SGf1.out.lt).cell 7, (SGf1.out.below b' SGf1.out.lt).cell 8, (SGf1.out.below b' SGf1.out.lt).cell 9, (SGf1.out.below b' SGf1.out.lt).cell 10, (SGf1.out.below b' SGf1.out.lt).cell 11, (SGf1.out.below b' SGf1.out.lt).cell 12, (SGf1.out.below b' SGf1.out.lt).cell 13, (SGf1.out.below b' SGf1.out.lt).cell 14, (SGf1.out.below b' SGf1.out.lt).cell 15, (SGf1.out.below b' SGf1.out.lt).cell 16, (SGf1.out.below b' SGf1.out.lt).cell 17, (SGf1.out.below b' SGf1.out.lt).cell 18, (SGf1.out.below b' SGf1.out.lt).cell 19, (SGf1.out.below b' SGf1.out.lt).cell 20, (SGf1.out.below b' SGf1.out.lt).cell 21, (SDf1.out.below b' SDf1.out.lt).cell 0, (SIf1.out.below b' SIf1.out.lt).cell 0, (SIf1.out.below b' SIf1.out.lt).cell 1, (SIf1.out.below b' SIf1.out.lt).cell 2, (SIf1.out.below b' SIf1.out.lt).cell 3, (SBf1.out.below b' SBf1.out.lt).cell 0⟩)
  refine wp_region_X (S := fun w' => w'.cell? ⟨g, 0, none⟩ = some (.int .u32 (ss : Int)) ∧ w'.cell? ⟨g, 1, none⟩ = some (.bool pk.on) ∧ w'.cell? ⟨g, 2, none⟩ = some (.int .i64 pk.src) ∧ w'.cell? ⟨g, 3, none⟩ = some (.int .i64 pk.lay) ∧ w'.cell? ⟨g, 4, none⟩ = some (.int .i64 pk.tid) ∧ w'.cell? ⟨g, 5, none⟩ = some (.bool m.on) ∧ w'.cell? ⟨g, 6, none⟩ = some (.int .i64 m.high) ∧ w'.cell? ⟨g, 7, none⟩ = some (.int .i64 m.since) ∧ w'.cell? ⟨g, 8, none⟩ = some (.int .u16 m.off.seq) ∧ w'.cell? ⟨g, 9, none⟩ = some (.int .u32 m.off.time) ∧ w'.cell? ⟨g, 10, none⟩ = some (.int .u16 m.off.pic) ∧ w'.cell? ⟨g, 11, none⟩ = some (.int .u8 m.off.tl0) ∧ w'.cell? ⟨g, 12, none⟩ = some (.int .u16 m.out.seq) ∧ w'.cell? ⟨g, 13, none⟩ = some (.int .u32 m.out.time) ∧ w'.cell? ⟨g, 14, none⟩ = some (.int .u16 m.out.pic) ∧ w'.cell? ⟨g, 15, none⟩ = some (.int .u8 m.out.tl0) ∧ w'.cell? ⟨g, 16, none⟩ = some (.pointer (some ⟨gs, 0, none⟩)) ∧ w'.cell? ⟨g, 17, none⟩ = some (.int .i64 (c0 : Int)) ∧ w'.cell? ⟨g, 18, none⟩ = some (.int .i64 (c1 : Int)) ∧ w'.cell? ⟨g, 19, none⟩ = some (.int .i64 (c2 : Int)) ∧ w'.cell? ⟨g, 20, none⟩ = some (.int .i64 (c3 : Int)) ∧ w'.cell? ⟨g, 21, none⟩ = some (.int .i64 (c4 : Int)) ∧ w'.cell? ⟨bd, 0, none⟩ = some (.pointer (some ⟨g, 0, none⟩)) ∧ w'.cell? ⟨bi, 0, none⟩ = some (.int .u16 x.seq) ∧ w'.cell? ⟨bi, 1, none⟩ = some (.int .u32 x.time) ∧ w'.cell? ⟨bi, 2, none⟩ = some (.int .u16 x.pic) ∧ w'.cell? ⟨bi, 3, none⟩ = some (.int .u8 x.tl0) ∧ w'.cell? ⟨bb, 0, none⟩ = some (.bool bg)) [10] (by kernel_rfl) (K6.out _ (Below.refl _ _).drew) (fun hHeld0 => ?_)
  refine wpAnyX_take (i := 0) [8, 9, 10] (v := ?_) rfl (by kernel_rfl) (by kernel_rfl) (by kernel_rfl) (by kernel_rfl) (fun _ _ _ h => h) (Or.inl ⟨by kernel_rfl, ?_⟩) (by assumption) ?_
  rotate_left 1
  · (intro w hSw; obtain ⟨m0, m1, m2, m3, m4, m5, m6, m7, m8, m9, m10, m11, m12, m13, m14, m15, m16, m17, m18, m19, m20, m21, m22, m23, m24, m25, m26, m27⟩ := hSw; go_simp; try (with_reducible rfl))
  (try simp only [Act.put, List.getElem_toArray, List.getElem_cons_succ, List.getElem_cons_zero, List.setIfInBounds_toArray, List.set_cons_zero, List.set_cons_succ])
  refine wpAnyX_take (i := 1) [2, 3, 4, 7, 8, 9, 10] (v := ?_) rfl (by kernel_rfl) (by kernel_rfl) (by kernel_rfl) (by kernel_rfl) (fun _ _ _ h => h) (Or.inl ⟨by kernel_rfl, ?_⟩) (by assumption) ?_
  rotate_left 1
  · (intro w hSw; obtain ⟨m0, m1, m2, m3, m4, m5, m6, m7, m8, m9, m10, m11, m12, m13, m14, m15, m16, m17, m18, m19, m20, m21, m22, m23, m24, m25, m26, m27⟩ := hSw; go_simp; try (with_reducible rfl))
  (try simp only [Act.put, List.getElem_toArray, List.getElem_cons_succ, List.getElem_cons_zero, List.setIfInBounds_toArray, List.set_cons_zero, List.set_cons_succ])
  refine wpAnyX_take (i := 2) [3, 4, 7, 8, 9, 10] (v := ?_) rfl (by kernel_rfl) (by kernel_rfl) (by kernel_rfl) (by kernel_rfl) (fun _ _ _ h => h) (Or.inl ⟨by kernel_rfl, ?_⟩) (by assumption) ?_
  rotate_left 1
  · (intro w hSw; obtain ⟨m0, m1, m2, m3, m4, m5, m6, m7, m8, m9, m10, m11, m12, m13, m14, m15, m16, m17, m18, m19, m20, m21, m22, m23, m24, m25, m26, m27⟩ := hSw; go_simp; try (with_reducible rfl))
  (try simp only [Act.put, List.getElem_toArray, List.getElem_cons_succ, List.getElem_cons_zero, List.setIfInBounds_toArray, List.set_cons_zero, List.set_cons_succ])
  refine wpAnyX_take (i := 3) [4, 7, 8, 9, 10] (v := ?_) rfl (by kernel_rfl) (by kernel_rfl) (by kernel_rfl) (by kernel_rfl) (fun _ _ _ h => h) (Or.inl ⟨by kernel_rfl, ?_⟩) (by assumption) ?_
  rotate_left 1
  · (intro w hSw; obtain ⟨m0, m1, m2, m3, m4, m5, m6, m7, m8, m9, m10, m11, m12, m13, m14, m15, m16, m17, m18, m19, m20, m21, m22, m23, m24, m25, m26, m27⟩ := hSw; go_simp; try (with_reducible rfl))
  (try simp only [Act.put, List.getElem_toArray, List.getElem_cons_succ, List.getElem_cons_zero, List.setIfInBounds_toArray, List.set_cons_zero, List.set_cons_succ])
  refine wpAnyX_take (i := 4) [7, 8, 9, 10] (v := ?_) rfl (by kernel_rfl) (by kernel_rfl) (by kernel_rfl) (by kernel_rfl) (fun _ _ _ h => h) (Or.inl ⟨by kernel_rfl, ?_⟩) (by assumption) ?_
  rotate_left 1
  · (intro w hSw; obtain ⟨m0, m1, m2, m3, m4, m5, m6, m7, m8, m9, m10, m11, m12, m13, m14, m15, m16, m17, m18, m19, m20, m21, m22, m23, m24, m25, m26, m27⟩ := hSw; go_simp; try (with_reducible rfl))
  (try simp only [Act.put, List.getElem_toArray, List.getElem_cons_succ, List.getElem_cons_zero, List.setIfInBounds_toArray, List.set_cons_zero, List.set_cons_succ])
  refine wpAnyX_take (i := 5) [7, 8, 9, 10] (v := ?_) rfl (by kernel_rfl) (by kernel_rfl) (by kernel_rfl) (by kernel_rfl) (fun _ _ _ h => h) (Or.inl ⟨by kernel_rfl, ?_⟩) (by assumption) ?_
  rotate_left 1
  · (intro w hSw; obtain ⟨m0, m1, m2, m3, m4, m5, m6, m7, m8, m9, m10, m11, m12, m13, m14, m15, m16, m17, m18, m19, m20, m21, m22, m23, m24, m25, m26, m27⟩ := hSw; go_simp; try (with_reducible rfl))
  (try simp only [Act.put, List.getElem_toArray, List.getElem_cons_succ, List.getElem_cons_zero, List.setIfInBounds_toArray, List.set_cons_zero, List.set_cons_succ])
  refine wpAnyX_take (i := 6) [7, 8, 9, 10] (v := ?_) rfl (by kernel_rfl) (by kernel_rfl) (by kernel_rfl) (by kernel_rfl) (fun _ _ _ h => h) (Or.inl ⟨by kernel_rfl, ?_⟩) (by assumption) ?_
  rotate_left 1
  · (intro w hSw; obtain ⟨m0, m1, m2, m3, m4, m5, m6, m7, m8, m9, m10, m11, m12, m13, m14, m15, m16, m17, m18, m19, m20, m21, m22, m23, m24, m25, m26, m27⟩ := hSw; go_simp; try (with_reducible rfl))
  (try simp only [Act.put, List.getElem_toArray, List.getElem_cons_succ, List.getElem_cons_zero, List.setIfInBounds_toArray, List.set_cons_zero, List.set_cons_succ])
  refine wpAnyX_one 7 (by kernel_rfl) rfl (fun K hK => ?_)
  go_simp
  go_wp2_with (refine (C.out _).mono ?_; rintro e v1_1 ⟨rfl, bv1⟩)
  have BV1 := ((Below.refl wo.heap.size wo).drew).trans (bv1.mono ((Below.refl wo.heap.size wo).drew).size)
  refine hK.out _ _ (.inr (K6.out _ BV1)) ?_
  have hHeld1 := K6.out _ BV1
  clear hK K
  (try simp only [Act.put, List.getElem_toArray, List.getElem_cons_succ, List.getElem_cons_zero, List.setIfInBounds_toArray, List.set_cons_zero, List.set_cons_succ])
  refine wpAnyX_take (i := 8) [9, 10] (v := ?_) rfl (by kernel_rfl) (by kernel_rfl) (by kernel_rfl) (by kernel_rfl) (fun _ _ _ h => h) (Or.inl ⟨by kernel_rfl, ?_⟩) (by assumption) ?_
  rotate_left 1
  · (intro w hSw; obtain ⟨m0, m1, m2, m3, m4, m5, m6, m7, m8, m9, m10, m11, m12, m13, m14, m15, m16, m17, m18, m19, m20, m21, m22, m23, m24, m25, m26, m27⟩ := hSw; go_simp; try (with_reducible rfl))
  (try simp only [Act.put, List.getElem_toArray, List.getElem_cons_succ, List.getElem_cons_zero, List.setIfInBounds_toArray, List.set_cons_zero, List.set_cons_succ])
  refine wpAnyX_take (i := 9) [10] (v := ?_) rfl (by kernel_rfl) (by kernel_rfl) (by kernel_rfl) (by kernel_rfl) (fun _ _ _ h => h) (Or.inl ⟨by kernel_rfl, ?_⟩) (by assumption) ?_
  rotate_left 1
  · (intro w hSw; obtain ⟨m0, m1, m2, m3, m4, m5, m6, m7, m8, m9, m10, m11, m12, m13, m14, m15, m16, m17, m18, m19, m20, m21, m22, m23, m24, m25, m26, m27⟩ := hSw; go_simp; try (with_reducible rfl))
  (try simp only [Act.put, List.getElem_toArray, List.getElem_cons_succ, List.getElem_cons_zero, List.setIfInBounds_toArray, List.set_cons_zero, List.set_cons_succ])
  refine wpAnyX_one 10 (by kernel_rfl) rfl (fun K hK => ?_)
  have QT := (SGf1.out).below BV1 (SGf1.out).lt
  have qz0 := QT.cell 0
  have qz1 := QT.cell 1
  have qz2 := QT.cell 2
  have qz3 := QT.cell 3
  have qz4 := QT.cell 4
  have qz5 := QT.cell 5
  have qz6 := QT.cell 6
  have qz7 := QT.cell 7
  have qz8 := QT.cell 8
  have qz9 := QT.cell 9
  have qz10 := QT.cell 10
  have qz11 := QT.cell 11
  have qz12 := QT.cell 12
  have qz13 := QT.cell 13
  have qz14 := QT.cell 14
  have qz15 := QT.cell 15
  have qz16 := QT.cell 16
  have qz17 := QT.cell 17
  have qz18 := QT.cell 18
  have qz19 := QT.cell 19
  have qz20 := QT.cell 20
  have qz21 := QT.cell 21
  have qy0 := QT.free 0
  have qy1 := QT.free 1
  have qy2 := QT.free 2
  have qy3 := QT.free 3
  have qy4 := QT.free 4
  have qy5 := QT.free 5
  have qy6 := QT.free 6
  have qy7 := QT.free 7
  have qy8 := QT.free 8
  have qy9 := QT.free 9
  have qy10 := QT.free 10
  have qy11 := QT.free 11
  have qy12 := QT.free 12
  have qy13 := QT.free 13
  have qy14 := QT.free 14
  have qy15 := QT.free 15
  have qy16 := QT.free 16
  have qy17 := QT.free 17
  have qy18 := QT.free 18
  have qy19 := QT.free 19
  have qy20 := QT.free 20
  have qy21 := QT.free 21
  go_simp
  refine hK.out _ _ (.inl (by decide)) ?_
  clear hK K
  (try simp only [Act.put, List.getElem_toArray, List.getElem_cons_succ, List.getElem_cons_zero, List.setIfInBounds_toArray, List.set_cons_zero, List.set_cons_succ])
  refine wpAnyX_done (by kernel_rfl) ?_ _
  have bb := BV1
  have SGg1 := (SGf1.out).below bb (SGf1.out).lt
  have SDg1 := (SDf1.out).below bb (SDf1.out).lt
  have SIg1 := (SIf1.out).below bb (SIf1.out).lt
  have SBg1 := (SBf1.out).below bb (SBf1.out).lt
  have SRg1 := (SRf1.out).below bb (SRf1.out).lt
  have HBg1 := Lib.hid ((HBf1.out).trans (bb.mono (HBf1.out).size))
  clear bb SGf1 SDf1 SIf1 SBf1 SRf1 HBf1
  have lGg1 := SGg1.lt
  have lDg1 := SDg1.lt
  have lIg1 := SIg1.lt
  have lBg1 := SBg1.lt
  have lRg1 := SRg1.lt
  clear K6 QT bv1 BV1 hHeld1 hHeld0 qz0 qy0 qz1 qy1 qz2 qy2 qz3 qy3 qz4 qy4 qz5 qy5 qz6 qy6 qz7 qy7 qz8 qy8 qz9 qy9 qz10 qy10 qz11 qy11 qz12 qy12 qz13 qy13 qz14 qy14 qz15 qy15 qz16 qy16 qz17 qy17 qz18 qy18 qz19 qy19 qz20 qy20 qz21 qy21
  have G1 := SGg1
  have D1 := SDg1
  have R1 := SRg1
  have HB1 := HBg1
  obtain ⟨w1, rfl⟩ : ∃ z, z = v1_1 := ⟨_, rfl⟩
  have s19 := G1.cell 19
  have fs19 := G1.free 19
  have d0 := D1.cell 0
  have r0 := R1.cell 0
  have r1 := R1.cell 1
  have r2 := R1.cell 2
  have r3 := R1.cell 3
  have fr0 := R1.free 0
  have fr1 := R1.free 1
  have fr2 := R1.free 2
  have fr3 := R1.free 3
  have lR1 := R1.lt
  have HG1 := Lib.hid (show Whole w1 g 78 (dcs ss pk m gs c0 c1 c2 c3 c4) from G1)
  clear G1 D1 R1 SGg1 SDg1 SIg1 SBg1 SRg1 HBg1 C
  go_wp2_with fail
  have e1 : (c2 : Int) + 1 = ((c2 + 1 : Nat) : Int) := by omega
  rw [e1]
  have HG2 := nums_set HG1.out mm
  dsimp only [dcs] at HG2
  have HG3 := (show Whole _ _ _ #[.int .u32 (ss : Int), .bool pk.on, .int .i64 pk.src, .int .i64 pk.lay, .int .i64 pk.tid, .bool mm.on, .int .i64 mm.high, .int .i64 mm.since, .int .u16 mm.off.seq, .int .u32 mm.off.time, .int .u16 mm.off.pic, .int .u8 mm.off.tl0, .int .u16 mm.out.seq, .int .u32 mm.out.time, .int .u16 mm.out.pic, .int .u8 mm.out.tl0, .pointer (some ⟨gs, 0, none⟩), .int .i64 (c0 : Int), .int .i64 (c1 : Int), .int .i64 ((c2 + 1 : Nat) : Int), .int .i64 (c3 : Int), .int .i64 (c4 : Int)] from HG2.set 19 (.int .i64 ((c2 + 1 : Nat) : Int)))
  have hne : g ≠ w.heap.size := by omega
  exact bodyPost_ret (v := .tuple #[.agg #[.int .u16 0, .int .u32 0, .int .u16 0, .int .u8 0], .bool false]) (by simp [results, Try.results57, go_sem, r0, r1, r2, r3]) rfl ⟨rfl, four_far HG3 hne _ _ _ _, but_four ((nums_but (but_of_below (S := fun k => k = g) HB1.out) (.inl rfl) mm).set (p := ⟨g, 19, none⟩) (.inl rfl) _) (Nat.le_refl _) _ _ _ _⟩
set_option maxHeartbeats 6400000 in
theorem deed_switch (ss : Nat) (pk : Cs) (m : Mst) (gs c0 c1 c2 c3 c4 g bd : Nat) (bi : Nat) (x : Mn) (hm : m.Fit 1000000000000000) (hx : x.Fit) (w : World) (hW : Whole w g 78 (dcs ss pk m gs c0 c1 c2 c3 c4)) (hd : Whole w bd 26 #[.pointer (some ⟨g, 0, none⟩)]) (hi : Whole w bi 74 x.cells) (hc : c0 + c1 + c2 + c3 + c4 ≤ 1000000000) :
    Calls Try.prog 58 #[.pointer (some ⟨bd, 0, none⟩), .pointer (some ⟨bi, 0, none⟩)] w (Deed (m.begins x 3000) true g (dcs ss pk (m.switchS x 3000) gs c0 c1 c2 c3 c4) w) := by
  have C := fun w => mswitch_any m x 3000 (hm.parts (by decide)) hx (by decide) w
  obtain ⟨mm, hmm⟩ : ∃ z, m.switchS x 3000 = z := ⟨_, rfl⟩
  obtain ⟨nn, hnn⟩ : ∃ z, m.begins x 3000 = z := ⟨_, rfl⟩
  rw [hmm, hnn] at C ⊢
  dsimp only [Mst.cells, Mn.cells] at C
  replace C := Lib.hid C
  clear hmm hnn hm hx
  have hW : Whole w g 78 #[.int .u32 (ss : Int), .bool pk.on, .int .i64 pk.src, .int .i64 pk.lay, .int .i64 pk.tid, .bool m.on, .int .i64 m.high, .int .i64 m.since, .int .u16 m.off.seq, .int .u32 m.off.time, .int .u16 m.off.pic, .int .u8 m.off.tl0, .int .u16 m.out.seq, .int .u32 m.out.time, .int .u16 m.out.pic, .int .u8 m.out.tl0, .pointer (some ⟨gs, 0, none⟩), .int .i64 (c0 : Int), .int .i64 (c1 : Int), .int .i64 (c2 : Int), .int .i64 (c3 : Int), .int .i64 (c4 : Int)] := hW
  have hi : Whole w bi 74 #[.int .u16 x.seq, .int .u32 x.time, .int .u16 x.pic, .int .u8 x.tl0] := hi
  have hgl := hW.lt
  have hbl := hd.lt
  have hil := hi.lt
  go_enter Try.func58, Try.ntmps58
  go_upto_region 1 with fail
  obtain ⟨wo, hwo⟩ : ∃ wo, wo = (w.alloc (.cells #[.int .u16 0, .int .u32 0, .int .u16 0, .int .u8 0] 74)) := ⟨_, rfl⟩
  have NR : Whole (w.alloc (.cells #[.int .u16 0, .int .u32 0, .int .u16 0, .int .u8 0] 74)) (w.heap.size) 74 #[.int .u16 0, .int .u32 0, .int .u16 0, .int .u8 0] := by have := Whole.new w 74 #[.int .u16 0, .int .u32 0, .int .u16 0, .int .u8 0]; first | with_reducible exact this | simpa using this
  have PG := (hW.alloc (.cells #[.int .u16 0, .int .u32 0, .int .u16 0, .int .u8 0] 74))
  have PD := (hd.alloc (.cells #[.int .u16 0, .int .u32 0, .int .u16 0, .int .u8 0] 74))
  have PI := (hi.alloc (.cells #[.int .u16 0, .int .u32 0, .int .u16 0, .int .u8 0] 74))
  have PR := NR
  have PB := ((Below.refl w.heap.size w).alloc ((Below.refl w.heap.size w)).size (.cells #[.int .u16 0, .int .u32 0, .int .u16 0, .int .u8 0] 74))
  rw [← hwo] at PG PD PI PR PB ⊢
  clear hwo
  clear hW hd hi NR
  have pG1 := PG.lt
  have pD1 := PD.lt
  have pI1 := PI.lt
  have pR1 := PR.lt
  replace PG := Lib.hid PG
  replace PD := Lib.hid PD
  replace PI := Lib.hid PI
  replace PR := Lib.hid PR
  replace PB := Lib.hid PB
  have K6 := Lib.hid (fun w' (b' : Below wo.heap.size wo w') => show (fun w' => w'.cell? ⟨bd, 0, none⟩ = some (.pointer (some ⟨g, 0, none⟩)) ∧ w'.cell? ⟨g, 0, none⟩ = some (.int .u32 (ss : Int)) ∧ w'.cell? ⟨g, 1, none⟩ = some (.bool pk.on) ∧ w'.cell? ⟨g, 2, none⟩ = some (.int .i64 pk.src) ∧ w'.cell? ⟨g, 3, none⟩ = some (.int .i64 pk.lay) ∧ w'.cell? ⟨g, 4, none⟩ = some (.int .i64 pk.tid) ∧ w'.cell? ⟨g, 5, none⟩ = some (.bool m.on) ∧ w'.cell? ⟨g, 6, none⟩ = some (.int .i64 m.high) ∧ w'.cell? ⟨g, 7, none⟩ = some (.int .i64 m.since) ∧ w'.cell? ⟨g, 8, none⟩ = some (.int .u16 m.off.seq) ∧ w'.cell? ⟨g, 9, none⟩ = some (.int .u32 m.off.time) ∧ w'.cell? ⟨g, 10, none⟩ = some (.int .u16 m.off.pic) ∧ w'.cell? ⟨g, 11, none⟩ = some (.int .u8 m.off.tl0) ∧ w'.cell? ⟨g, 12, none⟩ = some (.int .u16 m.out.seq) ∧ w'.cell? ⟨g, 13, none⟩ = some (.int .u32 m.out.time) ∧ w'.cell? ⟨g, 14, none⟩ = some (.int .u16 m.out.pic) ∧ w'.cell? ⟨g, 15, none⟩ = some (.int .u8 m.out.tl0) ∧ w'.cell? ⟨g, 16, none⟩ = some (.pointer (some ⟨gs, 0, none⟩)) ∧ w'.cell? ⟨g, 17, none⟩ = some (.int .i64 (c0 : Int)) ∧ w'.cell? ⟨g, 18, none⟩ = some (.int .i64 (c1 : Int)) ∧ w'.cell? ⟨g, 19, none⟩ = some (.int .i64 (c2 : Int)) ∧ w'.cell? ⟨g, 20, none⟩ = some (.int .i64 (c3 : Int)) ∧ w'.cell? ⟨g, 21, none⟩ = some (.int .i64 (c4 : Int)) ∧ w'.cell? ⟨bi, 0, none⟩ = some (.int .u16 x.seq) ∧ w'.cell? ⟨bi, 1, none⟩ = some (.int .u32 x.time) ∧ w'.cell? ⟨bi, 2, none⟩ = some (.int .u16 x.pic) ∧ w'.cell? ⟨bi, 3, none⟩ = some (.int .u8 x.tl0)) w' from ⟨(PD.out.below b' PD.out.lt).cell 0, (PG.out.below b' PG.out.lt).cell 0, (PG.out.below b' PG.out.lt).cell 1, (PG.out.below b' PG.out.lt).cell 2, (PG.out.below b' PG.out.lt).cell 3, (PG.out.below b' PG.out.lt).cell 4, (PG.out.below b' PG.out.lt).cell 5, (PG.out.below b' PG.out.lt).cell 6, (PG.out.below b' PG.out.lt).cell 7, (PG.out.below b' PG.out.lt).cell 8, (PG.out.below b' PG.out.lt).cell 9, (PG.out.below b' PG.out.lt).cell 10, (PG.out.below b' PG.out.lt).cell 11, (PG.out.below b' PG.out.lt).cell 12, (PG.out.below b' PG.out.lt).cell 13, (PG.out.below b' PG.out.lt).cell 14, (PG.out.below b' PG.out.lt).cell 15, (PG.out.below b' PG.out.lt).cell 16, (PG.out.below b' PG.out.lt).cell 17, (PG.out.below b' PG.out.lt).cell 18, (PG.out.below b' PG.out.lt).cell 19, (PG.out.below b' PG.out.lt).cell 20, (PG.out.below b' PG.out.lt).cell 21, (PI.out.below b' PI.out.lt).cell 0, (PI.out.below b' PI.out.lt).cell 1, (PI.out.below b' PI.out.lt).cell 2, (PI.out.below b' PI.out.lt).cell 3⟩)
  go_cut [4, 5] (fun p1 p2 wx => ∃ g1 g2 : Nat, p1 = .pointer (some ⟨g1, 0, none⟩) ∧ p2 = .pointer (some ⟨g2, 0, none⟩) ∧ wo.heap.size ≤ g1 ∧ wo.heap.size ≤ g2 ∧ g1 ≠ g2 ∧ Whole wx g1 76 #[.bool mm.on, .int .i64 mm.high, .int .i64 mm.since, .int .u16 mm.off.seq, .int .u32 mm.off.time, .int .u16 mm.off.pic, .int .u8 mm.off.tl0, .int .u16 mm.out.seq, .int .u32 mm.out.time, .int .u16 mm.out.pic, .int .u8 mm.out.tl0] ∧ Whole wx g2 74 #[.int .u16 nn.seq, .int .u32 nn.time, .int .u16 nn.pic, .int .u8 nn.tl0] ∧ Below wo.heap.size wo wx)
  case first =>
    refine wp_region_X (S := fun w' => w'.cell? ⟨bd, 0, none⟩ = some (.pointer (some ⟨g, 0, none⟩)) ∧ w'.cell? ⟨g, 0, none⟩ = some (.int .u32 (ss : Int)) ∧ w'.cell? ⟨g, 1, none⟩ = some (.bool pk.on) ∧ w'.cell? ⟨g, 2, none⟩ = some (.int .i64 pk.src) ∧ w'.cell? ⟨g, 3, none⟩ = some (.int .i64 pk.lay) ∧ w'.cell? ⟨g, 4, none⟩ = some (.int .i64 pk.tid) ∧ w'.cell? ⟨g, 5, none⟩ = some (.bool m.on) ∧ w'.cell? ⟨g, 6, none⟩ = some (.int .i64 m.high) ∧ w'.cell? ⟨g, 7, none⟩ = some (.int .i64 m.since) ∧ w'.cell? ⟨g, 8, none⟩ = some (.int .u16 m.off.seq) ∧ w'.cell? ⟨g, 9, none⟩ = some (.int .u32 m.off.time) ∧ w'.cell? ⟨g, 10, none⟩ = some (.int .u16 m.off.pic) ∧ w'.cell? ⟨g, 11, none⟩ = some (.int .u8 m.off.tl0) ∧ w'.cell? ⟨g, 12, none⟩ = some (.int .u16 m.out.seq) ∧ w'.cell? ⟨g, 13, none⟩ = some (.int .u32 m.out.time) ∧ w'.cell? ⟨g, 14, none⟩ = some (.int .u16 m.out.pic) ∧ w'.cell? ⟨g, 15, none⟩ = some (.int .u8 m.out.tl0) ∧ w'.cell? ⟨g, 16, none⟩ = some (.pointer (some ⟨gs, 0, none⟩)) ∧ w'.cell? ⟨g, 17, none⟩ = some (.int .i64 (c0 : Int)) ∧ w'.cell? ⟨g, 18, none⟩ = some (.int .i64 (c1 : Int)) ∧ w'.cell? ⟨g, 19, none⟩ = some (.int .i64 (c2 : Int)) ∧ w'.cell? ⟨g, 20, none⟩ = some (.int .i64 (c3 : Int)) ∧ w'.cell? ⟨g, 21, none⟩ = some (.int .i64 (c4 : Int)) ∧ w'.cell? ⟨bi, 0, none⟩ = some (.int .u16 x.seq) ∧ w'.cell? ⟨bi, 1, none⟩ = some (.int .u32 x.time) ∧ w'.cell? ⟨bi, 2, none⟩ = some (.int .u16 x.pic) ∧ w'.cell? ⟨bi, 3, none⟩ = some (.int .u8 x.tl0)) [] (by kernel_rfl) (K6.out _ (Below.refl _ _).drew) (fun hHeld0 => ?_)
    refine wpAnyX_take (i := 0) [] (v := ?_) rfl (by kernel_rfl) (by kernel_rfl) (by kernel_rfl) (by kernel_rfl) (fun _ _ _ h => h) (Or.inl ⟨by kernel_rfl, ?_⟩) (by assumption) ?_
    rotate_left 1
    · (intro w hSw; obtain ⟨m0, m1, m2, m3, m4, m5, m6, m7, m8, m9, m10, m11, m12, m13, m14, m15, m16, m17, m18, m19, m20, m21, m22, m23, m24, m25, m26⟩ := hSw; go_simp; try (with_reducible rfl))
    (try simp only [Act.put, List.getElem_toArray, List.getElem_cons_succ, List.getElem_cons_zero, List.setIfInBounds_toArray, List.set_cons_zero, List.set_cons_succ])
    refine wpAnyX_take (i := 1) [] (v := ?_) rfl (by kernel_rfl) (by kernel_rfl) (by kernel_rfl) (by kernel_rfl) (fun _ _ _ h => h) (Or.inl ⟨by kernel_rfl, ?_⟩) (by assumption) ?_
    rotate_left 1
    · (intro w hSw; obtain ⟨m0, m1, m2, m3, m4, m5, m6, m7, m8, m9, m10, m11, m12, m13, m14, m15, m16, m17, m18, m19, m20, m21, m22, m23, m24, m25, m26⟩ := hSw; go_simp; try (with_reducible rfl))
    (try simp only [Act.put, List.getElem_toArray, List.getElem_cons_succ, List.getElem_cons_zero, List.setIfInBounds_toArray, List.set_cons_zero, List.set_cons_succ])
    refine wpAnyX_take (i := 2) [] (v := ?_) rfl (by kernel_rfl) (by kernel_rfl) (by kernel_rfl) (by kernel_rfl) (fun _ _ _ h => h) (Or.inl ⟨by kernel_rfl, ?_⟩) (by assumption) ?_
    rotate_left 1
    · (intro w hSw; obtain ⟨m0, m1, m2, m3, m4, m5, m6, m7, m8, m9, m10, m11, m12, m13, m14, m15, m16, m17, m18, m19, m20, m21, m22, m23, m24, m25, m26⟩ := hSw; go_simp; try (with_reducible rfl))
    (try simp only [Act.put, List.getElem_toArray, List.getElem_cons_succ, List.getElem_cons_zero, List.setIfInBounds_toArray, List.set_cons_zero, List.set_cons_succ])
    refine wpAnyX_take (i := 3) [] (v := ?_) rfl (by kernel_rfl) (by kernel_rfl) (by kernel_rfl) (by kernel_rfl) (fun _ _ _ h => h) (Or.inl ⟨by kernel_rfl, ?_⟩) (by assumption) ?_
    rotate_left 1
    · (intro w hSw; obtain ⟨m0, m1, m2, m3, m4, m5, m6, m7, m8, m9, m10, m11, m12, m13, m14, m15, m16, m17, m18, m19, m20, m21, m22, m23, m24, m25, m26⟩ := hSw; go_simp; try (with_reducible rfl))
    (try simp only [Act.put, List.getElem_toArray, List.getElem_cons_succ, List.getElem_cons_zero, List.setIfInBounds_toArray, List.set_cons_zero, List.set_cons_succ])
    refine wpAnyX_take (i := 4) [] (v := ?_) rfl (by kernel_rfl) (by kernel_rfl) (by kernel_rfl) (by kernel_rfl) (fun _ _ _ h => h) (Or.inl ⟨by kernel_rfl, ?_⟩) (by assumption) ?_
    rotate_left 1
    · (intro w hSw; obtain ⟨m0, m1, m2, m3, m4, m5, m6, m7, m8, m9, m10, m11, m12, m13, m14, m15, m16, m17, m18, m19, m20, m21, m22, m23, m24, m25, m26⟩ := hSw; go_simp; try (with_reducible rfl))
    (try simp only [Act.put, List.getElem_toArray, List.getElem_cons_succ, List.getElem_cons_zero, List.setIfInBounds_toArray, List.set_cons_zero, List.set_cons_succ])
    refine wpAnyX_named (fun a0 ha0 => ?_)
    refine wpAnyX_inv (fun l a w' => l.size = 13 ∧ (l.getD 0 false = true ∧ l.getD 1 false = true ∧ l.getD 2 false = true ∧ l.getD 3 false = true ∧ l.getD 4 false = true) ∧ Below wo.heap.size wo w' ∧ ∃ t5 t6 t7 t8 t9 t10 : Value, a = ((((((a0.put (some 12) t5).put (some 6) t6).put (some 13) t7).put (some 14) t8).put (some 4) t9).put (some 5) t10) ∧ (l.getD 5 false = true → t5 = (.tuple #[(.agg #[.bool mm.on, .int .i64 mm.high, .int .i64 mm.since, .int .u16 mm.off.seq, .int .u32 mm.off.time, .int .u16 mm.off.pic, .int .u8 mm.off.tl0, .int .u16 mm.out.seq, .int .u32 mm.out.time, .int .u16 mm.out.pic, .int .u8 mm.out.tl0]), (.agg #[.int .u16 nn.seq, .int .u32 nn.time, .int .u16 nn.pic, .int .u8 nn.tl0])])) ∧ (l.getD 6 false = true → t6 = (.tuple #[(.agg #[.bool mm.on, .int .i64 mm.high, .int .i64 mm.since, .int .u16 mm.off.seq, .int .u32 mm.off.time, .int .u16 mm.off.pic, .int .u8 mm.off.tl0, .int .u16 mm.out.seq, .int .u32 mm.out.time, .int .u16 mm.out.pic, .int .u8 mm.out.tl0]), (.agg #[.int .u16 nn.seq, .int .u32 nn.time, .int .u16 nn.pic, .int .u8 nn.tl0])])) ∧ (l.getD 7 false = true → t7 = (.agg #[.bool mm.on, .int .i64 mm.high, .int .i64 mm.since, .int .u16 mm.off.seq, .int .u32 mm.off.time, .int .u16 mm.off.pic, .int .u8 mm.off.tl0, .int .u16 mm.out.seq, .int .u32 mm.out.time, .int .u16 mm.out.pic, .int .u8 mm.out.tl0])) ∧ (l.getD 8 false = true → t8 = (.agg #[.int .u16 nn.seq, .int .u32 nn.time, .int .u16 nn.pic, .int .u8 nn.tl0])) ∧ (l.getD 9 false = true → ∃ g, t9 = .pointer (some ⟨g, 0, none⟩) ∧ wo.heap.size ≤ g ∧ g < w'.heap.size ∧ (l.getD 11 false = false → Whole w' g 76 #[.bool false, .int .i64 0, .int .i64 0, .int .u16 0, .int .u32 0, .int .u16 0, .int .u8 0, .int .u16 0, .int .u32 0, .int .u16 0, .int .u8 0]) ∧ (l.getD 11 false = true → Whole w' g 76 #[.bool mm.on, .int .i64 mm.high, .int .i64 mm.since, .int .u16 mm.off.seq, .int .u32 mm.off.time, .int .u16 mm.off.pic, .int .u8 mm.off.tl0, .int .u16 mm.out.seq, .int .u32 mm.out.time, .int .u16 mm.out.pic, .int .u8 mm.out.tl0])) ∧ (l.getD 11 false = true → l.getD 9 false = true) ∧ (l.getD 10 false = true → ∃ g, t10 = .pointer (some ⟨g, 0, none⟩) ∧ wo.heap.size ≤ g ∧ g < w'.heap.size ∧ (l.getD 12 false = false → Whole w' g 74 #[.int .u16 0, .int .u32 0, .int .u16 0, .int .u8 0]) ∧ (l.getD 12 false = true → Whole w' g 74 #[.int .u16 nn.seq, .int .u32 nn.time, .int .u16 nn.pic, .int .u8 nn.tl0])) ∧ (l.getD 12 false = true → l.getD 10 false = true) ∧ (l.getD 9 false = true → l.getD 10 false = true → ∀ g g', t9 = .pointer (some ⟨g, 0, none⟩) → t10 = .pointer (some ⟨g', 0, none⟩) → g ≠ g')) (fun l a w hI => K6.out _ hI.2.2.1) ?_ ?_ _ _ _ _ (by decide) ?_
    · intro l a w hI i hi
      obtain ⟨hsz, ⟨k0, k1, k2, k3, k4⟩, hB, t5, t6, t7, t8, t9, t10, rfl, c5, c6, c7, c8, c9, s9, c10, s10, n9_10⟩ := hI
      obtain ⟨hun, hin, hd⟩ := ready_split (n := 13) rfl hi
      clear hi
      rw [show List.range 13 = [0, 1, 2, 3, 4, 5, 6, 7, 8, 9, 10, 11, 12] from rfl] at hin
      simp only [List.mem_cons, List.not_mem_nil, or_false] at hin
      rcases hin with rfl | rfl | rfl | rfl | rfl | rfl | rfl | rfl | rfl | rfl | rfl | rfl | rfl
      · exact absurd (was_listed hun k0) id
      · exact absurd (was_listed hun k1) id
      · exact absurd (was_listed hun k2) id
      · exact absurd (was_listed hun k3) id
      · exact absurd (was_listed hun k4) id
      · have hd := waits_as (L := [3, 4]) (by kernel_rfl) hd
        simp only [List.all_cons, List.all_nil, Bool.and_true, Bool.and_eq_true] at hd
        obtain ⟨e0, e1⟩ := hd
        refine inv_op rfl (fun K hK => ?_)
        subst ha0
        (try simp only [Act.put, List.getElem_toArray, List.getElem_cons_succ, List.getElem_cons_zero, List.setIfInBounds_toArray, List.set_cons_zero, List.set_cons_succ])
        go_simp
        go_wp2_with (refine (C.out _).mono ?_; rintro e v ⟨rfl, b1⟩)
        refine hK.out _ _ ?_
        exact ⟨by simp [hsz], ⟨listed_new k0, listed_new k1, listed_new k2, listed_new k3, listed_new k4⟩, (hB.trans (b1.mono hB.size)), (.tuple #[(.agg #[.bool mm.on, .int .i64 mm.high, .int .i64 mm.since, .int .u16 mm.off.seq, .int .u32 mm.off.time, .int .u16 mm.off.pic, .int .u8 mm.off.tl0, .int .u16 mm.out.seq, .int .u32 mm.out.time, .int .u16 mm.out.pic, .int .u8 mm.out.tl0]), (.agg #[.int .u16 nn.seq, .int .u32 nn.time, .int .u16 nn.pic, .int .u8 nn.tl0])]), t6, t7, t8, t9, t10, by kernel_rfl, fun _ => rfl, fun h => c6 (listed_old h (by decide)), fun h => c7 (listed_old h (by decide)), fun h => c8 (listed_old h (by decide)), fun h => by obtain ⟨g, hg, h1, h2, h3, h4⟩ := c9 (listed_old h (by decide)); exact ⟨g, hg, h1, Nat.lt_of_lt_of_le h2 b1.size, fun h => (h3 (listed_same h (by decide))).below b1 (h3 (listed_same h (by decide))).lt, fun h => (h4 (listed_same h (by decide))).below b1 (h4 (listed_same h (by decide))).lt⟩, fun h => listed_new (s9 (listed_old h (by decide))), fun h => by obtain ⟨g, hg, h1, h2, h3, h4⟩ := c10 (listed_old h (by decide)); exact ⟨g, hg, h1, Nat.lt_of_lt_of_le h2 b1.size, fun h => (h3 (listed_same h (by decide))).below b1 (h3 (listed_same h (by decide))).lt, fun h => (h4 (listed_same h (by decide))).below b1 (h4 (listed_same h (by decide))).lt⟩, fun h => listed_new (s10 (listed_old h (by decide))), fun h h' => n9_10 (listed_old h (by decide)) (listed_old h' (by decide))⟩
      · have hd := waits_as (L := [5]) (by kernel_rfl) hd
        simp only [List.all_cons, List.all_nil, Bool.and_true, Bool.and_eq_true] at hd
        have e0 := hd
        obtain rfl := c5 e0
        refine inv_op rfl (fun K hK => ?_)
        subst ha0
        (try simp only [Act.put, List.getElem_toArray, List.getElem_cons_succ, List.getElem_cons_zero, List.setIfInBounds_toArray, List.set_cons_zero, List.set_cons_succ])
        go_simp
        refine hK.out _ _ ?_
        exact ⟨by simp [hsz], ⟨listed_new k0, listed_new k1, listed_new k2, listed_new k3, listed_new k4⟩, hB, (.tuple #[(.agg #[.bool mm.on, .int .i64 mm.high, .int .i64 mm.since, .int .u16 mm.off.seq, .int .u32 mm.off.time, .int .u16 mm.off.pic, .int .u8 mm.off.tl0, .int .u16 mm.out.seq, .int .u32 mm.out.time, .int .u16 mm.out.pic, .int .u8 mm.out.tl0]), (.agg #[.int .u16 nn.seq, .int .u32 nn.time, .int .u16 nn.pic, .int .u8 nn.tl0])]), (.tuple #[(.agg #[.bool mm.on, .int .i64 mm.high, .int .i64 mm.since, .int .u16 mm.off.seq, .int .u32 mm.off.time, .int .u16 mm.off.pic, .int .u8 mm.off.tl0, .int .u16 mm.out.seq, .int .u32 mm.out.time, .int .u16 mm.out.pic, .int .u8 mm.out.tl0]), (.agg #[.int .u16 nn.seq, .int .u32 nn.time, .int .u16 nn.pic, .int .u8 nn.tl0])]), t7, t8, t9, t10, by kernel_rfl, fun _ => rfl, fun _ => rfl, fun h => c7 (listed_old h (by decide)), fun h => c8 (listed_old h (by decide)), fun h => by obtain ⟨g, hg, h1, h2, h3, h4⟩ := c9 (listed_old h (by decide)); exact ⟨g, hg, h1, h2, fun h => h3 (listed_same h (by decide)), fun h => h4 (listed_same h (by decide))⟩, fun h => listed_new (s9 (listed_old h (by decide))), fun h => by obtain ⟨g, hg, h1, h2, h3, h4⟩ := c10 (listed_old h (by decide)); exact ⟨g, hg, h1, h2, fun h => h3 (listed_same h (by decide)), fun h => h4 (listed_same h (by decide))⟩, fun h => listed_new (s10 (listed_old h (by decide))), fun h h' => n9_10 (listed_old h (by decide)) (listed_old h' (by decide))⟩
      · have hd := waits_as (L := [6]) (by kernel_rfl) hd
        simp only [List.all_cons, List.all_nil, Bool.and_true, Bool.and_eq_true] at hd
        have e0 := hd
        obtain rfl := c6 e0
        refine inv_op rfl (fun K hK => ?_)
        subst ha0
        (try simp only [Act.put, List.getElem_toArray, List.getElem_cons_succ, List.getElem_cons_zero, List.setIfInBounds_toArray, List.set_cons_zero, List.set_cons_succ])
        go_simp
        refine hK.out _ _ ?_
        exact ⟨by simp [hsz], ⟨listed_new k0, listed_new k1, listed_new k2, listed_new k3, listed_new k4⟩, hB, t5, (.tuple #[(.agg #[.bool mm.on, .int .i64 mm.high, .int .i64 mm.since, .int .u16 mm.off.seq, .int .u32 mm.off.time, .int .u16 mm.off.pic, .int .u8 mm.off.tl0, .int .u16 mm.out.seq, .int .u32 mm.out.time, .int .u16 mm.out.pic, .int .u8 mm.out.tl0]), (.agg #[.int .u16 nn.seq, .int .u32 nn.time, .int .u16 nn.pic, .int .u8 nn.tl0])]), (.agg #[.bool mm.on, .int .i64 mm.high, .int .i64 mm.since, .int .u16 mm.off.seq, .int .u32 mm.off.time, .int .u16 mm.off.pic, .int .u8 mm.off.tl0, .int .u16 mm.out.seq, .int .u32 mm.out.time, .int .u16 mm.out.pic, .int .u8 mm.out.tl0]), t8, t9, t10, by kernel_rfl, fun h => c5 (listed_old h (by decide)), fun _ => rfl, fun _ => rfl, fun h => c8 (listed_old h (by decide)), fun h => by obtain ⟨g, hg, h1, h2, h3, h4⟩ := c9 (listed_old h (by decide)); exact ⟨g, hg, h1, h2, fun h => h3 (listed_same h (by decide)), fun h => h4 (listed_same h (by decide))⟩, fun h => listed_new (s9 (listed_old h (by decide))), fun h => by obtain ⟨g, hg, h1, h2, h3, h4⟩ := c10 (listed_old h (by decide)); exact ⟨g, hg, h1, h2, fun h => h3 (listed_same h (by decide)), fun h => h4 (listed_same h (by decide))⟩, fun h => listed_new (s10 (listed_old h (by decide))), fun h h' => n9_10 (listed_old h (by decide)) (listed_old h' (by decide))⟩
      · have hd := waits_as (L := [6]) (by kernel_rfl) hd
        simp only [List.all_cons, List.all_nil, Bool.and_true, Bool.and_eq_true] at hd
        have e0 := hd
        obtain rfl := c6 e0
        refine inv_op rfl (fun K hK => ?_)
        subst ha0
        (try simp only [Act.put, List.getElem_toArray, List.getElem_cons_succ, List.getElem_cons_zero, List.setIfInBounds_toArray, List.set_cons_zero, List.set_cons_succ])
        go_simp
        refine hK.out _ _ ?_
        exact ⟨by simp [hsz], ⟨listed_new k0, listed_new k1, listed_new k2, listed_new k3, listed_new k4⟩, hB, t5, (.tuple #[(.agg #[.bool mm.on, .int .i64 mm.high, .int .i64 mm.since, .int .u16 mm.off.seq, .int .u32 mm.off.time, .int .u16 mm.off.pic, .int .u8 mm.off.tl0, .int .u16 mm.out.seq, .int .u32 mm.out.time, .int .u16 mm.out.pic, .int .u8 mm.out.tl0]), (.agg #[.int .u16 nn.seq, .int .u32 nn.time, .int .u16 nn.pic, .int .u8 nn.tl0])]), t7, (.agg #[.int .u16 nn.seq, .int .u32 nn.time, .int .u16 nn.pic, .int .u8 nn.tl0]), t9, t10, by kernel_rfl, fun h => c5 (listed_old h (by decide)), fun _ => rfl, fun h => c7 (listed_old h (by decide)), fun _ => rfl, fun h => by obtain ⟨g, hg, h1, h2, h3, h4⟩ := c9 (listed_old h (by decide)); exact ⟨g, hg, h1, h2, fun h => h3 (listed_same h (by decide)), fun h => h4 (listed_same h (by decide))⟩, fun h => listed_new (s9 (listed_old h (by decide))), fun h => by obtain ⟨g, hg, h1, h2, h3, h4⟩ := c10 (listed_old h (by decide)); exact ⟨g, hg, h1, h2, fun h => h3 (listed_same h (by decide)), fun h => h4 (listed_same h (by decide))⟩, fun h => listed_new (s10 (listed_old h (by decide))), fun h h' => n9_10 (listed_old h (by decide)) (listed_old h' (by decide))⟩
      · have hd := waits_as (L := []) (by kernel_rfl) hd
        simp only [List.all_cons, List.all_nil, Bool.and_true, Bool.and_eq_true] at hd
        refine inv_op rfl (fun K hK => ?_)
        subst ha0
        (try simp only [Act.put, List.getElem_toArray, List.getElem_cons_succ, List.getElem_cons_zero, List.setIfInBounds_toArray, List.set_cons_zero, List.set_cons_succ])
        go_simp
        refine hK.out _ _ ?_
        exact ⟨by simp [hsz], ⟨listed_new k0, listed_new k1, listed_new k2, listed_new k3, listed_new k4⟩, (hB.alloc hB.size (.cells #[.bool false, .int .i64 0, .int .i64 0, .int .u16 0, .int .u32 0, .int .u16 0, .int .u8 0, .int .u16 0, .int .u32 0, .int .u16 0, .int .u8 0] 76)), t5, t6, t7, t8, (.pointer (some ⟨w.heap.size, 0, none⟩)), t10, by kernel_rfl, fun h => c5 (listed_old h (by decide)), fun h => c6 (listed_old h (by decide)), fun h => c7 (listed_old h (by decide)), fun h => c8 (listed_old h (by decide)), fun _ => ⟨_, rfl, hB.size, by simp, fun _ => Whole.new _ _ _, fun h => absurd (was_listed hun (s9 (listed_old h (by decide)))) id⟩, fun h => listed_new (s9 (listed_old h (by decide))), fun h => by obtain ⟨g, hg, h1, h2, h3, h4⟩ := c10 (listed_old h (by decide)); exact ⟨g, hg, h1, (by have := h2; simp; omega), fun h => (h3 (listed_same h (by decide))).alloc _, fun h => (h4 (listed_same h (by decide))).alloc _⟩, fun h => listed_new (s10 (listed_old h (by decide))), fun _ h g g' hg hg' => by obtain ⟨q1, q2, _, q3, _⟩ := c10 (listed_old h (by decide)); rw [hg'] at q2; cases q2; cases hg; omega⟩
      · have hd := waits_as (L := []) (by kernel_rfl) hd
        simp only [List.all_cons, List.all_nil, Bool.and_true, Bool.and_eq_true] at hd
        refine inv_op rfl (fun K hK => ?_)
        subst ha0
        (try simp only [Act.put, List.getElem_toArray, List.getElem_cons_succ, List.getElem_cons_zero, List.setIfInBounds_toArray, List.set_cons_zero, List.set_cons_succ])
        go_simp
        refine hK.out _ _ ?_
        exact ⟨by simp [hsz], ⟨listed_new k0, listed_new k1, listed_new k2, listed_new k3, listed_new k4⟩, (hB.alloc hB.size (.cells #[.int .u16 0, .int .u32 0, .int .u16 0, .int .u8 0] 74)), t5, t6, t7, t8, t9, (.pointer (some ⟨w.heap.size, 0, none⟩)), by kernel_rfl, fun h => c5 (listed_old h (by decide)), fun h => c6 (listed_old h (by decide)), fun h => c7 (listed_old h (by decide)), fun h => c8 (listed_old h (by decide)), fun h => by obtain ⟨g, hg, h1, h2, h3, h4⟩ := c9 (listed_old h (by decide)); exact ⟨g, hg, h1, (by have := h2; simp; omega), fun h => (h3 (listed_same h (by decide))).alloc _, fun h => (h4 (listed_same h (by decide))).alloc _⟩, fun h => listed_new (s9 (listed_old h (by decide))), fun _ => ⟨_, rfl, hB.size, by simp, fun _ => Whole.new _ _ _, fun h => absurd (was_listed hun (s10 (listed_old h (by decide)))) id⟩, fun h => listed_new (s10 (listed_old h (by decide))), fun h _ g g' hg hg' => by obtain ⟨q1, q2, _, q3, _⟩ := c9 (listed_old h (by decide)); rw [hg] at q2; cases q2; cases hg'; omega⟩
      · have hd := waits_as (L := [9, 7, 5, 0, 1, 2, 3, 4, 5, 6, 7, 9, 10]) (by kernel_rfl) hd
        simp only [List.all_cons, List.all_nil, Bool.and_true, Bool.and_eq_true] at hd
        obtain ⟨e0, e1, e2, e3, e4, e5, e6, e7, e8, e9, e10, e11, e12⟩ := hd
        obtain ⟨g9, rfl, lo9, lt9, z9, y9⟩ := c9 e0
        obtain rfl := c7 e1
        obtain rfl := c5 e2
        obtain rfl := c6 e9
        obtain ⟨g10, rfl, lo10, lt10, z10, y10⟩ := c10 e12
        refine inv_op rfl (fun K hK => ?_)
        subst ha0
        (try simp only [Act.put, List.getElem_toArray, List.getElem_cons_succ, List.getElem_cons_zero, List.setIfInBounds_toArray, List.set_cons_zero, List.set_cons_succ])
        have q := z9 (unlisted_false hun)
        have zz0 := q.cell 0
        have zz1 := q.cell 1
        have zz2 := q.cell 2
        have zz3 := q.cell 3
        have zz4 := q.cell 4
        have zz5 := q.cell 5
        have zz6 := q.cell 6
        have zz7 := q.cell 7
        have zz8 := q.cell 8
        have zz9 := q.cell 9
        have zz10 := q.cell 10
        have yy0 := q.free 0
        have yy1 := q.free 1
        have yy2 := q.free 2
        have yy3 := q.free 3
        have yy4 := q.free 4
        have yy5 := q.free 5
        have yy6 := q.free 6
        have yy7 := q.free 7
        have yy8 := q.free 8
        have yy9 := q.free 9
        have yy10 := q.free 10
        go_simp
        refine hK.out _ _ ?_
        exact ⟨by simp [hsz], ⟨listed_new k0, listed_new k1, listed_new k2, listed_new k3, listed_new k4⟩, (eleven_set hB lo9 (.bool mm.on) (.int .i64 mm.high) (.int .i64 mm.since) (.int .u16 mm.off.seq) (.int .u32 mm.off.time) (.int .u16 mm.off.pic) (.int .u8 mm.off.tl0) (.int .u16 mm.out.seq) (.int .u32 mm.out.time) (.int .u16 mm.out.pic) (.int .u8 mm.out.tl0)), (.tuple #[(.agg #[.bool mm.on, .int .i64 mm.high, .int .i64 mm.since, .int .u16 mm.off.seq, .int .u32 mm.off.time, .int .u16 mm.off.pic, .int .u8 mm.off.tl0, .int .u16 mm.out.seq, .int .u32 mm.out.time, .int .u16 mm.out.pic, .int .u8 mm.out.tl0]), (.agg #[.int .u16 nn.seq, .int .u32 nn.time, .int .u16 nn.pic, .int .u8 nn.tl0])]), (.tuple #[(.agg #[.bool mm.on, .int .i64 mm.high, .int .i64 mm.since, .int .u16 mm.off.seq, .int .u32 mm.off.time, .int .u16 mm.off.pic, .int .u8 mm.off.tl0, .int .u16 mm.out.seq, .int .u32 mm.out.time, .int .u16 mm.out.pic, .int .u8 mm.out.tl0]), (.agg #[.int .u16 nn.seq, .int .u32 nn.time, .int .u16 nn.pic, .int .u8 nn.tl0])]), (.agg #[.bool mm.on, .int .i64 mm.high, .int .i64 mm.since, .int .u16 mm.off.seq, .int .u32 mm.off.time, .int .u16 mm.off.pic, .int .u8 mm.off.tl0, .int .u16 mm.out.seq, .int .u32 mm.out.time, .int .u16 mm.out.pic, .int .u8 mm.out.tl0]), t8, (.pointer (some ⟨g9, 0, none⟩)), (.pointer (some ⟨g10, 0, none⟩)), by kernel_rfl, fun _ => rfl, fun _ => rfl, fun _ => rfl, fun h => c8 (listed_old h (by decide)), fun _ => ⟨g9, rfl, lo9, (by simpa using lt9), fun h => absurd ((listed_now hun).symm.trans h) (by decide), fun _ => (Whole.eleven q (.bool mm.on) (.int .i64 mm.high) (.int .i64 mm.since) (.int .u16 mm.off.seq) (.int .u32 mm.off.time) (.int .u16 mm.off.pic) (.int .u8 mm.off.tl0) (.int .u16 mm.out.seq) (.int .u32 mm.out.time) (.int .u16 mm.out.pic) (.int .u8 mm.out.tl0))⟩, fun _ => listed_new e0, fun _ => ⟨g10, rfl, lo10, (by simpa using lt10), fun h => Whole.eleven_far (z10 (listed_same h (by decide))) ((Ne.symm (n9_10 e0 e12 _ _ rfl rfl))) (.bool mm.on) (.int .i64 mm.high) (.int .i64 mm.since) (.int .u16 mm.off.seq) (.int .u32 mm.off.time) (.int .u16 mm.off.pic) (.int .u8 mm.off.tl0) (.int .u16 mm.out.seq) (.int .u32 mm.out.time) (.int .u16 mm.out.pic) (.int .u8 mm.out.tl0), fun h => Whole.eleven_far (y10 (listed_same h (by decide))) ((Ne.symm (n9_10 e0 e12 _ _ rfl rfl))) (.bool mm.on) (.int .i64 mm.high) (.int .i64 mm.since) (.int .u16 mm.off.seq) (.int .u32 mm.off.time) (.int .u16 mm.off.pic) (.int .u8 mm.off.tl0) (.int .u16 mm.out.seq) (.int .u32 mm.out.time) (.int .u16 mm.out.pic) (.int .u8 mm.out.tl0)⟩, fun h => listed_new (s10 (listed_old h (by decide))), fun h h' => n9_10 (listed_old h (by decide)) (listed_old h' (by decide))⟩
      · have hd := waits_as (L := [10, 8, 11, 0, 1, 2, 3, 4, 5, 6, 7, 8, 9, 10, 11]) (by kernel_rfl) hd
        simp only [List.all_cons, List.all_nil, Bool.and_true, Bool.and_eq_true] at hd
        obtain ⟨e0, e1, e2, e3, e4, e5, e6, e7, e8, e9, e10, e11, e12, e13, e14⟩ := hd
        obtain ⟨g10, rfl, lo10, lt10, z10, y10⟩ := c10 e0
        obtain rfl := c8 e1
        obtain rfl := c5 e8
        obtain rfl := c6 e9
        obtain rfl := c7 e10
        obtain ⟨g9, rfl, lo9, lt9, z9, y9⟩ := c9 e12
        refine inv_op rfl (fun K hK => ?_)
        subst ha0
        (try simp only [Act.put, List.getElem_toArray, List.getElem_cons_succ, List.getElem_cons_zero, List.setIfInBounds_toArray, List.set_cons_zero, List.set_cons_succ])
        have q := z10 (unlisted_false hun)
        have zz0 := q.cell 0
        have zz1 := q.cell 1
        have zz2 := q.cell 2
        have zz3 := q.cell 3
        have yy0 := q.free 0
        have yy1 := q.free 1
        have yy2 := q.free 2
        have yy3 := q.free 3
        go_simp
        refine hK.out _ _ ?_
        exact ⟨by simp [hsz], ⟨listed_new k0, listed_new k1, listed_new k2, listed_new k3, listed_new k4⟩, (four_set hB lo10 (.int .u16 nn.seq) (.int .u32 nn.time) (.int .u16 nn.pic) (.int .u8 nn.tl0)), (.tuple #[(.agg #[.bool mm.on, .int .i64 mm.high, .int .i64 mm.since, .int .u16 mm.off.seq, .int .u32 mm.off.time, .int .u16 mm.off.pic, .int .u8 mm.off.tl0, .int .u16 mm.out.seq, .int .u32 mm.out.time, .int .u16 mm.out.pic, .int .u8 mm.out.tl0]), (.agg #[.int .u16 nn.seq, .int .u32 nn.time, .int .u16 nn.pic, .int .u8 nn.tl0])]), (.tuple #[(.agg #[.bool mm.on, .int .i64 mm.high, .int .i64 mm.since, .int .u16 mm.off.seq, .int .u32 mm.off.time, .int .u16 mm.off.pic, .int .u8 mm.off.tl0, .int .u16 mm.out.seq, .int .u32 mm.out.time, .int .u16 mm.out.pic, .int .u8 mm.out.tl0]), (.agg #[.int .u16 nn.seq, .int .u32 nn.time, .int .u16 nn.pic, .int .u8 nn.tl0])]), (.agg #[.bool mm.on, .int .i64 mm.high, .int .i64 mm.since, .int .u16 mm.off.seq, .int .u32 mm.off.time, .int .u16 mm.off.pic, .int .u8 mm.off.tl0, .int .u16 mm.out.seq, .int .u32 mm.out.time, .int .u16 mm.out.pic, .int .u8 mm.out.tl0]), (.agg #[.int .u16 nn.seq, .int .u32 nn.time, .int .u16 nn.pic, .int .u8 nn.tl0]), (.pointer (some ⟨g9, 0, none⟩)), (.pointer (some ⟨g10, 0, none⟩)), by kernel_rfl, fun _ => rfl, fun _ => rfl, fun _ => rfl, fun _ => rfl, fun _ => ⟨g9, rfl, lo9, (by simpa using lt9), fun h => four_far (z9 (listed_same h (by decide))) ((n9_10 e12 e0 _ _ rfl rfl)) (.int .u16 nn.seq) (.int .u32 nn.time) (.int .u16 nn.pic) (.int .u8 nn.tl0), fun h => four_far (y9 (listed_same h (by decide))) ((n9_10 e12 e0 _ _ rfl rfl)) (.int .u16 nn.seq) (.int .u32 nn.time) (.int .u16 nn.pic) (.int .u8 nn.tl0)⟩, fun h => listed_new (s9 (listed_old h (by decide))), fun _ => ⟨g10, rfl, lo10, (by simpa using lt10), fun h => absurd ((listed_now hun).symm.trans h) (by decide), fun _ => (Whole.four q (.int .u16 nn.seq) (.int .u32 nn.time) (.int .u16 nn.pic) (.int .u8 nn.tl0))⟩, fun _ => listed_new e0, fun h h' => n9_10 (listed_old h (by decide)) (listed_old h' (by decide))⟩
    · intro l a w hI hr
      obtain ⟨hsz, ⟨k0, k1, k2, k3, k4⟩, hB, t5, t6, t7, t8, t9, t10, rfl, c5, c6, c7, c8, c9, s9, c10, s10, n9_10⟩ := hI
      have k5 := done_listed (i := 5) (n := 13) hsz (by decide) rfl hr (by rw [show waitsFor _ _ 5 = [3, 4] from by kernel_rfl]; simp only [List.all_cons, List.all_nil, Bool.and_true, Bool.and_eq_true]; exact ⟨k3, k4⟩)
      have k6 := done_listed (i := 6) (n := 13) hsz (by decide) rfl hr (by rw [show waitsFor _ _ 6 = [5] from by kernel_rfl]; simp only [List.all_cons, List.all_nil, Bool.and_true, Bool.and_eq_true]; exact k5)
      have k7 := done_listed (i := 7) (n := 13) hsz (by decide) rfl hr (by rw [show waitsFor _ _ 7 = [6] from by kernel_rfl]; simp only [List.all_cons, List.all_nil, Bool.and_true, Bool.and_eq_true]; exact k6)
      have k8 := done_listed (i := 8) (n := 13) hsz (by decide) rfl hr (by rw [show waitsFor _ _ 8 = [6] from by kernel_rfl]; simp only [List.all_cons, List.all_nil, Bool.and_true, Bool.and_eq_true]; exact k6)
      have k9 := done_listed (i := 9) (n := 13) hsz (by decide) rfl hr (by rw [show waitsFor _ _ 9 = [] from by kernel_rfl]; rfl)
      have k10 := done_listed (i := 10) (n := 13) hsz (by decide) rfl hr (by rw [show waitsFor _ _ 10 = [] from by kernel_rfl]; rfl)
      have k11 := done_listed (i := 11) (n := 13) hsz (by decide) rfl hr (by rw [show waitsFor _ _ 11 = [9, 7, 5, 0, 1, 2, 3, 4, 5, 6, 7, 9, 10] from by kernel_rfl]; simp only [List.all_cons, List.all_nil, Bool.and_true, Bool.and_eq_true]; exact ⟨k9, k7, k5, k0, k1, k2, k3, k4, k5, k6, k7, k9, k10⟩)
      have k12 := done_listed (i := 12) (n := 13) hsz (by decide) rfl hr (by rw [show waitsFor _ _ 12 = [10, 8, 11, 0, 1, 2, 3, 4, 5, 6, 7, 8, 9, 10, 11] from by kernel_rfl]; simp only [List.all_cons, List.all_nil, Bool.and_true, Bool.and_eq_true]; exact ⟨k10, k8, k11, k0, k1, k2, k3, k4, k5, k6, k7, k8, k9, k10, k11⟩)
      obtain rfl := c5 k5
      obtain rfl := c6 k6
      obtain rfl := c7 k7
      obtain rfl := c8 k8
      obtain ⟨gs, rfl, los, _, _, Ws⟩ := c9 k9
      replace Ws := Ws k11
      obtain ⟨gn, rfl, lon, _, _, Wn⟩ := c10 k10
      replace Wn := Wn k12
      have nesn := n9_10 k9 k10 _ _ rfl rfl
      clear hr k0 k1 k2 k3 k4 k5 k6 k7 k8 k9 k10 k11 k12 s9 s10 n9_10 c5 c6 c7 c8 c9 c10
      subst ha0
      (try simp only [Act.put, List.getElem_toArray, List.getElem_cons_succ, List.getElem_cons_zero, List.setIfInBounds_toArray, List.set_cons_zero, List.set_cons_succ])
      go_wp2_with fail
      go_meet
      exact ⟨_, _, rfl, rfl, los, lon, nesn, Ws, Wn, hB⟩
    · refine ⟨rfl, ⟨rfl, rfl, rfl, rfl, rfl⟩, (Below.refl _ _).drew, a0.tmps.getD 12 undef, a0.tmps.getD 6 undef, a0.tmps.getD 13 undef, a0.tmps.getD 14 undef, a0.tmps.getD 4 undef, a0.tmps.getD 5 undef, ?_, fun h => absurd h (by decide), fun h => absurd h (by decide), fun h => absurd h (by decide), fun h => absurd h (by decide), fun h => absurd h (by decide), fun h => absurd h (by decide), fun h => absurd h (by decide), fun h => absurd h (by decide), fun h => absurd h (by decide)⟩
      subst ha0
      kernel_rfl
  case rest =>
    obtain ⟨g1_1, g2_1, rfl, rfl, los1, lon1, nesn, Ts, Tn, bq⟩ := hcut
    obtain ⟨wc1, rfl⟩ : ∃ wd : World, wd = wc := ⟨_, rfl⟩
    have SGc1 := (PG.out).below bq PG.out.lt
    have SDc1 := (PD.out).below bq PD.out.lt
    have SIc1 := (PI.out).below bq PI.out.lt
    have SRc1 := (PR.out).below bq PR.out.lt
    have Ssc1 := Ts
    have Snc1 := Tn
    have HBc1 := Lib.hid (PB.out.trans (bq.mono PB.out.size))
    clear K6 bq PG PD PI PR Ts Tn PB
    have lGc1 := SGc1.lt
    have lDc1 := SDc1.lt
    have lIc1 := SIc1.lt
    have lRc1 := SRc1.lt
    have lsc1 := Ssc1.lt
    have lnc1 := Snc1.lt
    have Gc1_0 := SGc1.cell 0
    have fGc1_0 := SGc1.free 0
    have Gc1_1 := SGc1.cell 1
    have fGc1_1 := SGc1.free 1
    have Gc1_2 := SGc1.cell 2
    have fGc1_2 := SGc1.free 2
    have Gc1_3 := SGc1.cell 3
    have fGc1_3 := SGc1.free 3
    have Gc1_4 := SGc1.cell 4
    have fGc1_4 := SGc1.free 4
    have Gc1_5 := SGc1.cell 5
    have fGc1_5 := SGc1.free 5
    have Gc1_6 := SGc1.cell 6
    have fGc1_6 := SGc1.free 6
    have Gc1_7 := SGc1.cell 7
    have fGc1_7 := SGc1.free 7
    have Gc1_8 := SGc1.cell 8
    have fGc1_8 := SGc1.free 8
    have Gc1_9 := SGc1.cell 9
    have fGc1_9 := SGc1.free 9
    have Gc1_10 := SGc1.cell 10
    have fGc1_10 := SGc1.free 10
    have Gc1_11 := SGc1.cell 11
    have fGc1_11 := SGc1.free 11
    have Gc1_12 := SGc1.cell 12
    have fGc1_12 := SGc1.free 12
    have Gc1_13 := SGc1.cell 13
    have fGc1_13 := SGc1.free 13
    have Gc1_14 := SGc1.cell 14
    have fGc1_14 := SGc1.free 14
    have Gc1_15 := SGc1.cell 15
    have fGc1_15 := SGc1.free 15
    have Gc1_16 := SGc1.cell 16
    have fGc1_16 := SGc1.free 16
    have Gc1_17 := SGc1.cell 17
    have fGc1_17 := SGc1.free 17
    have Gc1_18 := SGc1.cell 18
    have fGc1_18 := SGc1.free 18
    have Gc1_19 := SGc1.cell 19
    have fGc1_19 := SGc1.free 19
    have Gc1_20 := SGc1.cell 20
    have fGc1_20 := SGc1.free 20
    have Gc1_21 := SGc1.cell 21
    have fGc1_21 := SGc1.free 21
    have Dc1_0 := SDc1.cell 0
    have sc1_0 := Ssc1.cell 0
    have sc1_1 := Ssc1.cell 1
    have sc1_2 := Ssc1.cell 2
    have sc1_3 := Ssc1.cell 3
    have sc1_4 := Ssc1.cell 4
    have sc1_5 := Ssc1.cell 5
    have sc1_6 := Ssc1.cell 6
    have sc1_7 := Ssc1.cell 7
    have sc1_8 := Ssc1.cell 8
    have sc1_9 := Ssc1.cell 9
    have sc1_10 := Ssc1.cell 10
    have nc1_0 := Snc1.cell 0
    have nc1_1 := Snc1.cell 1
    have nc1_2 := Snc1.cell 2
    have nc1_3 := Snc1.cell 3
    have Rc1_0 := SRc1.cell 0
    have fRc1_0 := SRc1.free 0
    have Rc1_1 := SRc1.cell 1
    have fRc1_1 := SRc1.free 1
    have Rc1_2 := SRc1.cell 2
    have fRc1_2 := SRc1.free 2
    have Rc1_3 := SRc1.cell 3
    have fRc1_3 := SRc1.free 3
    replace SGc1 := Lib.hid SGc1
    replace SDc1 := Lib.hid SDc1
    replace SIc1 := Lib.hid SIc1
    replace SRc1 := Lib.hid SRc1
    replace Ssc1 := Lib.hid Ssc1
    replace Snc1 := Lib.hid Snc1
    go_wp2_with fail
    have HG1 := (show Whole wc1 g 78 (dcs ss pk m gs c0 c1 c2 c3 c4) from SGc1.out)
    have HG2 := nums_set HG1 mm
    have HG3 := HG2
    have hne : g ≠ w.heap.size := by omega
    exact bodyPost_ret (v := .tuple #[.agg #[.int .u16 nn.seq, .int .u32 nn.time, .int .u16 nn.pic, .int .u8 nn.tl0], .bool true]) (by simp [results, Try.results58, go_sem, Rc1_0, Rc1_1, Rc1_2, Rc1_3]) rfl ⟨rfl, four_far HG3 hne _ _ _ _, but_four (nums_but (but_of_below (S := fun k => k = g) HBc1.out) (.inl rfl) mm) (Nat.le_refl _) _ _ _ _⟩
set_option maxHeartbeats 6400000 in
theorem deed_send (ss : Nat) (pk : Cs) (m : Mst) (gs c0 c1 c2 c3 c4 g bd : Nat) (bi : Nat) (x : Mn) (hm : m.Fit 1000000000000000) (hx : x.Fit) (w : World) (hW : Whole w g 78 (dcs ss pk m gs c0 c1 c2 c3 c4)) (hd : Whole w bd 26 #[.pointer (some ⟨g, 0, none⟩)]) (hi : Whole w bi 74 x.cells) (hc : c0 + c1 + c2 + c3 + c4 ≤ 1000000000) :
    Calls Try.prog 60 #[.pointer (some ⟨bd, 0, none⟩), .pointer (some ⟨bi, 0, none⟩)] w (Deed (m.told x) (m.tells x) g (dcs ss pk (m.sendS x) gs c0 c1 c2 (if m.tells x = true then c3 else c3 + 1) c4) w) := by
  have C := fun w => msend_any m x hm hx w
  obtain ⟨mm, hmm⟩ : ∃ z, m.sendS x = z := ⟨_, rfl⟩
  obtain ⟨nn, hnn⟩ : ∃ z, m.told x = z := ⟨_, rfl⟩
  obtain ⟨tb, htb⟩ : ∃ z, m.tells x = z := ⟨_, rfl⟩
  rw [hmm, hnn, htb] at C ⊢
  clear htb
  obtain ⟨cc, hcc⟩ : ∃ z, (if tb = true then c3 else c3 + 1) = z := ⟨_, rfl⟩
  rw [hcc]
  have HCC := Lib.hid hcc
  clear hcc
  dsimp only [Mst.cells, Mn.cells] at C
  replace C := Lib.hid C
  clear hmm hnn hm hx
  have hW : Whole w g 78 #[.int .u32 (ss : Int), .bool pk.on, .int .i64 pk.src, .int .i64 pk.lay, .int .i64 pk.tid, .bool m.on, .int .i64 m.high, .int .i64 m.since, .int .u16 m.off.seq, .int .u32 m.off.time, .int .u16 m.off.pic, .int .u8 m.off.tl0, .int .u16 m.out.seq, .int .u32 m.out.time, .int .u16 m.out.pic, .int .u8 m.out.tl0, .pointer (some ⟨gs, 0, none⟩), .int .i64 (c0 : Int), .int .i64 (c1 : Int), .int .i64 (c2 : Int), .int .i64 (c3 : Int), .int .i64 (c4 : Int)] := hW
  have hi : Whole w bi 74 #[.int .u16 x.seq, .int .u32 x.time, .int .u16 x.pic, .int .u8 x.tl0] := hi
  have hgl := hW.lt
  have hbl := hd.lt
  have hil := hi.lt
  have hw1 : IntKind.i64.wrap ((c3 : Int) + 1) = c3 + 1 := IntWalk.i64_in _ (by omega)
  go_enter Try.func60, Try.ntmps60
  go_upto_region 1 with fail
  obtain ⟨wo, hwo⟩ : ∃ wo, wo = (w.alloc (.cells #[.int .u16 0, .int .u32 0, .int .u16 0, .int .u8 0] 74)) := ⟨_, rfl⟩
  have NR : Whole (w.alloc (.cells #[.int .u16 0, .int .u32 0, .int .u16 0, .int .u8 0] 74)) (w.heap.size) 74 #[.int .u16 0, .int .u32 0, .int .u16 0, .int .u8 0] := by have := Whole.new w 74 #[.int .u16 0, .int .u32 0, .int .u16 0, .int .u8 0]; first | with_reducible exact this | simpa using this
  have PG := (hW.alloc (.cells #[.int .u16 0, .int .u32 0, .int .u16 0, .int .u8 0] 74))
  have PD := (hd.alloc (.cells #[.int .u16 0, .int .u32 0, .int .u16 0, .int .u8 0] 74))
  have PI := (hi.alloc (.cells #[.int .u16 0, .int .u32 0, .int .u16 0, .int .u8 0] 74))
  have PR := NR
  have PB := ((Below.refl w.heap.size w).alloc ((Below.refl w.heap.size w)).size (.cells #[.int .u16 0, .int .u32 0, .int .u16 0, .int .u8 0] 74))
  rw [← hwo] at PG PD PI PR PB ⊢
  clear hwo
  clear hW hd hi NR
  have pG1 := PG.lt
  have pD1 := PD.lt
  have pI1 := PI.lt
  have pR1 := PR.lt
  replace PG := Lib.hid PG
  replace PD := Lib.hid PD
  replace PI := Lib.hid PI
  replace PR := Lib.hid PR
  replace PB := Lib.hid PB
  have K6 := Lib.hid (fun w' (b' : Below wo.heap.size wo w') => show (fun w' => w'.cell? ⟨bd, 0, none⟩ = some (.pointer (some ⟨g, 0, none⟩)) ∧ w'.cell? ⟨g, 0, none⟩ = some (.int .u32 (ss : Int)) ∧ w'.cell? ⟨g, 1, none⟩ = some (.bool pk.on) ∧ w'.cell? ⟨g, 2, none⟩ = some (.int .i64 pk.src) ∧ w'.cell? ⟨g, 3, none⟩ = some (.int .i64 pk.lay) ∧ w'.cell? ⟨g, 4, none⟩ = some (.int .i64 pk.tid) ∧ w'.cell? ⟨g, 5, none⟩ = some (.bool m.on) ∧ w'.cell? ⟨g, 6, none⟩ = some (.int .i64 m.high) ∧ w'.cell? ⟨g, 7, none⟩ = some (.int .i64 m.since) ∧ w'.cell? ⟨g, 8, none⟩ = some (.int .u16 m.off.seq) ∧ w'.cell? ⟨g, 9, none⟩ = some (.int .u32 m.off.time) ∧ w'.cell? ⟨g, 10, none⟩ = some (.int .u16 m.off.pic) ∧ w'.cell? ⟨g, 11, none⟩ = some (.int .u8 m.off.tl0) ∧ w'.cell? ⟨g, 12, none⟩ = some (.int .u16 m.out.seq) ∧ w'.cell? ⟨g, 13, none⟩ = some (.int .u32 m.out.time) ∧ w'.cell? ⟨g, 14, none⟩ = some (.int .u16 m.out.pic) ∧ w'.cell? ⟨g, 15, none⟩ = some (.int .u8 m.out.tl0) ∧ w'.cell? ⟨g, 16, none⟩ = some (.pointer (some ⟨gs, 0, none⟩)) ∧ w'.cell? ⟨g, 17, none⟩ = some (.int .i64 (c0 : Int)) ∧ w'.cell? ⟨g, 18, none⟩ = some (.int .i64 (c1 : Int)) ∧ w'.cell? ⟨g, 19, none⟩ = some (.int .i64 (c2 : Int)) ∧ w'.cell? ⟨g, 20, none⟩ = some (.int .i64 (c3 : Int)) ∧ w'.cell? ⟨g, 21, none⟩ = some (.int .i64 (c4 : Int)) ∧ w'.cell? ⟨bi, 0, none⟩ = some (.int .u16 x.seq) ∧ w'.cell? ⟨bi, 1, none⟩ = some (.int .u32 x.time) ∧ w'.cell? ⟨bi, 2, none⟩ = some (.int .u16 x.pic) ∧ w'.cell? ⟨bi, 3, none⟩ = some (.int .u8 x.tl0)) w' from ⟨(PD.out.below b' PD.out.lt).cell 0, (PG.out.below b' PG.out.lt).cell 0, (PG.out.below b' PG.out.lt).cell 1, (PG.out.below b' PG.out.lt).cell 2, (PG.out.below b' PG.out.lt).cell 3, (PG.out.below b' PG.out.lt).cell 4, (PG.out.below b' PG.out.lt).cell 5, (PG.out.below b' PG.out.lt).cell 6, (PG.out.below b' PG.out.lt).cell 7, (PG.out.below b' PG.out.lt).cell 8, (PG.out.below b' PG.out.lt).cell 9, (PG.out.below b' PG.out.lt).cell 10, (PG.out.below b' PG.out.lt).cell 11, (PG.out.below b' PG.out.lt).cell 12, (PG.out.below b' PG.out.lt).cell 13, (PG.out.below b' PG.out.lt).cell 14, (PG.out.below b' PG.out.lt).cell 15, (PG.out.below b' PG.out.lt).cell 16, (PG.out.below b' PG.out.lt).cell 17, (PG.out.below b' PG.out.lt).cell 18, (PG.out.below b' PG.out.lt).cell 19, (PG.out.below b' PG.out.lt).cell 20, (PG.out.below b' PG.out.lt).cell 21, (PI.out.below b' PI.out.lt).cell 0, (PI.out.below b' PI.out.lt).cell 1, (PI.out.below b' PI.out.lt).cell 2, (PI.out.below b' PI.out.lt).cell 3⟩)
  go_cut [4, 5, 6] (fun p1 p2 x6 wx => x6 = .bool tb ∧ ∃ g1 g2 : Nat, p1 = .pointer (some ⟨g1, 0, none⟩) ∧ p2 = .pointer (some ⟨g2, 0, none⟩) ∧ wo.heap.size ≤ g1 ∧ wo.heap.size ≤ g2 ∧ g1 ≠ g2 ∧ Whole wx g1 76 #[.bool mm.on, .int .i64 mm.high, .int .i64 mm.since, .int .u16 mm.off.seq, .int .u32 mm.off.time, .int .u16 mm.off.pic, .int .u8 mm.off.tl0, .int .u16 mm.out.seq, .int .u32 mm.out.time, .int .u16 mm.out.pic, .int .u8 mm.out.tl0] ∧ Whole wx g2 74 #[.int .u16 nn.seq, .int .u32 nn.time, .int .u16 nn.pic, .int .u8 nn.tl0] ∧ Below wo.heap.size wo wx)
  case first =>
    refine wp_region_X (S := fun w' => w'.cell? ⟨bd, 0, none⟩ = some (.pointer (some ⟨g, 0, none⟩)) ∧ w'.cell? ⟨g, 0, none⟩ = some (.int .u32 (ss : Int)) ∧ w'.cell? ⟨g, 1, none⟩ = some (.bool pk.on) ∧ w'.cell? ⟨g, 2, none⟩ = some (.int .i64 pk.src) ∧ w'.cell? ⟨g, 3, none⟩ = some (.int .i64 pk.lay) ∧ w'.cell? ⟨g, 4, none⟩ = some (.int .i64 pk.tid) ∧ w'.cell? ⟨g, 5, none⟩ = some (.bool m.on) ∧ w'.cell? ⟨g, 6, none⟩ = some (.int .i64 m.high) ∧ w'.cell? ⟨g, 7, none⟩ = some (.int .i64 m.since) ∧ w'.cell? ⟨g, 8, none⟩ = some (.int .u16 m.off.seq) ∧ w'.cell? ⟨g, 9, none⟩ = some (.int .u32 m.off.time) ∧ w'.cell? ⟨g, 10, none⟩ = some (.int .u16 m.off.pic) ∧ w'.cell? ⟨g, 11, none⟩ = some (.int .u8 m.off.tl0) ∧ w'.cell? ⟨g, 12, none⟩ = some (.int .u16 m.out.seq) ∧ w'.cell? ⟨g, 13, none⟩ = some (.int .u32 m.out.time) ∧ w'.cell? ⟨g, 14, none⟩ = some (.int .u16 m.out.pic) ∧ w'.cell? ⟨g, 15, none⟩ = some (.int .u8 m.out.tl0) ∧ w'.cell? ⟨g, 16, none⟩ = some (.pointer (some ⟨gs, 0, none⟩)) ∧ w'.cell? ⟨g, 17, none⟩ = some (.int .i64 (c0 : Int)) ∧ w'.cell? ⟨g, 18, none⟩ = some (.int .i64 (c1 : Int)) ∧ w'.cell? ⟨g, 19, none⟩ = some (.int .i64 (c2 : Int)) ∧ w'.cell? ⟨g, 20, none⟩ = some (.int .i64 (c3 : Int)) ∧ w'.cell? ⟨g, 21, none⟩ = some (.int .i64 (c4 : Int)) ∧ w'.cell? ⟨bi, 0, none⟩ = some (.int .u16 x.seq) ∧ w'.cell? ⟨bi, 1, none⟩ = some (.int .u32 x.time) ∧ w'.cell? ⟨bi, 2, none⟩ = some (.int .u16 x.pic) ∧ w'.cell? ⟨bi, 3, none⟩ = some (.int .u8 x.tl0)) [] (by kernel_rfl) (K6.out _ (Below.refl _ _).drew) (fun hHeld0 => ?_)
    refine wpAnyX_take (i := 0) [] (v := ?_) rfl (by kernel_rfl) (by kernel_rfl) (by kernel_rfl) (by kernel_rfl) (fun _ _ _ h => h) (Or.inl ⟨by kernel_rfl, ?_⟩) (by assumption) ?_
    rotate_left 1
    · (intro w hSw; obtain ⟨m0, m1, m2, m3, m4, m5, m6, m7, m8, m9, m10, m11, m12, m13, m14, m15, m16, m17, m18, m19, m20, m21, m22, m23, m24, m25, m26⟩ := hSw; go_simp; try (with_reducible rfl))
    (try simp only [Act.put, List.getElem_toArray, List.getElem_cons_succ, List.getElem_cons_zero, List.setIfInBounds_toArray, List.set_cons_zero, List.set_cons_succ])
    refine wpAnyX_take (i := 1) [] (v := ?_) rfl (by kernel_rfl) (by kernel_rfl) (by kernel_rfl) (by kernel_rfl) (fun _ _ _ h => h) (Or.inl ⟨by kernel_rfl, ?_⟩) (by assumption) ?_
    rotate_left 1
    · (intro w hSw; obtain ⟨m0, m1, m2, m3, m4, m5, m6, m7, m8, m9, m10, m11, m12, m13, m14, m15, m16, m17, m18, m19, m20, m21, m22, m23, m24, m25, m26⟩ := hSw; go_simp; try (with_reducible rfl))
    (try simp only [Act.put, List.getElem_toArray, List.getElem_cons_succ, List.getElem_cons_zero, List.setIfInBounds_toArray, List.set_cons_zero, List.set_cons_succ])
    refine wpAnyX_take (i := 2) [] (v := ?_) rfl (by kernel_rfl) (by kernel_rfl) (by kernel_rfl) (by kernel_rfl) (fun _ _ _ h => h) (Or.inl ⟨by kernel_rfl, ?_⟩) (by assumption) ?_
    rotate_left 1
    · (intro w hSw; obtain ⟨m0, m1, m2, m3, m4, m5, m6, m7, m8, m9, m10, m11, m12, m13, m14, m15, m16, m17, m18, m19, m20, m21, m22, m23, m24, m25, m26⟩ := hSw; go_simp; try (with_reducible rfl))
    (try simp only [Act.put, List.getElem_toArray, List.getElem_cons_succ, List.getElem_cons_zero, List.setIfInBounds_toArray, List.set_cons_zero, List.set_cons_succ])
    refine wpAnyX_take (i := 3) [] (v := ?_) rfl (by kernel_rfl) (by kernel_rfl) (by kernel_rfl) (by kernel_rfl) (fun _ _ _ h => h) (Or.inl ⟨by kernel_rfl, ?_⟩) (by assumption) ?_
    rotate_left 1
    · (intro w hSw; obtain ⟨m0, m1, m2, m3, m4, m5, m6, m7, m8, m9, m10, m11, m12, m13, m14, m15, m16, m17, m18, m19, m20, m21, m22, m23, m24, m25, m26⟩ := hSw; go_simp; try (with_reducible rfl))
    (try simp only [Act.put, List.getElem_toArray, List.getElem_cons_succ, List.getElem_cons_zero, List.setIfInBounds_toArray, List.set_cons_zero, List.set_cons_succ])
    refine wpAnyX_take (i := 4) [] (v := ?_) rfl (by kernel_rfl) (by kernel_rfl) (by kernel_rfl) (by kernel_rfl) (fun _ _ _ h => h) (Or.inl ⟨by kernel_rfl, ?_⟩) (by assumption) ?_
    rotate_left 1
    · (intro w hSw; obtain ⟨m0, m1, m2, m3, m4, m5, m6, m7, m8, m9, m10, m11, m12, m13, m14, m15, m16, m17, m18, m19, m20, m21, m22, m23, m24, m25, m26⟩ := hSw; go_simp; try (with_reducible rfl))
    (try simp only [Act.put, List.getElem_toArray, List.getElem_cons_succ, List.getElem_cons_zero, List.setIfInBounds_toArray, List.set_cons_zero, List.set_cons_succ])
    refine wpAnyX_named (fun a0 ha0 => ?_)
    refine wpAnyX_inv (fun l a w' => l.size = 15 ∧ (l.getD 0 false = true ∧ l.getD 1 false = true ∧ l.getD 2 false = true ∧ l.getD 3 false = true ∧ l.getD 4 false = true) ∧ Below wo.heap.size wo w' ∧ ∃ t5 t6 t7 t8 t9 t10 t11 t14 : Value, a = ((((((((a0.put (some 13) t5).put (some 7) t6).put (some 14) t7).put (some 15) t8).put (some 16) t9).put (some 4) t10).put (some 5) t11).put (some 6) t14) ∧ (l.getD 5 false = true → t5 = (.tuple #[(.agg #[.bool mm.on, .int .i64 mm.high, .int .i64 mm.since, .int .u16 mm.off.seq, .int .u32 mm.off.time, .int .u16 mm.off.pic, .int .u8 mm.off.tl0, .int .u16 mm.out.seq, .int .u32 mm.out.time, .int .u16 mm.out.pic, .int .u8 mm.out.tl0]), (.agg #[.int .u16 nn.seq, .int .u32 nn.time, .int .u16 nn.pic, .int .u8 nn.tl0]), .bool tb])) ∧ (l.getD 6 false = true → t6 = (.tuple #[(.agg #[.bool mm.on, .int .i64 mm.high, .int .i64 mm.since, .int .u16 mm.off.seq, .int .u32 mm.off.time, .int .u16 mm.off.pic, .int .u8 mm.off.tl0, .int .u16 mm.out.seq, .int .u32 mm.out.time, .int .u16 mm.out.pic, .int .u8 mm.out.tl0]), (.agg #[.int .u16 nn.seq, .int .u32 nn.time, .int .u16 nn.pic, .int .u8 nn.tl0]), .bool tb])) ∧ (l.getD 7 false = true → t7 = (.agg #[.bool mm.on, .int .i64 mm.high, .int .i64 mm.since, .int .u16 mm.off.seq, .int .u32 mm.off.time, .int .u16 mm.off.pic, .int .u8 mm.off.tl0, .int .u16 mm.out.seq, .int .u32 mm.out.time, .int .u16 mm.out.pic, .int .u8 mm.out.tl0])) ∧ (l.getD 8 false = true → t8 = (.agg #[.int .u16 nn.seq, .int .u32 nn.time, .int .u16 nn.pic, .int .u8 nn.tl0])) ∧ (l.getD 9 false = true → t9 = (.bool tb)) ∧ (l.getD 10 false = true → ∃ g, t10 = .pointer (some ⟨g, 0, none⟩) ∧ wo.heap.size ≤ g ∧ g < w'.heap.size ∧ (l.getD 12 false = false → Whole w' g 76 #[.bool false, .int .i64 0, .int .i64 0, .int .u16 0, .int .u32 0, .int .u16 0, .int .u8 0, .int .u16 0, .int .u32 0, .int .u16 0, .int .u8 0]) ∧ (l.getD 12 false = true → Whole w' g 76 #[.bool mm.on, .int .i64 mm.high, .int .i64 mm.since, .int .u16 mm.off.seq, .int .u32 mm.off.time, .int .u16 mm.off.pic, .int .u8 mm.off.tl0, .int .u16 mm.out.seq, .int .u32 mm.out.time, .int .u16 mm.out.pic, .int .u8 mm.out.tl0])) ∧ (l.getD 12 false = true → l.getD 10 false = true) ∧ (l.getD 11 false = true → ∃ g, t11 = .pointer (some ⟨g, 0, none⟩) ∧ wo.heap.size ≤ g ∧ g < w'.heap.size ∧ (l.getD 13 false = false → Whole w' g 74 #[.int .u16 0, .int .u32 0, .int .u16 0, .int .u8 0]) ∧ (l.getD 13 false = true → Whole w' g 74 #[.int .u16 nn.seq, .int .u32 nn.time, .int .u16 nn.pic, .int .u8 nn.tl0])) ∧ (l.getD 13 false = true → l.getD 11 false = true) ∧ (l.getD 14 false = true → t14 = (.bool tb)) ∧ (l.getD 10 false = true → l.getD 11 false = true → ∀ g g', t10 = .pointer (some ⟨g, 0, none⟩) → t11 = .pointer (some ⟨g', 0, none⟩) → g ≠ g')) (fun l a w hI => K6.out _ hI.2.2.1) ?_ ?_ _ _ _ _ (by decide) ?_
    · intro l a w hI i hi
      obtain ⟨hsz, ⟨k0, k1, k2, k3, k4⟩, hB, t5, t6, t7, t8, t9, t10, t11, t14, rfl, c5, c6, c7, c8, c9, c10, s10, c11, s11, c14, n10_11⟩ := hI
      obtain ⟨hun, hin, hd⟩ := ready_split (n := 15) rfl hi
      clear hi
      rw [show List.range 15 = [0, 1, 2, 3, 4, 5, 6, 7, 8, 9, 10, 11, 12, 13, 14] from rfl] at hin
      simp only [List.mem_cons, List.not_mem_nil, or_false] at hin
      rcases hin with rfl | rfl | rfl | rfl | rfl | rfl | rfl | rfl | rfl | rfl | rfl | rfl | rfl | rfl | rfl
      · exact absurd (was_listed hun k0) id
      · exact absurd (was_listed hun k1) id
      · exact absurd (was_listed hun k2) id
      · exact absurd (was_listed hun k3) id
      · exact absurd (was_listed hun k4) id
      · have hd := waits_as (L := [3, 4]) (by kernel_rfl) hd
        simp only [List.all_cons, List.all_nil, Bool.and_true, Bool.and_eq_true] at hd
        obtain ⟨e0, e1⟩ := hd
        refine inv_op rfl (fun K hK => ?_)
        subst ha0
        (try simp only [Act.put, List.getElem_toArray, List.getElem_cons_succ, List.getElem_cons_zero, List.setIfInBounds_toArray, List.set_cons_zero, List.set_cons_succ])
        go_simp
        go_wp2_with (refine (C.out _).mono ?_; rintro e v ⟨rfl, b1⟩)
        refine hK.out _ _ ?_
        exact ⟨by simp [hsz], ⟨listed_new k0, listed_new k1, listed_new k2, listed_new k3, listed_new k4⟩, (hB.trans (b1.mono hB.size)), (.tuple #[(.agg #[.bool mm.on, .int .i64 mm.high, .int .i64 mm.since, .int .u16 mm.off.seq, .int .u32 mm.off.time, .int .u16 mm.off.pic, .int .u8 mm.off.tl0, .int .u16 mm.out.seq, .int .u32 mm.out.time, .int .u16 mm.out.pic, .int .u8 mm.out.tl0]), (.agg #[.int .u16 nn.seq, .int .u32 nn.time, .int .u16 nn.pic, .int .u8 nn.tl0]), .bool tb]), t6, t7, t8, t9, t10, t11, t14, by kernel_rfl, fun _ => rfl, fun h => c6 (listed_old h (by decide)), fun h => c7 (listed_old h (by decide)), fun h => c8 (listed_old h (by decide)), fun h => c9 (listed_old h (by decide)), fun h => by obtain ⟨g, hg, h1, h2, h3, h4⟩ := c10 (listed_old h (by decide)); exact ⟨g, hg, h1, Nat.lt_of_lt_of_le h2 b1.size, fun h => (h3 (listed_same h (by decide))).below b1 (h3 (listed_same h (by decide))).lt, fun h => (h4 (listed_same h (by decide))).below b1 (h4 (listed_same h (by decide))).lt⟩, fun h => listed_new (s10 (listed_old h (by decide))), fun h => by obtain ⟨g, hg, h1, h2, h3, h4⟩ := c11 (listed_old h (by decide)); exact ⟨g, hg, h1, Nat.lt_of_lt_of_le h2 b1.size, fun h => (h3 (listed_same h (by decide))).below b1 (h3 (listed_same h (by decide))).lt, fun h => (h4 (listed_same h (by decide))).below b1 (h4 (listed_same h (by decide))).lt⟩, fun h => listed_new (s11 (listed_old h (by decide))), fun h => c14 (listed_old h (by decide)), fun h h' => n10_11 (listed_old h (by decide)) (listed_old h' (by decide))⟩
      · have hd := waits_as (L := [5]) (by kernel_rfl) hd
        simp only [List.all_cons, List.all_nil, Bool.and_true, Bool.and_eq_true] at hd
        have e0 := hd
        obtain rfl := c5 e0
        refine inv_op rfl (fun K hK => ?_)
        subst ha0
        (try simp only [Act.put, List.getElem_toArray, List.getElem_cons_succ, List.getElem_cons_zero, List.setIfInBounds_toArray, List.set_cons_zero, List.set_cons_succ])
        go_simp
        refine hK.out _ _ ?_
        exact ⟨by simp [hsz], ⟨listed_new k0, listed_new k1, listed_new k2, listed_new k3, listed_new k4⟩, hB, (.tuple #[(.agg #[.bool mm.on, .int .i64 mm.high, .int .i64 mm.since, .int .u16 mm.off.seq, .int .u32 mm.off.time, .int .u16 mm.off.pic, .int .u8 mm.off.tl0, .int .u16 mm.out.seq, .int .u32 mm.out.time, .int .u16 mm.out.pic, .int .u8 mm.out.tl0]), (.agg #[.int .u16 nn.seq, .int .u32 nn.time, .int .u16 nn.pic, .int .u8 nn.tl0]), .bool tb]), (.tuple #[(.agg #[.bool mm.on, .int .i64 mm.high, .int .i64 mm.since, .int .u16 mm.off.seq, .int .u32 mm.off.time, .int .u16 mm.off.pic, .int .u8 mm.off.tl0, .int .u16 mm.out.seq, .int .u32 mm.out.time, .int .u16 mm.out.pic, .int .u8 mm.out.tl0]), (.agg #[.int .u16 nn.seq, .int .u32 nn.time, .int .u16 nn.pic, .int .u8 nn.tl0]), .bool tb]), t7, t8, t9, t10, t11, t14, by kernel_rfl, fun _ => rfl, fun _ => rfl, fun h => c7 (listed_old h (by decide)), fun h => c8 (listed_old h (by decide)), fun h => c9 (listed_old h (by decide)), fun h => by obtain ⟨g, hg, h1, h2, h3, h4⟩ := c10 (listed_old h (by decide)); exact ⟨g, hg, h1, h2, fun h => h3 (listed_same h (by decide)), fun h => h4 (listed_same h (by decide))⟩, fun h => listed_new (s10 (listed_old h (by decide))), fun h => by obtain ⟨g, hg, h1, h2, h3, h4⟩ := c11 (listed_old h (by decide)); exact ⟨g, hg, h1, h2, fun h => h3 (listed_same h (by decide)), fun h => h4 (listed_same h (by decide))⟩, fun h => listed_new (s11 (listed_old h (by decide))), fun h => c14 (listed_old h (by decide)), fun h h' => n10_11 (listed_old h (by decide)) (listed_old h' (by decide))⟩
      · have hd := waits_as (L := [6]) (by kernel_rfl) hd
        simp only [List.all_cons, List.all_nil, Bool.and_true, Bool.and_eq_true] at hd
        have e0 := hd
        obtain rfl := c6 e0
        refine inv_op rfl (fun K hK => ?_)
        subst ha0
        (try simp only [Act.put, List.getElem_toArray, List.getElem_cons_succ, List.getElem_cons_zero, List.setIfInBounds_toArray, List.set_cons_zero, List.set_cons_succ])
        go_simp
        refine hK.out _ _ ?_
        exact ⟨by simp [hsz], ⟨listed_new k0, listed_new k1, listed_new k2, listed_new k3, listed_new k4⟩, hB, t5, (.tuple #[(.agg #[.bool mm.on, .int .i64 mm.high, .int .i64 mm.since, .int .u16 mm.off.seq, .int .u32 mm.off.time, .int .u16 mm.off.pic, .int .u8 mm.off.tl0, .int .u16 mm.out.seq, .int .u32 mm.out.time, .int .u16 mm.out.pic, .int .u8 mm.out.tl0]), (.agg #[.int .u16 nn.seq, .int .u32 nn.time, .int .u16 nn.pic, .int .u8 nn.tl0]), .bool tb]), (.agg #[.bool mm.on, .int .i64 mm.high, .int .i64 mm.since, .int .u16 mm.off.seq, .int .u32 mm.off.time, .int .u16 mm.off.pic, .int .u8 mm.off.tl0, .int .u16 mm.out.seq, .int .u32 mm.out.time, .int .u16 mm.out.pic, .int .u8 mm.out.tl0]), t8, t9, t10, t11, t14, by kernel_rfl, fun h => c5 (listed_old h (by decide)), fun _ => rfl, fun _ => rfl, fun h => c8 (listed_old h (by decide)), fun h => c9 (listed_old h (by decide)), fun h => by obtain ⟨g, hg, h1, h2, h3, h4⟩ := c10 (listed_old h (by decide)); exact ⟨g, hg, h1, h2, fun h => h3 (listed_same h (by decide)), fun h => h4 (listed_same h (by decide))⟩, fun h => listed_new (s10 (listed_old h (by decide))), fun h => by obtain ⟨g, hg, h1, h2, h3, h4⟩ := c11 (listed_old h (by decide)); exact ⟨g, hg, h1, h2, fun h => h3 (listed_same h (by decide)), fun h => h4 (listed_same h (by decide))⟩, fun h => listed_new (s11 (listed_old h (by decide))), fun h => c14 (listed_old h (by decide)), fun h h' => n10_11 (listed_old h (by decide)) (listed_old h' (by decide))⟩
      · have hd := waits_as (L := [6]) (by kernel_rfl) hd
        simp only [List.all_cons, List.all_nil, Bool.and_true, Bool.and_eq_true] at hd
        have e0 := hd
        obtain rfl := c6 e0
        refine inv_op rfl (fun K hK => ?_)
        subst ha0
        (try simp only [Act.put, List.getElem_toArray, List.getElem_cons_succ, List.getElem_cons_zero, List.setIfInBounds_toArray, List.set_cons_zero, List.set_cons_succ])
        go_simp
        refine hK.out _ _ ?_
        exact ⟨by simp [hsz], ⟨listed_new k0, listed_new k1, listed_new k2, listed_new k3, listed_new k4⟩, hB, t5, (.tuple #[(.agg #[.bool mm.on, .int .i64 mm.high, .int .i64 mm.since, .int .u16 mm.off.seq, .int .u32 mm.off.time, .int .u16 mm.off.pic, .int .u8 mm.off.tl0, .int .u16 mm.out.seq, .int .u32 mm.out.time, .int .u16 mm.out.pic, .int .u8 mm.out.tl0]), (.agg #[.int .u16 nn.seq, .int .u32 nn.time, .int .u16 nn.pic, .int .u8 nn.tl0]), .bool tb]), t7, (.agg #[.int .u16 nn.seq, .int .u32 nn.time, .int .u16 nn.pic, .int .u8 nn.tl0]), t9, t10, t11, t14, by kernel_rfl, fun h => c5 (listed_old h (by decide)), fun _ => rfl, fun h => c7 (listed_old h (by decide)), fun _ => rfl, fun h => c9 (listed_old h (by decide)), fun h => by obtain ⟨g, hg, h1, h2, h3, h4⟩ := c10 (listed_old h (by decide)); exact ⟨g, hg, h1, h2, fun h => h3 (listed_same h (by decide)), fun h => h4 (listed_same h (by decide))⟩, fun h => listed_new (s10 (listed_old h (by decide))), fun h => by obtain ⟨g, hg, h1, h2, h3, h4⟩ := c11 (listed_old h (by decide)); exact ⟨g, hg, h1, h2, fun h => h3 (listed_same h (by decide)), fun h => h4 (listed_same h (by decide))⟩, fun h => listed_new (s11 (listed_old h (by decide))), fun h => c14 (listed_old h (by decide)), fun h h' => n10_11 (listed_old h (by decide)) (listed_old h' (by decide))⟩
      · have hd := waits_as (L := [6]) (by kernel_rfl) hd
        simp only [List.all_cons, List.all_nil, Bool.and_true, Bool.and_eq_true] at hd
        have e0 := hd
        obtain rfl := c6 e0
        refine inv_op rfl (fun K hK => ?_)
        subst ha0
        (try simp only [Act.put, List.getElem_toArray, List.getElem_cons_succ, List.getElem_cons_zero, List.setIfInBounds_toArray, List.set_cons_zero, List.set_cons_succ])
        go_simp
        refine hK.out _ _ ?_
        exact ⟨by simp [hsz], ⟨listed_new k0, listed_new k1, listed_new k2, listed_new k3, listed_new k4⟩, hB, t5, (.tuple #[(.agg #[.bool mm.on, .int .i64 mm.high, .int .i64 mm.since, .int .u16 mm.off.seq, .int .u32 mm.off.time, .int .u16 mm.off.pic, .int .u8 mm.off.tl0, .int .u16 mm.out.seq, .int .u32 mm.out.time, .int .u16 mm.out.pic, .int .u8 mm.out.tl0]), (.agg #[.int .u16 nn.seq, .int .u32 nn.time, .int .u16 nn.pic, .int .u8 nn.tl0]), .bool tb]), t7, t8, (.bool tb), t10, t11, t14, by kernel_rfl, fun h => c5 (listed_old h (by decide)), fun _ => rfl, fun h => c7 (listed_old h (by decide)), fun h => c8 (listed_old h (by decide)), fun _ => rfl, fun h => by obtain ⟨g, hg, h1, h2, h3, h4⟩ := c10 (listed_old h (by decide)); exact ⟨g, hg, h1, h2, fun h => h3 (listed_same h (by decide)), fun h => h4 (listed_same h (by decide))⟩, fun h => listed_new (s10 (listed_old h (by decide))), fun h => by obtain ⟨g, hg, h1, h2, h3, h4⟩ := c11 (listed_old h (by decide)); exact ⟨g, hg, h1, h2, fun h => h3 (listed_same h (by decide)), fun h => h4 (listed_same h (by decide))⟩, fun h => listed_new (s11 (listed_old h (by decide))), fun h => c14 (listed_old h (by decide)), fun h h' => n10_11 (listed_old h (by decide)) (listed_old h' (by decide))⟩
      · have hd := waits_as (L := []) (by kernel_rfl) hd
        simp only [List.all_cons, List.all_nil, Bool.and_true, Bool.and_eq_true] at hd
        refine inv_op rfl (fun K hK => ?_)
        subst ha0
        (try simp only [Act.put, List.getElem_toArray, List.getElem_cons_succ, List.getElem_cons_zero, List.setIfInBounds_toArray, List.set_cons_zero, List.set_cons_succ])
        go_simp
        refine hK.out _ _ ?_
        exact ⟨by simp [hsz], ⟨listed_new k0, listed_new k1, listed_new k2, listed_new k3, listed_new k4⟩, (hB.alloc hB.size (.cells #[.bool false, .int .i64 0, .int .i64 0, .int .u16 0, .int .u32 0, .int .u16 0, .int .u8 0, .int .u16 0, .int .u32 0, .int .u16 0, .int .u8 0] 76)), t5, t6, t7, t8, t9, (.pointer (some ⟨w.heap.size, 0, none⟩)), t11, t14, by kernel_rfl, fun h => c5 (listed_old h (by decide)), fun h => c6 (listed_old h (by decide)), fun h => c7 (listed_old h (by decide)), fun h => c8 (listed_old h (by decide)), fun h => c9 (listed_old h (by decide)), fun _ => ⟨_, rfl, hB.size, by simp, fun _ => Whole.new _ _ _, fun h => absurd (was_listed hun (s10 (listed_old h (by decide)))) id⟩, fun h => listed_new (s10 (listed_old h (by decide))), fun h => by obtain ⟨g, hg, h1, h2, h3, h4⟩ := c11 (listed_old h (by decide)); exact ⟨g, hg, h1, (by have := h2; simp; omega), fun h => (h3 (listed_same h (by decide))).alloc _, fun h => (h4 (listed_same h (by decide))).alloc _⟩, fun h => listed_new (s11 (listed_old h (by decide))), fun h => c14 (listed_old h (by decide)), fun _ h g g' hg hg' => by obtain ⟨q1, q2, _, q3, _⟩ := c11 (listed_old h (by decide)); rw [hg'] at q2; cases q2; cases hg; omega⟩
      · have hd := waits_as (L := []) (by kernel_rfl) hd
        simp only [List.all_cons, List.all_nil, Bool.and_true, Bool.and_eq_true] at hd
        refine inv_op rfl (fun K hK => ?_)
        subst ha0
        (try simp only [Act.put, List.getElem_toArray, List.getElem_cons_succ, List.getElem_cons_zero, List.setIfInBounds_toArray, List.set_cons_zero, List.set_cons_succ])
        go_simp
        refine hK.out _ _ ?_
        exact ⟨by simp [hsz], ⟨listed_new k0, listed_new k1, listed_new k2, listed_new k3, listed_new k4⟩, (hB.alloc hB.size (.cells #[.int .u16 0, .int .u32 0, .int .u16 0, .int .u8 0] 74)), t5, t6, t7, t8, t9, t10, (.pointer (some ⟨w.heap.size, 0, none⟩)), t14, by kernel_rfl, fun h => c5 (listed_old h (by decide)), fun h => c6 (listed_old h (by decide)), fun h => c7 (listed_old h (by decide)), fun h => c8 (listed_old h (by decide)), fun h => c9 (listed_old h (by decide)), fun h => by obtain ⟨g, hg, h1, h2, h3, h4⟩ := c10 (listed_old h (by decide)); exact ⟨g, hg, h1, (by have := h2; simp; omega), fun h => (h3 (listed_same h (by decide))).alloc _, fun h => (h4 (listed_same h (by decide))).alloc _⟩, fun h => listed_new (s10 (listed_old h (by decide))), fun _ => ⟨_, rfl, hB.size, by simp, fun _ => Whole.new _ _ _, fun h => absurd (was_listed hun (s11 (listed_old h (by decide)))) id⟩, fun h => listed_new (s11 (listed_old h (by decide))), fun h => c14 (listed_old h (by decide)), fun h _ g g' hg hg' => by obtain ⟨q1, q2, _, q3, _⟩ := c10 (listed_old h (by decide)); rw [hg] at q2; cases q2; cases hg'; omega⟩
      · have hd := waits_as (L := [10, 7, 5, 0, 1, 2, 3, 4, 5, 6, 7, 10, 11]) (by kernel_rfl) hd
        simp only [List.all_cons, List.all_nil, Bool.and_true, Bool.and_eq_true] at hd
        obtain ⟨e0, e1, e2, e3, e4, e5, e6, e7, e8, e9, e10, e11, e12⟩ := hd
        obtain ⟨g10, rfl, lo10, lt10, z10, y10⟩ := c10 e0
        obtain rfl := c7 e1
        obtain rfl := c5 e2
        obtain rfl := c6 e9
        obtain ⟨g11, rfl, lo11, lt11, z11, y11⟩ := c11 e12
        refine inv_op rfl (fun K hK => ?_)
        subst ha0
        (try simp only [Act.put, List.getElem_toArray, List.getElem_cons_succ, List.getElem_cons_zero, List.setIfInBounds_toArray, List.set_cons_zero, List.set_cons_succ])
        have q := z10 (unlisted_false hun)
        have zz0 := q.cell 0
        have zz1 := q.cell 1
        have zz2 := q.cell 2
        have zz3 := q.cell 3
        have zz4 := q.cell 4
        have zz5 := q.cell 5
        have zz6 := q.cell 6
        have zz7 := q.cell 7
        have zz8 := q.cell 8
        have zz9 := q.cell 9
        have zz10 := q.cell 10
        have yy0 := q.free 0
        have yy1 := q.free 1
        have yy2 := q.free 2
        have yy3 := q.free 3
        have yy4 := q.free 4
        have yy5 := q.free 5
        have yy6 := q.free 6
        have yy7 := q.free 7
        have yy8 := q.free 8
        have yy9 := q.free 9
        have yy10 := q.free 10
        go_simp
        refine hK.out _ _ ?_
        exact ⟨by simp [hsz], ⟨listed_new k0, listed_new k1, listed_new k2, listed_new k3, listed_new k4⟩, (eleven_set hB lo10 (.bool mm.on) (.int .i64 mm.high) (.int .i64 mm.since) (.int .u16 mm.off.seq) (.int .u32 mm.off.time) (.int .u16 mm.off.pic) (.int .u8 mm.off.tl0) (.int .u16 mm.out.seq) (.int .u32 mm.out.time) (.int .u16 mm.out.pic) (.int .u8 mm.out.tl0)), (.tuple #[(.agg #[.bool mm.on, .int .i64 mm.high, .int .i64 mm.since, .int .u16 mm.off.seq, .int .u32 mm.off.time, .int .u16 mm.off.pic, .int .u8 mm.off.tl0, .int .u16 mm.out.seq, .int .u32 mm.out.time, .int .u16 mm.out.pic, .int .u8 mm.out.tl0]), (.agg #[.int .u16 nn.seq, .int .u32 nn.time, .int .u16 nn.pic, .int .u8 nn.tl0]), .bool tb]), (.tuple #[(.agg #[.bool mm.on, .int .i64 mm.high, .int .i64 mm.since, .int .u16 mm.off.seq, .int .u32 mm.off.time, .int .u16 mm.off.pic, .int .u8 mm.off.tl0, .int .u16 mm.out.seq, .int .u32 mm.out.time, .int .u16 mm.out.pic, .int .u8 mm.out.tl0]), (.agg #[.int .u16 nn.seq, .int .u32 nn.time, .int .u16 nn.pic, .int .u8 nn.tl0]), .bool tb]), (.agg #[.bool mm.on, .int .i64 mm.high, .int .i64 mm.since, .int .u16 mm.off.seq, .int .u32 mm.off.time, .int .u16 mm.off.pic, .int .u8 mm.off.tl0, .int .u16 mm.out.seq, .int .u32 mm.out.time, .int .u16 mm.out.pic, .int .u8 mm.out.tl0]), t8, t9, (.pointer (some ⟨g10, 0, none⟩)), (.pointer (some ⟨g11, 0, none⟩)), t14, by kernel_rfl, fun _ => rfl, fun _ => rfl, fun _ => rfl, fun h => c8 (listed_old h (by decide)), fun h => c9 (listed_old h (by decide)), fun _ => ⟨g10, rfl, lo10, (by simpa using lt10), fun h => absurd ((listed_now hun).symm.trans h) (by decide), fun _ => (Whole.eleven q (.bool mm.on) (.int .i64 mm.high) (.int .i64 mm.since) (.int .u16 mm.off.seq) (.int .u32 mm.off.time) (.int .u16 mm.off.pic) (.int .u8 mm.off.tl0) (.int .u16 mm.out.seq) (.int .u32 mm.out.time) (.int .u16 mm.out.pic) (.int .u8 mm.out.tl0))⟩, fun _ => listed_new e0, fun _ => ⟨g11, rfl, lo11, (by simpa using lt11), fun h => Whole.eleven_far (z11 (listed_same h (by decide))) ((Ne.symm (n10_11 e0 e12 _ _ rfl rfl))) (.bool mm.on) (.int .i64 mm.high) (.int .i64 mm.since) (.int .u16 mm.off.seq) (.int .u32 mm.off.time) (.int .u16 mm.off.pic) (.int .u8 mm.off.tl0) (.int .u16 mm.out.seq) (.int .u32 mm.out.time) (.int .u16 mm.out.pic) (.int .u8 mm.out.tl0), fun h => Whole.eleven_far (y11 (listed_same h (by decide))) ((Ne.symm (n10_11 e0 e12 _ _ rfl rfl))) (.bool mm.on) (.int .i64 mm.high) (.int .i64 mm.since) (.int .u16 mm.off.seq) (.int .u32 mm.off.time) (.int .u16 mm.off.pic) (.int .u8 mm.off.tl0) (.int .u16 mm.out.seq) (.int .u32 mm.out.time) (.int .u16 mm.out.pic) (.int .u8 mm.out.tl0)⟩, fun h => listed_new (s11 (listed_old h (by decide))), fun h => c14 (listed_old h (by decide)), fun h h' => n10_11 (listed_old h (by decide)) (listed_old h' (by decide))⟩
      · have hd := waits_as (L := [11, 8, 12, 0, 1, 2, 3, 4, 5, 6, 7, 8, 10, 11, 12]) (by kernel_rfl) hd
        simp only [List.all_cons, List.all_nil, Bool.and_true, Bool.and_eq_true] at hd
        obtain ⟨e0, e1, e2, e3, e4, e5, e6, e7, e8, e9, e10, e11, e12, e13, e14⟩ := hd
        obtain ⟨g11, rfl, lo11, lt11, z11, y11⟩ := c11 e0
        obtain rfl := c8 e1
        obtain rfl := c5 e8
        obtain rfl := c6 e9
        obtain rfl := c7 e10
        obtain ⟨g10, rfl, lo10, lt10, z10, y10⟩ := c10 e12
        refine inv_op rfl (fun K hK => ?_)
        subst ha0
        (try simp only [Act.put, List.getElem_toArray, List.getElem_cons_succ, List.getElem_cons_zero, List.setIfInBounds_toArray, List.set_cons_zero, List.set_cons_succ])
        have q := z11 (unlisted_false hun)
        have zz0 := q.cell 0
        have zz1 := q.cell 1
        have zz2 := q.cell 2
        have zz3 := q.cell 3
        have yy0 := q.free 0
        have yy1 := q.free 1
        have yy2 := q.free 2
        have yy3 := q.free 3
        go_simp
        refine hK.out _ _ ?_
        exact ⟨by simp [hsz], ⟨listed_new k0, listed_new k1, listed_new k2, listed_new k3, listed_new k4⟩, (four_set hB lo11 (.int .u16 nn.seq) (.int .u32 nn.time) (.int .u16 nn.pic) (.int .u8 nn.tl0)), (.tuple #[(.agg #[.bool mm.on, .int .i64 mm.high, .int .i64 mm.since, .int .u16 mm.off.seq, .int .u32 mm.off.time, .int .u16 mm.off.pic, .int .u8 mm.off.tl0, .int .u16 mm.out.seq, .int .u32 mm.out.time, .int .u16 mm.out.pic, .int .u8 mm.out.tl0]), (.agg #[.int .u16 nn.seq, .int .u32 nn.time, .int .u16 nn.pic, .int .u8 nn.tl0]), .bool tb]), (.tuple #[(.agg #[.bool mm.on, .int .i64 mm.high, .int .i64 mm.since, .int .u16 mm.off.seq, .int .u32 mm.off.time, .int .u16 mm.off.pic, .int .u8 mm.off.tl0, .int .u16 mm.out.seq, .int .u32 mm.out.time, .int .u16 mm.out.pic, .int .u8 mm.out.tl0]), (.agg #[.int .u16 nn.seq, .int .u32 nn.time, .int .u16 nn.pic, .int .u8 nn.tl0]), .bool tb]), (.agg #[.bool mm.on, .int .i64 mm.high, .int .i64 mm.since, .int .u16 mm.off.seq, .int .u32 mm.off.time, .int .u16 mm.off.pic, .int .u8 mm.off.tl0, .int .u16 mm.out.seq, .int .u32 mm.out.time, .int .u16 mm.out.pic, .int .u8 mm.out.tl0]), (.agg #[.int .u16 nn.seq, .int .u32 nn.time, .int .u16 nn.pic, .int .u8 nn.tl0]), t9, (.pointer (some ⟨g10, 0, none⟩)), (.pointer (some ⟨g11, 0, none⟩)), t14, by kernel_rfl, fun _ => rfl, fun _ => rfl, fun _ => rfl, fun _ => rfl, fun h => c9 (listed_old h (by decide)), fun _ => ⟨g10, rfl, lo10, (by simpa using lt10), fun h => four_far (z10 (listed_same h (by decide))) ((n10_11 e12 e0 _ _ rfl rfl)) (.int .u16 nn.seq) (.int .u32 nn.time) (.int .u16 nn.pic) (.int .u8 nn.tl0), fun h => four_far (y10 (listed_same h (by decide))) ((n10_11 e12 e0 _ _ rfl rfl)) (.int .u16 nn.seq) (.int .u32 nn.time) (.int .u16 nn.pic) (.int .u8 nn.tl0)⟩, fun h => listed_new (s10 (listed_old h (by decide))), fun _ => ⟨g11, rfl, lo11, (by simpa using lt11), fun h => absurd ((listed_now hun).symm.trans h) (by decide), fun _ => (Whole.four q (.int .u16 nn.seq) (.int .u32 nn.time) (.int .u16 nn.pic) (.int .u8 nn.tl0))⟩, fun _ => listed_new e0, fun h => c14 (listed_old h (by decide)), fun h h' => n10_11 (listed_old h (by decide)) (listed_old h' (by decide))⟩
      · have hd := waits_as (L := [9, 13, 0, 1, 2, 3, 4, 5, 6, 7, 8, 9, 10, 11, 12, 13]) (by kernel_rfl) hd
        simp only [List.all_cons, List.all_nil, Bool.and_true, Bool.and_eq_true] at hd
        obtain ⟨e0, e1, e2, e3, e4, e5, e6, e7, e8, e9, e10, e11, e12, e13, e14, e15⟩ := hd
        obtain rfl := c9 e0
        obtain rfl := c5 e7
        obtain rfl := c6 e8
        obtain rfl := c7 e9
        obtain rfl := c8 e10
        obtain ⟨g10, rfl, lo10, lt10, z10, y10⟩ := c10 e12
        obtain ⟨g11, rfl, lo11, lt11, z11, y11⟩ := c11 e13
        refine inv_op rfl (fun K hK => ?_)
        subst ha0
        (try simp only [Act.put, List.getElem_toArray, List.getElem_cons_succ, List.getElem_cons_zero, List.setIfInBounds_toArray, List.set_cons_zero, List.set_cons_succ])
        go_simp
        refine hK.out _ _ ?_
        exact ⟨by simp [hsz], ⟨listed_new k0, listed_new k1, listed_new k2, listed_new k3, listed_new k4⟩, hB, (.tuple #[(.agg #[.bool mm.on, .int .i64 mm.high, .int .i64 mm.since, .int .u16 mm.off.seq, .int .u32 mm.off.time, .int .u16 mm.off.pic, .int .u8 mm.off.tl0, .int .u16 mm.out.seq, .int .u32 mm.out.time, .int .u16 mm.out.pic, .int .u8 mm.out.tl0]), (.agg #[.int .u16 nn.seq, .int .u32 nn.time, .int .u16 nn.pic, .int .u8 nn.tl0]), .bool tb]), (.tuple #[(.agg #[.bool mm.on, .int .i64 mm.high, .int .i64 mm.since, .int .u16 mm.off.seq, .int .u32 mm.off.time, .int .u16 mm.off.pic, .int .u8 mm.off.tl0, .int .u16 mm.out.seq, .int .u32 mm.out.time, .int .u16 mm.out.pic, .int .u8 mm.out.tl0]), (.agg #[.int .u16 nn.seq, .int .u32 nn.time, .int .u16 nn.pic, .int .u8 nn.tl0]), .bool tb]), (.agg #[.bool mm.on, .int .i64 mm.high, .int .i64 mm.since, .int .u16 mm.off.seq, .int .u32 mm.off.time, .int .u16 mm.off.pic, .int .u8 mm.off.tl0, .int .u16 mm.out.seq, .int .u32 mm.out.time, .int .u16 mm.out.pic, .int .u8 mm.out.tl0]), (.agg #[.int .u16 nn.seq, .int .u32 nn.time, .int .u16 nn.pic, .int .u8 nn.tl0]), (.bool tb), (.pointer (some ⟨g10, 0, none⟩)), (.pointer (some ⟨g11, 0, none⟩)), (.bool tb), by kernel_rfl, fun _ => rfl, fun _ => rfl, fun _ => rfl, fun _ => rfl, fun _ => rfl, fun _ => ⟨g10, rfl, lo10, lt10, fun h => z10 (listed_same h (by decide)), fun h => y10 (listed_same h (by decide))⟩, fun h => listed_new (s10 (listed_old h (by decide))), fun _ => ⟨g11, rfl, lo11, lt11, fun h => z11 (listed_same h (by decide)), fun h => y11 (listed_same h (by decide))⟩, fun h => listed_new (s11 (listed_old h (by decide))), fun _ => rfl, fun h h' => n10_11 (listed_old h (by decide)) (listed_old h' (by decide))⟩
    · intro l a w hI hr
      obtain ⟨hsz, ⟨k0, k1, k2, k3, k4⟩, hB, t5, t6, t7, t8, t9, t10, t11, t14, rfl, c5, c6, c7, c8, c9, c10, s10, c11, s11, c14, n10_11⟩ := hI
      have k5 := done_listed (i := 5) (n := 15) hsz (by decide) rfl hr (by rw [show waitsFor _ _ 5 = [3, 4] from by kernel_rfl]; simp only [List.all_cons, List.all_nil, Bool.and_true, Bool.and_eq_true]; exact ⟨k3, k4⟩)
      have k6 := done_listed (i := 6) (n := 15) hsz (by decide) rfl hr (by rw [show waitsFor _ _ 6 = [5] from by kernel_rfl]; simp only [List.all_cons, List.all_nil, Bool.and_true, Bool.and_eq_true]; exact k5)
      have k7 := done_listed (i := 7) (n := 15) hsz (by decide) rfl hr (by rw [show waitsFor _ _ 7 = [6] from by kernel_rfl]; simp only [List.all_cons, List.all_nil, Bool.and_true, Bool.and_eq_true]; exact k6)
      have k8 := done_listed (i := 8) (n := 15) hsz (by decide) rfl hr (by rw [show waitsFor _ _ 8 = [6] from by kernel_rfl]; simp only [List.all_cons, List.all_nil, Bool.and_true, Bool.and_eq_true]; exact k6)
      have k9 := done_listed (i := 9) (n := 15) hsz (by decide) rfl hr (by rw [show waitsFor _ _ 9 = [6] from by kernel_rfl]; simp only [List.all_cons, List.all_nil, Bool.and_true, Bool.and_eq_true]; exact k6)
      have k10 := done_listed (i := 10) (n := 15) hsz (by decide) rfl hr (by rw [show waitsFor _ _ 10 = [] from by kernel_rfl]; rfl)
      have k11 := done_listed (i := 11) (n := 15) hsz (by decide) rfl hr (by rw [show waitsFor _ _ 11 = [] from by kernel_rfl]; rfl)
      have k12 := done_listed (i := 12) (n := 15) hsz (by decide) rfl hr (by rw [show waitsFor _ _ 12 = [10, 7, 5, 0, 1, 2, 3, 4, 5, 6, 7, 10, 11] from by kernel_rfl]; simp only [List.all_cons, List.all_nil, Bool.and_true, Bool.and_eq_true]; exact ⟨k10, k7, k5, k0, k1, k2, k3, k4, k5, k6, k7, k10, k11⟩)
      have k13 := done_listed (i := 13) (n := 15) hsz (by decide) rfl hr (by rw [show waitsFor _ _ 13 = [11, 8, 12, 0, 1, 2, 3, 4, 5, 6, 7, 8, 10, 11, 12] from by kernel_rfl]; simp only [List.all_cons, List.all_nil, Bool.and_true, Bool.and_eq_true]; exact ⟨k11, k8, k12, k0, k1, k2, k3, k4, k5, k6, k7, k8, k10, k11, k12⟩)
      have k14 := done_listed (i := 14) (n := 15) hsz (by decide) rfl hr (by rw [show waitsFor _ _ 14 = [9, 13, 0, 1, 2, 3, 4, 5, 6, 7, 8, 9, 10, 11, 12, 13] from by kernel_rfl]; simp only [List.all_cons, List.all_nil, Bool.and_true, Bool.and_eq_true]; exact ⟨k9, k13, k0, k1, k2, k3, k4, k5, k6, k7, k8, k9, k10, k11, k12, k13⟩)
      obtain rfl := c5 k5
      obtain rfl := c6 k6
      obtain rfl := c7 k7
      obtain rfl := c8 k8
      obtain rfl := c9 k9
      obtain rfl := c14 k14
      obtain ⟨gs, rfl, los, _, _, Ws⟩ := c10 k10
      replace Ws := Ws k12
      obtain ⟨gn, rfl, lon, _, _, Wn⟩ := c11 k11
      replace Wn := Wn k13
      have nesn := n10_11 k10 k11 _ _ rfl rfl
      clear hr k0 k1 k2 k3 k4 k5 k6 k7 k8 k9 k10 k11 k12 k13 k14 s10 s11 n10_11 c5 c6 c7 c8 c9 c10 c11 c14
      subst ha0
      (try simp only [Act.put, List.getElem_toArray, List.getElem_cons_succ, List.getElem_cons_zero, List.setIfInBounds_toArray, List.set_cons_zero, List.set_cons_succ])
      go_wp2_with fail
      go_meet
      exact ⟨rfl, _, _, rfl, rfl, los, lon, nesn, Ws, Wn, hB⟩
    · refine ⟨rfl, ⟨rfl, rfl, rfl, rfl, rfl⟩, (Below.refl _ _).drew, a0.tmps.getD 13 undef, a0.tmps.getD 7 undef, a0.tmps.getD 14 undef, a0.tmps.getD 15 undef, a0.tmps.getD 16 undef, a0.tmps.getD 4 undef, a0.tmps.getD 5 undef, a0.tmps.getD 6 undef, ?_, fun h => absurd h (by decide), fun h => absurd h (by decide), fun h => absurd h (by decide), fun h => absurd h (by decide), fun h => absurd h (by decide), fun h => absurd h (by decide), fun h => absurd h (by decide), fun h => absurd h (by decide), fun h => absurd h (by decide), fun h => absurd h (by decide), fun h => absurd h (by decide)⟩
      subst ha0
      kernel_rfl
  case rest =>
    obtain ⟨rfl, g1_1, g2_1, rfl, rfl, los1, lon1, nesn, Ts, Tn, bq⟩ := hcut
    obtain ⟨wc1, rfl⟩ : ∃ wd : World, wd = wc := ⟨_, rfl⟩
    have SGc1 := (PG.out).below bq PG.out.lt
    have SDc1 := (PD.out).below bq PD.out.lt
    have SIc1 := (PI.out).below bq PI.out.lt
    have SRc1 := (PR.out).below bq PR.out.lt
    have Ssc1 := Ts
    have Snc1 := Tn
    have HBc1 := Lib.hid (PB.out.trans (bq.mono PB.out.size))
    clear K6 bq PG PD PI PR Ts Tn PB
    have lGc1 := SGc1.lt
    have lDc1 := SDc1.lt
    have lIc1 := SIc1.lt
    have lRc1 := SRc1.lt
    have lsc1 := Ssc1.lt
    have lnc1 := Snc1.lt
    have Gc1_0 := SGc1.cell 0
    have fGc1_0 := SGc1.free 0
    have Gc1_1 := SGc1.cell 1
    have fGc1_1 := SGc1.free 1
    have Gc1_2 := SGc1.cell 2
    have fGc1_2 := SGc1.free 2
    have Gc1_3 := SGc1.cell 3
    have fGc1_3 := SGc1.free 3
    have Gc1_4 := SGc1.cell 4
    have fGc1_4 := SGc1.free 4
    have Gc1_5 := SGc1.cell 5
    have fGc1_5 := SGc1.free 5
    have Gc1_6 := SGc1.cell 6
    have fGc1_6 := SGc1.free 6
    have Gc1_7 := SGc1.cell 7
    have fGc1_7 := SGc1.free 7
    have Gc1_8 := SGc1.cell 8
    have fGc1_8 := SGc1.free 8
    have Gc1_9 := SGc1.cell 9
    have fGc1_9 := SGc1.free 9
    have Gc1_10 := SGc1.cell 10
    have fGc1_10 := SGc1.free 10
    have Gc1_11 := SGc1.cell 11
    have fGc1_11 := SGc1.free 11
    have Gc1_12 := SGc1.cell 12
    have fGc1_12 := SGc1.free 12
    have Gc1_13 := SGc1.cell 13
    have fGc1_13 := SGc1.free 13
    have Gc1_14 := SGc1.cell 14
    have fGc1_14 := SGc1.free 14
    have Gc1_15 := SGc1.cell 15
    have fGc1_15 := SGc1.free 15
    have Gc1_16 := SGc1.cell 16
    have fGc1_16 := SGc1.free 16
    have Gc1_17 := SGc1.cell 17
    have fGc1_17 := SGc1.free 17
    have Gc1_18 := SGc1.cell 18
    have fGc1_18 := SGc1.free 18
    have Gc1_19 := SGc1.cell 19
    have fGc1_19 := SGc1.free 19
    have Gc1_20 := SGc1.cell 20
    have fGc1_20 := SGc1.free 20
    have Gc1_21 := SGc1.cell 21
    have fGc1_21 := SGc1.free 21
    have Dc1_0 := SDc1.cell 0
    have sc1_0 := Ssc1.cell 0
    have sc1_1 := Ssc1.cell 1
    have sc1_2 := Ssc1.cell 2
    have sc1_3 := Ssc1.cell 3
    have sc1_4 := Ssc1.cell 4
    have sc1_5 := Ssc1.cell 5
    have sc1_6 := Ssc1.cell 6
    have sc1_7 := Ssc1.cell 7
    have sc1_8 := Ssc1.cell 8
    have sc1_9 := Ssc1.cell 9
    have sc1_10 := Ssc1.cell 10
    have nc1_0 := Snc1.cell 0
    have nc1_1 := Snc1.cell 1
    have nc1_2 := Snc1.cell 2
    have nc1_3 := Snc1.cell 3
    have Rc1_0 := SRc1.cell 0
    have fRc1_0 := SRc1.free 0
    have Rc1_1 := SRc1.cell 1
    have fRc1_1 := SRc1.free 1
    have Rc1_2 := SRc1.cell 2
    have fRc1_2 := SRc1.free 2
    have Rc1_3 := SRc1.cell 3
    have fRc1_3 := SRc1.free 3
    replace SGc1 := Lib.hid SGc1
    replace SDc1 := Lib.hid SDc1
    replace SIc1 := Lib.hid SIc1
    replace SRc1 := Lib.hid SRc1
    replace Ssc1 := Lib.hid Ssc1
    replace Snc1 := Lib.hid Snc1
    cases tb with
    | true =>
      obtain rfl : c3 = cc := HCC.out
      go_wp2_with fail
      have HG1 := (show Whole wc1 g 78 (dcs ss pk m gs c0 c1 c2 c3 c4) from SGc1.out)
      have HG2 := nums_set HG1 mm
      have HG3 := HG2
      have hne : g ≠ w.heap.size := by omega
      exact bodyPost_ret (v := .tuple #[.agg #[.int .u16 nn.seq, .int .u32 nn.time, .int .u16 nn.pic, .int .u8 nn.tl0], .bool true]) (by simp [results, Try.results60, go_sem, Rc1_0, Rc1_1, Rc1_2, Rc1_3]) rfl ⟨rfl, four_far HG3 hne _ _ _ _, but_four (nums_but (but_of_below (S := fun k => k = g) HBc1.out) (.inl rfl) mm) (Nat.le_refl _) _ _ _ _⟩
    | false =>
      obtain rfl : c3 + 1 = cc := HCC.out
      go_wp2_with fail
      have e1 : (c3 : Int) + 1 = ((c3 + 1 : Nat) : Int) := by omega
      rw [e1]
      have HG1 := (show Whole wc1 g 78 (dcs ss pk m gs c0 c1 c2 c3 c4) from SGc1.out)
      have HG2 := nums_set HG1 mm
      dsimp only [dcs] at HG2
      have HG3 := (show Whole _ _ _ #[.int .u32 (ss : Int), .bool pk.on, .int .i64 pk.src, .int .i64 pk.lay, .int .i64 pk.tid, .bool mm.on, .int .i64 mm.high, .int .i64 mm.since, .int .u16 mm.off.seq, .int .u32 mm.off.time, .int .u16 mm.off.pic, .int .u8 mm.off.tl0, .int .u16 mm.out.seq, .int .u32 mm.out.time, .int .u16 mm.out.pic, .int .u8 mm.out.tl0, .pointer (some ⟨gs, 0, none⟩), .int .i64 (c0 : Int), .int .i64 (c1 : Int), .int .i64 (c2 : Int), .int .i64 ((c3 + 1 : Nat) : Int), .int .i64 (c4 : Int)] from HG2.set 20 (.int .i64 ((c3 + 1 : Nat) : Int)))
      have hne : g ≠ w.heap.size := by omega
      exact bodyPost_ret (v := .tuple #[.agg #[.int .u16 nn.seq, .int .u32 nn.time, .int .u16 nn.pic, .int .u8 nn.tl0], .bool false]) (by simp [results, Try.results60, go_sem, Rc1_0, Rc1_1, Rc1_2, Rc1_3]) rfl ⟨rfl, four_far HG3 hne _ _ _ _, but_four ((nums_but (but_of_below (S := fun k => k = g) HBc1.out) (.inl rfl) mm).set (p := ⟨g, 20, none⟩) (.inl rfl) _) (Nat.le_refl _) _ _ _ _⟩
end Go.Proofs.Yticnaljfnjiofaa
