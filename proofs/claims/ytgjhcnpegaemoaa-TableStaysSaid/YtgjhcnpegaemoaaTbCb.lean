/-
  Something put into one of a table's maps, by a key that is new, or not.
-/
import Derived.Test.YtgjhcnpegaemoaaTbCa
namespace Go.Proofs.Ytgjhcnpegaemoaa
open Go.RowKit Go.Maps
set_option linter.unusedSimpArgs false
set_option linter.unusedVariables false
set_option maxRecDepth 100000
theorem wput_new (m : Nat) (l : List Dn) (x : Dn) (w : World) (h : WMap w m l) (hw : I64 x.who) (hl : l.length < maxLen) (hf : fndG Dn.who l (Dn.who x) = none) :
    Calls Try.prog 32 #[.map (some m), .int .i64 x.who, .int .u32 x.ssrc] w fun e w' => e = .returned (.bool true) ∧ WMap w' m (l ++ [x]) ∧ But (fun k => k = m) w w' := by
  have b1 : But (fun k => k = m) w w := But.refl _ _
  have hlook := h.look dns_reads keyI Try.underlying75 (zeroU_d w) (okI hw)
  rw [hf] at hlook
  have h2 := h
  have b2 := b1
  obtain ⟨w', hrun, hm, ht⟩ := h2.put_new dns_reads keyI Try.underlying75 hl x (okI hw) hf
  have HF := Lib.hid (show WMap w' m (l ++ [x]) ∧ But (fun k => k = m) w w' from ⟨hm, b2.turned rfl ht⟩)
  clear hm ht h h2 b1 b2 hw  hl hf
  unfold sVal at hlook hrun
  go_enter Try.func32, Try.ntmps32
  go_wp2
  go_ret
  exact ⟨rfl, HF.out⟩
theorem wput_old (m : Nat) (l : List Dn) (x : Dn) (w : World) (h : WMap w m l) (hw : I64 x.who) (hl : l.length < maxLen) (hf : fndG Dn.who l (Dn.who x) ≠ none) :
    Calls Try.prog 32 #[.map (some m), .int .i64 x.who, .int .u32 x.ssrc] w fun e w' => e = .returned (.bool false) ∧ But (fun k => k = m) w w' := by
  have b1 : But (fun k => k = m) w w := But.refl _ _
  have hlook := h.look dns_reads keyI Try.underlying75 (zeroU_d w) (okI hw)
  obtain ⟨y, hy⟩ := Option.ne_none_iff_exists'.1 hf
  rw [hy] at hlook
  unfold sVal at hlook
  have HB := Lib.hid b1
  clear h b1 hw  hl hf hy
  go_enter Try.func32, Try.ntmps32
  go_wp2
  go_ret
  exact ⟨rfl, HB.out⟩
theorem fput_new (m : Nat) (l : List Dn) (x : Dn) (w : World) (h : FMap w m l) (hw : I64 x.slot) (hv : U32 x.turn) (hl : l.length < maxLen) (hf : fndG Dn.ref l (Dn.ref x) = none) :
    Calls Try.prog 24 #[.map (some m), .agg #[.int .i64 x.slot, .int .u32 x.turn], .int .u32 x.ssrc] w fun e w' => e = .returned (.bool true) ∧ FMap w' m (l ++ [x]) ∧ But (fun k => k = m) w w' := by
  obtain ⟨w1, hw1⟩ : ∃ z, z = w.alloc (.cells #[.int .i64 x.slot, .int .u32 x.turn] 39) := ⟨_, rfl⟩
  have b1 : But (fun k => k = m) w w1 := by rw [hw1]; exact (But.refl _ _).alloc _
  have W1 := (show Whole w1 w.heap.size 39 #[.int .i64 x.slot, .int .u32 x.turn] by rw [hw1]; exact Whole.new w _ _)
  have hh : w1.heap[m]? = w.heap[m]? := by rw [hw1]; exact Below.heap_alloc w _ m h.lt
  have lm : m < w1.heap.size := Nat.lt_of_lt_of_le h.lt b1.size
  replace h := h.same hh
  clear hh
  have hlook := h.look dns_reads keyR Try.underlying70 (zeroU_d w1) (okR (k := Dn.ref x) hw hv)
  rw [hf] at hlook
  have h2 := h
  have b2 := b1
  obtain ⟨w', hrun, hm, ht⟩ := h2.put_new dns_reads keyR Try.underlying70 hl x (okR (k := Dn.ref x) hw hv) hf
  have HF := Lib.hid (show FMap w' m (l ++ [x]) ∧ But (fun k => k = m) w w' from ⟨hm, b2.turned rfl ht⟩)
  clear hm ht h h2 b1 b2 hw hv hl hf
  unfold sVal pairV Dn.ref at hlook hrun
  have c0 := W1.cell 0
  have c1 := W1.cell 1
  have lw := W1.lt
  clear W1
  go_enter Try.func24, Try.ntmps24
  go_upto_region 1 with fail
  rw [← hw1]
  clear hw1
  go_wp2
  go_ret
  exact ⟨rfl, HF.out⟩
theorem fput_old (m : Nat) (l : List Dn) (x : Dn) (w : World) (h : FMap w m l) (hw : I64 x.slot) (hv : U32 x.turn) (hl : l.length < maxLen) (hf : fndG Dn.ref l (Dn.ref x) ≠ none) :
    Calls Try.prog 24 #[.map (some m), .agg #[.int .i64 x.slot, .int .u32 x.turn], .int .u32 x.ssrc] w fun e w' => e = .returned (.bool false) ∧ But (fun k => k = m) w w' := by
  obtain ⟨w1, hw1⟩ : ∃ z, z = w.alloc (.cells #[.int .i64 x.slot, .int .u32 x.turn] 39) := ⟨_, rfl⟩
  have b1 : But (fun k => k = m) w w1 := by rw [hw1]; exact (But.refl _ _).alloc _
  have W1 := (show Whole w1 w.heap.size 39 #[.int .i64 x.slot, .int .u32 x.turn] by rw [hw1]; exact Whole.new w _ _)
  have hh : w1.heap[m]? = w.heap[m]? := by rw [hw1]; exact Below.heap_alloc w _ m h.lt
  have lm : m < w1.heap.size := Nat.lt_of_lt_of_le h.lt b1.size
  replace h := h.same hh
  clear hh
  have hlook := h.look dns_reads keyR Try.underlying70 (zeroU_d w1) (okR (k := Dn.ref x) hw hv)
  obtain ⟨y, hy⟩ := Option.ne_none_iff_exists'.1 hf
  rw [hy] at hlook
  unfold sVal pairV Dn.ref at hlook
  have HB := Lib.hid b1
  clear h b1 hw hv hl hf hy
  have c0 := W1.cell 0
  have c1 := W1.cell 1
  have lw := W1.lt
  clear W1
  go_enter Try.func24, Try.ntmps24
  go_upto_region 1 with fail
  rw [← hw1]
  clear hw1
  go_wp2
  go_ret
  exact ⟨rfl, HB.out⟩
theorem sput_new (m : Nat) (l : List Rt) (x : Rt) (w : World) (h : SMap w m l) (hw : I64 x.track) (hv : I64 x.layer) (hl : l.length < maxLen) (hf : fndG Rt.strm l (Rt.strm x) = none) :
    Calls Try.prog 30 #[.map (some m), .agg #[.int .i64 x.track, .int .i64 x.layer], .int .u32 x.ssrc] w fun e w' => e = .returned (.bool true) ∧ SMap w' m (l ++ [x]) ∧ But (fun k => k = m) w w' := by
  obtain ⟨w1, hw1⟩ : ∃ z, z = w.alloc (.cells #[.int .i64 x.track, .int .i64 x.layer] 74) := ⟨_, rfl⟩
  have b1 : But (fun k => k = m) w w1 := by rw [hw1]; exact (But.refl _ _).alloc _
  have W1 := (show Whole w1 w.heap.size 74 #[.int .i64 x.track, .int .i64 x.layer] by rw [hw1]; exact Whole.new w _ _)
  have hh : w1.heap[m]? = w.heap[m]? := by rw [hw1]; exact Below.heap_alloc w _ m h.lt
  have lm : m < w1.heap.size := Nat.lt_of_lt_of_le h.lt b1.size
  replace h := h.same hh
  clear hh
  have hlook := h.look rts_reads keyS Try.underlying64 (zeroU_r w1) (okS (k := Rt.strm x) hw hv)
  rw [hf] at hlook
  have h2 := h
  have b2 := b1
  obtain ⟨w', hrun, hm, ht⟩ := h2.put_new rts_reads keyS Try.underlying64 hl x (okS (k := Rt.strm x) hw hv) hf
  have HF := Lib.hid (show SMap w' m (l ++ [x]) ∧ But (fun k => k = m) w w' from ⟨hm, b2.turned rfl ht⟩)
  clear hm ht h h2 b1 b2 hw hv hl hf
  unfold sVal pairV Rt.strm at hlook hrun
  have c0 := W1.cell 0
  have c1 := W1.cell 1
  have lw := W1.lt
  clear W1
  go_enter Try.func30, Try.ntmps30
  go_upto_region 1 with fail
  rw [← hw1]
  clear hw1
  go_wp2
  go_ret
  exact ⟨rfl, HF.out⟩
theorem sput_old (m : Nat) (l : List Rt) (x : Rt) (w : World) (h : SMap w m l) (hw : I64 x.track) (hv : I64 x.layer) (hl : l.length < maxLen) (hf : fndG Rt.strm l (Rt.strm x) ≠ none) :
    Calls Try.prog 30 #[.map (some m), .agg #[.int .i64 x.track, .int .i64 x.layer], .int .u32 x.ssrc] w fun e w' => e = .returned (.bool false) ∧ But (fun k => k = m) w w' := by
  obtain ⟨w1, hw1⟩ : ∃ z, z = w.alloc (.cells #[.int .i64 x.track, .int .i64 x.layer] 74) := ⟨_, rfl⟩
  have b1 : But (fun k => k = m) w w1 := by rw [hw1]; exact (But.refl _ _).alloc _
  have W1 := (show Whole w1 w.heap.size 74 #[.int .i64 x.track, .int .i64 x.layer] by rw [hw1]; exact Whole.new w _ _)
  have hh : w1.heap[m]? = w.heap[m]? := by rw [hw1]; exact Below.heap_alloc w _ m h.lt
  have lm : m < w1.heap.size := Nat.lt_of_lt_of_le h.lt b1.size
  replace h := h.same hh
  clear hh
  have hlook := h.look rts_reads keyS Try.underlying64 (zeroU_r w1) (okS (k := Rt.strm x) hw hv)
  obtain ⟨y, hy⟩ := Option.ne_none_iff_exists'.1 hf
  rw [hy] at hlook
  unfold sVal pairV Rt.strm at hlook
  have HB := Lib.hid b1
  clear h b1 hw hv hl hf hy
  have c0 := W1.cell 0
  have c1 := W1.cell 1
  have lw := W1.lt
  clear W1
  go_enter Try.func30, Try.ntmps30
  go_upto_region 1 with fail
  rw [← hw1]
  clear hw1
  go_wp2
  go_ret
  exact ⟨rfl, HB.out⟩
theorem rput_new (m : Nat) (l : List Rt) (x : Rt) (w : World) (h : RMap w m l) (hw : U32 x.ssrc) (hl : l.length < maxLen) (hf : fndG Rt.ssrc l (Rt.ssrc x) = none) :
    Calls Try.prog 29 #[.map (some m), .int .u32 x.ssrc, .agg x.cells.toArray] w fun e w' => e = .returned (.bool true) ∧ RMap w' m (l ++ [x]) ∧ But (fun k => k = m) w w' := by
  obtain ⟨w1, hw1⟩ : ∃ z, z = w.alloc (.cells x.cells.toArray 37) := ⟨_, rfl⟩
  have b1 : But (fun k => k = m) w w1 := by rw [hw1]; exact (But.refl _ _).alloc _
  have W1 := (show Whole w1 w.heap.size 37 x.cells.toArray by rw [hw1]; exact Whole.new w _ _)
  have hh : w1.heap[m]? = w.heap[m]? := by rw [hw1]; exact Below.heap_alloc w _ m h.lt
  have lm : m < w1.heap.size := Nat.lt_of_lt_of_le h.lt b1.size
  replace h := h.same hh
  clear hh
  have hlook := h.look rt_reads keyU Try.underlying63 (zeroRt w1) (okU hw)
  rw [hf] at hlook
  have h2 := h.same (w' := w1.alloc (.cells #[.int .u32 0, .int .i64 0, .int .i64 0, .int .i64 0, .int .i64 0] 37)) (Below.heap_alloc w1 _ m lm)
  have b2 := b1.alloc (.cells #[.int .u32 0, .int .i64 0, .int .i64 0, .int .i64 0, .int .i64 0] 37)
  obtain ⟨w', hrun, hm, ht⟩ := h2.put_new rt_reads keyU Try.underlying63 hl x (okU hw) hf
  have HF := Lib.hid (show RMap w' m (l ++ [x]) ∧ But (fun k => k = m) w w' from ⟨hm, b2.turned rfl ht⟩)
  clear hm ht h h2 b1 b2 hw  hl hf
  unfold rtVal Rt.cells at hlook hrun
  unfold zeroR at hlook
  obtain ⟨x0, x1, x2, x3, x4⟩ := x
  dsimp only at hlook hrun W1 hw1 HF ⊢
  unfold Rt.cells at W1 hw1 ⊢
  dsimp only at W1 hw1 ⊢
  have c0 := W1.cell 0
  have c1 := W1.cell 1
  have c2 := W1.cell 2
  have c3 := W1.cell 3
  have c4 := W1.cell 4
  have lw := W1.lt
  clear W1
  go_enter Try.func29, Try.ntmps29
  go_upto_region 1 with fail
  rw [← hw1]
  clear hw1
  go_wp2
  go_ret
  exact ⟨rfl, HF.out⟩
theorem rput_old (m : Nat) (l : List Rt) (x : Rt) (w : World) (h : RMap w m l) (hw : U32 x.ssrc) (hl : l.length < maxLen) (hf : fndG Rt.ssrc l (Rt.ssrc x) ≠ none) :
    Calls Try.prog 29 #[.map (some m), .int .u32 x.ssrc, .agg x.cells.toArray] w fun e w' => e = .returned (.bool false) ∧ But (fun k => k = m) w w' := by
  obtain ⟨w1, hw1⟩ : ∃ z, z = w.alloc (.cells x.cells.toArray 37) := ⟨_, rfl⟩
  have b1 : But (fun k => k = m) w w1 := by rw [hw1]; exact (But.refl _ _).alloc _
  have W1 := (show Whole w1 w.heap.size 37 x.cells.toArray by rw [hw1]; exact Whole.new w _ _)
  have hh : w1.heap[m]? = w.heap[m]? := by rw [hw1]; exact Below.heap_alloc w _ m h.lt
  have lm : m < w1.heap.size := Nat.lt_of_lt_of_le h.lt b1.size
  replace h := h.same hh
  clear hh
  have hlook := h.look rt_reads keyU Try.underlying63 (zeroRt w1) (okU hw)
  obtain ⟨y, hy⟩ := Option.ne_none_iff_exists'.1 hf
  rw [hy] at hlook
  unfold rtVal Rt.cells at hlook
  obtain ⟨y0, y1, y2, y3, y4⟩ := y
  obtain ⟨x0, x1, x2, x3, x4⟩ := x
  have HB := Lib.hid (b1.alloc (.cells #[.int .u32 y0, .int .i64 y1, .int .i64 y2, .int .i64 y3, .int .i64 y4] 37))
  clear h b1 hw  hl hf hy
  dsimp only at hlook W1 hw1 HB ⊢
  unfold Rt.cells at W1 hw1 ⊢
  dsimp only at W1 hw1 ⊢
  have c0 := W1.cell 0
  have c1 := W1.cell 1
  have c2 := W1.cell 2
  have c3 := W1.cell 3
  have c4 := W1.cell 4
  have lw := W1.lt
  clear W1
  go_enter Try.func29, Try.ntmps29
  go_upto_region 1 with fail
  rw [← hw1]
  clear hw1
  go_wp2
  go_ret
  exact ⟨rfl, HB.out⟩
theorem oput_new (m : Nat) (l : List Dn) (x : Dn) (w : World) (h : OMap w m l) (hw : U32 x.ssrc) (hl : l.length < maxLen) (hf : fndG Dn.ssrc l (Dn.ssrc x) = none) :
    Calls Try.prog 31 #[.map (some m), .int .u32 x.ssrc, .agg x.cells.toArray] w fun e w' => e = .returned (.bool true) ∧ OMap w' m (l ++ [x]) ∧ But (fun k => k = m) w w' := by
  obtain ⟨w1, hw1⟩ : ∃ z, z = w.alloc (.cells x.cells.toArray 41) := ⟨_, rfl⟩
  have b1 : But (fun k => k = m) w w1 := by rw [hw1]; exact (But.refl _ _).alloc _
  have W1 := (show Whole w1 w.heap.size 41 x.cells.toArray by rw [hw1]; exact Whole.new w _ _)
  have hh : w1.heap[m]? = w.heap[m]? := by rw [hw1]; exact Below.heap_alloc w _ m h.lt
  have lm : m < w1.heap.size := Nat.lt_of_lt_of_le h.lt b1.size
  replace h := h.same hh
  clear hh
  have hlook := h.look dn_reads keyU Try.underlying65 (zeroDn w1) (okU hw)
  rw [hf] at hlook
  have h2 := h.same (w' := w1.alloc (.cells #[.int .u32 0, .int .i64 0, .int .u32 0, .int .i64 0, .int .i64 0, .int .i64 0, .int .i64 0, .int .i64 0, .int .i64 0, .bool false] 41)) (Below.heap_alloc w1 _ m lm)
  have b2 := b1.alloc (.cells #[.int .u32 0, .int .i64 0, .int .u32 0, .int .i64 0, .int .i64 0, .int .i64 0, .int .i64 0, .int .i64 0, .int .i64 0, .bool false] 41)
  obtain ⟨w', hrun, hm, ht⟩ := h2.put_new dn_reads keyU Try.underlying65 hl x (okU hw) hf
  have HF := Lib.hid (show OMap w' m (l ++ [x]) ∧ But (fun k => k = m) w w' from ⟨hm, b2.turned rfl ht⟩)
  clear hm ht h h2 b1 b2 hw  hl hf
  unfold dnVal Dn.cells at hlook hrun
  unfold zeroD at hlook
  obtain ⟨x0, x1, x2, x3, x4, x5, x6, x7, x8, x9⟩ := x
  dsimp only at hlook hrun W1 hw1 HF ⊢
  unfold Dn.cells at W1 hw1 ⊢
  dsimp only at W1 hw1 ⊢
  have c0 := W1.cell 0
  have c1 := W1.cell 1
  have c2 := W1.cell 2
  have c3 := W1.cell 3
  have c4 := W1.cell 4
  have c5 := W1.cell 5
  have c6 := W1.cell 6
  have c7 := W1.cell 7
  have c8 := W1.cell 8
  have c9 := W1.cell 9
  have lw := W1.lt
  clear W1
  go_enter Try.func31, Try.ntmps31
  go_upto_region 1 with fail
  rw [← hw1]
  clear hw1
  go_wp2
  go_ret
  exact ⟨rfl, HF.out⟩
theorem oput_old (m : Nat) (l : List Dn) (x : Dn) (w : World) (h : OMap w m l) (hw : U32 x.ssrc) (hl : l.length < maxLen) (hf : fndG Dn.ssrc l (Dn.ssrc x) ≠ none) :
    Calls Try.prog 31 #[.map (some m), .int .u32 x.ssrc, .agg x.cells.toArray] w fun e w' => e = .returned (.bool false) ∧ But (fun k => k = m) w w' := by
  obtain ⟨w1, hw1⟩ : ∃ z, z = w.alloc (.cells x.cells.toArray 41) := ⟨_, rfl⟩
  have b1 : But (fun k => k = m) w w1 := by rw [hw1]; exact (But.refl _ _).alloc _
  have W1 := (show Whole w1 w.heap.size 41 x.cells.toArray by rw [hw1]; exact Whole.new w _ _)
  have hh : w1.heap[m]? = w.heap[m]? := by rw [hw1]; exact Below.heap_alloc w _ m h.lt
  have lm : m < w1.heap.size := Nat.lt_of_lt_of_le h.lt b1.size
  replace h := h.same hh
  clear hh
  have hlook := h.look dn_reads keyU Try.underlying65 (zeroDn w1) (okU hw)
  obtain ⟨y, hy⟩ := Option.ne_none_iff_exists'.1 hf
  rw [hy] at hlook
  unfold dnVal Dn.cells at hlook
  obtain ⟨y0, y1, y2, y3, y4, y5, y6, y7, y8, y9⟩ := y
  obtain ⟨x0, x1, x2, x3, x4, x5, x6, x7, x8, x9⟩ := x
  have HB := Lib.hid (b1.alloc (.cells #[.int .u32 y0, .int .i64 y1, .int .u32 y2, .int .i64 y3, .int .i64 y4, .int .i64 y5, .int .i64 y6, .int .i64 y7, .int .i64 y8, .bool y9] 41))
  clear h b1 hw  hl hf hy
  dsimp only at hlook W1 hw1 HB ⊢
  unfold Dn.cells at W1 hw1 ⊢
  dsimp only at W1 hw1 ⊢
  have c0 := W1.cell 0
  have c1 := W1.cell 1
  have c2 := W1.cell 2
  have c3 := W1.cell 3
  have c4 := W1.cell 4
  have c5 := W1.cell 5
  have c6 := W1.cell 6
  have c7 := W1.cell 7
  have c8 := W1.cell 8
  have c9 := W1.cell 9
  have lw := W1.lt
  clear W1
  go_enter Try.func31, Try.ntmps31
  go_upto_region 1 with fail
  rw [← hw1]
  clear hw1
  go_wp2
  go_ret
  exact ⟨rfl, HB.out⟩
end Go.Proofs.Ytgjhcnpegaemoaa
