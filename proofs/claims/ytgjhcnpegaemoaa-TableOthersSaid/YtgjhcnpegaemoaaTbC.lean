/-
  What a table tells: its calls, of nil as well.
-/
import Derived.Test.YtgjhcnpegaemoaaTbCe
import Derived.Test.YtgjhcnpegaemoaaSrT
namespace Go.Proofs.Ytgjhcnpegaemoaa
open Go.RowKit Go.Maps
set_option linter.unusedSimpArgs false
set_option linter.unusedVariables false
set_option maxRecDepth 100000
theorem info_tdC : (Try.prog.info? 41).map (fun i => (i.zero, i.size, i.bytes)) = some (some (.agg #[.int .u32 0, .int .i64 0, .int .u32 0, .int .i64 0, .int .i64 0, .int .i64 0, .int .i64 0, .int .i64 0, .int .i64 0, .bool false]), 10, 80) := by kernel_rfl
theorem nodup_le {α : Type} : ∀ {l m : List α}, l.Nodup → (∀ x ∈ l, x ∈ m) → l.length ≤ m.length
  | [], m, _, _ => Nat.zero_le _
  | a :: l, m, h, hs => by
    obtain ⟨s, u, rfl⟩ := List.append_of_mem (hs a (List.mem_cons_self ..))
    have h' := List.pairwise_cons.1 h
    have := nodup_le (m := s ++ u) h'.2 fun x hx => by
      rcases List.mem_append.1 (hs x (List.mem_cons_of_mem _ hx)) with h1 | h1
      · exact List.mem_append.2 (.inl h1)
      · rcases List.mem_cons.1 h1 with h1 | h1
        · exact absurd h1.symm (h'.1 x hx)
        · exact List.mem_append.2 (.inr h1)
    simp only [List.length_append, List.length_cons] at this ⊢
    omega
section
variable (g : Nat) (S : Nat → Prop) (p : Int) (R : List Rt) (D : List Dn) (w : World)
theorem tepoch_any (h : TAt w g S p R D) : Calls Try.prog 21 #[.pointer (some ⟨g, 0, none⟩)] w fun e w' => e = .returned (.int .u64 p) ∧ Below w.heap.size w w' := by
  obtain ⟨m1, m2, m3, m4, T, hS, hT, h4⟩ := h
  have c0 := hT.st.cell 0
  have HB := Lib.hid (Below.refl w.heap.size w)
  clear hT h4 hS
  go_enter Try.func21, Try.ntmps21
  go_wp2
  go_ret
  exact ⟨rfl, HB.out⟩
theorem tlen_any (h : TAt w g S p R D) : Calls Try.prog 22 #[.pointer (some ⟨g, 0, none⟩)] w fun e w' => e = .returned (.int .i64 (D.length : Int)) ∧ Below w.heap.size w w' := by
  obtain ⟨m1, m2, m3, m4, T, hS, hT, h4⟩ := h
  have c3 := hT.st.cell 3
  have hlen := MapG.len hT.o Try.underlying65
  have HB := Lib.hid (Below.refl w.heap.size w)
  clear hT h4 hS
  go_enter Try.func22, Try.ntmps22
  go_wp2
  go_ret
  exact ⟨rfl, HB.out⟩
set_option maxHeartbeats 3200000 in
theorem troute_any (s : Int) (hs : 0 ≤ s ∧ s < 4294967296) (h : TAt w g S p R D) : Calls Try.prog 12 #[.pointer (some ⟨g, 0, none⟩), .int .u32 s] w fun e w' => e = .returned (rtOut (routeS R s)) ∧ Below w.heap.size w w' := by
  obtain ⟨m1, m2, m3, m4, T, hS, hT, h4⟩ := h
  have h1 := hT.st
  have h2 := hT.r
  have h3 := hT.o
  clear hT
  obtain ⟨w1, hw1⟩ : ∃ z, z = w.alloc (.cells #[.int .u32 0, .int .i64 0, .int .i64 0, .int .i64 0, .int .i64 0] 37) := ⟨_, rfl⟩
  have b1 : Below w.heap.size w w1 := by rw [hw1]; exact (Below.refl _ _).alloc (Nat.le_refl _) _
  have W4 := Lib.hid (show Whole w1 w.heap.size 37 #[.int .u32 0, .int .i64 0, .int .i64 0, .int .i64 0, .int .i64 0] by rw [hw1]; exact Whole.new w _ _)
  have c1 := (h1.below b1 h1.lt).cell 1
  have hl := (MapG.same h2 (b1.block m1 (MapG.lt h2))).look rt_reads keyU Try.underlying63 (zeroRt w1) (okU hs)
  rw [fnd_route] at hl
  have lg := Nat.lt_of_lt_of_le h1.lt b1.size
  obtain ⟨x, hx⟩ : ∃ x, (routeS R s).getD zeroR = x := ⟨_, rfl⟩
  obtain ⟨b, hb⟩ : ∃ b, (routeS R s).isSome = b := ⟨_, rfl⟩
  unfold rtOut
  rw [hx, hb] at hl ⊢
  unfold rtVal at hl
  obtain ⟨x0, x1, x2, x3, x4⟩ := x
  unfold Rt.cells at hl ⊢
  dsimp only at hl ⊢
  have r0 := W4.out.cell 0
  have f0 := W4.out.free 0
  have r1 := W4.out.cell 1
  have f1 := W4.out.free 1
  have r2 := W4.out.cell 2
  have f2 := W4.out.free 2
  have r3 := W4.out.cell 3
  have f3 := W4.out.free 3
  have r4 := W4.out.cell 4
  have f4 := W4.out.free 4
  have l4 := W4.out.lt
  have W5 := Lib.hid ((((((W4.out.set 0 (.int .u32 x0)).set 1 (.int .i64 x1)).set 2 (.int .i64 x2)).set 3 (.int .i64 x3)).set 4 (.int .i64 x4)).alloc (.cells #[.int .u32 x0, .int .i64 x1, .int .i64 x2, .int .i64 x3, .int .i64 x4] 37))
  have HB := Lib.hid ((((((b1.setCell (p := ⟨w.heap.size, 0, none⟩) (Nat.le_refl _) (.int .u32 x0)).setCell (p := ⟨w.heap.size, 1, none⟩) (Nat.le_refl _) (.int .i64 x1)).setCell (p := ⟨w.heap.size, 2, none⟩) (Nat.le_refl _) (.int .i64 x2)).setCell (p := ⟨w.heap.size, 3, none⟩) (Nat.le_refl _) (.int .i64 x3)).setCell (p := ⟨w.heap.size, 4, none⟩) (Nat.le_refl _) (.int .i64 x4)).alloc (((((b1.setCell (p := ⟨w.heap.size, 0, none⟩) (Nat.le_refl _) (.int .u32 x0)).setCell (p := ⟨w.heap.size, 1, none⟩) (Nat.le_refl _) (.int .i64 x1)).setCell (p := ⟨w.heap.size, 2, none⟩) (Nat.le_refl _) (.int .i64 x2)).setCell (p := ⟨w.heap.size, 3, none⟩) (Nat.le_refl _) (.int .i64 x3)).setCell (p := ⟨w.heap.size, 4, none⟩) (Nat.le_refl _) (.int .i64 x4)).size (.cells #[.int .u32 x0, .int .i64 x1, .int .i64 x2, .int .i64 x3, .int .i64 x4] 37))
  have s0 := Lib.hid (W5.out.cell 0)
  have s1 := Lib.hid (W5.out.cell 1)
  have s2 := Lib.hid (W5.out.cell 2)
  have s3 := Lib.hid (W5.out.cell 3)
  have s4 := Lib.hid (W5.out.cell 4)
  clear h1 h2 h3 h4 hS hx hb b1 W5 W4
  go_enter Try.func12, Try.ntmps12
  go_upto_region 1 with fail
  rw [← hw1]
  clear hw1
  go_wp2_with fail
  replace s0 := s0.out
  replace s1 := s1.out
  replace s2 := s2.out
  replace s3 := s3.out
  replace s4 := s4.out
  exact bodyPost_ret (v := .tuple #[.agg #[.int .u32 x0, .int .i64 x1, .int .i64 x2, .int .i64 x3, .int .i64 x4], .bool b]) (by simp [results, Try.results12, go_sem, s0, s1, s2, s3, s4]) rfl ⟨rfl, HB.out⟩
set_option maxHeartbeats 3200000 in
theorem town_any (s : Int) (hs : 0 ≤ s ∧ s < 4294967296) (h : TAt w g S p R D) : Calls Try.prog 14 #[.pointer (some ⟨g, 0, none⟩), .int .u32 s] w fun e w' => e = .returned (dnOut (ownS D s)) ∧ Below w.heap.size w w' := by
  obtain ⟨m1, m2, m3, m4, T, hS, hT, h4⟩ := h
  have h1 := hT.st
  have h2 := hT.r
  have h3 := hT.o
  clear hT
  obtain ⟨w1, hw1⟩ : ∃ z, z = w.alloc (.cells #[.int .u32 0, .int .i64 0, .int .u32 0, .int .i64 0, .int .i64 0, .int .i64 0, .int .i64 0, .int .i64 0, .int .i64 0, .bool false] 41) := ⟨_, rfl⟩
  have b1 : Below w.heap.size w w1 := by rw [hw1]; exact (Below.refl _ _).alloc (Nat.le_refl _) _
  have W4 := Lib.hid (show Whole w1 w.heap.size 41 #[.int .u32 0, .int .i64 0, .int .u32 0, .int .i64 0, .int .i64 0, .int .i64 0, .int .i64 0, .int .i64 0, .int .i64 0, .bool false] by rw [hw1]; exact Whole.new w _ _)
  have c1 := (h1.below b1 h1.lt).cell 3
  have hl := (MapG.same h3 (b1.block m3 (MapG.lt h3))).look dn_reads keyU Try.underlying65 (zeroDn w1) (okU hs)
  rw [fnd_own] at hl
  have lg := Nat.lt_of_lt_of_le h1.lt b1.size
  obtain ⟨x, hx⟩ : ∃ x, (ownS D s).getD zeroD = x := ⟨_, rfl⟩
  obtain ⟨b, hb⟩ : ∃ b, (ownS D s).isSome = b := ⟨_, rfl⟩
  unfold dnOut
  rw [hx, hb] at hl ⊢
  unfold dnVal at hl
  obtain ⟨x0, x1, x2, x3, x4, x5, x6, x7, x8, x9⟩ := x
  unfold Dn.cells at hl ⊢
  dsimp only at hl ⊢
  have r0 := W4.out.cell 0
  have f0 := W4.out.free 0
  have r1 := W4.out.cell 1
  have f1 := W4.out.free 1
  have r2 := W4.out.cell 2
  have f2 := W4.out.free 2
  have r3 := W4.out.cell 3
  have f3 := W4.out.free 3
  have r4 := W4.out.cell 4
  have f4 := W4.out.free 4
  have r5 := W4.out.cell 5
  have f5 := W4.out.free 5
  have r6 := W4.out.cell 6
  have f6 := W4.out.free 6
  have r7 := W4.out.cell 7
  have f7 := W4.out.free 7
  have r8 := W4.out.cell 8
  have f8 := W4.out.free 8
  have r9 := W4.out.cell 9
  have f9 := W4.out.free 9
  have l4 := W4.out.lt
  have W5 := Lib.hid (((((((((((W4.out.set 0 (.int .u32 x0)).set 1 (.int .i64 x1)).set 2 (.int .u32 x2)).set 3 (.int .i64 x3)).set 4 (.int .i64 x4)).set 5 (.int .i64 x5)).set 6 (.int .i64 x6)).set 7 (.int .i64 x7)).set 8 (.int .i64 x8)).set 9 (.bool x9)).alloc (.cells #[.int .u32 x0, .int .i64 x1, .int .u32 x2, .int .i64 x3, .int .i64 x4, .int .i64 x5, .int .i64 x6, .int .i64 x7, .int .i64 x8, .bool x9] 41))
  have HB := Lib.hid (((((((((((b1.setCell (p := ⟨w.heap.size, 0, none⟩) (Nat.le_refl _) (.int .u32 x0)).setCell (p := ⟨w.heap.size, 1, none⟩) (Nat.le_refl _) (.int .i64 x1)).setCell (p := ⟨w.heap.size, 2, none⟩) (Nat.le_refl _) (.int .u32 x2)).setCell (p := ⟨w.heap.size, 3, none⟩) (Nat.le_refl _) (.int .i64 x3)).setCell (p := ⟨w.heap.size, 4, none⟩) (Nat.le_refl _) (.int .i64 x4)).setCell (p := ⟨w.heap.size, 5, none⟩) (Nat.le_refl _) (.int .i64 x5)).setCell (p := ⟨w.heap.size, 6, none⟩) (Nat.le_refl _) (.int .i64 x6)).setCell (p := ⟨w.heap.size, 7, none⟩) (Nat.le_refl _) (.int .i64 x7)).setCell (p := ⟨w.heap.size, 8, none⟩) (Nat.le_refl _) (.int .i64 x8)).setCell (p := ⟨w.heap.size, 9, none⟩) (Nat.le_refl _) (.bool x9)).alloc ((((((((((b1.setCell (p := ⟨w.heap.size, 0, none⟩) (Nat.le_refl _) (.int .u32 x0)).setCell (p := ⟨w.heap.size, 1, none⟩) (Nat.le_refl _) (.int .i64 x1)).setCell (p := ⟨w.heap.size, 2, none⟩) (Nat.le_refl _) (.int .u32 x2)).setCell (p := ⟨w.heap.size, 3, none⟩) (Nat.le_refl _) (.int .i64 x3)).setCell (p := ⟨w.heap.size, 4, none⟩) (Nat.le_refl _) (.int .i64 x4)).setCell (p := ⟨w.heap.size, 5, none⟩) (Nat.le_refl _) (.int .i64 x5)).setCell (p := ⟨w.heap.size, 6, none⟩) (Nat.le_refl _) (.int .i64 x6)).setCell (p := ⟨w.heap.size, 7, none⟩) (Nat.le_refl _) (.int .i64 x7)).setCell (p := ⟨w.heap.size, 8, none⟩) (Nat.le_refl _) (.int .i64 x8)).setCell (p := ⟨w.heap.size, 9, none⟩) (Nat.le_refl _) (.bool x9)).size (.cells #[.int .u32 x0, .int .i64 x1, .int .u32 x2, .int .i64 x3, .int .i64 x4, .int .i64 x5, .int .i64 x6, .int .i64 x7, .int .i64 x8, .bool x9] 41))
  have s0 := Lib.hid (W5.out.cell 0)
  have s1 := Lib.hid (W5.out.cell 1)
  have s2 := Lib.hid (W5.out.cell 2)
  have s3 := Lib.hid (W5.out.cell 3)
  have s4 := Lib.hid (W5.out.cell 4)
  have s5 := Lib.hid (W5.out.cell 5)
  have s6 := Lib.hid (W5.out.cell 6)
  have s7 := Lib.hid (W5.out.cell 7)
  have s8 := Lib.hid (W5.out.cell 8)
  have s9 := Lib.hid (W5.out.cell 9)
  clear h1 h2 h3 h4 hS hx hb b1 W5 W4
  go_enter Try.func14, Try.ntmps14
  go_upto_region 1 with fail
  rw [← hw1]
  clear hw1
  go_wp2_with fail
  replace s0 := s0.out
  replace s1 := s1.out
  replace s2 := s2.out
  replace s3 := s3.out
  replace s4 := s4.out
  replace s5 := s5.out
  replace s6 := s6.out
  replace s7 := s7.out
  replace s8 := s8.out
  replace s9 := s9.out
  exact bodyPost_ret (v := .tuple #[.agg #[.int .u32 x0, .int .i64 x1, .int .u32 x2, .int .i64 x3, .int .i64 x4, .int .i64 x5, .int .i64 x6, .int .i64 x7, .int .i64 x8, .bool x9], .bool b]) (by simp [results, Try.results14, go_sem, s0, s1, s2, s3, s4, s5, s6, s7, s8, s9]) rfl ⟨rfl, HB.out⟩
theorem tsource_any (t y : Int) (ht : I64 t) (hy : I64 y) (h : TAt w g S p R D) : Calls Try.prog 16 #[.pointer (some ⟨g, 0, none⟩), .int .i64 t, .int .i64 y] w fun e w' => e = .returned (srcOut (sourceS R t y)) ∧ Below w.heap.size w w' := by
  obtain ⟨m1, m2, m3, m4, T, hS, hT, h4⟩ := h
  have c2 := hT.st.cell 2
  have hl := MapG.look hT.s rts_reads keyS Try.underlying64 (zeroU_r w) (okS (k := (t, y)) ht hy)
  rw [fnd_src] at hl
  obtain ⟨x, hx⟩ : ∃ x, ((sourceS R t y).getD zeroR).ssrc = x := ⟨_, rfl⟩
  obtain ⟨b, hb⟩ : ∃ b, (sourceS R t y).isSome = b := ⟨_, rfl⟩
  unfold sVal pairV at hl
  unfold srcOut
  rw [hx, hb] at hl ⊢
  have HB := Lib.hid (Below.refl w.heap.size w)
  clear hT h4 hS hx hb
  go_enter Try.func16, Try.ntmps16
  go_wp2
  go_ret2
  exact ⟨rfl, HB.out⟩
theorem trD_len (t : Int) (l : List Dn) : (trD t l).length ≤ l.length := by unfold trD; exact List.length_filter_le _ _
set_option maxHeartbeats 6400000 in
theorem downs_there (m1 m2 m3 m4 : Nat) (T : List (Int × Option Nat)) (t : Int) (ht : I64 t) (b : Nat) (hT : TB w g m1 m2 m3 m4 T p R R D D) (hM : May R D) (hl60 : D.length ≤ 60) (he : (t, some b) ∈ T) :
    Calls Try.prog 18 #[.pointer (some ⟨g, 0, none⟩), .int .i64 t] w (NewRow 41 10 (downsS D t).length (dnC (downsS D t)) w) := by
  have hf : fndG Prod.fst T t = some (t, some b) := ApartG.find (κ := Prod.fst) (hT.two.imp fun h => h.1) he
  have hlook := MapG.look1 hT.t m_reads keyI Try.underlying66 (zeroM w) (okI ht)
  rw [hf] at hlook
  unfold mVal at hlook
  dsimp only [Option.getD] at hlook
  have HM := Lib.hid (show WMap w b (trD t D) from by
    obtain ⟨q, e1, e2⟩ := hT.one _ he
    injection e1 with e1
    rw [e1]
    exact e2)
  have c4 := hT.st.cell 4
  have lg := hT.st.lt
  have HG := Lib.hid hT.st
  have HO3 := Lib.hid hT.o
  have hml := MapG.lt HM.out
  have HOk := Lib.hid hM.2
  have hle := trD_len t D
  clear hT hM hf he
  go_enter Try.func18, Try.ntmps18
  go_wp2_with (first
    | (at_range; refine wpl_range_g rfl _ 75 rfl 3 25 Try.underlying75 .i64 Try.underlying3 Dn.who (sDat Dn.ssrc) u32Elem b (trD t D) rfl HM.out ?_; intro w0 hrg0 hg0 hs0)
    | go_in)
  go_frame
  have HR0 := Lib.hid hrg0
  have HB0 := Lib.hid (show Below w.heap.size w w0 from (Below.refl w.heap.size w).grown hg0 (Nat.le_refl _) (fun q hq => by cases hq))
  clear hrg0 hg0 hs0 c4 hlook
  go_loopw [5] (fun v wr => ∃ V : List Dn, RangeG Try.prog 3 .i64 Dn.who (sDat Dn.ssrc) u32Elem wr b w.heap.size (trD t D) V ∧ wr.ownsRow (w.heap.size + 1) 41 10 v V.length (dnC V) ∧ V.length ≤ D.length ∧ Below w.heap.size w wr) (fun _ wr => wr.rangeLeft b w.heap.size)
  case atStart => exact ⟨[], HR0.out, World.ownsRow_nil _ _ _ _, Nat.zero_le _, HB0.out⟩
  case round =>
    obtain ⟨V, hrg, hown, hvl, hb⟩ := hrel
    obtain ⟨Av, cv, rfl⟩ := own_form hown
    have HB := Lib.hid hb
    have HO := Lib.hid hown
    clear hb hown HR0 HB0
    go_wp2_with (first
      | (at_next; refine wpl_next_g rfl _ rfl 3 .i64 Try.underlying3 Dn.who (sVal Dn.ssrc) (sDat Dn.ssrc) u32Elem dns_reads b w.heap.size (trD t D) V rfl hrg ?_ ?_)
      | go_in)
    · intro hdone
      have HF := Lib.hid (fun (l' : List Dn) (hp : l'.Perm V) (hs : l'.Pairwise fun a b => ¬ b.who < a.who) => show l' = downsS D t from by
        obtain ⟨D0, left, cnt, _, _, _, _, _, _, hin, hk⟩ := hrg
        exact downs_of HOk.out hin hk hdone hp hs)
      have hgl : V.length ≤ 60 := Nat.le_trans hvl hl60
      have C := Lib.hid (tsort17 (w.heap.size + 1) Av cv V wr HO.out (by omega))
      have HOw := Lib.hid HO.out
      obtain ⟨M, hM⟩ : ∃ M, V.length = M := ⟨_, rfl⟩
      have HMM := Lib.hid hM
      unfold Sorted17 at C
      rw [hM] at C HOw ⊢
      clear hdone hrg hM HO hvl hgl
      go_wp2_with fail
      refine C.out.mono ?_
      rintro e w3 ⟨rfl, l', hp, hs, hown3, hbt⟩
      have he := HF.out l' hp hs
      have hlen : M = (downsS D t).length := by rw [← he, hp.length_eq, HMM.out]
      have HE := Lib.hid (show Below w.heap.size w w3 from HB.out.trans (hbt.below HB.out.size (fun q hq h => by have := (HOw.out.lt q h).1; omega)))
      have HO3 := Lib.hid (show w3.ownsRow w.heap.size 41 10 (.slice Av M cv) M (dnC (downsS D t)) from own_base (by rw [← he]; exact hown3) (Nat.le_succ _))
      have HL := Lib.hid hlen
      clear hown3 hbt hp hs he hlen C HF HB
      go_wp2_with fail
      go_ret
      exact ⟨Av, cv, by rw [← HL.out]; rfl, by rw [← HL.out]; exact HO3.out, HE.out⟩
    · intro c w1 hc hVn hrg1 hlt hg1 hs1 hen
      have HB1 := Lib.hid (show Below w.heap.size w w1 from HB.out.grown hg1 HB.out.size (fun q hq => by cases hq; exact Nat.le_refl _))
      have HO1 := Lib.hid (own_grownX HO.out hg1 (fun q hq h => by have := (HO.out.lt q hq).1; injection h with h; omega))
      have HRG := Lib.hid hrg1
      have HLT := Lib.hid hlt
      have hlt1 := hrg1.lt
      have hvl2 : V.length < D.length := by
        obtain ⟨D0, left, cnt, _, _, _, _, _, _, hin, hk⟩ := hrg1
        have hnd : (V ++ [c]).Nodup := by
          unfold List.Nodup
          exact hk.imp fun h e => h (by rw [e])
        have := nodup_le hnd hin
        rw [List.length_append, List.length_singleton] at this
        omega
      have hcD : c ∈ D := by
        unfold trD at hc
        exact (List.mem_filter.1 hc).1
      have hfc : fndG Dn.ssrc D c.ssrc = some c := ApartG.find (κ := Dn.ssrc) (HOk.out.two.imp fun h e => h (.inl e.symm)) hcD
      have hlk := MapG.look1 (MapG.same HO3.out (HB1.out.block m3 (MapG.lt HO3.out))) dn_reads keyU Try.underlying65 (zeroDn w1) (MapG.ok HO3.out hcD)
      rw [hfc] at hlk
      have c3 := (HG.out.below HB1.out lg).cell 3
      have lg1 : g < w1.heap.size := Nat.lt_of_lt_of_le lg HB1.out.size
      obtain ⟨M, hM⟩ : ∃ M, V.length = M := ⟨_, rfl⟩
      have HMM := Lib.hid hM
      have hgl : V.length ≤ 60 := Nat.le_trans hvl hl60
      rw [hM] at HO1 hgl hvl2 ⊢
      clear hc hVn hrg1 hlt hg1 hs1 hrg HO HB hM hcD hfc hvl
      obtain ⟨x0, x1, x2, x3, x4, x5, x6, x7, x8, x9⟩ := c
      unfold sVal at hen
      unfold dnVal Dn.cells at hlk
      dsimp only [Option.getD] at hen hlk
      have hsz1 := HB1.out.size
      have HR8 := Lib.hid (Row.fresh w1 41 #[.int .u32 x0, .int .i64 x1, .int .u32 x2, .int .i64 x3, .int .i64 x4, .int .i64 x5, .int .i64 x6, .int .i64 x7, .int .i64 x8, .bool x9] 10 1 [.int .u32 x0, .int .i64 x1, .int .u32 x2, .int .i64 x3, .int .i64 x4, .int .i64 x5, .int .i64 x6, .int .i64 x7, .int .i64 x8, .bool x9] rfl rfl)
      go_wp2_with (at_builtin; refine wpl_append _ rfl (.tmp 21) (.tmp 28) 24 rfl (w.heap.size + 1) 41 (.agg #[.int .u32 0, .int .i64 0, .int .u32 0, .int .i64 0, .int .i64 0, .int .i64 0, .int .i64 0, .int .i64 0, .int .i64 0, .bool false]) 10 80 Try.underlying24 info_tdC rfl (by decide) _ M (dnC V) rfl (HO1.out.alloc _) _ (some ⟨w1.heap.size, 0, none⟩) 1 1 [.int .u32 x0, .int .i64 x1, .int .u32 x2, .int .i64 x3, .int .i64 x4, .int .i64 x5, .int .i64 x6, .int .i64 x7, .int .i64 x8, .bool x9] rfl HR8.out (by simp [Value.oneCell']) ?c1 ?c2 ?c3 ?_)
      case c1 => unfold maxLen; omega
      case c2 => omega
      case c3 => (try simp); have := HRG.out.lt; omega
      intro v3 w3 hown3 hg3 _
      have hnm : some b ≠ (Value.slice Av M cv).ownBlock := fun h => by have := (HO1.out.lt b h.symm).1; omega
      have hnr : some w.heap.size ≠ (Value.slice Av M cv).ownBlock := fun h => by have := (HO1.out.lt _ h.symm).1; omega
      have HR3 := Lib.hid ((HRG.out.alloc (.cells #[.int .u32 x0, .int .i64 x1, .int .u32 x2, .int .i64 x3, .int .i64 x4, .int .i64 x5, .int .i64 x6, .int .i64 x7, .int .i64 x8, .bool x9] 41)).kept hg3 hnm hnr)
      have HL3 := Lib.hid (((HRG.out.alloc (.cells #[.int .u32 x0, .int .i64 x1, .int .u32 x2, .int .i64 x3, .int .i64 x4, .int .i64 x5, .int .i64 x6, .int .i64 x7, .int .i64 x8, .bool x9] 41)).left_kept hg3 hnm hnr).trans (HRG.out.left_alloc (.cells #[.int .u32 x0, .int .i64 x1, .int .u32 x2, .int .i64 x3, .int .i64 x4, .int .i64 x5, .int .i64 x6, .int .i64 x7, .int .i64 x8, .bool x9] 41)))
      have HB3 := Lib.hid (show Below w.heap.size w w3 from (HB1.out.alloc hsz1 (.cells #[.int .u32 x0, .int .i64 x1, .int .u32 x2, .int .i64 x3, .int .i64 x4, .int .i64 x5, .int .i64 x6, .int .i64 x7, .int .i64 x8, .bool x9] 41)).grown hg3 (by simp; omega) (fun q hq => by have := (HO1.out.lt q hq).1; omega))
      have HO4 := Lib.hid (show w3.ownsRow (w.heap.size + 1) 41 10 v3 (V ++ [(⟨x0, x1, x2, x3, x4, x5, x6, x7, x8, x9⟩ : Dn)]).length (dnC (V ++ [(⟨x0, x1, x2, x3, x4, x5, x6, x7, x8, x9⟩ : Dn)])) by rw [dnC_add, List.length_append, HMM.out]; exact hown3)
      have HV4 := Lib.hid (show (V ++ [(⟨x0, x1, x2, x3, x4, x5, x6, x7, x8, x9⟩ : Dn)]).length ≤ D.length by rw [List.length_append, List.length_singleton, HMM.out]; omega)
      clear hown3 hg3 hnm hnr HR8 HO1 HMM hlk hen hvl2 c3
      go_wp2_with fail
      go_roundw
      case rel => exact ⟨_, HR3.out, HO4.out, HV4.out, HB3.out⟩
      case measure => rw [HL3.out]; exact HLT.out
set_option maxHeartbeats 3200000 in
theorem downs_none (m1 m2 m3 m4 : Nat) (T : List (Int × Option Nat)) (t : Int) (ht : I64 t) (hT : TB w g m1 m2 m3 m4 T p R R D D) (hn : ∀ e ∈ T, e.1 ≠ t) :
    Calls Try.prog 18 #[.pointer (some ⟨g, 0, none⟩), .int .i64 t] w (NewRow 41 10 (downsS D t).length (dnC (downsS D t)) w) := by
  have hf : fndG Prod.fst T t = none := fndG_none.2 hn
  have hlook := MapG.look1 hT.t m_reads keyI Try.underlying66 (zeroM w) (okI ht)
  rw [hf] at hlook
  unfold mVal at hlook
  dsimp only [Option.getD] at hlook
  have c4 := hT.st.cell 4
  have lg := hT.st.lt
  have e0 : downsS D t = [] := by
    have h1 : ∀ z, z ∉ downsS D t := fun z hz => by
      have hz := downs_mem.1 hz
      obtain ⟨e, he, h2⟩ := hT.all z hz.1
      exact hn e he (by rw [h2]; exact hz.2)
    cases h : downsS D t with
    | nil => rfl
    | cons a l => exact absurd (by rw [h]; exact List.mem_cons_self ..) (h1 a)
  rw [e0]
  have hrn := range_nil w Try.underlying75
  have hx : (w.alloc (.mapIter none 0 #[] 0)).heap[w.heap.size]? = some (.mapIter none 0 #[] 0) := (MapKept.heap_alloc w _).1
  have hnn := next_nil (P := Try.prog) hx
  have HB := Lib.hid ((Below.refl w.heap.size w).alloc (Nat.le_refl _) (.mapIter none 0 #[] 0))
  have C := Lib.hid (tsort17 w.heap.size none 0 [] (w.alloc (.mapIter none 0 #[] 0)) (World.ownsRow_nil _ _ _ _) (by decide))
  unfold Sorted17 at C
  clear hT hn hf e0 hx
  go_enter Try.func18, Try.ntmps18
  go_wp2_with fail
  refine wp_loop_rounds 1 ?_
  rw [rounds_succ]
  go_wp2_with fail
  refine C.out.mono ?_
  rintro e w3 ⟨rfl, l', hp, hs, hown3, hbt⟩
  have HE := Lib.hid (show Below w.heap.size w w3 from HB.out.trans (hbt.below HB.out.size (fun q hq h => by cases h)))
  clear hown3 hbt hp hs C HB
  go_wp2_with fail
  go_ret
  exact ⟨none, 0, rfl, World.ownsRow_nil _ _ _ _, HE.out⟩
theorem tdowns_any (t : Int) (ht : I64 t) (h : TAt w g S p R D) : Calls Try.prog 18 #[.pointer (some ⟨g, 0, none⟩), .int .i64 t] w (NewRow 41 10 (downsS D t).length (dnC (downsS D t)) w) := by
  obtain ⟨m1, m2, m3, m4, T, hS, hT, hM, hl⟩ := h
  by_cases hn : ∀ e ∈ T, e.1 ≠ t
  · exact downs_none g p R D w m1 m2 m3 m4 T t ht hT hn
  · have hn : ∃ e ∈ T, e.1 = t := by
      apply Classical.byContradiction
      intro h1
      exact hn fun e he h2 => h1 ⟨e, he, h2⟩
    obtain ⟨e, he, h1⟩ := hn
    obtain ⟨b, hb, _⟩ := hT.one e he
    exact downs_there g p R D w m1 m2 m3 m4 T t ht b hT hM hl (by rw [← h1, ← hb]; exact he)
theorem tepoch_nil : Calls Try.prog 21 #[.pointer none] w fun e w' => e = .returned (.int .u64 0) ∧ Below w.heap.size w w' := by
  have HB := Lib.hid (Below.refl w.heap.size w)
  go_enter Try.func21, Try.ntmps21
  go_wp2
  go_ret
  exact ⟨rfl, HB.out⟩
theorem tlen_nil : Calls Try.prog 22 #[.pointer none] w fun e w' => e = .returned (.int .i64 0) ∧ Below w.heap.size w w' := by
  have HB := Lib.hid (Below.refl w.heap.size w)
  go_enter Try.func22, Try.ntmps22
  go_wp2
  go_ret
  exact ⟨rfl, HB.out⟩
theorem tsource_nil (t y : Int) : Calls Try.prog 16 #[.pointer none, .int .i64 t, .int .i64 y] w fun e w' => e = .returned (srcOut none) ∧ Below w.heap.size w w' := by
  have HB := Lib.hid (Below.refl w.heap.size w)
  go_enter Try.func16, Try.ntmps16
  go_wp2
  go_ret2
  exact ⟨rfl, HB.out⟩
theorem tdowns_nil (t : Int) : Calls Try.prog 18 #[.pointer none, .int .i64 t] w (NewRow 41 10 0 [] w) := by
  have HB := Lib.hid (Below.refl w.heap.size w)
  go_enter Try.func18, Try.ntmps18
  go_wp2
  go_ret
  exact ⟨none, 0, rfl, World.ownsRow_nil _ _ _ _, HB.out⟩
theorem troute_nil (s : Int) : Calls Try.prog 12 #[.pointer none, .int .u32 s] w fun e w' => e = .returned (rtOut none) ∧ Below w.heap.size w w' := by
  have W4 := Whole.new w 37 #[.int .u32 0, .int .i64 0, .int .i64 0, .int .i64 0, .int .i64 0]
  have s0 := W4.cell 0
  have s1 := W4.cell 1
  have s2 := W4.cell 2
  have s3 := W4.cell 3
  have s4 := W4.cell 4
  have HB := Lib.hid ((Below.refl w.heap.size w).alloc (Nat.le_refl _) (.cells #[.int .u32 0, .int .i64 0, .int .i64 0, .int .i64 0, .int .i64 0] 37))
  clear W4
  go_enter Try.func12, Try.ntmps12
  go_wp2_with fail
  exact bodyPost_ret (v := .tuple #[.agg #[.int .u32 0, .int .i64 0, .int .i64 0, .int .i64 0, .int .i64 0], .bool false]) (by simp [results, Try.results12, go_sem, s0, s1, s2, s3, s4]) rfl ⟨rfl, HB.out⟩
theorem town_nil (s : Int) : Calls Try.prog 14 #[.pointer none, .int .u32 s] w fun e w' => e = .returned (dnOut none) ∧ Below w.heap.size w w' := by
  have W4 := Whole.new w 41 #[.int .u32 0, .int .i64 0, .int .u32 0, .int .i64 0, .int .i64 0, .int .i64 0, .int .i64 0, .int .i64 0, .int .i64 0, .bool false]
  have s0 := W4.cell 0
  have s1 := W4.cell 1
  have s2 := W4.cell 2
  have s3 := W4.cell 3
  have s4 := W4.cell 4
  have s5 := W4.cell 5
  have s6 := W4.cell 6
  have s7 := W4.cell 7
  have s8 := W4.cell 8
  have s9 := W4.cell 9
  have HB := Lib.hid ((Below.refl w.heap.size w).alloc (Nat.le_refl _) (.cells #[.int .u32 0, .int .i64 0, .int .u32 0, .int .i64 0, .int .i64 0, .int .i64 0, .int .i64 0, .int .i64 0, .int .i64 0, .bool false] 41))
  clear W4
  go_enter Try.func14, Try.ntmps14
  go_wp2_with fail
  exact bodyPost_ret (v := .tuple #[.agg #[.int .u32 0, .int .i64 0, .int .u32 0, .int .i64 0, .int .i64 0, .int .i64 0, .int .i64 0, .int .i64 0, .int .i64 0, .bool false], .bool false]) (by simp [results, Try.results14, go_sem, s0, s1, s2, s3, s4, s5, s6, s7, s8, s9]) rfl ⟨rfl, HB.out⟩
end
end Go.Proofs.Ytgjhcnpegaemoaa
