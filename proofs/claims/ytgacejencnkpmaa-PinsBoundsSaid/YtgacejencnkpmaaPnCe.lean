/-
  Contracts of package pins: Retire.
-/
import Derived.Test.YtgacejencnkpmaaPnCd
import Derived.Test.YtgacejencnkpmaaHang
import Derived.Deep.AppendLies
namespace Go.Proofs.Ytgacejencnkpmaa
open Go.RowKit
set_option linter.unusedSimpArgs false
set_option linter.unusedVariables false
set_option maxRecDepth 100000
--PP
theorem info_rt : (Try.prog.info? 75).map (fun i => (i.zero, i.size, i.bytes)) = some (some (.agg #[.int .i64 0, .int .u32 0, .int .u64 0]), 3, 24) := by kernel_rfl
theorem But.grown {S : Nat → Prop} {w w' w'' : World} {row : Option Nat} (h : But S w w') (g : w'.grownBy w'' row) (hr : ∀ k, row = some k → S k) : But S w w'' :=
  h.trans ⟨g.os, g.tape, g.output, g.size, fun i hi hs => g.block i hi (fun e => hs (hr i e.symm))⟩
section
variable (l : List Wk) (q : List Wt) (g : Nat) (S : Nat → Prop) (w : World)
theorem pret_nil (s t e : Int) : Calls Try.prog 17 #[.pointer none, .agg #[.int .i64 s, .int .u32 t], .int .u64 e] w fun e w' => e = .returned (.int .i64 1) ∧ Below w.heap.size w w' := by
  have HB := Lib.hid ((Below.refl w.heap.size w).alloc (Nat.le_refl _) (.cells #[.int .i64 s, .int .u32 t] 33))
  go_enter Try.func17, Try.ntmps17
  go_wp2
  go_ret
  exact ⟨rfl, HB.out⟩
set_option maxHeartbeats 3200000 in
theorem pret_any (s t e : Int) (h : PAt w g S l q) : Calls Try.prog 17 #[.pointer (some ⟨g, 0, none⟩), .agg #[.int .i64 s, .int .u32 t], .int .u64 e] w (PDone g S (.int .i64 (retE q)) l (retS q ⟨s, t, e⟩) w) := by
  obtain ⟨r, A, c, hne, hS, hG, hR, hO, hL, hb⟩ := h
  have hgl := hG.lt
  have G1 := hG.alloc (.cells #[.int .i64 s, .int .u32 t] 33)
  have R1 := hR.alloc (.cells #[.int .i64 s, .int .u32 t] 33)
  have O1 := hO.alloc (.cells #[.int .i64 s, .int .u32 t] 33)
  have X1 := Whole.new w 33 #[.int .i64 s, .int .u32 t]
  have g1 := G1.cell 1
  have hgn : g ≠ w.heap.size := by omega
  unfold retE retS
  obtain ⟨n, hn⟩ : ∃ n, q.length = n := ⟨_, rfl⟩
  by_cases h64 : 64 ≤ n
  · have HF := Lib.hid (show PDone g S (.int .i64 20) l q w (.returned (.int .i64 20)) (w.alloc (.cells #[.int .i64 s, .int .u32 t] 33)) from ⟨S, rfl, ⟨r, A, c, hne, hS, G1, R1, O1, hL, hb⟩, but_of_below ((Below.refl w.heap.size w).alloc (Nat.le_refl _) _), fun _ _ h => h⟩)
    rw [if_pos (by omega), if_pos (by omega)]
    rw [hn] at g1
    have n1 : (64 : Int) ≤ (n : Int) := by omega
    clear hG hR hO hS hb G1 R1 O1 hn X1
    go_enter Try.func17, Try.ntmps17
    go_wp2
    go_ret
    exact HF.out
  · rw [if_neg (by omega), if_neg (by omega)]
    rw [hn] at g1 G1 hO O1 hS
    have n1 : ¬ (64 : Int) ≤ (n : Int) := by omega
    have x0 := X1.cell 0
    have x1 := X1.cell 1
    have HN := Lib.hid hn
    have HS := Lib.hid hS
    have HG := Lib.hid G1
    have HR := Lib.hid R1
    have HO := Lib.hid O1
    have HX := Lib.hid X1
    have HBe := Lib.hid hb
    have HL := Lib.hid hL
    clear hG hR hO hS hb G1 R1 O1 hn X1 hL
    go_enter Try.func17, Try.ntmps17
    go_wp2_with fail
    obtain ⟨i0, hi0, hz0, hz1, hz2⟩ := info_parts info_rt
    have HI0 := Lib.hid hi0
    have HZ0 := Lib.hid hz0
    have HZ1 := Lib.hid hz1
    have HZ2 := Lib.hid hz2
    clear hi0 hz0 hz1 hz2
    refine wp_region_X (S := fun w' => w'.cell? ⟨g, 1, none⟩ = some (.slice A n c) ∧ w'.cell? ⟨w.heap.size, 0, none⟩ = some (.int .i64 s) ∧ w'.cell? ⟨w.heap.size, 1, none⟩ = some (.int .u32 t)) [12] (by kernel_rfl) ⟨HG.out.cell 1, HX.out.cell 0, HX.out.cell 1⟩ (fun hHeld0 => ?_)
    refine wpAnyX_take (i := 0) [10, 11, 12] (v := ?_) rfl (by kernel_rfl) (by kernel_rfl) (by kernel_rfl) (by kernel_rfl) (fun _ _ _ h => h) (Or.inl ⟨by kernel_rfl, ?_⟩) (by assumption) ?_
    rotate_left 1
    · (intro w hSw; have ⟨q0, q1, q2⟩ := hSw; go_simp; try (with_reducible rfl))
    (try simp only [Act.put, List.getElem_toArray, List.getElem_cons_succ, List.getElem_cons_zero, List.setIfInBounds_toArray, List.set_cons_zero, List.set_cons_succ])
    refine wpAnyX_take (i := 1) [2, 3, 4, 9, 10, 11, 12] (v := ?_) rfl (by kernel_rfl) (by kernel_rfl) (by kernel_rfl) (by kernel_rfl) (fun _ _ _ h => h) (Or.inl ⟨by kernel_rfl, ?_⟩) (by assumption) ?_
    rotate_left 1
    · (intro w hSw; have ⟨q0, q1, q2⟩ := hSw; go_simp; try (with_reducible rfl))
    (try simp only [Act.put, List.getElem_toArray, List.getElem_cons_succ, List.getElem_cons_zero, List.setIfInBounds_toArray, List.set_cons_zero, List.set_cons_succ])
    refine wpAnyX_take (i := 2) [3, 4, 9, 10, 11, 12] (v := ?_) rfl (by kernel_rfl) (by kernel_rfl) (by kernel_rfl) (by kernel_rfl) (fun _ _ _ h => h) (Or.inl ⟨by kernel_rfl, ?_⟩) (by assumption) ?_
    rotate_left 1
    · (intro w hSw; have ⟨q0, q1, q2⟩ := hSw; go_simp; try (with_reducible rfl))
    (try simp only [Act.put, List.getElem_toArray, List.getElem_cons_succ, List.getElem_cons_zero, List.setIfInBounds_toArray, List.set_cons_zero, List.set_cons_succ])
    refine wpAnyX_take (i := 3) [4, 9, 10, 11, 12] (v := ?_) rfl (by kernel_rfl) (by kernel_rfl) (by kernel_rfl) (by kernel_rfl) (fun _ _ _ h => h) (Or.inl ⟨by kernel_rfl, ?_⟩) (by assumption) ?_
    rotate_left 1
    · (intro w hSw; have ⟨q0, q1, q2⟩ := hSw; go_simp; try (with_reducible rfl))
    (try simp only [Act.put, List.getElem_toArray, List.getElem_cons_succ, List.getElem_cons_zero, List.setIfInBounds_toArray, List.set_cons_zero, List.set_cons_succ])
    refine wpAnyX_take (i := 4) [9, 10, 11, 12] (v := ?_) rfl (by kernel_rfl) (by kernel_rfl) (by kernel_rfl) (by kernel_rfl) (fun _ _ _ h => h) (Or.inl ⟨by kernel_rfl, ?_⟩) (by assumption) ?_
    rotate_left 1
    · (intro w hSw; have ⟨q0, q1, q2⟩ := hSw; go_simp; try (with_reducible rfl))
    (try simp only [Act.put, List.getElem_toArray, List.getElem_cons_succ, List.getElem_cons_zero, List.setIfInBounds_toArray, List.set_cons_zero, List.set_cons_succ])
    refine wpAnyX_take (i := 5) [7, 8, 9, 10, 11, 12] (v := ?_) rfl (by kernel_rfl) (by kernel_rfl) (by kernel_rfl) (by kernel_rfl) (fun _ _ _ h => h) (Or.inl ⟨by kernel_rfl, ?_⟩) (by assumption) ?_
    rotate_left 1
    · (intro w hSw; have ⟨q0, q1, q2⟩ := hSw; go_simp; try (with_reducible rfl))
    (try simp only [Act.put, List.getElem_toArray, List.getElem_cons_succ, List.getElem_cons_zero, List.setIfInBounds_toArray, List.set_cons_zero, List.set_cons_succ])
    refine wpAnyX_take (i := 6) [7, 8, 9, 10, 11, 12] (v := ?_) rfl (by kernel_rfl) (by kernel_rfl) (by kernel_rfl) (by kernel_rfl) (fun _ _ _ h => h) (Or.inl ⟨by kernel_rfl, ?_⟩) (by assumption) ?_
    rotate_left 1
    · (intro w hSw; have ⟨q0, q1, q2⟩ := hSw; go_simp; try (with_reducible rfl))
    (try simp only [Act.put, List.getElem_toArray, List.getElem_cons_succ, List.getElem_cons_zero, List.setIfInBounds_toArray, List.set_cons_zero, List.set_cons_succ])
    refine wpAnyX_take (i := 7) [8, 9, 10, 11, 12] (v := ?_) rfl (by kernel_rfl) (by kernel_rfl) (by kernel_rfl) (by kernel_rfl) (fun _ _ _ h => h) (Or.inl ⟨by kernel_rfl, ?_⟩) (by assumption) ?_
    rotate_left 1
    · (intro w hSw; have ⟨q0, q1, q2⟩ := hSw; go_simp; try (with_reducible rfl))
    (try simp only [Act.put, List.getElem_toArray, List.getElem_cons_succ, List.getElem_cons_zero, List.setIfInBounds_toArray, List.set_cons_zero, List.set_cons_succ])
    refine wpAnyX_one 8 (by kernel_rfl) rfl (fun K hK => ?_)
    go_simp
    have M2 := HG.out.drew.alloc (.cells #[.int .i64 s, .int .u32 t, .int .u64 e] 75)
    have X2 := HX.out.drew.alloc (.cells #[.int .i64 s, .int .u32 t, .int .u64 e] 75)
    have O2 := HO.out.drew.alloc (.cells #[.int .i64 s, .int .u32 t, .int .u64 e] 75)
    have R2 := Lib.hid (HR.out.drew.alloc (.cells #[.int .i64 s, .int .u32 t, .int .u64 e] 75))
    refine hK.out _ _ (.inr ⟨M2.cell 1, X2.cell 0, X2.cell 1⟩) ?_
    have hHeld2 : (fun w' => w'.cell? ⟨g, 1, none⟩ = some (.slice A n c) ∧ w'.cell? ⟨w.heap.size, 0, none⟩ = some (.int .i64 s) ∧ w'.cell? ⟨w.heap.size, 1, none⟩ = some (.int .u32 t)) ((w.alloc (.cells #[.int .i64 s, .int .u32 t] 33)).drew.alloc (.cells #[.int .i64 s, .int .u32 t, .int .u64 e] 75)) := ⟨M2.cell 1, X2.cell 0, X2.cell 1⟩
    clear hK K
    (try simp only [Act.put, List.getElem_toArray, List.getElem_cons_succ, List.getElem_cons_zero, List.setIfInBounds_toArray, List.set_cons_zero, List.set_cons_succ])
    refine wpAnyX_one 9 (by kernel_rfl) rfl (fun K hK => ?_)
    refine step_append_lies _ (by rfl) (.tmp 19) (.tmp 23) 61 (by rfl) 0 75 i0 _ 3 24 Try.underlying61 HI0.out HZ0.out HZ1.out HZ2.out rfl (by omega) (.slice A n c) n (wtP q) (by rfl) O2 ⟨w.heap.size + 1, 0, none⟩ 1 1 [.int .i64 s, .int .u32 t, .int .u64 e] (by rfl) (by rfl) (World.news_of_block (cs := #[.int .i64 s, .int .u32 t, .int .u64 e]) (t := 75) (fr := (0, 0)) (Whole.new2 w (.cells #[.int .i64 s, .int .u32 t] 33) 75 #[.int .i64 s, .int .u32 t, .int .u64 e])) (by simp [Value.oneCell']) (by omega) (by unfold maxLen; omega) (by omega) (Nat.zero_le _) (w.heap.size + 2) (by simp) ?_
    intro gg cap w2 hown2 hgrow hat hlt9
    have hfg := own_far O2 M2 (by decide)
    have hfr := own_far O2 R2.out (by decide)
    have hfx := own_far O2 X2 (by decide)
    have M3 := M2.grown hgrow hfg
    have R3 := Lib.hid (R2.out.grown hgrow hfr)
    have X3 := X2.grown hgrow hfx
    have HGR := Lib.hid hgrow
    have HAT := Lib.hid hat
    clear hgrow hat hfg hfr hfx
    have e9 := M3.cell 1
    have f9 := M3.free 1
    simp at e9
    refine hK.out _ _ (.inr ⟨M3.cell 1, X3.cell 0, X3.cell 1⟩) ?_
    have hHeld3 : (fun w' => w'.cell? ⟨g, 1, none⟩ = some (.slice A n c) ∧ w'.cell? ⟨w.heap.size, 0, none⟩ = some (.int .i64 s) ∧ w'.cell? ⟨w.heap.size, 1, none⟩ = some (.int .u32 t)) w2 := ⟨M3.cell 1, X3.cell 0, X3.cell 1⟩
    clear hK K
    (try simp only [Act.put, List.getElem_toArray, List.getElem_cons_succ, List.getElem_cons_zero, List.setIfInBounds_toArray, List.set_cons_zero, List.set_cons_succ])
    refine wpAnyX_take (i := 10) [11, 12] (v := ?_) rfl (by kernel_rfl) (by kernel_rfl) (by kernel_rfl) (by kernel_rfl) (fun _ _ _ h => h) (Or.inl ⟨by kernel_rfl, ?_⟩) (by assumption) ?_
    rotate_left 1
    · (intro w hSw; have ⟨q0, q1, q2⟩ := hSw; go_simp; try (with_reducible rfl))
    (try simp only [Act.put, List.getElem_toArray, List.getElem_cons_succ, List.getElem_cons_zero, List.setIfInBounds_toArray, List.set_cons_zero, List.set_cons_succ])
    refine wpAnyX_take (i := 11) [12] (v := ?_) rfl (by kernel_rfl) (by kernel_rfl) (by kernel_rfl) (by kernel_rfl) (fun _ _ _ h => h) (Or.inl ⟨by kernel_rfl, ?_⟩) (by assumption) ?_
    rotate_left 1
    · (intro w hSw; have ⟨q0, q1, q2⟩ := hSw; go_simp; try (with_reducible rfl))
    (try simp only [Act.put, List.getElem_toArray, List.getElem_cons_succ, List.getElem_cons_zero, List.setIfInBounds_toArray, List.set_cons_zero, List.set_cons_succ])
    refine wpAnyX_one 12 (by kernel_rfl) rfl (fun K hK => ?_)
    have HM4 := Lib.hid (show Whole _ _ _ #[.slice (some ⟨r, 0, none⟩) l.length l.length, .slice (some ⟨gg, 0, none⟩) (n + 1) cap] from M3.set 1 (.slice (some ⟨gg, 0, none⟩) (n + 1) cap))
    have hfg2 := own_far hown2 M3 (by decide)
    have HO4 := Lib.hid (own_farX (p := ⟨g, 1, none⟩) (u := .slice (some ⟨gg, 0, none⟩) (n + 1) cap) hown2 (fun k hk e => hfg2 (by rw [hk]; exact congrArg some e)))
    have HO5 := Lib.hid hown2
    clear hown2
    go_simp
    refine hK.out _ _ (.inl (by decide)) ?_
    clear hK K
    (try simp only [Act.put, List.getElem_toArray, List.getElem_cons_succ, List.getElem_cons_zero, List.setIfInBounds_toArray, List.set_cons_zero, List.set_cons_succ])
    refine wpAnyX_done (by kernel_rfl) ?_ _
    have hgb : But S w ((w.alloc (.cells #[.int .i64 s, .int .u32 t] 33)).alloc (.cells #[.int .i64 s, .int .u32 t, .int .u64 e] 75)).drew := (((But.refl S w).alloc _).alloc _).drew
    have hb3 := (But.grown hgb HGR.out (fun k hk => (HS.out k).2 (.inr (.inr hk)))).set (p := ⟨g, 1, none⟩) (.inl ((HS.out g).2 (.inl rfl))) (.slice (some ⟨gg, 0, none⟩) (n + 1) cap)
    have hrg : r ≠ g := hne
    have HF := Lib.hid (show PDone g S (.int .i64 0) l (q ++ [⟨s, t, e⟩]) w (.returned (.int .i64 0)) (w2.setCell ⟨g, 1, none⟩ (.slice (some ⟨gg, 0, none⟩) (n + 1) cap)) from
      ⟨fun k => k = g ∨ k = r ∨ k = gg, rfl, ⟨r, some ⟨gg, 0, none⟩, cap, hne, fun k => by simp [Value.ownBlock, eq_comm], by rw [List.length_append, HN.out]; exact HM4.out, R3.out.far (p := ⟨g, 1, none⟩) hrg _, by rw [List.length_append, HN.out, wtP_add]; exact HO4.out, ⟨HL.out.1, HL.out.2.1, by rw [List.length_append, HN.out, List.length_singleton]; omega⟩, HBe.out⟩,
        hb3, fun k hk h => by
          rcases h with rfl | rfl | rfl
          · exact (HS.out _).2 (.inl rfl)
          · exact (HS.out _).2 (.inr (.inl rfl))
          · rcases HAT.out with h | h
            · exact (HS.out _).2 (.inr (.inr h))
            · omega⟩)
    clear hb3 hgb HGR HAT HM4 HO4 HO5 R3 M2 X2 O2 R2 M3 X3 HG HR HO HX HBe HL HS e9 f9 hfg2 hHeld0 hHeld2 hHeld3
    go_wp2_with fail
    go_ret
    exact HF.out
end
end Go.Proofs.Ytgacejencnkpmaa
