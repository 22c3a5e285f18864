/-
  Contracts of package pins: Sweep.
-/
import Derived.Test.YtgacejencnkpmaaPnCg
namespace Go.Proofs.Ytgacejencnkpmaa
open Go.RowKit
set_option linter.unusedSimpArgs false
set_option linter.unusedVariables false
set_option maxRecDepth 100000

theorem info_ref : (Try.prog.info? 33).map (fun i => (i.zero, i.size, i.bytes)) = some (some (.agg #[.int .i64 0, .int .u32 0]), 2, 16) := by kernel_rfl
theorem goes_takeP {q : List Wt} {o : Int} {j : Nat} {t : Wt} (h : q[j]? = some t) : goes o (q.take (j + 1)) = if goesB o t = true then goes o (q.take j) ++ [t] else goes o (q.take j) := by
  have e : q.take (j + 1) = q.take j ++ [t] := by rw [List.take_add_one, h]; rfl
  unfold goes goesB
  rw [e, List.filter_append]
  by_cases h1 : t.ep ≤ o
  · rw [if_pos (by simpa using h1), List.filter_cons, if_pos (by simpa using h1), List.filter_nil]
  · rw [if_neg (by simpa using h1), List.filter_cons, if_neg (by simpa using h1), List.filter_nil, List.append_nil]
section
variable (l : List Wk) (q : List Wt) (g : Nat) (S : Nat → Prop) (w : World)
theorem psweep_nil : Calls Try.prog 19 #[.pointer none] w fun e w' => ∃ A c, e = .returned (.slice A 0 c) ∧ Below w.heap.size w w' := by
  have HB := Lib.hid (Below.refl w.heap.size w)
  go_enter Try.func19, Try.ntmps19
  go_wp2
  go_ret
  exact ⟨_, _, rfl, HB.out⟩
set_option maxHeartbeats 3200000 in
theorem psweep_any (h : PAt w g S l q) : Calls Try.prog 19 #[.pointer (some ⟨g, 0, none⟩)] w (PSwept g S l q w) := by
  have CO := Lib.hid (pold_any l q g S w h)
  obtain ⟨r, A, c, hne, hS, hG, hR, hO, hL, hb⟩ := h
  obtain ⟨o, ho⟩ : ∃ o, oldS l = o := ⟨_, rfl⟩
  unfold PSwept
  rw [ho] at CO ⊢
  obtain ⟨n, hn⟩ : ∃ n, q.length = n := ⟨_, rfl⟩
  have HN := Lib.hid hn
  rw [hn] at hG hO hL hS
  have HS := Lib.hid hS
  have HG := Lib.hid hG
  have HR := Lib.hid hR
  have HO := Lib.hid hO
  have HBe := Lib.hid hb
  have hgl := hG.lt
  have hrl := hR.lt
  clear hG hR hO hS hb hn ho
  go_enter Try.func19, Try.ntmps19
  go_wp2_with fail
  refine CO.out.mono ?_
  rintro e w1 ⟨rfl, b1⟩
  have hs1 := b1.size
  obtain ⟨x, hx⟩ : ∃ x, w1.heap.size = x := ⟨_, rfl⟩
  have HX0 := Lib.hid (show Whole (w1.alloc (.cells #[.int .u64 o] 30)) x 30 #[.int .u64 o] by rw [← hx]; exact Whole.new w1 _ _)
  have HB1 := Lib.hid (b1.alloc hs1 (.cells #[.int .u64 o] 30))
  have hxw : w.heap.size ≤ x := by omega
  have hg2 : g < x := by omega
  have g1 := ((HG.out.below b1 HG.out.lt).alloc (.cells #[.int .u64 o] 30)).cell 1
  clear b1 CO
  go_wp2_with fail
  have HX1 := Lib.hid hx
  clear g1 hx
  go_loopw [5, 18] (fun s5 s18 wr => ∃ k : Nat, k ≤ n ∧ s18 = .int .i64 (k : Int) ∧ wr.ownsRow w.heap.size 33 2 s5 (goes o (q.take k)).length (rfC (goes o (q.take k))) ∧ Whole wr x 30 #[.int .u64 o] ∧ Below w.heap.size w wr) (fun _ s18 _ => n - (intOf s18).toNat)
  case atStart => exact ⟨0, Nat.zero_le _, rfl, World.ownsRow_nil _ _ _ _, HX0.out, HB1.out⟩
  case round =>
    obtain ⟨k, hk, rfl, hown, hx, hb⟩ := hrel
    obtain ⟨A5, c5, rfl⟩ := own_form hown
    have HW := Lib.hid hown
    have HX := Lib.hid hx
    have HB := Lib.hid hb
    have hsz := hb.size
    clear hown
    by_cases hlt : k < n
    · obtain ⟨y, hy⟩ : ∃ y, q[k]? = some y := ⟨_, List.getElem?_eq_getElem (by rw [HN.out]; exact hlt)⟩
      obtain ⟨gb, p, rfl, hgb, hc⟩ := (Row.of_own HO.out).2 (by omega)
      obtain ⟨e0, e1, e2⟩ := wtP_get hy
      have c0 := (hb.cell (p := ⟨gb, p + k * 3, none⟩) hgb).trans (hc _ _ e0)
      have c1 := (hb.cell (p := ⟨gb, p + (k * 3 + 1), none⟩) hgb).trans (hc _ _ e1)
      have c2 := (hb.cell (p := ⟨gb, p + (k * 3 + 2), none⟩) hgb).trans (hc _ _ e2)
      rw [← Nat.add_assoc] at c1 c2
      have HT := Lib.hid (goes_takeP (o := o) hy)
      have i0 : (0 : Int) ≤ (k : Int) := by omega
      have i1 : (k : Int) < (n : Int) := by omega
      have hgl2 : gb < wr.heap.size := by omega
      obtain ⟨ys, yt, ye⟩ := y
      dsimp only at c0 c1 c2
      have C := Lib.hid (goesB_any ⟨ys, yt, ye⟩ o x (wr.alloc (.cells #[.int .i64 ys, .int .u32 yt, .int .u64 ye] 75)) ((hx.alloc (.cells #[.int .i64 ys, .int .u32 yt, .int .u64 ye] 75)).cell 0) (hx.alloc (.cells #[.int .i64 ys, .int .u32 yt, .int .u64 ye] 75)).lt)
      have HN1 := Lib.hid (Whole.new wr 75 #[.int .i64 ys, .int .u32 yt, .int .u64 ye])
      have hs2 : (wr.alloc (.cells #[.int .i64 ys, .int .u32 yt, .int .u64 ye] 75)).heap.size = wr.heap.size + 1 := by simp
      have HS2 := Lib.hid hs2
      clear hx hb hy e0 e1 e2 hs2 hc
      obtain ⟨G, hG⟩ : ∃ G, goes o (q.take k) = G := ⟨_, rfl⟩
      rw [hG] at HT HW ⊢
      obtain ⟨M, hM⟩ : ∃ M, G.length = M := ⟨_, rfl⟩
      have HM := Lib.hid hM
      have hM64 : M ≤ 64 := by
        have h1 := goes_le o (q.take k)
        rw [hG, hM, List.length_take] at h1
        omega
      rw [hM] at HW ⊢
      generalize hq : goesB o ⟨ys, yt, ye⟩ = t at C HT
      clear hq hG hM
      have HW2 := Lib.hid (HW.out.alloc (.cells #[.int .i64 ys, .int .u32 yt, .int .u64 ye] 75))
      have HX2 := Lib.hid (HX.out.alloc (.cells #[.int .i64 ys, .int .u32 yt, .int .u64 ye] 75))
      have HB2 := Lib.hid (HB.out.alloc hsz (.cells #[.int .i64 ys, .int .u32 yt, .int .u64 ye] 75))
      cases t with
      | true =>
        have HT2 := Lib.hid (HT.out.trans (if_pos rfl))
        clear HT
        go_wp2_with fail
        refine C.out.mono ?_
        rintro e w8 ⟨rfl, b8⟩
        have hs8 := b8.size
        rw [HS2.out] at hs8
        have N8 := HN1.out.below b8 (by rw [HS2.out]; omega)
        have n0 := N8.cell 0
        have n1 := N8.cell 1
        have HW8 := Lib.hid (own_below HW2.out b8 (Nat.le_refl _))
        have HX8 := Lib.hid (HX2.out.below b8 HX2.out.lt)
        have HB8 := Lib.hid (HB2.out.trans (b8.mono (by rw [HS2.out]; omega)))
        have HR8 := Lib.hid (Row.fresh w8 33 #[.int .i64 ys, .int .u32 yt] 2 1 [.int .i64 ys, .int .u32 yt] rfl rfl)
        have hw8 : w.heap.size ≤ w8.heap.size := by omega
        clear b8 N8 c0 c1 c2
        go_wp2_with (at_builtin; refine wpl_append _ rfl (.tmp 25) (.tmp 28) 48 rfl w.heap.size 33 (.agg #[.int .i64 0, .int .u32 0]) 2 16 Try.underlying48 info_ref rfl (by decide) _ M (rfC G) rfl (HW8.out.alloc _) _ (some ⟨w8.heap.size, 0, none⟩) 1 1 [.int .i64 ys, .int .u32 yt] rfl HR8.out (by simp [Value.oneCell']) ?c1 ?c2 ?c3 ?_)
        case c1 => unfold maxLen; omega
        case c2 => omega
        case c3 => simp; omega
        intro v3 w3 hown3 hg3 _
        have hfx := own_far (HW8.out.alloc (.cells #[.int .i64 ys, .int .u32 yt] 33)) (HX8.out.alloc (.cells #[.int .i64 ys, .int .u32 yt] 33)) (by decide)
        have HX3 := Lib.hid ((HX8.out.alloc (.cells #[.int .i64 ys, .int .u32 yt] 33)).grown hg3 hfx)
        have HB3 := Lib.hid (show Below w.heap.size w w3 from (HB8.out.alloc hw8 _).grown hg3 (by simp; omega) (fun q hq => (HW8.out.lt q hq).1))
        have HO3 := Lib.hid (show w3.ownsRow w.heap.size 33 2 v3 (goes o (q.take (k + 1))).length (rfC (goes o (q.take (k + 1)))) by rw [HT2.out, rfC_add, List.length_append, HM.out]; exact hown3)
        clear hown3 hg3 hfx HW8 HX8 HB8 HR8 HT2
        go_wp2_with fail
        go_roundw
        case rel => exact ⟨k + 1, by omega, by go_num, HO3.out, HX3.out, HB3.out⟩
        case measure => simp [intOf]; omega
      | false =>
        have HT2 := Lib.hid (HT.out.trans (if_neg Bool.false_ne_true))
        clear HT
        go_wp2_with fail
        refine C.out.mono ?_
        rintro e w8 ⟨rfl, b8⟩
        have HW8 := Lib.hid (own_below HW2.out b8 (Nat.le_refl _))
        have HX8 := Lib.hid (HX2.out.below b8 HX2.out.lt)
        have HB8 := Lib.hid (HB2.out.trans (b8.mono (by rw [HS2.out]; omega)))
        clear b8 c0 c1 c2
        go_wp2_with fail
        go_roundw
        case rel => exact ⟨k + 1, by omega, by go_num, by rw [HT2.out, HM.out]; exact HW8.out, HX8.out, HB8.out⟩
        case measure => simp [intOf]; omega
    · obtain rfl : k = n := by omega
      have hta : q.take k = q := by rw [← HN.out]; exact List.take_length
      rw [hta] at HW ⊢
      have HWr := HW
      have hxr := hx.lt
      have G3 := HG.out.below hb HG.out.lt
      have O3 := own_below HO.out hb (Nat.le_refl _)
      have g1 := G3.cell 1
      have CD := wdel_any A c q o x wr (by rw [HN.out]; exact O3) (by rw [HN.out]; exact hL.2.2) (hx.cell 0) hx.lt (by
        rw [HN.out]
        intro e
        have := (HO.out.lt x e).2
        omega)
      rw [HN.out] at CD
      have HC := Lib.hid CD
      have hgr : g < wr.heap.size := by omega
      clear hx hb CD hta
      go_wp2_with fail
      refine HC.out.mono ?_
      rintro e w5 ⟨rfl, o5, k5⟩
      rw [HN.out] at k5
      have hb5 : ∀ j, (Value.slice A k c).ownBlock = some j → j < w.heap.size := fun j hj => (HO.out.lt j hj).2
      have hfg := own_far O3 G3 (by decide)
      have hfr := own_far HO.out HR.out (by decide)
      have G5 := G3.but k5 (fun e => hfg e.symm)
      have R5 := (HR.out.below HB.out HR.out.lt).but k5 (fun e => hfr e.symm)
      have hgg := G5.cell 1
      have hff := G5.free 1
      have hfo : ∀ j, (Value.slice A (stays o q).length c).ownBlock = some j → g ≠ j := fun j hj e => by
        have h1 := own_far o5 G5 (by decide)
        exact h1 (by rw [hj, e])
      have hob : (Value.slice A (stays o q).length c).ownBlock = (Value.slice A k c).ownBlock := by cases A <;> rfl
      have HRow := Lib.hid (row_farX (p := ⟨g, 1, none⟩) (u := .slice A (stays o q).length c) (row_butX (Row.of_own HWr.out) (Nat.le_refl _) k5 (fun a ha e => by have h1 := own_lo HWr.out a ha; have h2 := hb5 _ e; omega)) (fun a ha e => by have h1 := own_lo HWr.out a ha; have h2 : g = a.block := e; omega))
      have HF := Lib.hid (show ∃ A' c' S', (Value.slice A5 (goes o q).length c5) = (.slice A' (goes o q).length c') ∧ Row (w5.setCell ⟨g, 1, none⟩ (.slice A (stays o q).length c)) (w5.setCell ⟨g, 1, none⟩ (.slice A (stays o q).length c)).heap.size 2 A' (goes o q).length (rfC (goes o q)) ∧ PAt (w5.setCell ⟨g, 1, none⟩ (.slice A (stays o q).length c)) g S' l (stays o q) ∧ But S w (w5.setCell ⟨g, 1, none⟩ (.slice A (stays o q).length c)) ∧ ∀ k, k < w.heap.size → S' k → S k from
        ⟨A5, c5, S, rfl, HRow.out.more (by have := k5.size; simp; omega), ⟨r, A, c, hne, fun j => by rw [HS.out j, hob], show Whole _ _ _ #[.slice (some ⟨r, 0, none⟩) l.length l.length, .slice A (stays o q).length c] from G5.set 1 _, R5.far (p := ⟨g, 1, none⟩) hne _, own_farX o5 hfo, ⟨hL.1, hL.2.1, Nat.le_trans (stays_le o q) (by rw [HN.out]; exact hL.2.2)⟩, HBe.out⟩,
          (((but_of_below HB.out).trans (k5.mono fun j _ h => (HS.out j).2 (.inr (.inr h)))).set (p := ⟨g, 1, none⟩) (.inl ((HS.out g).2 (.inl rfl))) _), fun _ _ h => h⟩)
      clear k5 o5 O3 G3 G5 R5 hfg hfr hb5 hfo HRow HWr HW HC HR HG HO HS HBe HB
      go_wp2_with fail
      go_ret
      obtain ⟨A', c', S', e, h⟩ := HF.out
      exact ⟨A', c', S', congrArg Ending.returned e, h⟩
end
end Go.Proofs.Ytgacejencnkpmaa
