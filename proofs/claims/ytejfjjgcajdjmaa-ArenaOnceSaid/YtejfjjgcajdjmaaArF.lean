/-
  Contracts of the document's answers of layer 15 (louverref15): Free and Take.
-/
import Derived.Test.YtejfjjgcajdjmaaArD
namespace Go.Proofs.Ytejfjjgcajdjmaa
open Go.RowKit
set_option linter.unusedSimpArgs false
set_option linter.unusedVariables false
set_option maxRecDepth 100000

/-- What Free and Take tell of the slots: they lie where they lay, or in new memory. -/
def DRow (A : Option Addr) (c : Nat) (l : List Sl) (w : World) (A' : Option Addr) (c' : Nat) (l' : List Sl) (w' : World) : Prop :=
  Row w' w'.heap.size 3 A' l.length (docC l') ∧ (A' = A ∧ c' = c ∨ ∀ a, A' = some a → w.heap.size ≤ a.block) ∧ Below w.heap.size w w'
set_option maxHeartbeats 1600000 in
theorem rfree_any (A : Option Addr) (c : Nat) (l : List Sl) (s t : Int) (w : World) (hr : Row w w.heap.size 3 A l.length (docC l)) (hl : l.length ≤ 64) (h1 : OneC l) :
    Calls Try.prog 11 #[.slice A l.length c, .agg #[.int .i64 s, .int .u32 t]] w fun e w' => ∃ A' c', e = .returned (.tuple #[.slice A' l.length c', .int .i64 (if (getA l s t).isSome = true then 0 else 26)]) ∧
      DRow A c l w A' c' (freeA (.int .i64 0) l s t) w' := by
  have hb0 := (Below.refl w.heap.size w).alloc (Nat.le_refl _) (.cells #[.int .i64 s, .int .u32 t] 30)
  have hr0 := (hr.below hb0 (Nat.le_refl _)).more hb0.size
  have CG := Lib.hid (rget_any A c l s t (w.alloc (.cells #[.int .i64 s, .int .u32 t] 30)) hr0 hl)
  have W0 := Lib.hid (Whole.new w 30 #[.int .i64 s, .int .u32 t])
  have HB0 := Lib.hid hb0
  have HR0 := Lib.hid hr0
  have CG := CG.out
  unfold gotD at CG
  clear hb0 hr0 hr
  cases hg : getA l s t with
  | none =>
    rw [hg] at CG
    have hf : freeA (.int .i64 0) l s t = l := by unfold freeA; rw [hg]; rfl
    rw [hf]
    dsimp only [Option.getD, Option.isSome] at CG ⊢
    rw [if_neg Bool.false_ne_true] at CG ⊢
    replace CG := Lib.hid CG
    unfold DRow
    clear hf hg h1
    obtain ⟨n, hn⟩ : ∃ n, l.length = n := ⟨_, rfl⟩
    rw [hn] at CG HR0 hl ⊢
    clear hn
    go_enter Try.func11, Try.ntmps11
    go_wp2_with fail
    refine CG.out.mono ?_
    rintro e w1 ⟨rfl, b1⟩
    have HF := Lib.hid (And.intro ((HR0.out.below b1 (Nat.le_refl _)).more b1.size) (HB0.out.trans (b1.mono HB0.out.size)))
    clear b1 CG HR0 HB0 W0
    go_wp2
    go_ret2
    exact ⟨A, c, rfl, HF.out.1, .inl ⟨rfl, rfl⟩, HF.out.2⟩
  | some v =>
    rw [hg] at CG
    obtain ⟨hs0, y, hy, hyu, hyt, hyx⟩ := getA_turn hg
    obtain ⟨k, rfl⟩ : ∃ k : Nat, s = (k : Int) := ⟨s.toNat, by omega⟩
    rw [Int.toNat_natCast] at hy
    have hk : k < l.length := (List.getElem?_eq_some_iff.1 hy).1
    subst hyt
    have hf : freeA (.int .i64 0) l (k : Int) (y.turn : Int) = l.set k ⟨.int .i64 0, y.turn, false⟩ := by rw [free_own hy, if_pos hyu]
    rw [hf]
    dsimp only [Option.getD, Option.isSome] at CG ⊢
    rw [if_pos rfl] at CG ⊢
    replace CG := Lib.hid CG
    have CW := Lib.hid (fun w' (b : Below (w.alloc (.cells #[.int .i64 (k : Int), .int .u32 (y.turn : Int)] 30)).heap.size (w.alloc (.cells #[.int .i64 (k : Int), .int .u32 (y.turn : Int)] 30)) w') => rwith_any A c l k 0 y.turn false w' ((HR0.out.below b (Nat.le_refl _)).more b.size) hl hk h1)
    obtain ⟨L2, hL2⟩ : ∃ z, l.set k ⟨.int .i64 0, y.turn, false⟩ = z := ⟨_, rfl⟩
    rw [hL2] at CW ⊢
    obtain ⟨t, ht⟩ : ∃ z, y.turn = z := ⟨_, rfl⟩
    rw [ht] at CG CW HB0 W0 HR0 ⊢
    unfold DRow
    obtain ⟨n, hn⟩ : ∃ n, l.length = n := ⟨_, rfl⟩
    rw [hn] at CG CW HR0 hl hk ⊢
    clear hn hf hg hL2 ht hy hyu hyx h1 hs0
    go_enter Try.func11, Try.ntmps11
    go_wp2_with fail
    refine CG.out.mono ?_
    rintro e w1 ⟨rfl, b1⟩
    have X := W0.out.below b1 W0.out.lt
    have x0 := X.cell 0
    have x1 := X.cell 1
    have HB1 := Lib.hid (HB0.out.trans (b1.mono HB0.out.size))
    have CW := Lib.hid (CW.out w1 b1)
    clear b1 CG HR0 HB0 W0 X
    go_wp2_with fail
    refine CW.out.mono ?_
    rintro e w2 ⟨g2, cap, rfl, hown, b2⟩
    have HF := Lib.hid (And.intro (Row.of_own hown) (And.intro (own_lo hown) (HB1.out.trans (b2.mono HB1.out.size))))
    clear hown b2 CW x0 x1
    go_wp2
    go_ret2
    exact ⟨_, _, rfl, HF.out.1, .inr (fun a ha => Nat.le_trans HB1.out.size (HF.out.2.1 a ha)), HF.out.2.2⟩

theorem row_far {w w' : World} {B z n : Nat} {A : Option Addr} {xs : List Value} (h : Row w B z A n xs) (hk : ∀ a, A = some a → ∀ j, w'.cell? ⟨a.block, j, none⟩ = w.cell? ⟨a.block, j, none⟩) : Row w' B z A n xs :=
  ⟨h.1, fun hn => by
    obtain ⟨g, o, e, hb, hc⟩ := h.2 hn
    exact ⟨g, o, e, hb, fun j u hu => (hk _ e _).trans (hc j u hu)⟩⟩
theorem OneC.set {l : List Sl} (h : OneC l) (i : Nat) (x : Int) (t : Nat) (b : Bool) : OneC (l.set i ⟨.int .i64 x, t, b⟩) := by
  intro y hy
  rcases List.mem_or_eq_of_mem_set hy with h1 | h1
  · exact h y h1
  · subst h1; rfl
set_option maxHeartbeats 1600000 in
theorem rtake_any (A : Option Addr) (c : Nat) (l : List Sl) (x : Int) (w : World) (hr : Row w w.heap.size 3 A l.length (docC l)) (hl : l.length ≤ 64) (h1 : OneC l) (ht : Turns 1000000 l) :
    Calls Try.prog 9 #[.slice A l.length c, .int .i64 x] w fun e w' => ∃ A' c', e = .returned (.tuple #[.slice A' l.length c', .agg #[.int .i64 (slotA l : Int), .int .u32 (turnT l : Int)], .int .i64 (errA l)]) ∧
      DRow A c l w A' c' (takeA l (.int .i64 x)) w' := by
  have hb0 := (Below.refl w.heap.size w).alloc (Nat.le_refl _) (.cells #[.int .i64 0, .int .u32 0] 30)
  have HB0 := Lib.hid hb0
  have HR := Lib.hid hr
  have HT := Lib.hid ht
  have H1 := Lib.hid h1
  clear hb0 hr ht h1
  obtain ⟨n, hn⟩ : ∃ n, l.length = n := ⟨_, rfl⟩
  have HN := Lib.hid hn
  unfold DRow
  obtain ⟨er, her⟩ : ∃ z, errA l = z := ⟨_, rfl⟩
  obtain ⟨sl, hsl⟩ : ∃ z : Int, (slotA l : Int) = z := ⟨_, rfl⟩
  obtain ⟨tn, htn⟩ : ∃ z : Int, (turnT l : Int) = z := ⟨_, rfl⟩
  obtain ⟨tk, htk⟩ : ∃ z, takeA l (.int .i64 x) = z := ⟨_, rfl⟩
  rw [her, hsl, htn, htk]
  have HE := Lib.hid (And.intro her (And.intro hsl (And.intro htn htk)))
  clear her hsl htn htk
  rw [hn] at HR hl ⊢
  clear hn
  go_enter Try.func9, Try.ntmps9
  go_wp2_with fail
  go_loop [7] (fun i => ∃ k : Nat, k ≤ n ∧ i = .int .i64 (k : Int) ∧ ∀ (j : Nat) (z : Sl), j < k → l[j]? = some z → z.used = true) (fun i => n - (intOf i).toNat)
  case atStart => exact ⟨0, Nat.zero_le _, rfl, fun j z hj => by omega⟩
  case round =>
    obtain ⟨k, hk, rfl, hall⟩ := hrel
    have HALL := Lib.hid hall
    clear hall
    by_cases hlt : k < n
    · obtain ⟨y, hy⟩ : ∃ y, l[k]? = some y := ⟨_, List.getElem?_eq_getElem (by rw [HN.out]; exact hlt)⟩
      obtain ⟨g, o, rfl, hg, hc⟩ := HR.out.2 (by omega)
      obtain ⟨e0, e1, e2⟩ := docC_get hy
      have c1 := (HB0.out.cell (p := ⟨g, o + (k * 3 + 1), none⟩) hg).trans (hc _ _ e1)
      have c2 := (HB0.out.cell (p := ⟨g, o + (k * 3 + 2), none⟩) hg).trans (hc _ _ e2)
      rw [← Nat.add_assoc] at c1 c2
      have i0 : (0 : Int) ≤ (k : Int) := by omega
      have i1 : (k : Int) < (n : Int) := by omega
      obtain ⟨u, hu⟩ : ∃ b, y.used = b := ⟨_, rfl⟩
      rw [hu] at c2
      have HY := Lib.hid (And.intro hy hu)
      clear hc e0 e1 e2 hy hu
      cases u with
      | true =>
        clear c1
        go_wp2_with fail
        go_round
        case rel => exact ⟨k + 1, by omega, by go_num, fun j z hj hz => by
          rcases Nat.lt_or_ge j k with h | h
          · exact HALL.out j z h hz
          · obtain rfl : j = k := by omega
            rw [HY.out.1] at hz
            injection hz with hz
            subst hz
            exact HY.out.2⟩
        case measure => simp [intOf]; omega
      | false =>
        have hlow : lowA l = k := lowA_eq HY.out.1 HY.out.2 HALL.out
        have hlt' : lowA l < l.length := by rw [hlow, HN.out]; exact hlt
        have hturn : turnA l = y.turn + 1 := turn_at (by rw [hlow]; exact HY.out.1)
        have htold := told_yes hlt'
        have hty := HT.out y (List.mem_of_getElem? HY.out.1)
        obtain ⟨he1, he2, he3, he4⟩ := HE.out
        rw [htold.1] at he1
        rw [htold.2.1, hlow] at he2
        rw [htold.2.2, hturn] at he3
        rw [take_yes hlt', hlow, hturn] at he4
        obtain ⟨t, hyt⟩ : ∃ z, y.turn = z := ⟨_, rfl⟩
        rw [hyt] at c1 hty he3 he4
        subst he1
        subst he2
        clear HE hlow hlt' hturn htold hyt HALL HY HT
        have hwr : IntKind.u32.wrap ((t : Int) + 1) = ((t + 1 : Nat) : Int) := by rw [IntWalk.u32_in _ (by omega)]; omega
        have CW := Lib.hid (fun w' (b : Below w.heap.size w w') => rwith_any (some ⟨g, o, none⟩) c l k x (t + 1) true w' (by rw [HN.out]; exact (HR.out.below b (Nat.le_refl _)).more b.size) (by rw [HN.out]; exact hl) (by rw [HN.out]; exact hlt) H1.out)
        rw [HN.out] at CW
        rw [he4, he3] at CW
        rw [he3] at hwr
        clear he3 he4 H1 HN
        go_upto_region 6 with fail
        obtain ⟨wo, hwo⟩ : ∃ z, z = (w.alloc (.cells #[.int .i64 0, .int .u32 0] 30)).alloc (.cells #[.int .i64 x, .int .u32 tn, .bool true] 46) := ⟨_, rfl⟩
        have X := Lib.hid (show Whole wo (w.heap.size + 1) 46 #[.int .i64 x, .int .u32 tn, .bool true] by rw [hwo]; exact Whole.new2 w _ _ _)
        have R := Lib.hid (show Whole wo w.heap.size 30 #[.int .i64 0, .int .u32 0] by rw [hwo]; exact (Whole.new w _ _).alloc _)
        have HBo := Lib.hid (show Below w.heap.size w wo by rw [hwo]; exact HB0.out.alloc HB0.out.size _)
        rw [← hwo]
        clear hwo c1 c2 hwr
        have KS := Lib.hid (fun w' (b' : Below wo.heap.size wo w') => show (fun w' => w'.cell? ⟨w.heap.size + 1, 0, none⟩ = some (.int .i64 x) ∧ w'.cell? ⟨w.heap.size + 1, 1, none⟩ = some (.int .u32 tn) ∧ w'.cell? ⟨w.heap.size + 1, 2, none⟩ = some (.bool true)) w' from ⟨(X.out.below b' X.out.lt).cell 0, (X.out.below b' X.out.lt).cell 1, (X.out.below b' X.out.lt).cell 2⟩)
        have hK0 := KS.out wo (Below.refl _ _)
        have lX := X.out.lt
        go_region_held3 (fun w' => w'.cell? ⟨w.heap.size + 1, 0, none⟩ = some (.int .i64 x) ∧ w'.cell? ⟨w.heap.size + 1, 1, none⟩ = some (.int .u32 tn) ∧ w'.cell? ⟨w.heap.size + 1, 2, none⟩ = some (.bool true))
          (first | exact hK0 | exact KS.out _ (Below.refl _ _).drew | exact KS.out _ ‹Below wo.heap.size wo _› | go_keep)
          (first | (go_at_call 23; refine (CW.out _ HBo.out.drew).mono ?_; rintro e v1 ⟨g2, cap, rfl, hown, b1⟩; have B1 := (Below.refl wo.heap.size wo).drew.trans b1; have R1 := R.out.below B1 R.out.lt; have r0 := R1.cell 0; have r1 := R1.cell 1; have fr0 := R1.free 0; have fr1 := R1.free 1; have hne : w.heap.size + 1 ≠ w.heap.size := by omega))
        have hlo := own_lo hown
        have hrow := Row.of_own hown
        have hfar : ∀ a, (some ⟨g2, 0, none⟩ : Option Addr) = some a → ∀ j, ((v1.setCell ⟨w.heap.size, 0, none⟩ (.int .i64 (k : Int))).setCell ⟨w.heap.size, 1, none⟩ (.int .u32 tn)).cell? ⟨a.block, j, none⟩ = v1.cell? ⟨a.block, j, none⟩ := by
          intro a ha j
          have h1 : wo.heap.size ≤ a.block := hlo a ha
          have h2 : (⟨w.heap.size, 0, none⟩ : Addr).block ≠ a.block := by show w.heap.size ≠ a.block; omega
          exact (World.cell?_of_block (a := ⟨a.block, j, none⟩) (Below.heap_setCell _ _ _ _ (by show a.block ≠ w.heap.size; omega))).trans (World.cell?_of_block (a := ⟨a.block, j, none⟩) (Below.heap_setCell _ _ _ _ (by show a.block ≠ w.heap.size; omega)))
        have HF := Lib.hid (And.intro (row_far hrow hfar) (And.intro hlo (((HBo.out.trans (B1.mono HBo.out.size)).setCell (p := ⟨w.heap.size, 0, none⟩) (Nat.le_refl _) (.int .i64 (k : Int))).setCell (p := ⟨w.heap.size, 1, none⟩) (Nat.le_refl _) (.int .u32 tn))))
        have lR := R1.lt
        clear hlo hrow hfar hown b1
        go_wp2_with fail
        exact bodyPost_ret (v := .tuple #[.slice (some ⟨g2, 0, none⟩) n cap, .agg #[.int .i64 (k : Int), .int .u32 tn], .int .i64 0]) (by simp [results, Try.results9, go_sem, lR, r0, r1]) rfl
          ⟨_, _, rfl, HF.out.1.more (by simp), .inr (fun a ha => by have h1 : wo.heap.size ≤ a.block := HF.out.2.1 a ha; omega), HF.out.2.2⟩
    · obtain rfl : k = n := by omega
      have hno : lowA l = l.length := lowA_none (fun j z hz => HALL.out j z (by have := (List.getElem?_eq_some_iff.1 hz).1; rw [HN.out] at this; exact this) hz)
      have hno' : ¬ lowA l < l.length := by omega
      have htold := told_no hno'
      obtain ⟨he1, he2, he3, he4⟩ := HE.out
      rw [htold.1] at he1
      rw [htold.2.1] at he2
      rw [htold.2.2] at he3
      rw [take_no hno'] at he4
      subst he1
      subst he2
      subst he3
      subst he4
      have W0 := Whole.new w 30 #[.int .i64 0, .int .u32 0]
      have hwl := W0.lt
      clear hno hno' htold HALL W0 HE
      have HF := Lib.hid (And.intro ((HR.out.below HB0.out (Nat.le_refl _)).more HB0.out.size) HB0.out)
      go_wp2_with fail
      exact bodyPost_ret (v := .tuple #[.slice A k c, .agg #[.int .i64 0, .int .u32 0], .int .i64 20]) (by simp [results, Try.results9, go_sem]) rfl ⟨A, c, rfl, HF.out.1, .inl ⟨rfl, rfl⟩, HF.out.2⟩
end Go.Proofs.Ytejfjjgcajdjmaa
