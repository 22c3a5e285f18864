/-
  The code's Parse of rtp (layer 6): a head is taken.
-/
import Derived.Test.YticnaljfnjiofaaRpF
import Derived.Test.YticnaljfnjiofaaRpB
import Derived.Test.YticnaljfnjiofaaHang
import Derived.Deep.AppendLies
namespace Go.Proofs.Yticnaljfnjiofaa
open Go.RowKit
set_option linter.unusedSimpArgs false
set_option linter.unusedVariables false
set_option maxRecDepth 100000

theorem bitsF (x : Nat) (h : x < 256) : (bits .and .u8 (x : Int) 128 != 0) = decide (128 ≤ x) ∧ (bits .and .u8 (x : Int) 32 != 0) = decide (x / 32 % 2 = 1) ∧ (bits .and .u8 (x : Int) 16 != 0) = decide (x / 16 % 2 = 1) ∧ bits .and .u8 (x : Int) 15 = ((x % 16 : Nat) : Int) ∧ bits .and .u8 (x : Int) 127 = ((x % 128 : Nat) : Int) := by
  have : ∀ x : Nat, x < 256 → (bits .and .u8 (x : Int) 128 != 0) = decide (128 ≤ x) ∧ (bits .and .u8 (x : Int) 32 != 0) = decide (x / 32 % 2 = 1) ∧ (bits .and .u8 (x : Int) 16 != 0) = decide (x / 16 % 2 = 1) ∧ bits .and .u8 (x : Int) 15 = ((x % 16 : Nat) : Int) ∧ bits .and .u8 (x : Int) 127 = ((x % 128 : Nat) : Int) := by decide +kernel
  exact this x h
theorem info_u32 : (Try.prog.info? 22).map (fun i => (i.zero, i.size, i.bytes)) = some (some (.int .u32 0), 1, 4) := by kernel_rfl
theorem wrapU32 (x : Nat) (h : x < 4294967296) : IntKind.u32.wrap (x : Int) = (x : Int) := by simp only [IntKind.wrap, IntKind.bits, IntKind.signed]; simp; omega
theorem u32s_snoc (l : List Nat) (x : Nat) : u32s (l ++ [x]) = u32s l ++ [.int .u32 (x : Int)] := by simp [u32s]

/-- What take tells of bytes that begin with f, behind that byte; what is in the head, if nothing went wrong. -/
def Cu.tells (s : Cu) : Bool × Int :=
  if (s.tk 1).e ≠ 0 then (false, (s.tk 1).e) else if s.nm 1 < 128 ∨ 191 < s.nm 1 then (false, 11) else (decide (s.nm 1 / 32 % 2 = 1), ((s.tk 1).x7 (s.nm 1)).2)
def TakeTold (s : Cu) (w : World) (lo p g : Nat) (e : Ending) (w' : World) : Prop :=
  e = .returned (.tuple #[.bool s.tells.1, .int .i64 s.tells.2]) ∧ Below p w w' ∧ (s.tells.2 = 0 → ∃ A1 c1 A2 c2 ps,
    Whole w' p 35 #[.bool (decide (128 ≤ (s.tk 1).nm 1)), .int .u8 (((s.tk 1).nm 1 : Int) % 128), .int .u16 ((s.tk 1).h2.nm 2 : Int), .int .u32 ((s.tk 1).h3.nm 4 : Int), .int .u32 ((s.tk 1).h4.nm 4 : Int), .slice A1 ((s.tk 1).h5.csr (s.nm 1 % 16)).length c1, .slice A2 ps.length c2, .slice none 0 0, .int .i64 0] ∧
    Row w' w'.heap.size 1 A1 ((s.tk 1).h5.csr (s.nm 1 % 16)).length (u32s ((s.tk 1).h5.csr (s.nm 1 % 16))) ∧ Its w' A2 ps ∧ ps.map Ip.it = ((s.tk 1).x7 (s.nm 1)).1 ∧ CutAt w' lo g ((s.tk 1).x8 (s.nm 1)).l ((s.tk 1).x8 (s.nm 1)).e ∧ (∀ a, A1 = some a → g < a.block) ∧ AtIts (g + 1) A2 ps)
theorem csr_length (s : Cu) (k : Nat) : (s.csr k).length = k := by
  induction k with
  | zero => rfl
  | succ k ih => rw [Cu.csr, List.length_append, ih]; rfl
theorem csrE_le (s : Cu) (k : Nat) : (s.csrE k).l.length ≤ s.l.length := by
  induction k with
  | zero => exact Nat.le_refl _
  | succ k ih => exact Nat.le_trans (Cu.tk_le _ _) ih
theorem CutAt.pset {w : World} {lo g p : Nat} {l : List UInt8} {e : Int} (h : CutAt w lo g l e) (h1 : p < lo) (h2 : lo ≤ g) (i : Nat) (u : Value) : CutAt (w.setCell ⟨p, i, none⟩ u) lo g l e := h.low h1 h2 u

theorem Row.pset {w : World} {z n : Nat} {A : Option Addr} {xs : List Value} (h : Row w w.heap.size z A n xs) {p B : Nat} (hn : ∀ a, A = some a → B ≤ a.block) (hp : p < B) (i : Nat) (u : Value) : Row (w.setCell ⟨p, i, none⟩ u) (w.setCell ⟨p, i, none⟩ u).heap.size z A n xs := by
  refine ⟨h.1, fun h0 => ?_⟩
  obtain ⟨g, o, e, hg, hc⟩ := h.2 h0
  refine ⟨g, o, e, by simpa using hg, fun j v hj => ?_⟩
  have hne : g ≠ p := by have := hn _ e; simp at this; omega
  rw [World.cell?_of_block (a := ⟨g, o + j, none⟩) (Below.heap_setCell w ⟨p, i, none⟩ u g hne)]
  exact hc j v hj
theorem Its.pset {w : World} {A : Option Addr} {ps : List Ip} (h : Its w A ps) {B p : Nat} (hn : AtIts B A ps) (hp : p < B) (i : Nat) (u : Value) : Its (w.setCell ⟨p, i, none⟩ u) A ps :=
  ⟨Row.pset h.1 hn.1 hp i u, fun q hq => ⟨Row.pset (h.2 q hq).1 (hn.2 q hq) hp i u, (h.2 q hq).2⟩⟩
set_option maxHeartbeats 6400000 in
theorem rtake_any (s : Cu) (lo p g : Nat) (w : World) (hp : p < lo) (hg : lo ≤ g) (h : CutAt w lo g s.l s.e) (hw : Whole w p 35 #[.bool false, .int .u8 0, .int .u16 0, .int .u32 0, .int .u32 0, .slice none 0 0, .slice none 0 0, .slice none 0 0, .int .i64 0]) (hl : s.l.length ≤ 65536) :
    Calls Try.prog 26 #[.pointer (some ⟨p, 0, none⟩), .pointer (some ⟨g, 0, none⟩)] w (TakeTold s w lo p g) := by
  obtain ⟨s1, h1⟩ : ∃ x, s.tk 1 = x := ⟨_, rfl⟩
  obtain ⟨f, hf⟩ : ∃ x, s.nm 1 = x := ⟨_, rfl⟩
  obtain ⟨er, her⟩ : ∃ x, s1.e = x := ⟨_, rfl⟩
  have bf : f < 256 := by rw [← hf]; exact s.nm_1
  have hT : s.tells = if er ≠ 0 then (false, er) else if f < 128 ∨ 191 < f then (false, 11) else (decide (f / 32 % 2 = 1), (s1.x7 f).2) := by unfold Cu.tells; rw [h1, hf, her]
  have C1 := num_cu s lo g 1 w h
  rw [h1, hf] at C1
  have C2 := fun w h => err_any (lo := lo) g s1.l s1.e w h
  rw [her] at C1 C2
  have HBAD : Hid (∀ (w' : World) (x : Int), s.tells = (false, x) → x ≠ 0 → Below p w w' → TakeTold s w lo p g (.returned (.tuple #[.bool false, .int .i64 x])) w') := Lib.hid (fun w' x h1 h2 h3 => ⟨by rw [h1], h3, fun h => absurd (by rw [h1] at h; exact h) h2⟩)
  have HGOOD : Hid (∀ (b : Bool) (w' : World) (x : Int), s.tells = (b, x) → Below p w w' → (x = 0 → ∃ A1 c1 A2 c2 ps, Whole w' p 35 #[.bool (decide (128 ≤ s1.nm 1)), .int .u8 ((s1.nm 1 : Int) % 128), .int .u16 (s1.h2.nm 2 : Int), .int .u32 (s1.h3.nm 4 : Int), .int .u32 (s1.h4.nm 4 : Int), .slice A1 (s1.h5.csr (f % 16)).length c1, .slice A2 ps.length c2, .slice none 0 0, .int .i64 0] ∧ Row w' w'.heap.size 1 A1 (s1.h5.csr (f % 16)).length (u32s (s1.h5.csr (f % 16))) ∧ Its w' A2 ps ∧ ps.map Ip.it = (s1.x7 f).1 ∧ CutAt w' lo g (s1.x8 f).l (s1.x8 f).e ∧ (∀ a, A1 = some a → g < a.block) ∧ AtIts (g + 1) A2 ps) → TakeTold s w lo p g (.returned (.tuple #[.bool b, .int .i64 x])) w') := Lib.hid (fun b w' x q1 q2 q3 => ⟨by rw [q1], q2, fun h => by rw [h1, hf]; exact q3 (by rw [q1] at h; exact h)⟩)
  have HT := Lib.hid hT
  have l1 : s1.l.length ≤ 65536 := by rw [← h1]; exact Nat.le_trans (s.tk_le 1) hl
  generalize TakeTold s w lo p g = P at *
  generalize s.tells = tl at *
  have HER := Lib.hid her
  have HW := Lib.hid hw
  have C2 := Lib.hid C2
  clear hT hf her hw hl h
  obtain ⟨q1, q2, q3, q4, q5⟩ := bitsF f bf
  have HQ2 := Lib.hid q2
  have HQ3 := Lib.hid q3
  clear q1 q2 q3 q5
  go_enter Try.func26, Try.ntmps26
  go_wp2_with fail
  refine C1.mono ?_
  rintro e w1 ⟨rfl, k1, g1⟩
  have hpw := HW.out.lt
  have HK1 := Lib.hid k1
  have HW1 := Lib.hid (HW.out.grown g1 (by simp; omega))
  have HB1 := Lib.hid ((Below.refl p w).grown g1 (Nat.le_of_lt hpw) (fun q hq => by simp at hq; omega))
  clear k1 g1 C1 HW
  go_wp2_with fail
  refine (C2.out w1 HK1.out).mono ?_
  rintro e wx ⟨rfl, rfl⟩
  by_cases hz : er = 0
  rotate_left 1
  · have hz1 : (er == 0) = false := by simp [hz]
    have hz2 : (er != 0) = true := by simp [hz]
    have HEND := Lib.hid (HBAD.out w1 er (by rw [HT.out, if_pos hz]) hz HB1.out)
    have HZ := Lib.hid hz
    clear hz HGOOD q4
    go_wp2_with fail
    refine (C2.out w1 HK1.out).mono ?_
    rintro e wx ⟨rfl, rfl⟩
    go_wp2_with fail
    exact HEND.out
  subst hz
  clear C2
  have HT1 := HT.out
  rw [if_neg (by simp)] at HT1
  have HT2 := Lib.hid HT1
  clear HT HT1
  by_cases f1 : f < 128
  · have HEND := Lib.hid (HBAD.out w1 11 (by rw [HT2.out, if_pos (by omega)]) (by decide) HB1.out)
    clear HGOOD q4
    go_wp2_with fail
    exact HEND.out
  by_cases f2 : 191 < f
  · have HEND := Lib.hid (HBAD.out w1 11 (by rw [HT2.out, if_pos (by omega)]) (by decide) HB1.out)
    clear HGOOD q4
    go_wp2_with fail
    exact HEND.out
  have HT3 := Lib.hid (HT2.out.trans (if_neg (by omega)))
  clear HT2 HBAD
  obtain ⟨s2, e2⟩ : ∃ x, s1.h2 = x := ⟨_, rfl⟩
  obtain ⟨s3, e3⟩ : ∃ x, s1.h3 = x := ⟨_, rfl⟩
  obtain ⟨s4, e4⟩ : ∃ x, s1.h4 = x := ⟨_, rfl⟩
  obtain ⟨s5, e5⟩ : ∃ x, s1.h5 = x := ⟨_, rfl⟩
  obtain ⟨x1, y1⟩ : ∃ x, s1.nm 1 = x := ⟨_, rfl⟩
  obtain ⟨x2, y2⟩ : ∃ x, s2.nm 2 = x := ⟨_, rfl⟩
  obtain ⟨x3, y3⟩ : ∃ x, s3.nm 4 = x := ⟨_, rfl⟩
  obtain ⟨x4, y4⟩ : ∃ x, s4.nm 4 = x := ⟨_, rfl⟩
  have b1 : x1 < 256 := by rw [← y1]; exact s1.nm_1
  have b2 : x2 < 65536 := by rw [← y2]; exact s2.nm_2
  have b3 : x3 < 4294967296 := by rw [← y3]; exact s3.nm_4
  have b4 : x4 < 4294967296 := by rw [← y4]; exact s4.nm_4
  have t2 : s1.tk 1 = s2 := e2
  have t3 : s2.tk 2 = s3 := by rw [← e3, ← e2]; rfl
  have t4 : s3.tk 4 = s4 := by rw [← e4, ← e3]; rfl
  have t5 : s4.tk 4 = s5 := by rw [← e5, ← e4]; rfl
  have l5 : s5.l.length ≤ 65536 := by rw [← t5, ← t4, ← t3, ← t2]; exact Nat.le_trans (Cu.tk_le _ _) (Nat.le_trans (Cu.tk_le _ _) (Nat.le_trans (Cu.tk_le _ _) (Nat.le_trans (Cu.tk_le _ _) l1)))
  have D1 := fun w (h : CutAt w lo g s1.l 0) => num_cu s1 lo g 1 w (by rw [HER.out]; exact h)
  have D2 := fun w h => num_cu s2 lo g 2 w h
  have D3 := fun w h => num_cu s3 lo g 4 w h
  have D4 := fun w h => num_cu s4 lo g 4 w h
  rw [t2, y1] at D1
  rw [t3, y2] at D2
  rw [t4, y3] at D3
  rw [t5, y4] at D4
  rw [e2, e3, e4, e5, y1, y2, y3, y4] at HGOOD
  have X7 : s1.x7 f = if (s5.csrE (f % 16)).e ≠ 0 then ([], (s5.csrE (f % 16)).e) else if f / 16 % 2 = 1 then (s5.csrE (f % 16)).ext else ([], 0) := by unfold Cu.x7 Cu.h6; rw [e5]
  have X8 : s1.x8 f = if (s5.csrE (f % 16)).e ≠ 0 then s5.csrE (f % 16) else if f / 16 % 2 = 1 then (s5.csrE (f % 16)).extE else s5.csrE (f % 16) := by unfold Cu.x8 Cu.h6; rw [e5]
  have HX7 := Lib.hid X7
  have HX8 := Lib.hid X8
  clear X7 X8 e2 e3 e4 e5 y1 y2 y3 y4 t2 t3 t4 t5 l1
  have D1 := Lib.hid D1
  have D2 := Lib.hid D2
  have D3 := Lib.hid D3
  have D4 := Lib.hid D4
  obtain ⟨r1, r2, r3, r4, r5⟩ := bitsF x1 b1
  clear r2 r3 r4
  go_wp2_with fail
  refine (D1.out _ HK1.out).mono ?_
  rintro e w2 ⟨rfl, k1, g1⟩
  have T := HW1.out
  have HK2 := Lib.hid k1
  have HW2 := Lib.hid (T.grown g1 (by simp; omega))
  have HB2 := Lib.hid (HB1.out.grown g1 (Nat.le_of_lt T.lt) (fun q hq => by simp at hq; omega))
  clear k1 g1 T D1 HW1 HK1 HB1
  have c0 := HW2.out.cell 0
  have c1 := HW2.out.cell 1
  have c2 := HW2.out.cell 2
  have c3 := HW2.out.cell 3
  have c4 := HW2.out.cell 4
  have c5 := HW2.out.cell 5
  have c6 := HW2.out.cell 6
  have c7 := HW2.out.cell 7
  have c8 := HW2.out.cell 8
  have d0 := HW2.out.free 0
  have d1 := HW2.out.free 1
  have d2 := HW2.out.free 2
  have d3 := HW2.out.free 3
  have d4 := HW2.out.free 4
  have d5 := HW2.out.free 5
  have d6 := HW2.out.free 6
  have d7 := HW2.out.free 7
  have d8 := HW2.out.free 8
  go_wp2_with fail
  refine (D2.out _ ((HK2.out.pset hp hg 0 (.bool (decide (128 ≤ x1)))).pset hp hg 1 (.int .u8 ((x1 : Int) % 128)))).mono ?_
  rintro e w3 ⟨rfl, k1, g1⟩
  have T := (show Whole _ _ _ #[.bool (decide (128 ≤ x1)), .int .u8 ((x1 : Int) % 128), .int .u16 0, .int .u32 0, .int .u32 0, .slice none 0 0, .slice none 0 0, .slice none 0 0, .int .i64 0] from ((show Whole _ _ _ #[.bool (decide (128 ≤ x1)), .int .u8 0, .int .u16 0, .int .u32 0, .int .u32 0, .slice none 0 0, .slice none 0 0, .slice none 0 0, .int .i64 0] from (HW2.out).set 0 (.bool (decide (128 ≤ x1))))).set 1 (.int .u8 ((x1 : Int) % 128)))
  have HK3 := Lib.hid k1
  have HW3 := Lib.hid (T.grown g1 (by simp; omega))
  have HB3 := Lib.hid (((HB2.out.setCell (p := ⟨p, 0, none⟩) (Nat.le_refl _) (.bool (decide (128 ≤ x1)))).setCell (p := ⟨p, 1, none⟩) (Nat.le_refl _) (.int .u8 ((x1 : Int) % 128))).grown g1 (Nat.le_of_lt T.lt) (fun q hq => by simp at hq; omega))
  clear k1 g1 T D2 HW2 HK2 HB2
  clear c0 d0 c1 d1 c2 d2 c3 d3 c4 d4 c5 d5 c6 d6 c7 d7 c8 d8
  have c0 := HW3.out.cell 0
  have c1 := HW3.out.cell 1
  have c2 := HW3.out.cell 2
  have c3 := HW3.out.cell 3
  have c4 := HW3.out.cell 4
  have c5 := HW3.out.cell 5
  have c6 := HW3.out.cell 6
  have c7 := HW3.out.cell 7
  have c8 := HW3.out.cell 8
  have d0 := HW3.out.free 0
  have d1 := HW3.out.free 1
  have d2 := HW3.out.free 2
  have d3 := HW3.out.free 3
  have d4 := HW3.out.free 4
  have d5 := HW3.out.free 5
  have d6 := HW3.out.free 6
  have d7 := HW3.out.free 7
  have d8 := HW3.out.free 8
  go_wp2_with fail
  refine (D3.out _ (HK3.out.pset hp hg 2 (.int .u16 (x2 : Int)))).mono ?_
  rintro e w4 ⟨rfl, k1, g1⟩
  have T := (show Whole _ _ _ #[.bool (decide (128 ≤ x1)), .int .u8 ((x1 : Int) % 128), .int .u16 (x2 : Int), .int .u32 0, .int .u32 0, .slice none 0 0, .slice none 0 0, .slice none 0 0, .int .i64 0] from (HW3.out).set 2 (.int .u16 (x2 : Int)))
  have HK4 := Lib.hid k1
  have HW4 := Lib.hid (T.grown g1 (by simp; omega))
  have HB4 := Lib.hid ((HB3.out.setCell (p := ⟨p, 2, none⟩) (Nat.le_refl _) (.int .u16 (x2 : Int))).grown g1 (Nat.le_of_lt T.lt) (fun q hq => by simp at hq; omega))
  clear k1 g1 T D3 HW3 HK3 HB3
  clear c0 d0 c1 d1 c2 d2 c3 d3 c4 d4 c5 d5 c6 d6 c7 d7 c8 d8
  have c0 := HW4.out.cell 0
  have c1 := HW4.out.cell 1
  have c2 := HW4.out.cell 2
  have c3 := HW4.out.cell 3
  have c4 := HW4.out.cell 4
  have c5 := HW4.out.cell 5
  have c6 := HW4.out.cell 6
  have c7 := HW4.out.cell 7
  have c8 := HW4.out.cell 8
  have d0 := HW4.out.free 0
  have d1 := HW4.out.free 1
  have d2 := HW4.out.free 2
  have d3 := HW4.out.free 3
  have d4 := HW4.out.free 4
  have d5 := HW4.out.free 5
  have d6 := HW4.out.free 6
  have d7 := HW4.out.free 7
  have d8 := HW4.out.free 8
  go_wp2_with fail
  refine (D4.out _ (HK4.out.pset hp hg 3 (.int .u32 (x3 : Int)))).mono ?_
  rintro e w5 ⟨rfl, k1, g1⟩
  have T := (show Whole _ _ _ #[.bool (decide (128 ≤ x1)), .int .u8 ((x1 : Int) % 128), .int .u16 (x2 : Int), .int .u32 (x3 : Int), .int .u32 0, .slice none 0 0, .slice none 0 0, .slice none 0 0, .int .i64 0] from (HW4.out).set 3 (.int .u32 (x3 : Int)))
  have HK5 := Lib.hid k1
  have HW5 := Lib.hid (T.grown g1 (by simp; omega))
  have HB5 := Lib.hid ((HB4.out.setCell (p := ⟨p, 3, none⟩) (Nat.le_refl _) (.int .u32 (x3 : Int))).grown g1 (Nat.le_of_lt T.lt) (fun q hq => by simp at hq; omega))
  clear k1 g1 T D4 HW4 HK4 HB4
  clear c0 d0 c1 d1 c2 d2 c3 d3 c4 d4 c5 d5 c6 d6 c7 d7 c8 d8
  have c0 := HW5.out.cell 0
  have c1 := HW5.out.cell 1
  have c2 := HW5.out.cell 2
  have c3 := HW5.out.cell 3
  have c4 := HW5.out.cell 4
  have c5 := HW5.out.cell 5
  have c6 := HW5.out.cell 6
  have c7 := HW5.out.cell 7
  have c8 := HW5.out.cell 8
  have d0 := HW5.out.free 0
  have d1 := HW5.out.free 1
  have d2 := HW5.out.free 2
  have d3 := HW5.out.free 3
  have d4 := HW5.out.free 4
  have d5 := HW5.out.free 5
  have d6 := HW5.out.free 6
  have d7 := HW5.out.free 7
  have d8 := HW5.out.free 8
  go_wp2_with fail
  obtain ⟨w6, hw6⟩ : ∃ z, z = w5.setCell ⟨p, 4, none⟩ (.int .u32 (x4 : Int)) := ⟨_, rfl⟩
  have HW6 := Lib.hid (show Whole w6 p 35 #[.bool (decide (128 ≤ x1)), .int .u8 ((x1 : Int) % 128), .int .u16 (x2 : Int), .int .u32 (x3 : Int), .int .u32 (x4 : Int), .slice none 0 0, .slice none 0 0, .slice none 0 0, .int .i64 0] from by rw [hw6]; exact (show Whole _ _ _ #[.bool (decide (128 ≤ x1)), .int .u8 ((x1 : Int) % 128), .int .u16 (x2 : Int), .int .u32 (x3 : Int), .int .u32 (x4 : Int), .slice none 0 0, .slice none 0 0, .slice none 0 0, .int .i64 0] from HW5.out.set 4 (.int .u32 (x4 : Int))))
  have HK6 := Lib.hid (show CutAt w6 lo g s5.l s5.e from by rw [hw6]; exact HK5.out.pset hp hg 4 _)
  have HB6 := Lib.hid (show Below p w w6 from by rw [hw6]; exact HB5.out.setCell (p := ⟨p, 4, none⟩) (Nat.le_refl _) _)
  rw [← hw6]
  clear hw6 HW5 HK5 HB5
  clear c0 d0 c1 d1 c2 d2 c3 d3 c4 d4 c5 d5 c6 d6 c7 d7 c8 d8
  obtain ⟨nb, hnb⟩ : ∃ n, w6.heap.size = n := ⟨_, rfl⟩
  have hgb : g < nb := by rw [← hnb]; exact HK6.out.lt
  have hpb : p < nb := by omega
  have HNB := Lib.hid hnb
  clear hnb
  obtain ⟨K, hK⟩ : ∃ k, f % 16 = k := ⟨_, rfl⟩
  have hK16 : K < 16 := by omega
  rw [hK] at HGOOD HX7 HX8 q4
  have HKK := Lib.hid hK
  clear hK q4
  go_loopw [59] (fun i wr => ∃ k : Nat, k ≤ K ∧ i = .int .u8 (k : Int) ∧ ∃ A cc, Whole wr p 35 #[.bool (decide (128 ≤ x1)), .int .u8 ((x1 : Int) % 128), .int .u16 (x2 : Int), .int .u32 (x3 : Int), .int .u32 (x4 : Int), .slice A k cc, .slice none 0 0, .slice none 0 0, .int .i64 0] ∧ wr.ownsRow nb 22 1 (.slice A k cc) k (u32s (s5.csr k)) ∧ CutAt wr lo g (s5.csrE k).l (s5.csrE k).e ∧ Below p w wr ∧ nb ≤ wr.heap.size) (fun i _ => K - (intOf i).toNat)
  case atStart => exact ⟨0, Nat.zero_le _, rfl, none, 0, HW6.out, ⟨by simp [Cu.csr, u32s], .inl ⟨rfl, rfl⟩⟩, HK6.out, HB6.out, Nat.le_of_eq HNB.out.symm⟩
  case round =>
    obtain ⟨k, hk, rfl, A, cc, qW, qO, qK, qB, qn⟩ := hrel
    have HM := Lib.hid qW
    have HO := Lib.hid qO
    have HK := Lib.hid qK
    have HB := Lib.hid qB
    clear qW qO qK qB
    by_cases hlt : k < K
    · have i1 : (0 : Int) ≤ (k : Int) := by omega
      have i2 : (k : Int) < (f : Int) % 16 := by have := HKK.out; omega
      have i3 : (k : Int) + 1 < 256 := by omega
      obtain ⟨x, hx⟩ : ∃ x, (s5.csrE k).nm 4 = x := ⟨_, rfl⟩
      have hxb : x < 4294967296 := by rw [← hx]; exact Cu.nm_4 _
      have CN := fun w h => num_cu (s5.csrE k) lo g 4 w h
      rw [hx] at CN
      have HX := Lib.hid hx
      have CN := Lib.hid CN
      clear hx
      obtain ⟨i0, hi0, hz0, hz1, hz2⟩ := info_parts info_u32
      have HI0 := Lib.hid hi0
      have HZ0 := Lib.hid hz0
      have HZ1 := Lib.hid hz1
      have HZ2 := Lib.hid hz2
      have HNE : Hid (∀ q, (Value.slice A k cc).ownBlock = some q → nb ≤ q) := Lib.hid (fun q hq => (HO.out.lt q hq).1)
      have HNG : Hid ((Value.slice A k cc).ownBlock = none ∨ (Value.slice A k cc).ownBlock ≠ some g) := Lib.hid (own_not HO.out hgb)
      clear hi0 hz0 hz1 hz2
      have m5 := HM.out.cell 5
      go_wp2_with fail
      refine wp_region_X (S := fun w' => w'.cell? ⟨p, 5, none⟩ = some (.slice A k cc)) [12] (by kernel_rfl) (HM.out.cell 5) (fun hHeld0 => ?_)
      refine wpAnyX_take (i := 0) [10, 11, 12] (v := ?_) rfl (by kernel_rfl) (by kernel_rfl) (by kernel_rfl) (by kernel_rfl) (fun _ _ _ h => h) (Or.inl ⟨by kernel_rfl, ?_⟩) (by assumption) ?_
      rotate_left 1
      · (intro w hSw; have q0 := hSw; go_simp; try (with_reducible rfl))
      (try simp only [Act.put, List.getElem_toArray, List.getElem_cons_succ, List.getElem_cons_zero, List.setIfInBounds_toArray, List.set_cons_zero, List.set_cons_succ])
      refine wpAnyX_take (i := 1) [2, 3, 4, 9, 10, 11, 12] (v := ?_) rfl (by kernel_rfl) (by kernel_rfl) (by kernel_rfl) (by kernel_rfl) (fun _ _ _ h => h) (Or.inl ⟨by kernel_rfl, ?_⟩) (by assumption) ?_
      rotate_left 1
      · (intro w hSw; have q0 := hSw; go_simp; try (with_reducible rfl))
      (try simp only [Act.put, List.getElem_toArray, List.getElem_cons_succ, List.getElem_cons_zero, List.setIfInBounds_toArray, List.set_cons_zero, List.set_cons_succ])
      refine wpAnyX_take (i := 2) [3, 4, 9, 10, 11, 12] (v := ?_) rfl (by kernel_rfl) (by kernel_rfl) (by kernel_rfl) (by kernel_rfl) (fun _ _ _ h => h) (Or.inl ⟨by kernel_rfl, ?_⟩) (by assumption) ?_
      rotate_left 1
      · (intro w hSw; have q0 := hSw; go_simp; try (with_reducible rfl))
      (try simp only [Act.put, List.getElem_toArray, List.getElem_cons_succ, List.getElem_cons_zero, List.setIfInBounds_toArray, List.set_cons_zero, List.set_cons_succ])
      refine wpAnyX_take (i := 3) [4, 9, 10, 11, 12] (v := ?_) rfl (by kernel_rfl) (by kernel_rfl) (by kernel_rfl) (by kernel_rfl) (fun _ _ _ h => h) (Or.inl ⟨by kernel_rfl, ?_⟩) (by assumption) ?_
      rotate_left 1
      · (intro w hSw; have q0 := hSw; go_simp; try (with_reducible rfl))
      (try simp only [Act.put, List.getElem_toArray, List.getElem_cons_succ, List.getElem_cons_zero, List.setIfInBounds_toArray, List.set_cons_zero, List.set_cons_succ])
      refine wpAnyX_take (i := 4) [9, 10, 11, 12] (v := ?_) rfl (by kernel_rfl) (by kernel_rfl) (by kernel_rfl) (by kernel_rfl) (fun _ _ _ h => h) (Or.inl ⟨by kernel_rfl, ?_⟩) (by assumption) ?_
      rotate_left 1
      · (intro w hSw; have q0 := hSw; go_simp; try (with_reducible rfl))
      (try simp only [Act.put, List.getElem_toArray, List.getElem_cons_succ, List.getElem_cons_zero, List.setIfInBounds_toArray, List.set_cons_zero, List.set_cons_succ])
      refine wpAnyX_take (i := 5) [6, 7, 8, 9, 10, 11, 12] (v := ?_) rfl (by kernel_rfl) (by kernel_rfl) (by kernel_rfl) (by kernel_rfl) (fun _ _ _ h => h) (Or.inl ⟨by kernel_rfl, ?_⟩) (by assumption) ?_
      rotate_left 1
      · (intro w hSw; have q0 := hSw; go_simp; try (with_reducible rfl))
      (try simp only [Act.put, List.getElem_toArray, List.getElem_cons_succ, List.getElem_cons_zero, List.setIfInBounds_toArray, List.set_cons_zero, List.set_cons_succ])
      refine wpAnyX_one 6 (by kernel_rfl) rfl (fun K hK => ?_)
      go_simp
      go_wp2_with (refine (CN.out _ (show CutAt wr.drew lo g _ _ from HK.out)).mono ?_; rintro e u1 ⟨rfl, k1, g1⟩)
      have M1 := HM.out.drew.grown g1 (by simp; omega)
      have O1 := HO.out.drew.kept g1 HNG.out
      have B1 := (HB.out.drew).grown g1 (by have := HM.out.lt; simp; omega) (fun q hq => by simp at hq; omega)
      have n1 := g1.size
      have K1 := Lib.hid k1
      clear g1 k1
      refine hK.out _ _ (.inr (M1.cell 5)) ?_
      have hHeld1 : (fun w' => w'.cell? ⟨p, 5, none⟩ = some (.slice A k cc)) u1 := M1.cell 5
      clear hK K
      (try simp only [Act.put, List.getElem_toArray, List.getElem_cons_succ, List.getElem_cons_zero, List.setIfInBounds_toArray, List.set_cons_zero, List.set_cons_succ])
      refine wpAnyX_take (i := 7) [8, 9, 10, 11, 12] (v := ?_) rfl (by kernel_rfl) (by kernel_rfl) (by kernel_rfl) (by kernel_rfl) (fun _ _ _ h => h) (Or.inl ⟨by kernel_rfl, ?_⟩) (by assumption) ?_
      rotate_left 1
      · (intro w hSw; have q0 := hSw; go_simp; try (with_reducible rfl))
      (try simp only [Act.put, List.getElem_toArray, List.getElem_cons_succ, List.getElem_cons_zero, List.setIfInBounds_toArray, List.set_cons_zero, List.set_cons_succ])
      refine wpAnyX_one 8 (by kernel_rfl) rfl (fun K hK => ?_)
      go_simp
      have M2 := M1.alloc (.cells #[.int .u32 (IntKind.u32.wrap (x : Int))] 22)
      have O2 := O1.alloc (.cells #[.int .u32 (IntKind.u32.wrap (x : Int))] 22)
      have B2 := B1.alloc (by have := M1.lt; omega) (.cells #[.int .u32 (IntKind.u32.wrap (x : Int))] 22)
      have K2 := Lib.hid (K1.out.alloc (.cells #[.int .u32 (IntKind.u32.wrap (x : Int))] 22))
      refine hK.out _ _ (.inr (M2.cell 5)) ?_
      have hHeld2 : (fun w' => w'.cell? ⟨p, 5, none⟩ = some (.slice A k cc)) (u1.alloc (.cells #[.int .u32 (IntKind.u32.wrap (x : Int))] 22)) := M2.cell 5
      clear hK K
      (try simp only [Act.put, List.getElem_toArray, List.getElem_cons_succ, List.getElem_cons_zero, List.setIfInBounds_toArray, List.set_cons_zero, List.set_cons_succ])
      refine wpAnyX_one 9 (by kernel_rfl) rfl (fun K hK => ?_)
      have hz := M1.lt
      have n1' : nb ≤ u1.heap.size := by simp at n1; omega
      refine step_append_lies _ (by rfl) (.tmp 65) (.tmp 69) 29 (by rfl) nb 22 i0 _ 1 4 Try.underlying29 HI0.out HZ0.out HZ1.out HZ2.out rfl (by omega) (.slice A k cc) k (u32s (s5.csr k)) (by rfl) O2 ⟨u1.heap.size, 0, none⟩ 1 1 [.int .u32 (IntKind.u32.wrap (x : Int))] (by rfl) (by rfl) (World.news_of_block (cs := #[.int .u32 (IntKind.u32.wrap (x : Int))]) (t := 22) (fr := (0, 0)) (heap_alloc_new u1 _)) (by simp [Value.oneCell']) (by omega) (by unfold maxLen; omega) (by omega) (by simp; omega) (u1.heap.size + 1) (by simp) ?_
      intro gg cap w2 hown2 hgrow hat hlt9
      have B3 := B2.grown hgrow (by simp; omega) (fun q hq => by have := HNE.out q hq; omega)
      have M3 := M2.grown hgrow (fun e => by have := HNE.out _ e.symm; omega)
      have K3 := Lib.hid (K2.out.grown hgrow (fun q hq => by have := HNE.out q hq; omega))
      have n3 : u1.heap.size + 1 ≤ w2.heap.size := by simpa using hgrow.size
      clear hgrow hat hlt9
      have e9 := M3.cell 5
      have f9 := M3.free 5
      simp at e9
      refine hK.out _ _ (.inr (M3.cell 5)) ?_
      have hHeld3 : (fun w' => w'.cell? ⟨p, 5, none⟩ = some (.slice A k cc)) w2 := M3.cell 5
      clear hK K
      (try simp only [Act.put, List.getElem_toArray, List.getElem_cons_succ, List.getElem_cons_zero, List.setIfInBounds_toArray, List.set_cons_zero, List.set_cons_succ])
      refine wpAnyX_take (i := 10) [11, 12] (v := ?_) rfl (by kernel_rfl) (by kernel_rfl) (by kernel_rfl) (by kernel_rfl) (fun _ _ _ h => h) (Or.inl ⟨by kernel_rfl, ?_⟩) (by assumption) ?_
      rotate_left 1
      · (intro w hSw; have q0 := hSw; go_simp; try (with_reducible rfl))
      (try simp only [Act.put, List.getElem_toArray, List.getElem_cons_succ, List.getElem_cons_zero, List.setIfInBounds_toArray, List.set_cons_zero, List.set_cons_succ])
      refine wpAnyX_take (i := 11) [12] (v := ?_) rfl (by kernel_rfl) (by kernel_rfl) (by kernel_rfl) (by kernel_rfl) (fun _ _ _ h => h) (Or.inl ⟨by kernel_rfl, ?_⟩) (by assumption) ?_
      rotate_left 1
      · (intro w hSw; have q0 := hSw; go_simp; try (with_reducible rfl))
      (try simp only [Act.put, List.getElem_toArray, List.getElem_cons_succ, List.getElem_cons_zero, List.setIfInBounds_toArray, List.set_cons_zero, List.set_cons_succ])
      refine wpAnyX_one 12 (by kernel_rfl) rfl (fun K hK => ?_)
      have HM4 := Lib.hid (show Whole _ _ _ #[.bool (decide (128 ≤ x1)), .int .u8 ((x1 : Int) % 128), .int .u16 (x2 : Int), .int .u32 (x3 : Int), .int .u32 (x4 : Int), .slice (some ⟨gg, 0, none⟩) (k + 1) cap, .slice none 0 0, .slice none 0 0, .int .i64 0] from M3.set 5 (.slice (some ⟨gg, 0, none⟩) (k + 1) cap))
      have HK4 := Lib.hid (K3.out.pset hp hg 5 (.slice (some ⟨gg, 0, none⟩) (k + 1) cap))
      have HB4 := Lib.hid (B3.setCell (p := ⟨p, 5, none⟩) (Nat.le_refl _) (.slice (some ⟨gg, 0, none⟩) (k + 1) cap))
      have HO4 := Lib.hid (ownsRow_setCell_below hown2 (a := ⟨p, 5, none⟩) (show p < nb from hpb) (.slice (some ⟨gg, 0, none⟩) (k + 1) cap))
      go_simp
      refine hK.out _ _ (.inl (by decide)) ?_
      clear hK K
      (try simp only [Act.put, List.getElem_toArray, List.getElem_cons_succ, List.getElem_cons_zero, List.setIfInBounds_toArray, List.set_cons_zero, List.set_cons_succ])
      refine wpAnyX_done (by kernel_rfl) ?_ _
      have HO5 : Hid (World.ownsRow _ nb 22 1 (.slice (some ⟨gg, 0, none⟩) (k + 1) cap) (k + 1) (u32s (s5.csr (k + 1)))) := Lib.hid (by have h := HO4.out; rw [wrapU32 x hxb] at h; unfold Cu.csr; rw [HX.out, u32s_snoc]; exact h)
      clear HO4
      go_wp2_with fail
      go_roundw
      case rel => exact ⟨k + 1, by omega, by simp, _, _, HM4.out, HO5.out, HK4.out, HB4.out, by simp; omega⟩
      case measure => simp [intOf]; omega
    · obtain rfl : k = K := by omega
      have i2 : (f : Int) % 16 ≤ (k : Int) := by have := HKK.out; omega
      obtain ⟨s6, h6⟩ : ∃ x, s5.csrE k = x := ⟨_, rfl⟩
      rw [h6] at HK HX7 HX8
      have l6 : s6.l.length ≤ 65536 := by rw [← h6]; exact Nat.le_trans (csrE_le _ _) l5
      obtain ⟨e6, he6⟩ : ∃ x, s6.e = x := ⟨_, rfl⟩
      have CE := err_any (lo := lo) g s6.l s6.e wr HK.out
      have CX := fun w h => rexts_any s6 lo g w h l6
      rw [he6] at CE HX7 HX8
      have HE6 := Lib.hid he6
      have hlen := csr_length s5 k
      have HLEN := Lib.hid hlen
      have CX := Lib.hid CX
      have CE := Lib.hid CE
      clear h6 hlen
      have hb32 : (bits .and .u8 (f : Int) 32 != 0) = decide (f / 32 % 2 = 1) := HQ2.out
      obtain ⟨pb, hpb2⟩ : ∃ b, decide (f / 32 % 2 = 1) = b := ⟨_, rfl⟩
      rw [hpb2] at hb32 HT3
      have HP2 := Lib.hid hpb2
      clear hpb2
      go_wp2_with fail
      refine CE.out.mono ?_
      rintro e wx ⟨rfl, rfl⟩
      clear CE
      by_cases hz : e6 = 0
      rotate_left 1
      · have hz1 : (e6 == 0) = false := by simp [hz]
        have hz2 : (e6 != 0) = true := by simp [hz]
        have HEND := Lib.hid (HGOOD.out pb wr e6 (by rw [HT3.out, HX7.out, if_pos hz]) HB.out (fun h => absurd h hz))
        have HZ := Lib.hid hz
        clear hz HGOOD CX
        go_wp2_with fail
        exact HEND.out
      subst hz
      rw [if_neg (by simp)] at HX7 HX8
      by_cases hx : f / 16 % 2 = 1
      · have hb16 : (bits .and .u8 (f : Int) 16 != 0) = true := by rw [HQ3.out]; exact decide_eq_true hx
        rw [if_pos hx] at HX7 HX8
        have m0 := HM.out.cell 6
        clear hx
        go_wp2_with fail
        refine (CX.out wr HK.out).mono ?_
        rintro e w7 ⟨A7, c7, ps, rfl, p7, i7, k7, g7, n7⟩
        obtain ⟨R, hR⟩ : ∃ R, s6.ext = R := ⟨_, rfl⟩
        rw [hR] at HX7 p7 ⊢
        obtain ⟨s7, hs7⟩ : ∃ x, s6.extE = x := ⟨_, rfl⟩
        rw [hs7] at HX8 k7
        have T7 := HM.out.grown g7 (by simp; omega)
        have HB7 := Lib.hid ((HB.out.grown g7 (by have := HM.out.lt; omega) (fun q hq => by simp at hq; omega)).setCell (p := ⟨p, 6, none⟩) (Nat.le_refl _) (.slice A7 ps.length c7))
        have HM7 := Lib.hid (show Whole _ _ _ #[.bool (decide (128 ≤ x1)), .int .u8 ((x1 : Int) % 128), .int .u16 (x2 : Int), .int .u32 (x3 : Int), .int .u32 (x4 : Int), .slice A k cc, .slice A7 ps.length c7, .slice none 0 0, .int .i64 0] from T7.set 6 (.slice A7 ps.length c7))
        have HK7 := Lib.hid (k7.pset hp hg 6 (.slice A7 ps.length c7))
        have O7 := HO.out.kept g7 (own_not HO.out hgb)
        have HO7 := Lib.hid (ownsRow_setCell_below O7 (a := ⟨p, 6, none⟩) (show p < nb from hpb) (.slice A7 ps.length c7))
        have HI7 := Lib.hid (Its.pset i7 n7 (show p < wr.heap.size by have := HM.out.lt; omega) 6 (.slice A7 ps.length c7))
        have m6 := T7.cell 6
        have d6 := T7.free 6
        obtain ⟨R1, R2⟩ := R
        have HEND := Lib.hid (HGOOD.out pb _ R2 (by rw [HT3.out, HX7.out]) HB7.out (fun _ => ⟨A, cc, A7, c7, ps, by rw [HLEN.out]; exact HM7.out, by rw [HLEN.out]; exact Row.of_own HO7.out, HI7.out, by rw [HX7.out]; exact p7, by rw [HX8.out]; exact HK7.out, fun a ha => Nat.lt_of_lt_of_le hgb (own_lo HO7.out a ha), fun a ha => Nat.lt_of_lt_of_le HK.out.lt (n7.1 a ha), fun q hq a ha => Nat.lt_of_lt_of_le HK.out.lt (n7.2 q hq a ha)⟩))
        clear T7 k7 i7 n7 g7 p7 O7 HM7 HK7 HO7 HI7 HGOOD CX hR hs7
        go_wp2_with fail
        exact HEND.out
      · have hb16 : (bits .and .u8 (f : Int) 16 != 0) = false := by rw [HQ3.out]; exact decide_eq_false hx
        rw [if_neg hx] at HX7 HX8
        have HEND := Lib.hid (HGOOD.out pb wr 0 (by rw [HT3.out, HX7.out]) HB.out (fun _ => ⟨A, cc, none, 0, [], by rw [HLEN.out]; exact HM.out, by rw [HLEN.out]; exact Row.of_own HO.out, ⟨Row.nil, by simp⟩, by rw [HX7.out]; rfl, by rw [HX8.out]; exact HK.out, fun a ha => Nat.lt_of_lt_of_le hgb (own_lo HO.out a ha), fun a ha => (by cases ha), by simp⟩))
        clear hx HGOOD CX
        go_wp2_with fail
        exact HEND.out
end Go.Proofs.Yticnaljfnjiofaa
