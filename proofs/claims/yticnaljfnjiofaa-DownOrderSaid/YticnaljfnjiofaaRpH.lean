/-
  The code's Parse of rtp (layer 6).
-/
import Derived.Test.YticnaljfnjiofaaRpG
import Derived.RegionTactic
namespace Go.Proofs.Yticnaljfnjiofaa
open Go.RowKit
set_option linter.unusedSimpArgs false
set_option linter.unusedVariables false
set_option maxRecDepth 100000

theorem rest_suf (l : List UInt8) (e n : Int) (b : Bool) : restS l e n b <:+ l := by
  unfold restS
  split
  · exact List.drop_suffix _ _
  · exact List.suffix_refl _
theorem Cu.tk_suf (s : Cu) (n : Int) : (s.tk n).l <:+ s.l := rest_suf _ _ _ _
theorem Cu.by_suf (s : Cu) (n : Int) : (s.by n).l <:+ s.l := rest_suf _ _ _ _
theorem csrE_suf (s : Cu) (k : Nat) : (s.csrE k).l <:+ s.l := by
  induction k with
  | zero => exact List.suffix_refl _
  | succ k ih => exact (Cu.tk_suf _ _).trans ih
theorem Cu.h6_suf (s : Cu) (f : Nat) : (s.h6 f).l <:+ s.l :=
  (csrE_suf _ _).trans ((Cu.tk_suf _ _).trans ((Cu.tk_suf _ _).trans ((Cu.tk_suf _ _).trans (Cu.tk_suf _ _))))
theorem Cu.x8_suf (s : Cu) (f : Nat) : (s.x8 f).l <:+ s.l := by
  unfold Cu.x8
  split
  · exact s.h6_suf f
  · split
    · exact (Cu.by_suf _ _).trans ((Cu.tk_suf _ _).trans ((Cu.tk_suf _ _).trans (s.h6_suf f)))
    · exact s.h6_suf f
/-- Where nothing went wrong, there is no error in what is left. -/
theorem Cu.x8_ok (s : Cu) (f : Nat) (h : (s.x7 f).2 = 0) : (s.x8 f).e = 0 := by
  unfold Cu.x7 at h
  unfold Cu.x8
  by_cases h6 : (s.h6 f).e = 0
  · rw [if_neg (by simp [h6])] at h ⊢
    by_cases hx : f / 16 % 2 = 1
    · rw [if_pos hx] at h ⊢
      unfold Cu.ext at h
      by_cases h9 : (s.h6 f).extE.e = 0
      · exact h9
      · rw [if_pos h9] at h
        exact absurd h h9
    · rw [if_neg hx]
      exact h6
  · rw [if_pos h6] at h
    exact absurd h h6
theorem parse_tells (b : List UInt8) (hb : ¬ 1500 < b.length) : parseP b =
    if (⟨b, 0⟩ : Cu).tells.2 ≠ 0 then (Mp.zero, (⟨b, 0⟩ : Cu).tells.2)
    else if (((⟨b, 0⟩ : Cu).tk 1).pad9 ((⟨b, 0⟩ : Cu).nm 1)).2 ≠ 0 then (Mp.zero, (((⟨b, 0⟩ : Cu).tk 1).pad9 ((⟨b, 0⟩ : Cu).nm 1)).2)
    else (((⟨b, 0⟩ : Cu).tk 1).head ((⟨b, 0⟩ : Cu).nm 1) ((((⟨b, 0⟩ : Cu).tk 1).x8 ((⟨b, 0⟩ : Cu).nm 1)).l.take ((((⟨b, 0⟩ : Cu).tk 1).x8 ((⟨b, 0⟩ : Cu).nm 1)).l.length - (((⟨b, 0⟩ : Cu).tk 1).pad9 ((⟨b, 0⟩ : Cu).nm 1)).1)) (((⟨b, 0⟩ : Cu).tk 1).pad9 ((⟨b, 0⟩ : Cu).nm 1)).1, 0) := by
  by_cases h1 : ((⟨b, 0⟩ : Cu).tk 1).e = 0
  · by_cases h2 : (⟨b, 0⟩ : Cu).nm 1 < 128 ∨ 191 < (⟨b, 0⟩ : Cu).nm 1
    · have hT : (⟨b, 0⟩ : Cu).tells = (false, 11) := by unfold Cu.tells; rw [if_neg (by simp [h1]), if_pos h2]
      rw [hT, if_pos (by decide)]
      unfold parseP
      rw [if_neg hb, if_neg (by simp [h1]), if_pos h2]
    · have hT : (⟨b, 0⟩ : Cu).tells = (decide ((⟨b, 0⟩ : Cu).nm 1 / 32 % 2 = 1), (((⟨b, 0⟩ : Cu).tk 1).x7 ((⟨b, 0⟩ : Cu).nm 1)).2) := by unfold Cu.tells; rw [if_neg (by simp [h1]), if_neg h2]
      rw [hT]
      unfold parseP
      rw [if_neg hb, if_neg (by simp [h1]), if_neg h2]
      rfl
  · have hT : (⟨b, 0⟩ : Cu).tells = (false, ((⟨b, 0⟩ : Cu).tk 1).e) := by unfold Cu.tells; rw [if_pos h1]
    rw [hT, if_pos h1]
    unfold parseP
    rw [if_neg hb, if_pos h1]
theorem tells_pad (s : Cu) (h : s.tells.2 = 0) : s.tells.1 = decide (s.nm 1 / 32 % 2 = 1) ∧ ((s.tk 1).x7 (s.nm 1)).2 = 0 := by
  unfold Cu.tells at h ⊢
  by_cases h1 : (s.tk 1).e = 0
  · rw [if_neg (by simp [h1])] at h ⊢
    by_cases h2 : s.nm 1 < 128 ∨ 191 < s.nm 1
    · rw [if_pos h2] at h
      exact absurd h (by decide)
    · rw [if_neg h2] at h ⊢
      exact ⟨rfl, h⟩
  · rw [if_pos h1] at h
    exact absurd h h1
theorem padM_le (r : List UInt8) (h : (padM r).2 = 0) : (padM r).1 ≤ r.length := by
  unfold padM at h ⊢
  split
  · simp
  · rename_i x hx
    rw [hx] at h
    dsimp only at h
    split
    · simp
    · rename_i h2
      dsimp only
      omega
theorem padM_lt (r : List UInt8) : (padM r).1 < 256 := by
  unfold padM
  split
  · decide
  · rename_i x hx
    split
    · decide
    · have := x.toNat_lt
      dsimp only
      omega
theorem bytes_some (l : List UInt8) (n : Nat) (hn : n ≤ l.length) : (⟨l, 0⟩ : Cu).bs (n : Int) = l.take n ∧ (⟨l, 0⟩ : Cu).by (n : Int) = ⟨l.drop n, 0⟩ := by
  have hd : decide (0 ≤ (n : Int)) = true := by simp
  have h : ((0 : Int) = 0 ∧ true = true ∧ (n : Int) ≤ (l.length : Int)) := ⟨rfl, rfl, by omega⟩
  unfold Cu.bs Cu.by
  dsimp only
  rw [hd]
  refine ⟨by unfold headS; rw [if_pos h, Int.toNat_natCast], ?_⟩
  have e1 : restS l 0 n true = l.drop n := by unfold restS; rw [if_pos h, Int.toNat_natCast]
  have e2 : errS l 0 n true = 0 := by unfold errS; simp; omega
  rw [e1, e2]

theorem Row.gkeep {w w' : World} {z n g : Nat} {A : Option Addr} {xs : List Value} (h : Row w w.heap.size z A n xs) (hg : w.grownBy w' (some g)) (hn : ∀ a, A = some a → g < a.block) : Row w' w'.heap.size z A n xs := by
  refine ⟨h.1, fun h0 => ?_⟩
  obtain ⟨b, o, e, hb, hc⟩ := h.2 h0
  refine ⟨b, o, e, Nat.lt_of_lt_of_le hb hg.size, fun j v hj => ?_⟩
  have hne : some b ≠ some g := by have := hn _ e; simp at this; intro h; injection h; omega
  rw [World.cell?_of_block (a := ⟨b, o + j, none⟩) (hg.block b hb hne)]
  exact hc j v hj
theorem Its.gkeep {w w' : World} {g : Nat} {A : Option Addr} {ps : List Ip} (h : Its w A ps) (hg : w.grownBy w' (some g)) {B : Nat} (hn : AtIts B A ps) (hB : g < B) : Its w' A ps :=
  ⟨Row.gkeep h.1 hg (fun a ha => Nat.lt_of_lt_of_le hB (hn.1 a ha)), fun q hq => ⟨Row.gkeep (h.2 q hq).1 hg (fun a ha => Nat.lt_of_lt_of_le hB (hn.2 q hq a ha)), (h.2 q hq).2⟩⟩
/-- What Parse tells. -/
def RParsed (q : Mp × Int) (w : World) (e : Ending) (w' : World) : Prop :=
  ∃ A1 c1 A2 c2 A3 c3 ps, e = .returned (.tuple #[.agg (q.1.cells A1 c1 A2 c2 A3 c3), .int .i64 q.2]) ∧ Row w' w'.heap.size 1 A1 q.1.csrc.length (u32s q.1.csrc) ∧ Its w' A2 ps ∧ ps.map Ip.it = q.1.exts ∧ Row w' w'.heap.size 1 A3 q.1.pay.length (u8s q.1.pay) ∧ Below w.heap.size w w'
/-- The same, and that the payload's room is as long as it. -/
def RParsedC (q : Mp × Int) (w : World) (e : Ending) (w' : World) : Prop :=
  ∃ A1 c1 A2 c2 A3 c3 ps, e = .returned (.tuple #[.agg (q.1.cells A1 c1 A2 c2 A3 c3), .int .i64 q.2]) ∧ Row w' w'.heap.size 1 A1 q.1.csrc.length (u32s q.1.csrc) ∧ Its w' A2 ps ∧ ps.map Ip.it = q.1.exts ∧ Row w' w'.heap.size 1 A3 q.1.pay.length (u8s q.1.pay) ∧ Below w.heap.size w w' ∧ q.1.pay.length ≤ c3
theorem RParsedC.bad (x : Int) (w w' : World) (h : Below w.heap.size w w') : RParsedC (Mp.zero, x) w (.returned (.tuple #[.agg #[.bool false, .int .u8 0, .int .u16 0, .int .u32 0, .int .u32 0, .slice none 0 0, .slice none 0 0, .slice none 0 0, .int .i64 0], .int .i64 x])) w' :=
  ⟨none, 0, none, 0, none, 0, [], rfl, Row.nil, ⟨Row.nil, by simp⟩, rfl, Row.nil, h, Nat.le_refl 0⟩

set_option maxHeartbeats 6400000 in
theorem rparse_cap (A : Option Addr) (c : Nat) (b : List UInt8) (w : World) (h : Row w w.heap.size 1 A b.length (u8s b)) (hc : b.length ≤ c) (hc2 : c ≤ maxLen) (hl : b.length ≤ 140737488355328) :
    Calls Try.prog 13 #[.slice A b.length c] w (RParsedC (parseP b) w) := by
  obtain ⟨n, hn⟩ : ∃ n, b.length = n := ⟨_, rfl⟩
  have HB1 := Lib.hid ((Below.refl w.heap.size w).alloc (Nat.le_refl _) (.cells #[.bool false, .int .u8 0, .int .u16 0, .int .u32 0, .int .u32 0, .slice none 0 0, .slice none 0 0, .slice none 0 0, .int .i64 0] 35))
  by_cases hbig : 1500 < n
  · have hP : parseP b = (Mp.zero, 13) := by unfold parseP; rw [if_pos (by omega)]
    rw [hP]
    rw [hn]
    clear hn h hc hc2 hl hP
    go_enter Try.func13, Try.ntmps13
    go_wp2
    exact bodyPost_ret (v := .tuple #[.agg #[.bool false, .int .u8 0, .int .u16 0, .int .u32 0, .int .u32 0, .slice none 0 0, .slice none 0 0, .slice none 0 0, .int .i64 0], .int .i64 13]) (by simp [results, Try.results13, go_sem]) rfl (RParsedC.bad 13 w _ HB1.out)
  have hP := parse_tells b (by omega)
  have HR := Lib.hid h
  obtain ⟨s, hs⟩ : ∃ s : Cu, ⟨b, 0⟩ = s := ⟨_, rfl⟩
  rw [hs] at hP
  have hTP := tells_pad s
  have hsl : s.l = b := by rw [← hs]
  have hse : s.e = 0 := by rw [← hs]
  have C1 := fun w (h : Row w w.heap.size 1 A n (u8s b)) => new_any A n c b w h (by omega)
  have C2 := fun lo p g w (hp : p < lo) (hg : lo ≤ g) (h : CutAt w lo g b 0) (hw : Whole w p 35 #[.bool false, .int .u8 0, .int .u16 0, .int .u32 0, .int .u32 0, .slice none 0 0, .slice none 0 0, .slice none 0 0, .int .i64 0]) => rtake_any s lo p g w hp hg (by rw [hsl, hse]; exact h) hw (by rw [hsl]; omega)
  obtain ⟨te, hte⟩ : ∃ x, s.tells.2 = x := ⟨_, rfl⟩
  obtain ⟨tb, htb⟩ : ∃ x, s.tells.1 = x := ⟨_, rfl⟩
  unfold TakeTold at C2
  rw [hte, htb] at C2
  rw [hte] at hP hTP
  rw [htb] at hTP
  obtain ⟨s1, hs1⟩ : ∃ x, s.tk 1 = x := ⟨_, rfl⟩
  obtain ⟨f, hf⟩ : ∃ x, s.nm 1 = x := ⟨_, rfl⟩
  rw [hs1, hf] at hP hTP C2
  obtain ⟨s8, hs8⟩ : ∃ x, s1.x8 f = x := ⟨_, rfl⟩
  have hx8 := s1.x8_suf f
  have hok := s1.x8_ok f
  rw [hs8] at hP hx8 hok C2
  have hsuf : s8.l <:+ b := hx8.trans (by rw [← hs1, ← hsl]; exact Cu.tk_suf _ _)
  have hle : s8.l.length ≤ n := by rw [← hn]; exact hsuf.length_le
  have hdrop : s8.l = b.drop (n - s8.l.length) := by have h := List.suffix_iff_eq_drop.1 hsuf; rw [hn] at h; exact h
  rw [hn] at hc HR ⊢
  have HDR := Lib.hid hdrop
  have C1 := Lib.hid C1
  have C2 := Lib.hid C2
  have HTP := Lib.hid hTP
  have HOK := Lib.hid hok
  have HN := Lib.hid hn
  have HP := Lib.hid hP
  obtain ⟨Q, hQ⟩ : ∃ q, parseP b = q := ⟨_, rfl⟩
  rw [hQ] at HP ⊢
  have HF8 := Lib.hid hf
  have HS8 := Lib.hid hs8
  clear h hn hs hP hTP hok hsl hse hte htb hs1 hx8 hsuf hdrop hQ hf hs8
  have HC := Lib.hid hc
  have HC2 := Lib.hid hc2
  clear hc hc2 hl
  go_enter Try.func13, Try.ntmps13
  go_wp2_with fail
  have HZ := Lib.hid ((Whole.new w 35 #[.bool false, .int .u8 0, .int .u16 0, .int .u32 0, .int .u32 0, .slice none 0 0, .slice none 0 0, .slice none 0 0, .int .i64 0]).alloc (.cells #[.bool false, .int .u8 0, .int .u16 0, .int .u32 0, .int .u32 0, .slice none 0 0, .slice none 0 0, .slice none 0 0, .int .i64 0] 35))
  have HM := Lib.hid (Whole.new2 w (.cells #[.bool false, .int .u8 0, .int .u16 0, .int .u32 0, .int .u32 0, .slice none 0 0, .slice none 0 0, .slice none 0 0, .int .i64 0] 35) 35 #[.bool false, .int .u8 0, .int .u16 0, .int .u32 0, .int .u32 0, .slice none 0 0, .slice none 0 0, .slice none 0 0, .int .i64 0])
  have HB2 := Lib.hid (HB1.out.alloc HB1.out.size (.cells #[.bool false, .int .u8 0, .int .u16 0, .int .u32 0, .int .u32 0, .slice none 0 0, .slice none 0 0, .slice none 0 0, .int .i64 0] 35))
  refine (C1.out _ ((HR.out.below HB2.out (Nat.le_refl _)).more HB2.out.size)).mono ?_
  rintro e w1 ⟨g, rfl, hg0, k1, b1⟩
  have hg1 : w.heap.size + 1 + 1 ≤ g := by simpa using hg0
  have HK1 : Hid (CutAt w1 (w.heap.size + 1 + 1) g b 0) := Lib.hid (by simpa using k1)
  have HB3 := Lib.hid (HB2.out.trans (b1.mono HB2.out.size))
  have HZ1 := Lib.hid (HZ.out.below b1 (by simp; omega))
  have HM1 := Lib.hid (HM.out.below b1 (by simp))
  clear hg0 k1 b1 HZ HM HB1 HB2 C1
  go_wp2_with fail
  refine (C2.out (w.heap.size + 1 + 1) (w.heap.size + 1) g w1 (by omega) hg1 HK1.out HM1.out).mono ?_
  rintro e w2 ⟨rfl, b2, hgood⟩
  have HB4 := Lib.hid (HB3.out.trans (b2.mono (by omega)))
  have HZ2 := Lib.hid (HZ1.out.below b2 (by omega))
  have HG := Lib.hid hgood
  have HR2 := Lib.hid (HR.out.below HB4.out (Nat.le_refl _))
  have hsz := HB4.out.size
  clear b2 hgood HZ1 HM1 HK1 HB3 C2 HR
  by_cases hz : te = 0
  rotate_left 1
  · have hz1 : (te == 0) = false := by simp [hz]
    have hz2 : (te != 0) = true := by simp [hz]
    have HQ := Lib.hid (HP.out.trans (if_pos hz))
    have HNZ := Lib.hid hz
    clear hz HG HP HTP HOK
    have z0 := HZ2.out.cell 0
    have z1 := HZ2.out.cell 1
    have z2 := HZ2.out.cell 2
    have z3 := HZ2.out.cell 3
    have z4 := HZ2.out.cell 4
    have z5 := HZ2.out.cell 5
    have z6 := HZ2.out.cell 6
    have z7 := HZ2.out.cell 7
    have z8 := HZ2.out.cell 8
    have y0 := HZ2.out.free 0
    have y1 := HZ2.out.free 1
    have y2 := HZ2.out.free 2
    have y3 := HZ2.out.free 3
    have y4 := HZ2.out.free 4
    have y5 := HZ2.out.free 5
    have y6 := HZ2.out.free 6
    have y7 := HZ2.out.free 7
    have y8 := HZ2.out.free 8
    go_wp2_with fail
    exact bodyPost_ret (v := .tuple #[.agg #[.bool false, .int .u8 0, .int .u16 0, .int .u32 0, .int .u32 0, .slice none 0 0, .slice none 0 0, .slice none 0 0, .int .i64 0], .int .i64 te]) (by simp [results, Try.results13, go_sem, z0, z1, z2, z3, z4, z5, z6, z7, z8]) rfl (by rw [HQ.out]; exact RParsedC.bad te w _ (((((((((HB4.out.setCell (p := ⟨w.heap.size, 0, none⟩) (Nat.le_refl _) (.bool false)).setCell (p := ⟨w.heap.size, 1, none⟩) (Nat.le_refl _) (.int .u8 0)).setCell (p := ⟨w.heap.size, 2, none⟩) (Nat.le_refl _) (.int .u16 0)).setCell (p := ⟨w.heap.size, 3, none⟩) (Nat.le_refl _) (.int .u32 0)).setCell (p := ⟨w.heap.size, 4, none⟩) (Nat.le_refl _) (.int .u32 0)).setCell (p := ⟨w.heap.size, 5, none⟩) (Nat.le_refl _) (.slice none 0 0)).setCell (p := ⟨w.heap.size, 6, none⟩) (Nat.le_refl _) (.slice none 0 0)).setCell (p := ⟨w.heap.size, 7, none⟩) (Nat.le_refl _) (.slice none 0 0)).setCell (p := ⟨w.heap.size, 8, none⟩) (Nat.le_refl _) (.int .i64 0)))
  subst hz
  have HP2 := Lib.hid (HP.out.trans (if_neg (by simp)))
  obtain ⟨t1, t2⟩ := HTP.out rfl
  have t3 := HOK.out t2
  obtain ⟨A1, c1, A2, c2, ps, q1, q2, q3, q4, q5, q6, q7⟩ := HG.out rfl
  obtain ⟨ll, le⟩ := s8
  dsimp only at t3
  subst t3
  dsimp only at *
  have HM3 := Lib.hid q1
  have HRC := Lib.hid q2
  have HI := Lib.hid q3
  have HPS := Lib.hid q4
  have HK3 := Lib.hid q5
  have HN1 := Lib.hid q6
  have HN2 := Lib.hid q7
  have HPD := Lib.hid (show s1.pad9 f = if tb = true then padM ll else (0, 0) from by unfold Cu.pad9; rw [HS8.out, t1]; by_cases hx : f / 32 % 2 = 1 <;> simp [hx])
  clear q1 q2 q3 q4 q5 q6 q7 t1 HP HTP HOK HG
  obtain ⟨lo, hlo⟩ : ∃ x, w.heap.size + 1 + 1 = x := ⟨_, rfl⟩
  have CL := fun w h => left_any (lo := lo) g ll 0 w h
  have hll : ll.length ≤ n := by omega
  obtain ⟨m, hm⟩ : ∃ x, ll.length = x := ⟨_, rfl⟩
  rw [hm] at CL hll
  have HLM := Lib.hid hm
  have CL := Lib.hid CL
  have CPD := fun A c w (h : Row w w.heap.size 1 A m (u8s ll)) => rpadof_any A c ll w (by rw [hm]; exact h) (by omega)
  rw [hm] at CPD
  have CPD := Lib.hid CPD
  clear hm
  cases tb with
  | true =>
    rw [if_pos rfl] at HPD
    have hc := HC.out
    have hc2 := HC2.out
    unfold maxLen at hc2
    have p7 := HM3.out.cell 7
    have p8 := HM3.out.cell 8
    have o7 := HM3.out.free 7
    have o8 := HM3.out.free 8
    have hnm : n - (n - m) = m := by omega
    go_wp2_with fail
    refine (CL.out w2 (by rw [← hlo]; exact HK3.out)).mono ?_
    rintro e wx ⟨rfl, rfl⟩
    go_wp2_with fail
    case inl =>
      have hcn : c = n - m := by assumption
      have HDRW : Row w2 w2.heap.size 1 (A) m (u8s ll) := by have h := (HR2.out.drop (k := n - m) (A' := A) (by omega) hc (by rw [if_pos hcn])).more HB4.out.size; rw [hnm, ← u8s_drop] at h; have e := HDR.out; rw [HLM.out] at e; rw [e]; exact h
      refine (CPD.out _ _ w2 HDRW).mono ?_
      rintro e wx ⟨rfl, rfl⟩
      clear HDRW CPD
      obtain ⟨⟨pn, pe⟩, hpm⟩ : ∃ q, padM ll = q := ⟨_, rfl⟩
      have hple := padM_le ll
      have hplt := padM_lt ll
      rw [hpm] at hple hplt HPD ⊢
      dsimp only at hple hplt ⊢
      rw [HLM.out] at hple
      have HPM := Lib.hid hpm
      clear hpm
      by_cases hpe : pe = 0
      rotate_left 1
      · have hz1 : (pe == 0) = false := by simp [hpe]
        have hz2 : (pe != 0) = true := by simp [hpe]
        have HQ : Hid (Q = (Mp.zero, pe)) := Lib.hid (by rw [HP2.out, HPD.out]; exact if_pos hpe)
        have HNZ := Lib.hid hpe
        clear hpe hple
        have z0 := HZ2.out.cell 0
        have z1 := HZ2.out.cell 1
        have z2 := HZ2.out.cell 2
        have z3 := HZ2.out.cell 3
        have z4 := HZ2.out.cell 4
        have z5 := HZ2.out.cell 5
        have z6 := HZ2.out.cell 6
        have z7 := HZ2.out.cell 7
        have z8 := HZ2.out.cell 8
        have y0 := HZ2.out.free 0
        have y1 := HZ2.out.free 1
        have y2 := HZ2.out.free 2
        have y3 := HZ2.out.free 3
        have y4 := HZ2.out.free 4
        have y5 := HZ2.out.free 5
        have y6 := HZ2.out.free 6
        have y7 := HZ2.out.free 7
        have y8 := HZ2.out.free 8
        go_wp2_with fail
        exact bodyPost_ret (v := .tuple #[.agg #[.bool false, .int .u8 0, .int .u16 0, .int .u32 0, .int .u32 0, .slice none 0 0, .slice none 0 0, .slice none 0 0, .int .i64 0], .int .i64 pe]) (by simp [results, Try.results13, go_sem, z0, z1, z2, z3, z4, z5, z6, z7, z8]) rfl (by rw [HQ.out]; exact RParsedC.bad pe w _ ((((((((((HB4.out.setCell (p := ⟨w.heap.size + 1, 8, none⟩) (Nat.le_succ _) (.int .i64 (pn : Int))).setCell (p := ⟨w.heap.size, 0, none⟩) (Nat.le_refl _) (.bool false)).setCell (p := ⟨w.heap.size, 1, none⟩) (Nat.le_refl _) (.int .u8 0)).setCell (p := ⟨w.heap.size, 2, none⟩) (Nat.le_refl _) (.int .u16 0)).setCell (p := ⟨w.heap.size, 3, none⟩) (Nat.le_refl _) (.int .u32 0)).setCell (p := ⟨w.heap.size, 4, none⟩) (Nat.le_refl _) (.int .u32 0)).setCell (p := ⟨w.heap.size, 5, none⟩) (Nat.le_refl _) (.slice none 0 0)).setCell (p := ⟨w.heap.size, 6, none⟩) (Nat.le_refl _) (.slice none 0 0)).setCell (p := ⟨w.heap.size, 7, none⟩) (Nat.le_refl _) (.slice none 0 0)).setCell (p := ⟨w.heap.size, 8, none⟩) (Nat.le_refl _) (.int .i64 0)))
      subst hpe
      have hpl := hple rfl
      clear hple
      go_upto_region 10 with fail
      obtain ⟨wq, hwq⟩ : ∃ z, z = w2.setCell ⟨w.heap.size + 1, 8, none⟩ (.int .i64 (pn : Int)) := ⟨_, rfl⟩
      have HMq := Lib.hid (show Whole wq (w.heap.size + 1) 35 #[.bool (decide (128 ≤ s1.nm 1)), .int .u8 ((s1.nm 1 : Int) % 128), .int .u16 (s1.h2.nm 2 : Int), .int .u32 (s1.h3.nm 4 : Int), .int .u32 (s1.h4.nm 4 : Int), .slice A1 (s1.h5.csr (f % 16)).length c1, .slice A2 ps.length c2, .slice none 0 0, .int .i64 (pn : Int)] from by rw [hwq]; exact HM3.out.set 8 (.int .i64 (pn : Int)))
      have HKq := Lib.hid (show CutAt wq lo g ll 0 from by rw [hwq]; exact (show CutAt w2 lo g ll 0 by rw [← hlo]; exact HK3.out).pset (by omega) (by omega) 8 (.int .i64 (pn : Int)))
      have HZq := Lib.hid (show Whole wq w.heap.size 35 #[.bool false, .int .u8 0, .int .u16 0, .int .u32 0, .int .u32 0, .slice none 0 0, .slice none 0 0, .slice none 0 0, .int .i64 0] from by rw [hwq]; exact HZ2.out.far (p := ⟨w.heap.size + 1, 8, none⟩) (show w.heap.size ≠ w.heap.size + 1 by omega) (.int .i64 (pn : Int)))
      have HBq := Lib.hid (show Below w.heap.size w wq from by rw [hwq]; exact HB4.out.setCell (p := ⟨w.heap.size + 1, 8, none⟩) (Nat.le_succ _) (.int .i64 (pn : Int)))
      have HRq := Lib.hid (show Row wq wq.heap.size 1 A1 (s1.h5.csr (f % 16)).length (u32s (s1.h5.csr (f % 16))) from by rw [hwq]; exact Row.pset HRC.out (B := g + 1) (fun a ha => HN1.out a ha) (by omega) 8 (.int .i64 (pn : Int)))
      have HIq := Lib.hid (show Its wq A2 ps from by rw [hwq]; exact Its.pset HI.out HN2.out (by omega) 8 (.int .i64 (pn : Int)))
      rw [← hwq]
      clear hwq HM3 HK3 HZ2 HB4 HRC HI HR2 HDR
      obtain ⟨k, hk⟩ : ∃ x, m - pn = x := ⟨_, rfl⟩
      have hkl : (ll.take k).length = k := by rw [List.length_take, HLM.out]; omega
      have e46 : IntKind.i64.wrap ((m : Int) - (pn : Int)) = ((k : Nat) : Int) := by rw [wrapI64 _ (by omega)]; omega
      have CB : ∀ w', CutAt w' lo g ll 0 → Calls Try.prog 29 #[.pointer (some ⟨g, 0, none⟩), .int .i64 (IntKind.i64.wrap ((m : Int) - (pn : Int)))] w' fun e w'' => ∃ A c, e = .returned (.slice A k c) ∧ w''.ownsRow w'.heap.size 5 1 (.slice A k c) k (u8s (ll.take k)) ∧ w'.grownBy w'' (some g) := by intro w' h; have hb := bytes_some ll k (by rw [HLM.out]; omega); rw [e46]; refine (bytes_cu ⟨ll, 0⟩ lo g (k : Int) w' h (by dsimp only; rw [HLM.out]; omega)).mono ?_; rintro e w'' ⟨A, c, rfl, h1, _, h3⟩; rw [hb.1, hkl] at h1; rw [hb.1, hkl]; exact ⟨A, c, rfl, h1, h3⟩
      have HQ : Hid (Q = (s1.head f (ll.take k) pn, 0)) := Lib.hid (by rw [HP2.out, HPD.out]; dsimp only; rw [HLM.out, hk]; exact if_neg (by simp))
      have HCE : Hid (∀ A3 c3, (s1.head f (ll.take k) pn).cells A1 c1 A2 c2 A3 c3 = #[.bool (decide (128 ≤ s1.nm 1)), .int .u8 ((s1.nm 1 : Int) % 128), .int .u16 (s1.h2.nm 2 : Int), .int .u32 (s1.h3.nm 4 : Int), .int .u32 (s1.h4.nm 4 : Int), .slice A1 (s1.h5.csr (f % 16)).length c1, .slice A2 ps.length c2, .slice A3 k c3, .int .i64 (pn : Int)]) := Lib.hid (fun A3 c3 => by unfold Cu.head Mp.cells; dsimp only; rw [← HPS.out, List.length_map, hkl]; rfl)
      have HKL := Lib.hid hkl
      have CB := Lib.hid CB
      have hgq := HKq.out.lt
      clear e46 hkl hk
      refine wp_region_X (S := fun w' => w'.cell? ⟨w.heap.size + 1, 8, none⟩ = some (.int .i64 (pn : Int))) [8] (by kernel_rfl) (HMq.out.cell 8) (fun hHeld0 => ?_)
      refine wpAnyX_take (i := 0) [6, 7, 8] (v := ?_) rfl (by kernel_rfl) (by kernel_rfl) (by kernel_rfl) (by kernel_rfl) (fun _ _ _ h => h) (Or.inl ⟨by kernel_rfl, ?_⟩) (by assumption) ?_
      rotate_left 1
      · (intro w hSw; have q0 := hSw; go_simp; try (with_reducible rfl))
      (try simp only [Act.put, List.getElem_toArray, List.getElem_cons_succ, List.getElem_cons_zero, List.setIfInBounds_toArray, List.set_cons_zero, List.set_cons_succ])
      refine wpAnyX_take (i := 1) [2, 5, 6, 7, 8] (v := ?_) rfl (by kernel_rfl) (by kernel_rfl) (by kernel_rfl) (by kernel_rfl) (fun _ _ _ h => h) (Or.inl ⟨by kernel_rfl, ?_⟩) (by assumption) ?_
      rotate_left 1
      · (intro w hSw; have q0 := hSw; go_simp; try (with_reducible rfl))
      (try simp only [Act.put, List.getElem_toArray, List.getElem_cons_succ, List.getElem_cons_zero, List.setIfInBounds_toArray, List.set_cons_zero, List.set_cons_succ])
      refine wpAnyX_take (i := 3) [4, 5, 6, 7, 8] (v := ?_) rfl (by kernel_rfl) (by kernel_rfl) (by kernel_rfl) (by kernel_rfl) (fun _ _ _ h => h) (Or.inl ⟨by kernel_rfl, ?_⟩) (by assumption) ?_
      rotate_left 1
      · (intro w hSw; have q0 := hSw; go_simp; try (with_reducible rfl))
      (try simp only [Act.put, List.getElem_toArray, List.getElem_cons_succ, List.getElem_cons_zero, List.setIfInBounds_toArray, List.set_cons_zero, List.set_cons_succ])
      refine wpAnyX_take (i := 4) [5, 6, 7, 8] (v := ?_) rfl (by kernel_rfl) (by kernel_rfl) (by kernel_rfl) (by kernel_rfl) (fun _ _ _ h => h) (Or.inl ⟨by kernel_rfl, ?_⟩) (by assumption) ?_
      rotate_left 1
      · (intro w hSw; have q0 := hSw; go_simp; try (with_reducible rfl))
      (try simp only [Act.put, List.getElem_toArray, List.getElem_cons_succ, List.getElem_cons_zero, List.setIfInBounds_toArray, List.set_cons_zero, List.set_cons_succ])
      refine wpAnyX_one 2 (by kernel_rfl) rfl (fun K hK => ?_)
      go_simp
      go_wp2_with (refine (CL.out _ (show CutAt wq.drew lo g _ _ from HKq.out)).mono ?_; rintro e u0 ⟨rfl, rfl⟩)
      refine hK.out _ _ (.inr (HMq.out.cell 8)) ?_
      have hHeld1 : (fun w' => w'.cell? ⟨w.heap.size + 1, 8, none⟩ = some (.int .i64 (pn : Int))) wq.drew := HMq.out.cell 8
      clear hK K
      (try simp only [Act.put, List.getElem_toArray, List.getElem_cons_succ, List.getElem_cons_zero, List.setIfInBounds_toArray, List.set_cons_zero, List.set_cons_succ])
      refine wpAnyX_take (i := 5) [6, 7, 8] (v := ?_) rfl (by kernel_rfl) (by kernel_rfl) (by kernel_rfl) (by kernel_rfl) (fun _ _ _ h => h) (Or.inl ⟨by kernel_rfl, ?_⟩) (by assumption) ?_
      rotate_left 1
      · (intro w hSw; have q0 := hSw; go_simp; try (with_reducible rfl))
      (try simp only [Act.put, List.getElem_toArray, List.getElem_cons_succ, List.getElem_cons_zero, List.setIfInBounds_toArray, List.set_cons_zero, List.set_cons_succ])
      refine wpAnyX_one 6 (by kernel_rfl) rfl (fun K hK => ?_)
      go_simp
      go_wp2_with (refine (CB.out _ (show CutAt wq.drew lo g _ _ from HKq.out)).mono ?_; rintro e u1 ⟨A3, c3, rfl, o1, g1⟩)
      have M1 := HMq.out.drew.grown g1 (by simp; omega)
      have O1 := Lib.hid o1
      have Z1 := Lib.hid (HZq.out.drew.grown g1 (by simp; omega))
      have B1 := Lib.hid ((HBq.out.drew).grown g1 (by have := HZq.out.lt; simp; omega) (fun q hq => by simp at hq; omega))
      have R1 := Lib.hid (HRq.out.drew)
      have G1 := Lib.hid g1
      clear g1 o1
      refine hK.out _ _ (.inr (M1.cell 8)) ?_
      have hHeld2 : (fun w' => w'.cell? ⟨w.heap.size + 1, 8, none⟩ = some (.int .i64 (pn : Int))) u1 := M1.cell 8
      clear hK K
      (try simp only [Act.put, List.getElem_toArray, List.getElem_cons_succ, List.getElem_cons_zero, List.setIfInBounds_toArray, List.set_cons_zero, List.set_cons_succ])
      refine wpAnyX_take (i := 7) [8] (v := ?_) rfl (by kernel_rfl) (by kernel_rfl) (by kernel_rfl) (by kernel_rfl) (fun _ _ _ h => h) (Or.inl ⟨by kernel_rfl, ?_⟩) (by assumption) ?_
      rotate_left 1
      · (intro w hSw; have q0 := hSw; go_simp; try (with_reducible rfl))
      (try simp only [Act.put, List.getElem_toArray, List.getElem_cons_succ, List.getElem_cons_zero, List.setIfInBounds_toArray, List.set_cons_zero, List.set_cons_succ])
      refine wpAnyX_one 8 (by kernel_rfl) rfl (fun K hK => ?_)
      have e9 := M1.cell 7
      have f9 := M1.free 7
      have HMe := Lib.hid (show Whole _ _ _ #[.bool (decide (128 ≤ s1.nm 1)), .int .u8 ((s1.nm 1 : Int) % 128), .int .u16 (s1.h2.nm 2 : Int), .int .u32 (s1.h3.nm 4 : Int), .int .u32 (s1.h4.nm 4 : Int), .slice A1 (s1.h5.csr (f % 16)).length c1, .slice A2 ps.length c2, .slice A3 k c3, .int .i64 (pn : Int)] from M1.set 7 (.slice A3 k c3))
      go_simp
      refine hK.out _ _ (.inl (by decide)) ?_
      clear hK K
      (try simp only [Act.put, List.getElem_toArray, List.getElem_cons_succ, List.getElem_cons_zero, List.setIfInBounds_toArray, List.set_cons_zero, List.set_cons_succ])
      refine wpAnyX_done (by kernel_rfl) ?_ _
      have hqs : g < wq.heap.size := hgq
      skip
      obtain ⟨wz, hwz⟩ : ∃ z, z = u1.setCell ⟨w.heap.size + 1, 7, none⟩ (.slice A3 k c3) := ⟨_, rfl⟩
      have HMz := Lib.hid (show Whole wz (w.heap.size + 1) 35 #[.bool (decide (128 ≤ s1.nm 1)), .int .u8 ((s1.nm 1 : Int) % 128), .int .u16 (s1.h2.nm 2 : Int), .int .u32 (s1.h3.nm 4 : Int), .int .u32 (s1.h4.nm 4 : Int), .slice A1 (s1.h5.csr (f % 16)).length c1, .slice A2 ps.length c2, .slice A3 k c3, .int .i64 (pn : Int)] from by rw [hwz]; exact HMe.out)
      have HZz := Lib.hid (show Whole wz w.heap.size 35 #[.bool false, .int .u8 0, .int .u16 0, .int .u32 0, .int .u32 0, .slice none 0 0, .slice none 0 0, .slice none 0 0, .int .i64 0] from by rw [hwz]; exact Z1.out.far (p := ⟨w.heap.size + 1, 7, none⟩) (show w.heap.size ≠ w.heap.size + 1 by omega) _)
      have HBz := Lib.hid (show Below w.heap.size w wz from by rw [hwz]; exact B1.out.setCell (p := ⟨w.heap.size + 1, 7, none⟩) (Nat.le_succ _) _)
      have HRz := Lib.hid (show Row wz wz.heap.size 1 A1 (s1.h5.csr (f % 16)).length (u32s (s1.h5.csr (f % 16))) from by rw [hwz]; exact Row.pset (Row.gkeep R1.out G1.out HN1.out) (B := g + 1) (fun a ha => HN1.out a ha) (by omega) 7 _)
      have HIz := Lib.hid (show Its wz A2 ps from by rw [hwz]; exact Its.pset (Its.gkeep (show Its wq.drew A2 ps from HIq.out) G1.out HN2.out (Nat.lt_succ_self _)) HN2.out (by omega) 7 _)
      have HPn : Hid (∀ a, A3 = some a → g < a.block) := Lib.hid (fun a ha => Nat.lt_of_lt_of_le hqs (own_lo O1.out a ha))
      have HPz := Lib.hid (show Row wz wz.heap.size 1 A3 k (u8s (ll.take k)) from by rw [hwz]; exact Row.pset (Row.of_own O1.out) (B := g + 1) (fun a ha => HPn.out a ha) (by omega) 7 _)
      have HCz := Lib.hid (own_cap O1.out).1
      (try rw [← hwz])
      clear hwz HMe Z1 B1 R1 O1 G1 M1 HMq HKq HZq HBq HRq HIq CB CL hHeld0 hHeld1 hHeld2
      have z0 := HZz.out.cell 0
      have z1 := HZz.out.cell 1
      have z2 := HZz.out.cell 2
      have z3 := HZz.out.cell 3
      have z4 := HZz.out.cell 4
      have z5 := HZz.out.cell 5
      have z6 := HZz.out.cell 6
      have z7 := HZz.out.cell 7
      have z8 := HZz.out.cell 8
      have y0 := HZz.out.free 0
      have y1 := HZz.out.free 1
      have y2 := HZz.out.free 2
      have y3 := HZz.out.free 3
      have y4 := HZz.out.free 4
      have y5 := HZz.out.free 5
      have y6 := HZz.out.free 6
      have y7 := HZz.out.free 7
      have y8 := HZz.out.free 8
      have x0 := HMz.out.cell 0
      have x1 := HMz.out.cell 1
      have x2 := HMz.out.cell 2
      have x3 := HMz.out.cell 3
      have x4 := HMz.out.cell 4
      have x5 := HMz.out.cell 5
      have x6 := HMz.out.cell 6
      have x7 := HMz.out.cell 7
      have x8 := HMz.out.cell 8
      have HFIN : Hid (∀ w9, wz.grownBy w9 (some w.heap.size) → Below w.heap.size w w9 → RParsedC Q w (.returned (.tuple #[.agg #[.bool (decide (128 ≤ s1.nm 1)), .int .u8 ((s1.nm 1 : Int) % 128), .int .u16 (s1.h2.nm 2 : Int), .int .u32 (s1.h3.nm 4 : Int), .int .u32 (s1.h4.nm 4 : Int), .slice A1 (s1.h5.csr (f % 16)).length c1, .slice A2 ps.length c2, .slice A3 k c3, .int .i64 (pn : Int)], .int .i64 0])) w9) := Lib.hid (fun w9 hg9 hb9 => by rw [HQ.out]; exact ⟨A1, c1, A2, c2, A3, c3, ps, by rw [HCE.out], Row.gkeep HRz.out hg9 (fun a ha => by have := HN1.out a ha; omega), Its.gkeep HIz.out hg9 HN2.out (by omega), HPS.out, by rw [show (s1.head f (ll.take k) pn).pay = ll.take k from rfl, HKL.out]; exact Row.gkeep HPz.out hg9 (fun a ha => by have := HPn.out a ha; omega), hb9, by rw [show (s1.head f (ll.take k) pn).pay = ll.take k from rfl, HKL.out]; exact HCz.out⟩)
      go_wp2_with fail
      exact bodyPost_ret (v := .tuple #[.agg #[.bool (decide (128 ≤ s1.nm 1)), .int .u8 ((s1.nm 1 : Int) % 128), .int .u16 (s1.h2.nm 2 : Int), .int .u32 (s1.h3.nm 4 : Int), .int .u32 (s1.h4.nm 4 : Int), .slice A1 (s1.h5.csr (f % 16)).length c1, .slice A2 ps.length c2, .slice A3 k c3, .int .i64 (pn : Int)], .int .i64 0]) (by simp [results, Try.results13, go_sem, z0, z1, z2, z3, z4, z5, z6, z7, z8]) rfl (HFIN.out _ (only_trans (only_trans (only_trans (only_trans (only_trans (only_trans (only_trans (only_trans (grown_set _ _ 0 _) (grown_set _ _ 1 _)) (grown_set _ _ 2 _)) (grown_set _ _ 3 _)) (grown_set _ _ 4 _)) (grown_set _ _ 5 _)) (grown_set _ _ 6 _)) (grown_set _ _ 7 _)) (grown_set _ _ 8 _)) (((((((((HBz.out.setCell (p := ⟨w.heap.size, 0, none⟩) (Nat.le_refl _) (.bool (decide (128 ≤ s1.nm 1)))).setCell (p := ⟨w.heap.size, 1, none⟩) (Nat.le_refl _) (.int .u8 ((s1.nm 1 : Int) % 128))).setCell (p := ⟨w.heap.size, 2, none⟩) (Nat.le_refl _) (.int .u16 (s1.h2.nm 2 : Int))).setCell (p := ⟨w.heap.size, 3, none⟩) (Nat.le_refl _) (.int .u32 (s1.h3.nm 4 : Int))).setCell (p := ⟨w.heap.size, 4, none⟩) (Nat.le_refl _) (.int .u32 (s1.h4.nm 4 : Int))).setCell (p := ⟨w.heap.size, 5, none⟩) (Nat.le_refl _) (.slice A1 (s1.h5.csr (f % 16)).length c1)).setCell (p := ⟨w.heap.size, 6, none⟩) (Nat.le_refl _) (.slice A2 ps.length c2)).setCell (p := ⟨w.heap.size, 7, none⟩) (Nat.le_refl _) (.slice A3 k c3)).setCell (p := ⟨w.heap.size, 8, none⟩) (Nat.le_refl _) (.int .i64 (pn : Int))))
    case inr =>
      have hcn : ¬ c = n - m := by assumption
      have HDRW : Row w2 w2.heap.size 1 (A.map fun x => x.add (n - m)) m (u8s ll) := by have h := (HR2.out.drop (k := n - m) (A' := A.map fun x => x.add (n - m)) (by omega) hc (by rw [if_neg hcn])).more HB4.out.size; rw [hnm, ← u8s_drop] at h; have e := HDR.out; rw [HLM.out] at e; rw [e]; exact h
      refine (CPD.out _ _ w2 HDRW).mono ?_
      rintro e wx ⟨rfl, rfl⟩
      clear HDRW CPD
      obtain ⟨⟨pn, pe⟩, hpm⟩ : ∃ q, padM ll = q := ⟨_, rfl⟩
      have hple := padM_le ll
      have hplt := padM_lt ll
      rw [hpm] at hple hplt HPD ⊢
      dsimp only at hple hplt ⊢
      rw [HLM.out] at hple
      have HPM := Lib.hid hpm
      clear hpm
      by_cases hpe : pe = 0
      rotate_left 1
      · have hz1 : (pe == 0) = false := by simp [hpe]
        have hz2 : (pe != 0) = true := by simp [hpe]
        have HQ : Hid (Q = (Mp.zero, pe)) := Lib.hid (by rw [HP2.out, HPD.out]; exact if_pos hpe)
        have HNZ := Lib.hid hpe
        clear hpe hple
        have z0 := HZ2.out.cell 0
        have z1 := HZ2.out.cell 1
        have z2 := HZ2.out.cell 2
        have z3 := HZ2.out.cell 3
        have z4 := HZ2.out.cell 4
        have z5 := HZ2.out.cell 5
        have z6 := HZ2.out.cell 6
        have z7 := HZ2.out.cell 7
        have z8 := HZ2.out.cell 8
        have y0 := HZ2.out.free 0
        have y1 := HZ2.out.free 1
        have y2 := HZ2.out.free 2
        have y3 := HZ2.out.free 3
        have y4 := HZ2.out.free 4
        have y5 := HZ2.out.free 5
        have y6 := HZ2.out.free 6
        have y7 := HZ2.out.free 7
        have y8 := HZ2.out.free 8
        go_wp2_with fail
        exact bodyPost_ret (v := .tuple #[.agg #[.bool false, .int .u8 0, .int .u16 0, .int .u32 0, .int .u32 0, .slice none 0 0, .slice none 0 0, .slice none 0 0, .int .i64 0], .int .i64 pe]) (by simp [results, Try.results13, go_sem, z0, z1, z2, z3, z4, z5, z6, z7, z8]) rfl (by rw [HQ.out]; exact RParsedC.bad pe w _ ((((((((((HB4.out.setCell (p := ⟨w.heap.size + 1, 8, none⟩) (Nat.le_succ _) (.int .i64 (pn : Int))).setCell (p := ⟨w.heap.size, 0, none⟩) (Nat.le_refl _) (.bool false)).setCell (p := ⟨w.heap.size, 1, none⟩) (Nat.le_refl _) (.int .u8 0)).setCell (p := ⟨w.heap.size, 2, none⟩) (Nat.le_refl _) (.int .u16 0)).setCell (p := ⟨w.heap.size, 3, none⟩) (Nat.le_refl _) (.int .u32 0)).setCell (p := ⟨w.heap.size, 4, none⟩) (Nat.le_refl _) (.int .u32 0)).setCell (p := ⟨w.heap.size, 5, none⟩) (Nat.le_refl _) (.slice none 0 0)).setCell (p := ⟨w.heap.size, 6, none⟩) (Nat.le_refl _) (.slice none 0 0)).setCell (p := ⟨w.heap.size, 7, none⟩) (Nat.le_refl _) (.slice none 0 0)).setCell (p := ⟨w.heap.size, 8, none⟩) (Nat.le_refl _) (.int .i64 0)))
      subst hpe
      have hpl := hple rfl
      clear hple
      go_upto_region 10 with fail
      obtain ⟨wq, hwq⟩ : ∃ z, z = w2.setCell ⟨w.heap.size + 1, 8, none⟩ (.int .i64 (pn : Int)) := ⟨_, rfl⟩
      have HMq := Lib.hid (show Whole wq (w.heap.size + 1) 35 #[.bool (decide (128 ≤ s1.nm 1)), .int .u8 ((s1.nm 1 : Int) % 128), .int .u16 (s1.h2.nm 2 : Int), .int .u32 (s1.h3.nm 4 : Int), .int .u32 (s1.h4.nm 4 : Int), .slice A1 (s1.h5.csr (f % 16)).length c1, .slice A2 ps.length c2, .slice none 0 0, .int .i64 (pn : Int)] from by rw [hwq]; exact HM3.out.set 8 (.int .i64 (pn : Int)))
      have HKq := Lib.hid (show CutAt wq lo g ll 0 from by rw [hwq]; exact (show CutAt w2 lo g ll 0 by rw [← hlo]; exact HK3.out).pset (by omega) (by omega) 8 (.int .i64 (pn : Int)))
      have HZq := Lib.hid (show Whole wq w.heap.size 35 #[.bool false, .int .u8 0, .int .u16 0, .int .u32 0, .int .u32 0, .slice none 0 0, .slice none 0 0, .slice none 0 0, .int .i64 0] from by rw [hwq]; exact HZ2.out.far (p := ⟨w.heap.size + 1, 8, none⟩) (show w.heap.size ≠ w.heap.size + 1 by omega) (.int .i64 (pn : Int)))
      have HBq := Lib.hid (show Below w.heap.size w wq from by rw [hwq]; exact HB4.out.setCell (p := ⟨w.heap.size + 1, 8, none⟩) (Nat.le_succ _) (.int .i64 (pn : Int)))
      have HRq := Lib.hid (show Row wq wq.heap.size 1 A1 (s1.h5.csr (f % 16)).length (u32s (s1.h5.csr (f % 16))) from by rw [hwq]; exact Row.pset HRC.out (B := g + 1) (fun a ha => HN1.out a ha) (by omega) 8 (.int .i64 (pn : Int)))
      have HIq := Lib.hid (show Its wq A2 ps from by rw [hwq]; exact Its.pset HI.out HN2.out (by omega) 8 (.int .i64 (pn : Int)))
      rw [← hwq]
      clear hwq HM3 HK3 HZ2 HB4 HRC HI HR2 HDR
      obtain ⟨k, hk⟩ : ∃ x, m - pn = x := ⟨_, rfl⟩
      have hkl : (ll.take k).length = k := by rw [List.length_take, HLM.out]; omega
      have e46 : IntKind.i64.wrap ((m : Int) - (pn : Int)) = ((k : Nat) : Int) := by rw [wrapI64 _ (by omega)]; omega
      have CB : ∀ w', CutAt w' lo g ll 0 → Calls Try.prog 29 #[.pointer (some ⟨g, 0, none⟩), .int .i64 (IntKind.i64.wrap ((m : Int) - (pn : Int)))] w' fun e w'' => ∃ A c, e = .returned (.slice A k c) ∧ w''.ownsRow w'.heap.size 5 1 (.slice A k c) k (u8s (ll.take k)) ∧ w'.grownBy w'' (some g) := by intro w' h; have hb := bytes_some ll k (by rw [HLM.out]; omega); rw [e46]; refine (bytes_cu ⟨ll, 0⟩ lo g (k : Int) w' h (by dsimp only; rw [HLM.out]; omega)).mono ?_; rintro e w'' ⟨A, c, rfl, h1, _, h3⟩; rw [hb.1, hkl] at h1; rw [hb.1, hkl]; exact ⟨A, c, rfl, h1, h3⟩
      have HQ : Hid (Q = (s1.head f (ll.take k) pn, 0)) := Lib.hid (by rw [HP2.out, HPD.out]; dsimp only; rw [HLM.out, hk]; exact if_neg (by simp))
      have HCE : Hid (∀ A3 c3, (s1.head f (ll.take k) pn).cells A1 c1 A2 c2 A3 c3 = #[.bool (decide (128 ≤ s1.nm 1)), .int .u8 ((s1.nm 1 : Int) % 128), .int .u16 (s1.h2.nm 2 : Int), .int .u32 (s1.h3.nm 4 : Int), .int .u32 (s1.h4.nm 4 : Int), .slice A1 (s1.h5.csr (f % 16)).length c1, .slice A2 ps.length c2, .slice A3 k c3, .int .i64 (pn : Int)]) := Lib.hid (fun A3 c3 => by unfold Cu.head Mp.cells; dsimp only; rw [← HPS.out, List.length_map, hkl]; rfl)
      have HKL := Lib.hid hkl
      have CB := Lib.hid CB
      have hgq := HKq.out.lt
      clear e46 hkl hk
      refine wp_region_X (S := fun w' => w'.cell? ⟨w.heap.size + 1, 8, none⟩ = some (.int .i64 (pn : Int))) [8] (by kernel_rfl) (HMq.out.cell 8) (fun hHeld0 => ?_)
      refine wpAnyX_take (i := 0) [6, 7, 8] (v := ?_) rfl (by kernel_rfl) (by kernel_rfl) (by kernel_rfl) (by kernel_rfl) (fun _ _ _ h => h) (Or.inl ⟨by kernel_rfl, ?_⟩) (by assumption) ?_
      rotate_left 1
      · (intro w hSw; have q0 := hSw; go_simp; try (with_reducible rfl))
      (try simp only [Act.put, List.getElem_toArray, List.getElem_cons_succ, List.getElem_cons_zero, List.setIfInBounds_toArray, List.set_cons_zero, List.set_cons_succ])
      refine wpAnyX_take (i := 1) [2, 5, 6, 7, 8] (v := ?_) rfl (by kernel_rfl) (by kernel_rfl) (by kernel_rfl) (by kernel_rfl) (fun _ _ _ h => h) (Or.inl ⟨by kernel_rfl, ?_⟩) (by assumption) ?_
      rotate_left 1
      · (intro w hSw; have q0 := hSw; go_simp; try (with_reducible rfl))
      (try simp only [Act.put, List.getElem_toArray, List.getElem_cons_succ, List.getElem_cons_zero, List.setIfInBounds_toArray, List.set_cons_zero, List.set_cons_succ])
      refine wpAnyX_take (i := 3) [4, 5, 6, 7, 8] (v := ?_) rfl (by kernel_rfl) (by kernel_rfl) (by kernel_rfl) (by kernel_rfl) (fun _ _ _ h => h) (Or.inl ⟨by kernel_rfl, ?_⟩) (by assumption) ?_
      rotate_left 1
      · (intro w hSw; have q0 := hSw; go_simp; try (with_reducible rfl))
      (try simp only [Act.put, List.getElem_toArray, List.getElem_cons_succ, List.getElem_cons_zero, List.setIfInBounds_toArray, List.set_cons_zero, List.set_cons_succ])
      refine wpAnyX_take (i := 4) [5, 6, 7, 8] (v := ?_) rfl (by kernel_rfl) (by kernel_rfl) (by kernel_rfl) (by kernel_rfl) (fun _ _ _ h => h) (Or.inl ⟨by kernel_rfl, ?_⟩) (by assumption) ?_
      rotate_left 1
      · (intro w hSw; have q0 := hSw; go_simp; try (with_reducible rfl))
      (try simp only [Act.put, List.getElem_toArray, List.getElem_cons_succ, List.getElem_cons_zero, List.setIfInBounds_toArray, List.set_cons_zero, List.set_cons_succ])
      refine wpAnyX_one 2 (by kernel_rfl) rfl (fun K hK => ?_)
      go_simp
      go_wp2_with (refine (CL.out _ (show CutAt wq.drew lo g _ _ from HKq.out)).mono ?_; rintro e u0 ⟨rfl, rfl⟩)
      refine hK.out _ _ (.inr (HMq.out.cell 8)) ?_
      have hHeld1 : (fun w' => w'.cell? ⟨w.heap.size + 1, 8, none⟩ = some (.int .i64 (pn : Int))) wq.drew := HMq.out.cell 8
      clear hK K
      (try simp only [Act.put, List.getElem_toArray, List.getElem_cons_succ, List.getElem_cons_zero, List.setIfInBounds_toArray, List.set_cons_zero, List.set_cons_succ])
      refine wpAnyX_take (i := 5) [6, 7, 8] (v := ?_) rfl (by kernel_rfl) (by kernel_rfl) (by kernel_rfl) (by kernel_rfl) (fun _ _ _ h => h) (Or.inl ⟨by kernel_rfl, ?_⟩) (by assumption) ?_
      rotate_left 1
      · (intro w hSw; have q0 := hSw; go_simp; try (with_reducible rfl))
      (try simp only [Act.put, List.getElem_toArray, List.getElem_cons_succ, List.getElem_cons_zero, List.setIfInBounds_toArray, List.set_cons_zero, List.set_cons_succ])
      refine wpAnyX_one 6 (by kernel_rfl) rfl (fun K hK => ?_)
      go_simp
      go_wp2_with (refine (CB.out _ (show CutAt wq.drew lo g _ _ from HKq.out)).mono ?_; rintro e u1 ⟨A3, c3, rfl, o1, g1⟩)
      have M1 := HMq.out.drew.grown g1 (by simp; omega)
      have O1 := Lib.hid o1
      have Z1 := Lib.hid (HZq.out.drew.grown g1 (by simp; omega))
      have B1 := Lib.hid ((HBq.out.drew).grown g1 (by have := HZq.out.lt; simp; omega) (fun q hq => by simp at hq; omega))
      have R1 := Lib.hid (HRq.out.drew)
      have G1 := Lib.hid g1
      clear g1 o1
      refine hK.out _ _ (.inr (M1.cell 8)) ?_
      have hHeld2 : (fun w' => w'.cell? ⟨w.heap.size + 1, 8, none⟩ = some (.int .i64 (pn : Int))) u1 := M1.cell 8
      clear hK K
      (try simp only [Act.put, List.getElem_toArray, List.getElem_cons_succ, List.getElem_cons_zero, List.setIfInBounds_toArray, List.set_cons_zero, List.set_cons_succ])
      refine wpAnyX_take (i := 7) [8] (v := ?_) rfl (by kernel_rfl) (by kernel_rfl) (by kernel_rfl) (by kernel_rfl) (fun _ _ _ h => h) (Or.inl ⟨by kernel_rfl, ?_⟩) (by assumption) ?_
      rotate_left 1
      · (intro w hSw; have q0 := hSw; go_simp; try (with_reducible rfl))
      (try simp only [Act.put, List.getElem_toArray, List.getElem_cons_succ, List.getElem_cons_zero, List.setIfInBounds_toArray, List.set_cons_zero, List.set_cons_succ])
      refine wpAnyX_one 8 (by kernel_rfl) rfl (fun K hK => ?_)
      have e9 := M1.cell 7
      have f9 := M1.free 7
      have HMe := Lib.hid (show Whole _ _ _ #[.bool (decide (128 ≤ s1.nm 1)), .int .u8 ((s1.nm 1 : Int) % 128), .int .u16 (s1.h2.nm 2 : Int), .int .u32 (s1.h3.nm 4 : Int), .int .u32 (s1.h4.nm 4 : Int), .slice A1 (s1.h5.csr (f % 16)).length c1, .slice A2 ps.length c2, .slice A3 k c3, .int .i64 (pn : Int)] from M1.set 7 (.slice A3 k c3))
      go_simp
      refine hK.out _ _ (.inl (by decide)) ?_
      clear hK K
      (try simp only [Act.put, List.getElem_toArray, List.getElem_cons_succ, List.getElem_cons_zero, List.setIfInBounds_toArray, List.set_cons_zero, List.set_cons_succ])
      refine wpAnyX_done (by kernel_rfl) ?_ _
      have hqs : g < wq.heap.size := hgq
      skip
      obtain ⟨wz, hwz⟩ : ∃ z, z = u1.setCell ⟨w.heap.size + 1, 7, none⟩ (.slice A3 k c3) := ⟨_, rfl⟩
      have HMz := Lib.hid (show Whole wz (w.heap.size + 1) 35 #[.bool (decide (128 ≤ s1.nm 1)), .int .u8 ((s1.nm 1 : Int) % 128), .int .u16 (s1.h2.nm 2 : Int), .int .u32 (s1.h3.nm 4 : Int), .int .u32 (s1.h4.nm 4 : Int), .slice A1 (s1.h5.csr (f % 16)).length c1, .slice A2 ps.length c2, .slice A3 k c3, .int .i64 (pn : Int)] from by rw [hwz]; exact HMe.out)
      have HZz := Lib.hid (show Whole wz w.heap.size 35 #[.bool false, .int .u8 0, .int .u16 0, .int .u32 0, .int .u32 0, .slice none 0 0, .slice none 0 0, .slice none 0 0, .int .i64 0] from by rw [hwz]; exact Z1.out.far (p := ⟨w.heap.size + 1, 7, none⟩) (show w.heap.size ≠ w.heap.size + 1 by omega) _)
      have HBz := Lib.hid (show Below w.heap.size w wz from by rw [hwz]; exact B1.out.setCell (p := ⟨w.heap.size + 1, 7, none⟩) (Nat.le_succ _) _)
      have HRz := Lib.hid (show Row wz wz.heap.size 1 A1 (s1.h5.csr (f % 16)).length (u32s (s1.h5.csr (f % 16))) from by rw [hwz]; exact Row.pset (Row.gkeep R1.out G1.out HN1.out) (B := g + 1) (fun a ha => HN1.out a ha) (by omega) 7 _)
      have HIz := Lib.hid (show Its wz A2 ps from by rw [hwz]; exact Its.pset (Its.gkeep (show Its wq.drew A2 ps from HIq.out) G1.out HN2.out (Nat.lt_succ_self _)) HN2.out (by omega) 7 _)
      have HPn : Hid (∀ a, A3 = some a → g < a.block) := Lib.hid (fun a ha => Nat.lt_of_lt_of_le hqs (own_lo O1.out a ha))
      have HPz := Lib.hid (show Row wz wz.heap.size 1 A3 k (u8s (ll.take k)) from by rw [hwz]; exact Row.pset (Row.of_own O1.out) (B := g + 1) (fun a ha => HPn.out a ha) (by omega) 7 _)
      have HCz := Lib.hid (own_cap O1.out).1
      (try rw [← hwz])
      clear hwz HMe Z1 B1 R1 O1 G1 M1 HMq HKq HZq HBq HRq HIq CB CL hHeld0 hHeld1 hHeld2
      have z0 := HZz.out.cell 0
      have z1 := HZz.out.cell 1
      have z2 := HZz.out.cell 2
      have z3 := HZz.out.cell 3
      have z4 := HZz.out.cell 4
      have z5 := HZz.out.cell 5
      have z6 := HZz.out.cell 6
      have z7 := HZz.out.cell 7
      have z8 := HZz.out.cell 8
      have y0 := HZz.out.free 0
      have y1 := HZz.out.free 1
      have y2 := HZz.out.free 2
      have y3 := HZz.out.free 3
      have y4 := HZz.out.free 4
      have y5 := HZz.out.free 5
      have y6 := HZz.out.free 6
      have y7 := HZz.out.free 7
      have y8 := HZz.out.free 8
      have x0 := HMz.out.cell 0
      have x1 := HMz.out.cell 1
      have x2 := HMz.out.cell 2
      have x3 := HMz.out.cell 3
      have x4 := HMz.out.cell 4
      have x5 := HMz.out.cell 5
      have x6 := HMz.out.cell 6
      have x7 := HMz.out.cell 7
      have x8 := HMz.out.cell 8
      have HFIN : Hid (∀ w9, wz.grownBy w9 (some w.heap.size) → Below w.heap.size w w9 → RParsedC Q w (.returned (.tuple #[.agg #[.bool (decide (128 ≤ s1.nm 1)), .int .u8 ((s1.nm 1 : Int) % 128), .int .u16 (s1.h2.nm 2 : Int), .int .u32 (s1.h3.nm 4 : Int), .int .u32 (s1.h4.nm 4 : Int), .slice A1 (s1.h5.csr (f % 16)).length c1, .slice A2 ps.length c2, .slice A3 k c3, .int .i64 (pn : Int)], .int .i64 0])) w9) := Lib.hid (fun w9 hg9 hb9 => by rw [HQ.out]; exact ⟨A1, c1, A2, c2, A3, c3, ps, by rw [HCE.out], Row.gkeep HRz.out hg9 (fun a ha => by have := HN1.out a ha; omega), Its.gkeep HIz.out hg9 HN2.out (by omega), HPS.out, by rw [show (s1.head f (ll.take k) pn).pay = ll.take k from rfl, HKL.out]; exact Row.gkeep HPz.out hg9 (fun a ha => by have := HPn.out a ha; omega), hb9, by rw [show (s1.head f (ll.take k) pn).pay = ll.take k from rfl, HKL.out]; exact HCz.out⟩)
      go_wp2_with fail
      exact bodyPost_ret (v := .tuple #[.agg #[.bool (decide (128 ≤ s1.nm 1)), .int .u8 ((s1.nm 1 : Int) % 128), .int .u16 (s1.h2.nm 2 : Int), .int .u32 (s1.h3.nm 4 : Int), .int .u32 (s1.h4.nm 4 : Int), .slice A1 (s1.h5.csr (f % 16)).length c1, .slice A2 ps.length c2, .slice A3 k c3, .int .i64 (pn : Int)], .int .i64 0]) (by simp [results, Try.results13, go_sem, z0, z1, z2, z3, z4, z5, z6, z7, z8]) rfl (HFIN.out _ (only_trans (only_trans (only_trans (only_trans (only_trans (only_trans (only_trans (only_trans (grown_set _ _ 0 _) (grown_set _ _ 1 _)) (grown_set _ _ 2 _)) (grown_set _ _ 3 _)) (grown_set _ _ 4 _)) (grown_set _ _ 5 _)) (grown_set _ _ 6 _)) (grown_set _ _ 7 _)) (grown_set _ _ 8 _)) (((((((((HBz.out.setCell (p := ⟨w.heap.size, 0, none⟩) (Nat.le_refl _) (.bool (decide (128 ≤ s1.nm 1)))).setCell (p := ⟨w.heap.size, 1, none⟩) (Nat.le_refl _) (.int .u8 ((s1.nm 1 : Int) % 128))).setCell (p := ⟨w.heap.size, 2, none⟩) (Nat.le_refl _) (.int .u16 (s1.h2.nm 2 : Int))).setCell (p := ⟨w.heap.size, 3, none⟩) (Nat.le_refl _) (.int .u32 (s1.h3.nm 4 : Int))).setCell (p := ⟨w.heap.size, 4, none⟩) (Nat.le_refl _) (.int .u32 (s1.h4.nm 4 : Int))).setCell (p := ⟨w.heap.size, 5, none⟩) (Nat.le_refl _) (.slice A1 (s1.h5.csr (f % 16)).length c1)).setCell (p := ⟨w.heap.size, 6, none⟩) (Nat.le_refl _) (.slice A2 ps.length c2)).setCell (p := ⟨w.heap.size, 7, none⟩) (Nat.le_refl _) (.slice A3 k c3)).setCell (p := ⟨w.heap.size, 8, none⟩) (Nat.le_refl _) (.int .i64 (pn : Int))))
  | false =>
    rw [if_neg (by simp)] at HPD
    have p7 := HM3.out.cell 7
    have p8 := HM3.out.cell 8
    have o7 := HM3.out.free 7
    have o8 := HM3.out.free 8
    go_upto_region 10 with fail
    have hpl : 0 ≤ m := Nat.zero_le m
    obtain ⟨wq, hwq⟩ : ∃ z, z = w2 := ⟨_, rfl⟩
    have HMq := Lib.hid (show Whole wq (w.heap.size + 1) 35 #[.bool (decide (128 ≤ s1.nm 1)), .int .u8 ((s1.nm 1 : Int) % 128), .int .u16 (s1.h2.nm 2 : Int), .int .u32 (s1.h3.nm 4 : Int), .int .u32 (s1.h4.nm 4 : Int), .slice A1 (s1.h5.csr (f % 16)).length c1, .slice A2 ps.length c2, .slice none 0 0, .int .i64 0] from by rw [hwq]; exact HM3.out)
    have HKq := Lib.hid (show CutAt wq lo g ll 0 from by rw [hwq, ← hlo]; exact HK3.out)
    have HZq := Lib.hid (show Whole wq w.heap.size 35 #[.bool false, .int .u8 0, .int .u16 0, .int .u32 0, .int .u32 0, .slice none 0 0, .slice none 0 0, .slice none 0 0, .int .i64 0] from by rw [hwq]; exact HZ2.out)
    have HBq := Lib.hid (show Below w.heap.size w wq from by rw [hwq]; exact HB4.out)
    have HRq := Lib.hid (show Row wq wq.heap.size 1 A1 (s1.h5.csr (f % 16)).length (u32s (s1.h5.csr (f % 16))) from by rw [hwq]; exact HRC.out)
    have HIq := Lib.hid (show Its wq A2 ps from by rw [hwq]; exact HI.out)
    rw [← hwq]
    clear hwq HM3 HK3 HZ2 HB4 HRC HI HR2 HDR
    obtain ⟨k, hk⟩ : ∃ x, m - 0 = x := ⟨_, rfl⟩
    have hkl : (ll.take k).length = k := by rw [List.length_take, HLM.out]; omega
    have e46 : IntKind.i64.wrap ((m : Int) - 0) = ((k : Nat) : Int) := by rw [wrapI64 _ (by omega)]; omega
    have CB : ∀ w', CutAt w' lo g ll 0 → Calls Try.prog 29 #[.pointer (some ⟨g, 0, none⟩), .int .i64 (IntKind.i64.wrap ((m : Int) - 0))] w' fun e w'' => ∃ A c, e = .returned (.slice A k c) ∧ w''.ownsRow w'.heap.size 5 1 (.slice A k c) k (u8s (ll.take k)) ∧ w'.grownBy w'' (some g) := by intro w' h; have hb := bytes_some ll k (by rw [HLM.out]; omega); rw [e46]; refine (bytes_cu ⟨ll, 0⟩ lo g (k : Int) w' h (by dsimp only; rw [HLM.out]; omega)).mono ?_; rintro e w'' ⟨A, c, rfl, h1, _, h3⟩; rw [hb.1, hkl] at h1; rw [hb.1, hkl]; exact ⟨A, c, rfl, h1, h3⟩
    have HQ : Hid (Q = (s1.head f (ll.take k) 0, 0)) := Lib.hid (by rw [HP2.out, HPD.out]; dsimp only; rw [HLM.out, hk]; exact if_neg (by simp))
    have HCE : Hid (∀ A3 c3, (s1.head f (ll.take k) 0).cells A1 c1 A2 c2 A3 c3 = #[.bool (decide (128 ≤ s1.nm 1)), .int .u8 ((s1.nm 1 : Int) % 128), .int .u16 (s1.h2.nm 2 : Int), .int .u32 (s1.h3.nm 4 : Int), .int .u32 (s1.h4.nm 4 : Int), .slice A1 (s1.h5.csr (f % 16)).length c1, .slice A2 ps.length c2, .slice A3 k c3, .int .i64 0]) := Lib.hid (fun A3 c3 => by unfold Cu.head Mp.cells; dsimp only; rw [← HPS.out, List.length_map, hkl]; rfl)
    have HKL := Lib.hid hkl
    have CB := Lib.hid CB
    have hgq := HKq.out.lt
    clear e46 hkl hk
    refine wp_region_X (S := fun w' => w'.cell? ⟨w.heap.size + 1, 8, none⟩ = some (.int .i64 0)) [8] (by kernel_rfl) (HMq.out.cell 8) (fun hHeld0 => ?_)
    refine wpAnyX_take (i := 0) [6, 7, 8] (v := ?_) rfl (by kernel_rfl) (by kernel_rfl) (by kernel_rfl) (by kernel_rfl) (fun _ _ _ h => h) (Or.inl ⟨by kernel_rfl, ?_⟩) (by assumption) ?_
    rotate_left 1
    · (intro w hSw; have q0 := hSw; go_simp; try (with_reducible rfl))
    (try simp only [Act.put, List.getElem_toArray, List.getElem_cons_succ, List.getElem_cons_zero, List.setIfInBounds_toArray, List.set_cons_zero, List.set_cons_succ])
    refine wpAnyX_take (i := 1) [2, 5, 6, 7, 8] (v := ?_) rfl (by kernel_rfl) (by kernel_rfl) (by kernel_rfl) (by kernel_rfl) (fun _ _ _ h => h) (Or.inl ⟨by kernel_rfl, ?_⟩) (by assumption) ?_
    rotate_left 1
    · (intro w hSw; have q0 := hSw; go_simp; try (with_reducible rfl))
    (try simp only [Act.put, List.getElem_toArray, List.getElem_cons_succ, List.getElem_cons_zero, List.setIfInBounds_toArray, List.set_cons_zero, List.set_cons_succ])
    refine wpAnyX_take (i := 3) [4, 5, 6, 7, 8] (v := ?_) rfl (by kernel_rfl) (by kernel_rfl) (by kernel_rfl) (by kernel_rfl) (fun _ _ _ h => h) (Or.inl ⟨by kernel_rfl, ?_⟩) (by assumption) ?_
    rotate_left 1
    · (intro w hSw; have q0 := hSw; go_simp; try (with_reducible rfl))
    (try simp only [Act.put, List.getElem_toArray, List.getElem_cons_succ, List.getElem_cons_zero, List.setIfInBounds_toArray, List.set_cons_zero, List.set_cons_succ])
    refine wpAnyX_take (i := 4) [5, 6, 7, 8] (v := ?_) rfl (by kernel_rfl) (by kernel_rfl) (by kernel_rfl) (by kernel_rfl) (fun _ _ _ h => h) (Or.inl ⟨by kernel_rfl, ?_⟩) (by assumption) ?_
    rotate_left 1
    · (intro w hSw; have q0 := hSw; go_simp; try (with_reducible rfl))
    (try simp only [Act.put, List.getElem_toArray, List.getElem_cons_succ, List.getElem_cons_zero, List.setIfInBounds_toArray, List.set_cons_zero, List.set_cons_succ])
    refine wpAnyX_one 2 (by kernel_rfl) rfl (fun K hK => ?_)
    go_simp
    go_wp2_with (refine (CL.out _ (show CutAt wq.drew lo g _ _ from HKq.out)).mono ?_; rintro e u0 ⟨rfl, rfl⟩)
    refine hK.out _ _ (.inr (HMq.out.cell 8)) ?_
    have hHeld1 : (fun w' => w'.cell? ⟨w.heap.size + 1, 8, none⟩ = some (.int .i64 0)) wq.drew := HMq.out.cell 8
    clear hK K
    (try simp only [Act.put, List.getElem_toArray, List.getElem_cons_succ, List.getElem_cons_zero, List.setIfInBounds_toArray, List.set_cons_zero, List.set_cons_succ])
    refine wpAnyX_take (i := 5) [6, 7, 8] (v := ?_) rfl (by kernel_rfl) (by kernel_rfl) (by kernel_rfl) (by kernel_rfl) (fun _ _ _ h => h) (Or.inl ⟨by kernel_rfl, ?_⟩) (by assumption) ?_
    rotate_left 1
    · (intro w hSw; have q0 := hSw; go_simp; try (with_reducible rfl))
    (try simp only [Act.put, List.getElem_toArray, List.getElem_cons_succ, List.getElem_cons_zero, List.setIfInBounds_toArray, List.set_cons_zero, List.set_cons_succ])
    refine wpAnyX_one 6 (by kernel_rfl) rfl (fun K hK => ?_)
    go_simp
    go_wp2_with (refine (CB.out _ (show CutAt wq.drew lo g _ _ from HKq.out)).mono ?_; rintro e u1 ⟨A3, c3, rfl, o1, g1⟩)
    have M1 := HMq.out.drew.grown g1 (by simp; omega)
    have O1 := Lib.hid o1
    have Z1 := Lib.hid (HZq.out.drew.grown g1 (by simp; omega))
    have B1 := Lib.hid ((HBq.out.drew).grown g1 (by have := HZq.out.lt; simp; omega) (fun q hq => by simp at hq; omega))
    have R1 := Lib.hid (HRq.out.drew)
    have G1 := Lib.hid g1
    clear g1 o1
    refine hK.out _ _ (.inr (M1.cell 8)) ?_
    have hHeld2 : (fun w' => w'.cell? ⟨w.heap.size + 1, 8, none⟩ = some (.int .i64 0)) u1 := M1.cell 8
    clear hK K
    (try simp only [Act.put, List.getElem_toArray, List.getElem_cons_succ, List.getElem_cons_zero, List.setIfInBounds_toArray, List.set_cons_zero, List.set_cons_succ])
    refine wpAnyX_take (i := 7) [8] (v := ?_) rfl (by kernel_rfl) (by kernel_rfl) (by kernel_rfl) (by kernel_rfl) (fun _ _ _ h => h) (Or.inl ⟨by kernel_rfl, ?_⟩) (by assumption) ?_
    rotate_left 1
    · (intro w hSw; have q0 := hSw; go_simp; try (with_reducible rfl))
    (try simp only [Act.put, List.getElem_toArray, List.getElem_cons_succ, List.getElem_cons_zero, List.setIfInBounds_toArray, List.set_cons_zero, List.set_cons_succ])
    refine wpAnyX_one 8 (by kernel_rfl) rfl (fun K hK => ?_)
    have e9 := M1.cell 7
    have f9 := M1.free 7
    have HMe := Lib.hid (show Whole _ _ _ #[.bool (decide (128 ≤ s1.nm 1)), .int .u8 ((s1.nm 1 : Int) % 128), .int .u16 (s1.h2.nm 2 : Int), .int .u32 (s1.h3.nm 4 : Int), .int .u32 (s1.h4.nm 4 : Int), .slice A1 (s1.h5.csr (f % 16)).length c1, .slice A2 ps.length c2, .slice A3 k c3, .int .i64 0] from M1.set 7 (.slice A3 k c3))
    go_simp
    refine hK.out _ _ (.inl (by decide)) ?_
    clear hK K
    (try simp only [Act.put, List.getElem_toArray, List.getElem_cons_succ, List.getElem_cons_zero, List.setIfInBounds_toArray, List.set_cons_zero, List.set_cons_succ])
    refine wpAnyX_done (by kernel_rfl) ?_ _
    have hqs : g < wq.heap.size := hgq
    skip
    obtain ⟨wz, hwz⟩ : ∃ z, z = u1.setCell ⟨w.heap.size + 1, 7, none⟩ (.slice A3 k c3) := ⟨_, rfl⟩
    have HMz := Lib.hid (show Whole wz (w.heap.size + 1) 35 #[.bool (decide (128 ≤ s1.nm 1)), .int .u8 ((s1.nm 1 : Int) % 128), .int .u16 (s1.h2.nm 2 : Int), .int .u32 (s1.h3.nm 4 : Int), .int .u32 (s1.h4.nm 4 : Int), .slice A1 (s1.h5.csr (f % 16)).length c1, .slice A2 ps.length c2, .slice A3 k c3, .int .i64 0] from by rw [hwz]; exact HMe.out)
    have HZz := Lib.hid (show Whole wz w.heap.size 35 #[.bool false, .int .u8 0, .int .u16 0, .int .u32 0, .int .u32 0, .slice none 0 0, .slice none 0 0, .slice none 0 0, .int .i64 0] from by rw [hwz]; exact Z1.out.far (p := ⟨w.heap.size + 1, 7, none⟩) (show w.heap.size ≠ w.heap.size + 1 by omega) _)
    have HBz := Lib.hid (show Below w.heap.size w wz from by rw [hwz]; exact B1.out.setCell (p := ⟨w.heap.size + 1, 7, none⟩) (Nat.le_succ _) _)
    have HRz := Lib.hid (show Row wz wz.heap.size 1 A1 (s1.h5.csr (f % 16)).length (u32s (s1.h5.csr (f % 16))) from by rw [hwz]; exact Row.pset (Row.gkeep R1.out G1.out HN1.out) (B := g + 1) (fun a ha => HN1.out a ha) (by omega) 7 _)
    have HIz := Lib.hid (show Its wz A2 ps from by rw [hwz]; exact Its.pset (Its.gkeep (show Its wq.drew A2 ps from HIq.out) G1.out HN2.out (Nat.lt_succ_self _)) HN2.out (by omega) 7 _)
    have HPn : Hid (∀ a, A3 = some a → g < a.block) := Lib.hid (fun a ha => Nat.lt_of_lt_of_le hqs (own_lo O1.out a ha))
    have HPz := Lib.hid (show Row wz wz.heap.size 1 A3 k (u8s (ll.take k)) from by rw [hwz]; exact Row.pset (Row.of_own O1.out) (B := g + 1) (fun a ha => HPn.out a ha) (by omega) 7 _)
    have HCz := Lib.hid (own_cap O1.out).1
    (try rw [← hwz])
    clear hwz HMe Z1 B1 R1 O1 G1 M1 HMq HKq HZq HBq HRq HIq CB CL hHeld0 hHeld1 hHeld2
    have z0 := HZz.out.cell 0
    have z1 := HZz.out.cell 1
    have z2 := HZz.out.cell 2
    have z3 := HZz.out.cell 3
    have z4 := HZz.out.cell 4
    have z5 := HZz.out.cell 5
    have z6 := HZz.out.cell 6
    have z7 := HZz.out.cell 7
    have z8 := HZz.out.cell 8
    have y0 := HZz.out.free 0
    have y1 := HZz.out.free 1
    have y2 := HZz.out.free 2
    have y3 := HZz.out.free 3
    have y4 := HZz.out.free 4
    have y5 := HZz.out.free 5
    have y6 := HZz.out.free 6
    have y7 := HZz.out.free 7
    have y8 := HZz.out.free 8
    have x0 := HMz.out.cell 0
    have x1 := HMz.out.cell 1
    have x2 := HMz.out.cell 2
    have x3 := HMz.out.cell 3
    have x4 := HMz.out.cell 4
    have x5 := HMz.out.cell 5
    have x6 := HMz.out.cell 6
    have x7 := HMz.out.cell 7
    have x8 := HMz.out.cell 8
    have HFIN : Hid (∀ w9, wz.grownBy w9 (some w.heap.size) → Below w.heap.size w w9 → RParsedC Q w (.returned (.tuple #[.agg #[.bool (decide (128 ≤ s1.nm 1)), .int .u8 ((s1.nm 1 : Int) % 128), .int .u16 (s1.h2.nm 2 : Int), .int .u32 (s1.h3.nm 4 : Int), .int .u32 (s1.h4.nm 4 : Int), .slice A1 (s1.h5.csr (f % 16)).length c1, .slice A2 ps.length c2, .slice A3 k c3, .int .i64 0], .int .i64 0])) w9) := Lib.hid (fun w9 hg9 hb9 => by rw [HQ.out]; exact ⟨A1, c1, A2, c2, A3, c3, ps, by rw [HCE.out], Row.gkeep HRz.out hg9 (fun a ha => by have := HN1.out a ha; omega), Its.gkeep HIz.out hg9 HN2.out (by omega), HPS.out, by rw [show (s1.head f (ll.take k) 0).pay = ll.take k from rfl, HKL.out]; exact Row.gkeep HPz.out hg9 (fun a ha => by have := HPn.out a ha; omega), hb9, by rw [show (s1.head f (ll.take k) 0).pay = ll.take k from rfl, HKL.out]; exact HCz.out⟩)
    go_wp2_with fail
    exact bodyPost_ret (v := .tuple #[.agg #[.bool (decide (128 ≤ s1.nm 1)), .int .u8 ((s1.nm 1 : Int) % 128), .int .u16 (s1.h2.nm 2 : Int), .int .u32 (s1.h3.nm 4 : Int), .int .u32 (s1.h4.nm 4 : Int), .slice A1 (s1.h5.csr (f % 16)).length c1, .slice A2 ps.length c2, .slice A3 k c3, .int .i64 0], .int .i64 0]) (by simp [results, Try.results13, go_sem, z0, z1, z2, z3, z4, z5, z6, z7, z8]) rfl (HFIN.out _ (only_trans (only_trans (only_trans (only_trans (only_trans (only_trans (only_trans (only_trans (grown_set _ _ 0 _) (grown_set _ _ 1 _)) (grown_set _ _ 2 _)) (grown_set _ _ 3 _)) (grown_set _ _ 4 _)) (grown_set _ _ 5 _)) (grown_set _ _ 6 _)) (grown_set _ _ 7 _)) (grown_set _ _ 8 _)) (((((((((HBz.out.setCell (p := ⟨w.heap.size, 0, none⟩) (Nat.le_refl _) (.bool (decide (128 ≤ s1.nm 1)))).setCell (p := ⟨w.heap.size, 1, none⟩) (Nat.le_refl _) (.int .u8 ((s1.nm 1 : Int) % 128))).setCell (p := ⟨w.heap.size, 2, none⟩) (Nat.le_refl _) (.int .u16 (s1.h2.nm 2 : Int))).setCell (p := ⟨w.heap.size, 3, none⟩) (Nat.le_refl _) (.int .u32 (s1.h3.nm 4 : Int))).setCell (p := ⟨w.heap.size, 4, none⟩) (Nat.le_refl _) (.int .u32 (s1.h4.nm 4 : Int))).setCell (p := ⟨w.heap.size, 5, none⟩) (Nat.le_refl _) (.slice A1 (s1.h5.csr (f % 16)).length c1)).setCell (p := ⟨w.heap.size, 6, none⟩) (Nat.le_refl _) (.slice A2 ps.length c2)).setCell (p := ⟨w.heap.size, 7, none⟩) (Nat.le_refl _) (.slice A3 k c3)).setCell (p := ⟨w.heap.size, 8, none⟩) (Nat.le_refl _) (.int .i64 0)))
theorem rparse_any (A : Option Addr) (c : Nat) (b : List UInt8) (w : World) (h : Row w w.heap.size 1 A b.length (u8s b)) (hc : b.length ≤ c) (hc2 : c ≤ maxLen) (hl : b.length ≤ 140737488355328) :
    Calls Try.prog 13 #[.slice A b.length c] w (RParsed (parseP b) w) :=
  (rparse_cap A c b w h hc hc2 hl).mono fun _ _ ⟨A1, c1, A2, c2, A3, c3, ps, h1, h2, h3, h4, h5, h6, _⟩ => ⟨A1, c1, A2, c2, A3, c3, ps, h1, h2, h3, h4, h5, h6⟩
end Go.Proofs.Yticnaljfnjiofaa
