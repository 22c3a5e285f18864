/-
  Package rtcp's msg: the first message of a cut.
-/
import Derived.Test.YtcjmiidnhbmclaaDoorRcP
namespace Go.Proofs.YtcjmiidnhbmclaaDoor
open Go.RowKit
set_option maxRecDepth 100000
variable {lo : Nat}

/-- What msg tells. -/
def OneR (lo g : Nat) (l : List UInt8) (w : World) (en : Ending) (w' : World) : Prop :=
  ∃ s, en = .returned (.tuple #[.agg ((oneS l).1.cells s).toArray, .int .i64 (oneS l).2.2]) ∧ CmAt w' w'.heap.size (oneS l).1 s ∧ SlNew w.heap.size s ∧ (oneS l).1.Fits ∧ ((oneS l).2.2 = 0 → CutAt w' lo g (oneS l).2.1 0) ∧ w.grownBy w' (some g)
theorem OneR.zero {lo g : Nat} {l : List UInt8} {w w' : World} {er : Int} (h : w.grownBy w' (some g)) (he : er ≠ 0) (h1 : (oneS l).1 = zeroM) (h2 : (oneS l).2.2 = er) : OneR lo g l w (.returned (.tuple #[.agg #[.int .i64 0, .int .u32 0, .int .u32 0, .int .u64 0, .int .u32 0, .int .u32 0, .int .u32 0, .slice none 0 0, .slice none 0 0, .slice none 0 0, .slice none 0 0, .int .u8 0], .int .i64 er])) w' := by
  refine ⟨⟨none, 0, none, 0, none, 0, none, 0⟩, by rw [h1, h2]; rfl, by rw [h1]; exact zero_at _ _, SlNew.empty _, by rw [h1]; exact zero_fits, fun h0 => absurd (h2.symm.trans h0) he, h⟩
theorem Forms.grownF {g : Nat} {w w' : World} (h : Forms w) (hg : w.grownBy w' (some g)) (h0 : g ≠ 0) : Forms w' :=
  ⟨Nat.lt_of_lt_of_le h.pos hg.size, fun j u hu => keepB hg (h.cells j u hu) h.pos (Ne.symm h0)⟩
theorem bit32 (x : Nat) (h : x < 256) : bits .and .u8 (x : Int) 32 = ((x / 32 % 2 * 32 : Nat) : Int) := by
  have : ∀ x : Nat, x < 256 → bits .and .u8 (x : Int) 32 = ((x / 32 % 2 * 32 : Nat) : Int) := by decide +kernel
  exact this x h
theorem bit31 (x : Nat) (h : x < 256) : bits .and .u8 (x : Int) 31 = ((x % 32 : Nat) : Int) := by
  have : ∀ x : Nat, x < 256 → bits .and .u8 (x : Int) 31 = ((x % 32 : Nat) : Int) := by decide +kernel
  exact this x h
theorem isB_head (l : List UInt8) (h : 4 ≤ l.length) : isB l = headB (numAt l 0 1) (numAt l 1 1) := by
  match l, h with
  | a :: b :: c :: d :: r, _ =>
    show decide _ = decide _
    have e1 : numAt (a :: b :: c :: d :: r) 0 1 = a.toNat := by simp [numAt, be]
    have e2 : numAt (a :: b :: c :: d :: r) 1 1 = b.toNat := by simp [numAt, be]
    rw [e1, e2]
theorem padOf_le (s : List UInt8) : padOf s ≤ s.length := by
  unfold padOf
  split
  · exact Nat.zero_le _
  · split
    · exact Nat.zero_le _
    · omega
theorem unpad_pad (a : Nat) (bd rest : List UInt8) (h : a / 32 % 2 = 1) : unpad a bd rest = if rest ≠ [] ∨ padOf bd = 0 then none else some (bd.take (bd.length - padOf bd)) := by
  unfold unpad padOf
  rw [if_pos h]
  by_cases hb : bd = []
  · rw [if_pos (.inr hb), if_pos (.inr (by rw [if_pos hb]))]
  · by_cases hr : rest = []
    · rw [if_neg (by simp [hr, hb]), if_neg hb]
      dsimp only
      by_cases h1 : (bd.getLastD 0).toNat % 4 ≠ 0 ∨ bd.length < (bd.getLastD 0).toNat
      · rw [if_pos (.inr h1), if_pos h1, if_pos (.inr rfl)]
      · rw [if_neg h1]
        by_cases h0 : (bd.getLastD 0).toNat = 0
        · rw [if_pos (.inl h0), if_pos (.inr h0)]
        · rw [if_neg (by simp only [not_or] at *; exact ⟨h0, h1⟩), if_neg (fun hh => hh.elim (fun h => h hr) h0)]
    · rw [if_pos (.inl hr), if_pos (.inl hr)]

set_option maxHeartbeats 6400000 in
theorem msg_any (g : Nat) (l : List UInt8) (w : World) (hc : CutAt w lo g l 0) (hF : Forms w) (hl : l.length ≤ 1500) (hg0 : g ≠ 0) :
    Calls Tryd.prog 27 #[.agg #[.pointer (some ⟨g, 0, none⟩)]] w (OneR lo g l w) := by
  have hglt := hc.lt
  have B0 := ((Below.refl w.heap.size w).alloc (Nat.le_refl _) (.cells #[.pointer (some ⟨g, 0, none⟩)] 74)).alloc (by simp) (.cells #[.int .i64 0, .int .u32 0, .int .u32 0, .int .u64 0, .int .u32 0, .int .u32 0, .int .u32 0, .slice none 0 0, .slice none 0 0, .slice none 0 0, .slice none 0 0, .int .u8 0] 59)
  have c0 := (hc.alloc (.cells #[.pointer (some ⟨g, 0, none⟩)] 74)).alloc (.cells #[.int .i64 0, .int .u32 0, .int .u32 0, .int .u64 0, .int .u32 0, .int .u32 0, .int .u32 0, .slice none 0 0, .slice none 0 0, .slice none 0 0, .slice none 0 0, .int .u8 0] 59)
  have K0 := (Whole.new w 74 #[.pointer (some ⟨g, 0, none⟩)]).alloc (.cells #[.int .i64 0, .int .u32 0, .int .u32 0, .int .u64 0, .int .u32 0, .int .u32 0, .int .u32 0, .slice none 0 0, .slice none 0 0, .slice none 0 0, .slice none 0 0, .int .u8 0] 59)
  have X0 := Whole.new2 w (.cells #[.pointer (some ⟨g, 0, none⟩)] 74) 59 #[.int .i64 0, .int .u32 0, .int .u32 0, .int .u64 0, .int .u32 0, .int .u32 0, .int .u32 0, .slice none 0 0, .slice none 0 0, .slice none 0 0, .slice none 0 0, .int .u8 0]
  obtain ⟨w0, hw0⟩ : ∃ w0, (w.alloc (.cells #[.pointer (some ⟨g, 0, none⟩)] 74)).alloc (.cells #[.int .i64 0, .int .u32 0, .int .u32 0, .int .u64 0, .int .u32 0, .int .u32 0, .int .u32 0, .slice none 0 0, .slice none 0 0, .slice none 0 0, .slice none 0 0, .int .u8 0] 59) = w0 := ⟨_, rfl⟩
  obtain ⟨bx, hbx⟩ : ∃ bx, w.heap.size = bx := ⟨_, rfl⟩
  obtain ⟨rx, hrx⟩ : ∃ rx, bx + 1 = rx := ⟨_, rfl⟩
  rw [hw0] at B0 c0 K0 X0
  rw [hbx] at K0 X0 hglt
  rw [hrx] at X0
  have hrle : w.heap.size ≤ rx := by omega
  have nx : some rx ≠ some g := fun e => by injection e; omega
  have nb : some bx ≠ some g := fun e => by injection e; omega
  have HNX := Lib.hid nx
  have HNB := Lib.hid nb
  have HB0 := Lib.hid B0
  have HFM := Lib.hid hF
  have C1 := Lib.hid (show Calls Tryd.prog 38 #[.pointer (some ⟨g, 0, none⟩), .int .i64 1] w0 (TakeR (fun x : Nat => .int .u64 (x : Int)) (fun x => x < 256) (fun l => numAt l 0 1) 1 lo g l 0 w0) from num_take g l 0 1 w0 c0 (by decide))
  have k0 : w0.cell? ⟨bx, 0, none⟩ = some (.pointer (some ⟨g, 0, none⟩)) := K0.cell 0
  have HX0 := Lib.hid X0
  have HK0 := Lib.hid K0
  have CB := Lib.hid (fun (l' : List UInt8) (wx : World) (hh : CutAt wx lo g l' 0) (n : Nat) (h' : l'.length ≤ 1500) => bytes_any g l' 0 (n : Int) wx hh (by omega))
  clear B0 c0 K0 X0 hc hF nx nb
  go_enter Tryd.func27, Tryd.ntmps27
  go_wp2_with fail
  clear hw0
  refine C1.out.mono ?_
  rintro en w1 ⟨x1, l1, e1, rfl, hx1, hv1, ht1, hc1, hg1⟩
  have HK1 := Lib.hid (HK0.out.grown hg1 HNB.out)
  have HX1 := Lib.hid (HX0.out.grown hg1 HNX.out)
  have HG1 := Lib.hid hg1
  have k1 : w1.cell? ⟨bx, 0, none⟩ = some (.pointer (some ⟨g, 0, none⟩)) := HK1.out.cell 0
  have C2 := Lib.hid (show Calls Tryd.prog 38 #[.pointer (some ⟨g, 0, none⟩), .int .i64 1] w1 (TakeR (fun x : Nat => .int .u64 (x : Int)) (fun x => x < 256) (fun l => numAt l 0 1) 1 lo g l1 e1 w1) from num_take g l1 e1 1 w1 hc1 (by decide))
  clear hc1 hg1 C1 HK0 HX0 k0
  go_wp2_with fail
  refine C2.out.mono ?_
  rintro en w2 ⟨x2, l2, e2, rfl, hx2, hv2, ht2, hc2, hg2⟩
  have HK2 := Lib.hid (HK1.out.grown hg2 HNB.out)
  have HX2 := Lib.hid (HX1.out.grown hg2 HNX.out)
  have HG2 := Lib.hid (only_trans HG1.out hg2)
  have k2 : w2.cell? ⟨bx, 0, none⟩ = some (.pointer (some ⟨g, 0, none⟩)) := HK2.out.cell 0
  have C3 := Lib.hid (show Calls Tryd.prog 38 #[.pointer (some ⟨g, 0, none⟩), .int .i64 2] w2 (TakeR (fun x : Nat => .int .u64 (x : Int)) (fun x => x < 65536) (fun l => numAt l 0 2) 2 lo g l2 e2 w2) from num_take g l2 e2 2 w2 hc2 (by decide))
  clear hc2 hg2 C2 HK1 HX1 k1 HG1
  go_wp2_with fail
  refine C3.out.mono ?_
  rintro en w3 ⟨x3, l3, e3, rfl, hx3, hv3, ht3, hc3, hg3⟩
  have HK3 := Lib.hid (HK2.out.grown hg3 HNB.out)
  have HX3 := Lib.hid (HX2.out.grown hg3 HNX.out)
  have HG3 := Lib.hid (grown_from HB0.out (only_trans HG2.out hg3))
  have k3 : w3.cell? ⟨bx, 0, none⟩ = some (.pointer (some ⟨g, 0, none⟩)) := HK3.out.cell 0
  have HC3 := Lib.hid hc3
  have HT := Lib.hid ((ht1.trans ht2).trans ht3)
  have HE3 := Lib.hid (err_any g l3 e3 w3 hc3)
  have HV : Hid (e3 = 0 → x1 = numAt l 0 1 ∧ x2 = numAt l 1 1 ∧ x3 = numAt l 2 2) := Lib.hid (fun h0 => by
    obtain ⟨z2, _, d3⟩ := ht3.good h0
    obtain ⟨z1, _, d2⟩ := ht2.good z2
    obtain ⟨z0, _, d1⟩ := ht1.good z1
    have v1 := hv1 z1
    have v2 := hv2 z2
    have v3 := hv3 h0
    subst d1
    subst d2
    simp only [numAt_drop, List.drop_drop] at v2 v3
    exact ⟨v1, v2, v3⟩)
  clear hc3 hg3 C3 HK2 HX2 k2 HG2 hv1 hv2 hv3 ht1 ht2 ht3 HB0
  have he3 := HT.out.err
  by_cases h4 : 4 ≤ l.length
  · rw [if_pos (by omega)] at he3
    subst he3
    obtain ⟨v1, v2, v3⟩ := HV.out rfl
    have hl3 := (HT.out.good rfl).2.2
    have hone : oneS l = (if headB x1 x2 = false then (zeroM, [], 11) else if l.length < 4 + 4 * x3 then (zeroM, [], 10) else match unpad x1 ((l.drop 4).take (4 * x3)) (l.drop (4 + 4 * x3)) with | none => (zeroM, [], 11) | some b => ((readM x2 (x1 % 32) b).1, l.drop (4 + 4 * x3), (readM x2 (x1 % 32) b).2)) := by
      rw [v1, v2, v3]
      conv => lhs; unfold oneS
      rw [if_neg (by omega), isB_head l h4]
      rfl
    have HONE := Lib.hid hone
    have HL3 : Hid (l3 = l.drop 4) := Lib.hid hl3
    have CH := Lib.hid (isHead_any x1 x2 w3)
    clear v1 v2 v3 hl3 hone HV HT
    obtain ⟨hb, hhb⟩ : ∃ b, headB x1 x2 = b := ⟨_, rfl⟩
    have HHB := Lib.hid hhb
    rw [hhb] at CH
    clear hhb
    go_wp2_with fail
    refine HE3.out.mono ?_
    rintro en w3b ⟨rfl, rfl⟩
    clear HE3
    go_wp2_with fail
    refine CH.out.mono ?_
    rintro en w3c ⟨rfl, rfl⟩
    clear CH
    cases hb with
    | false =>
      have q0 : w3.cell? ⟨rx, 0, none⟩ = some (.int .i64 0) := HX3.out.cell 0
      have f0 : w3.frozen? ⟨rx, 0, none⟩ = false := HX3.out.free 0
      have q1 : w3.cell? ⟨rx, 1, none⟩ = some (.int .u32 0) := HX3.out.cell 1
      have f1 : w3.frozen? ⟨rx, 1, none⟩ = false := HX3.out.free 1
      have q2 : w3.cell? ⟨rx, 2, none⟩ = some (.int .u32 0) := HX3.out.cell 2
      have f2 : w3.frozen? ⟨rx, 2, none⟩ = false := HX3.out.free 2
      have q3 : w3.cell? ⟨rx, 3, none⟩ = some (.int .u64 0) := HX3.out.cell 3
      have f3 : w3.frozen? ⟨rx, 3, none⟩ = false := HX3.out.free 3
      have q4 : w3.cell? ⟨rx, 4, none⟩ = some (.int .u32 0) := HX3.out.cell 4
      have f4 : w3.frozen? ⟨rx, 4, none⟩ = false := HX3.out.free 4
      have q5 : w3.cell? ⟨rx, 5, none⟩ = some (.int .u32 0) := HX3.out.cell 5
      have f5 : w3.frozen? ⟨rx, 5, none⟩ = false := HX3.out.free 5
      have q6 : w3.cell? ⟨rx, 6, none⟩ = some (.int .u32 0) := HX3.out.cell 6
      have f6 : w3.frozen? ⟨rx, 6, none⟩ = false := HX3.out.free 6
      have q7 : w3.cell? ⟨rx, 7, none⟩ = some (.slice none 0 0) := HX3.out.cell 7
      have f7 : w3.frozen? ⟨rx, 7, none⟩ = false := HX3.out.free 7
      have q8 : w3.cell? ⟨rx, 8, none⟩ = some (.slice none 0 0) := HX3.out.cell 8
      have f8 : w3.frozen? ⟨rx, 8, none⟩ = false := HX3.out.free 8
      have q9 : w3.cell? ⟨rx, 9, none⟩ = some (.slice none 0 0) := HX3.out.cell 9
      have f9 : w3.frozen? ⟨rx, 9, none⟩ = false := HX3.out.free 9
      have q10 : w3.cell? ⟨rx, 10, none⟩ = some (.slice none 0 0) := HX3.out.cell 10
      have f10 : w3.frozen? ⟨rx, 10, none⟩ = false := HX3.out.free 10
      have q11 : w3.cell? ⟨rx, 11, none⟩ = some (.int .u8 0) := HX3.out.cell 11
      have f11 : w3.frozen? ⟨rx, 11, none⟩ = false := HX3.out.free 11
      have HF : Hid (OneR lo g l w (.returned (.tuple #[.agg #[.int .i64 0, .int .u32 0, .int .u32 0, .int .u64 0, .int .u32 0, .int .u32 0, .int .u32 0, .slice none 0 0, .slice none 0 0, .slice none 0 0, .slice none 0 0, .int .u8 0], .int .i64 11])) ((((((((((((w3.setCell ⟨rx, 0, none⟩ (.int .i64 0)).setCell ⟨rx, 1, none⟩ (.int .u32 0)).setCell ⟨rx, 2, none⟩ (.int .u32 0)).setCell ⟨rx, 3, none⟩ (.int .u64 0)).setCell ⟨rx, 4, none⟩ (.int .u32 0)).setCell ⟨rx, 5, none⟩ (.int .u32 0)).setCell ⟨rx, 6, none⟩ (.int .u32 0)).setCell ⟨rx, 7, none⟩ (.slice none 0 0)).setCell ⟨rx, 8, none⟩ (.slice none 0 0)).setCell ⟨rx, 9, none⟩ (.slice none 0 0)).setCell ⟨rx, 10, none⟩ (.slice none 0 0)).setCell ⟨rx, 11, none⟩ (.int .u8 0))) := Lib.hid (OneR.zero (grown_belowG HG3.out (((((((((((((Below.refl rx w3).setCell (Nat.le_refl _) _).setCell (Nat.le_refl _) _).setCell (Nat.le_refl _) _).setCell (Nat.le_refl _) _).setCell (Nat.le_refl _) _).setCell (Nat.le_refl _) _).setCell (Nat.le_refl _) _).setCell (Nat.le_refl _) _).setCell (Nat.le_refl _) _).setCell (Nat.le_refl _) _).setCell (Nat.le_refl _) _).setCell (Nat.le_refl _) _) hrle) (by decide) (by rw [HONE.out, if_pos HHB.out]) (by rw [HONE.out, if_pos HHB.out]))
      clear HK3 HX3 HG3 HC3 HONE HL3 HHB HFM CB k3
      go_wp2
      exact bodyPost_ret (v := .tuple #[.agg #[.int .i64 0, .int .u32 0, .int .u32 0, .int .u64 0, .int .u32 0, .int .u32 0, .int .u32 0, .slice none 0 0, .slice none 0 0, .slice none 0 0, .slice none 0 0, .int .u8 0], .int .i64 11]) (by simp [results, Tryd.results27, go_sem, q0, q1, q2, q3, q4, q5, q6, q7, q8, q9, q10, q11]) rfl HF.out
    | true =>
      obtain ⟨nb, hnb⟩ : ∃ nb, 4 * x3 = nb := ⟨_, rfl⟩
      have hone2 : oneS l = _ := HONE.out.trans (if_neg (by rw [HHB.out]; simp))
      rw [hnb] at hone2
      have hl3l : l3.length = l.length - 4 := by rw [HL3.out, List.length_drop]
      have hmul : IntKind.i64.wrap ((x3 : Int) * 4) = (nb : Int) := by rw [IntWalk.i64_in _ (by omega)]; omega
      have hmul2 : ((x3 : Int) * 4) = (nb : Int) := by omega
      have hmay : decide ((0 : Int) ≤ (nb : Int)) = true := by simp
      have hby := CB.out l3 w3 HC3.out nb (by omega)
      rw [hmay] at hby
      obtain ⟨bd, rs, er, CBY, HBD⟩ : ∃ (bd rs : List UInt8) (er : Int), Hid (Calls Tryd.prog 40 #[.pointer (some ⟨g, 0, none⟩), .int .i64 (nb : Int)] w3 (Byted w3 lo g bd rs er)) ∧ Hid ((nb ≤ l3.length → bd = (l.drop 4).take nb ∧ rs = l.drop (4 + nb) ∧ er = 0) ∧ (¬ nb ≤ l3.length → er = 10) ∧ bd.length ≤ 1500) := by
        refine ⟨_, _, _, Lib.hid hby, Lib.hid ⟨fun hle => ?_, fun hle => ?_, ?_⟩⟩
        · have hh : (0 : Int) = 0 ∧ true = true ∧ (nb : Int) ≤ l3.length := ⟨rfl, rfl, by omega⟩
          refine ⟨?_, ?_, ?_⟩
          · unfold headS; rw [if_pos hh, HL3.out]; simp
          · unfold restS; rw [if_pos hh, HL3.out, List.drop_drop]; simp
          · unfold errS; rw [if_neg (by simp), if_neg (by simp), if_pos (by omega)]
        · unfold errS; rw [if_neg (by simp), if_neg (by simp), if_neg (by omega)]
        · have := head_le l3 0 nb true; omega
      have HONE2 := Lib.hid hone2
      have HL3L := Lib.hid hl3l
      clear HONE HHB hone2 CB hby hmay hl3l HL3 hnb
      go_wp2_with fail
      refine CBY.out.mono ?_
      rintro en w4 ⟨A4, c4, rfl, own4, hc4, hg4⟩
      have HX4 := Lib.hid (HX3.out.grown hg4 HNX.out)
      have HK4 := Lib.hid (HK3.out.grown hg4 HNB.out)
      have k4 : w4.cell? ⟨bx, 0, none⟩ = some (.pointer (some ⟨g, 0, none⟩)) := HK4.out.cell 0
      have HG4 := Lib.hid (only_trans HG3.out hg4)
      have hws4 : w.heap.size ≤ w4.heap.size := HG4.out.size
      have hrx4 : rx < w4.heap.size := HX4.out.lt
      have r4 := Row.of_own own4
      have HE4 := Lib.hid (err_any g rs er w4 hc4)
      have HC4 := Lib.hid hc4
      have HR4 := Lib.hid r4
      have hcap4 := (oown_cap own4).1
      have hcap5 := (oown_cap own4).2
      clear own4 hc4 hg4 r4 CBY HK3 HX3 HG3 HC3 k3 hmul hmul2
      by_cases hsh : nb ≤ l3.length
      · obtain ⟨eb, er1, er0⟩ := HBD.out.1 hsh
        subst er0
        have hbl := HBD.out.2.2
        have hone3 : oneS l = _ := HONE2.out.trans (if_neg (by have := HL3L.out; omega))
        rw [← eb, ← er1] at hone3
        have HF4 := Lib.hid (HFM.out.grownF HG4.out hg0)
        have hb31 := bit31 x1 hx1
        obtain ⟨cc, hcc, hc32⟩ : ∃ cc, x1 % 32 = cc ∧ cc < 32 := ⟨_, rfl, Nat.mod_lt _ (by decide)⟩
        rw [hcc] at hb31 hone3
        have HO := Lib.hid hone3
        have hb32 := bit32 x1 hx1
        have hlr : rs.length ≤ 1500 := by rw [er1, List.length_drop]; omega
        clear HBD HONE2 HL3L hone3 eb er1 hsh hcc HFM
        by_cases hp : x1 / 32 % 2 = 1
        · rw [hp] at hb32
          have hb32' : bits .and .u8 (x1 : Int) 32 = 32 := hb32
          have HUP := Lib.hid (unpad_pad x1 bd rs hp)
          have CP := Lib.hid (paddingOf_any A4 c4 bd.length bd w4 HR4.out rfl (by omega))
          obtain ⟨p, hpp⟩ : ∃ p, padOf bd = p := ⟨_, rfl⟩
          have hple : p ≤ bd.length := by rw [← hpp]; exact padOf_le bd
          rw [hpp] at CP HUP
          have CL := Lib.hid (left_any g rs 0 w4 HC4.out)
          clear hb32 hp hpp
          by_cases hbad : rs ≠ [] ∨ p = 0
          · have hone4 : oneS l = (zeroM, [], 11) := by rw [HO.out, HUP.out, if_pos hbad]
            have q0 : w4.cell? ⟨rx, 0, none⟩ = some (.int .i64 0) := HX4.out.cell 0
            have f0 : w4.frozen? ⟨rx, 0, none⟩ = false := HX4.out.free 0
            have q1 : w4.cell? ⟨rx, 1, none⟩ = some (.int .u32 0) := HX4.out.cell 1
            have f1 : w4.frozen? ⟨rx, 1, none⟩ = false := HX4.out.free 1
            have q2 : w4.cell? ⟨rx, 2, none⟩ = some (.int .u32 0) := HX4.out.cell 2
            have f2 : w4.frozen? ⟨rx, 2, none⟩ = false := HX4.out.free 2
            have q3 : w4.cell? ⟨rx, 3, none⟩ = some (.int .u64 0) := HX4.out.cell 3
            have f3 : w4.frozen? ⟨rx, 3, none⟩ = false := HX4.out.free 3
            have q4 : w4.cell? ⟨rx, 4, none⟩ = some (.int .u32 0) := HX4.out.cell 4
            have f4 : w4.frozen? ⟨rx, 4, none⟩ = false := HX4.out.free 4
            have q5 : w4.cell? ⟨rx, 5, none⟩ = some (.int .u32 0) := HX4.out.cell 5
            have f5 : w4.frozen? ⟨rx, 5, none⟩ = false := HX4.out.free 5
            have q6 : w4.cell? ⟨rx, 6, none⟩ = some (.int .u32 0) := HX4.out.cell 6
            have f6 : w4.frozen? ⟨rx, 6, none⟩ = false := HX4.out.free 6
            have q7 : w4.cell? ⟨rx, 7, none⟩ = some (.slice none 0 0) := HX4.out.cell 7
            have f7 : w4.frozen? ⟨rx, 7, none⟩ = false := HX4.out.free 7
            have q8 : w4.cell? ⟨rx, 8, none⟩ = some (.slice none 0 0) := HX4.out.cell 8
            have f8 : w4.frozen? ⟨rx, 8, none⟩ = false := HX4.out.free 8
            have q9 : w4.cell? ⟨rx, 9, none⟩ = some (.slice none 0 0) := HX4.out.cell 9
            have f9 : w4.frozen? ⟨rx, 9, none⟩ = false := HX4.out.free 9
            have q10 : w4.cell? ⟨rx, 10, none⟩ = some (.slice none 0 0) := HX4.out.cell 10
            have f10 : w4.frozen? ⟨rx, 10, none⟩ = false := HX4.out.free 10
            have q11 : w4.cell? ⟨rx, 11, none⟩ = some (.int .u8 0) := HX4.out.cell 11
            have f11 : w4.frozen? ⟨rx, 11, none⟩ = false := HX4.out.free 11
            have HF : Hid (OneR lo g l w (.returned (.tuple #[.agg #[.int .i64 0, .int .u32 0, .int .u32 0, .int .u64 0, .int .u32 0, .int .u32 0, .int .u32 0, .slice none 0 0, .slice none 0 0, .slice none 0 0, .slice none 0 0, .int .u8 0], .int .i64 11])) ((((((((((((w4.setCell ⟨rx, 0, none⟩ (.int .i64 0)).setCell ⟨rx, 1, none⟩ (.int .u32 0)).setCell ⟨rx, 2, none⟩ (.int .u32 0)).setCell ⟨rx, 3, none⟩ (.int .u64 0)).setCell ⟨rx, 4, none⟩ (.int .u32 0)).setCell ⟨rx, 5, none⟩ (.int .u32 0)).setCell ⟨rx, 6, none⟩ (.int .u32 0)).setCell ⟨rx, 7, none⟩ (.slice none 0 0)).setCell ⟨rx, 8, none⟩ (.slice none 0 0)).setCell ⟨rx, 9, none⟩ (.slice none 0 0)).setCell ⟨rx, 10, none⟩ (.slice none 0 0)).setCell ⟨rx, 11, none⟩ (.int .u8 0))) := Lib.hid (OneR.zero (grown_belowG HG4.out (((((((((((((Below.refl rx w4).setCell (Nat.le_refl _) _).setCell (Nat.le_refl _) _).setCell (Nat.le_refl _) _).setCell (Nat.le_refl _) _).setCell (Nat.le_refl _) _).setCell (Nat.le_refl _) _).setCell (Nat.le_refl _) _).setCell (Nat.le_refl _) _).setCell (Nat.le_refl _) _).setCell (Nat.le_refl _) _).setCell (Nat.le_refl _) _).setCell (Nat.le_refl _) _) hrle) (by decide) (by rw [hone4]) (by rw [hone4]))
            obtain ⟨nr, hnr⟩ : ∃ nr, rs.length = nr := ⟨_, rfl⟩
            have hbad2 : 0 < (nr : Int) ∨ (p : Int) = 0 := by
              rcases hbad with h | h
              · left
                have : 0 < rs.length := List.length_pos_iff.2 h
                omega
              · right; omega
            rw [hnr] at CL hlr
            clear hnr HK4 HX4 HG4 HC4 HR4 hone4 HO HUP hbad hb31 hcap4 hcap5 hple HF4
            by_cases hbl0 : 0 < (nr : Int)
            · go_wp2_with fail
              refine HE4.out.mono ?_
              rintro en w4b ⟨rfl, rfl⟩
              go_wp2_with fail
              refine CP.out.mono ?_
              rintro en w4c ⟨rfl, rfl⟩
              go_wp2_with fail
              refine CL.out.mono ?_
              rintro en w4d ⟨rfl, rfl⟩
              clear HE4 CP CL
              go_wp2
              exact bodyPost_ret (v := .tuple #[.agg #[.int .i64 0, .int .u32 0, .int .u32 0, .int .u64 0, .int .u32 0, .int .u32 0, .int .u32 0, .slice none 0 0, .slice none 0 0, .slice none 0 0, .slice none 0 0, .int .u8 0], .int .i64 11]) (by simp [results, Tryd.results27, go_sem, q0, q1, q2, q3, q4, q5, q6, q7, q8, q9, q10, q11]) rfl HF.out
            · have hp0 : p = 0 := by rcases hbad2 with h | h; exact absurd h hbl0; omega
              subst hp0
              clear hbad2
              go_wp2_with fail
              refine HE4.out.mono ?_
              rintro en w4b ⟨rfl, rfl⟩
              go_wp2_with fail
              refine CP.out.mono ?_
              rintro en w4c ⟨rfl, rfl⟩
              go_wp2_with fail
              refine CL.out.mono ?_
              rintro en w4d ⟨rfl, rfl⟩
              clear HE4 CP CL
              go_wp2
              exact bodyPost_ret (v := .tuple #[.agg #[.int .i64 0, .int .u32 0, .int .u32 0, .int .u64 0, .int .u32 0, .int .u32 0, .int .u32 0, .slice none 0 0, .slice none 0 0, .slice none 0 0, .slice none 0 0, .int .u8 0], .int .i64 11]) (by simp [results, Tryd.results27, go_sem, q0, q1, q2, q3, q4, q5, q6, q7, q8, q9, q10, q11]) rfl HF.out
          · have hrs : rs = [] := by
              by_cases h : rs = []
              · exact h
              · exact absurd (.inl h) hbad
            have hp0 : ¬ p = 0 := fun h => hbad (.inr h)
            have hone4 : oneS l = ((readM x2 cc (bd.take (bd.length - p))).1, rs, (readM x2 cc (bd.take (bd.length - p))).2) := by rw [HO.out, HUP.out, if_neg hbad]
            have HO4 := Lib.hid hone4
            have hl0 : rs.length = 0 := by rw [hrs]; rfl
            rw [hl0] at CL
            have hp0' : ¬ (p : Int) = 0 := by omega
            have hsub : ((bd.length : Int) - (p : Int)) = ((bd.length - p : Nat) : Int) := by omega
            obtain ⟨nq, hnq⟩ : ∃ nq, bd.length - p = nq := ⟨_, rfl⟩
            have hnq1 : nq ≤ bd.length := by omega
            rw [hnq] at hsub HO4
            have hRb : Row w4 w4.heap.size 1 A4 nq (u8s (bd.take nq)) := by
              have := HR4.out.take hnq1
              rwa [show (u8s bd).take nq = u8s (bd.take nq) by simp [u8s, List.map_take]] at this
            obtain ⟨bq, hbq⟩ : ∃ bq, bd.take nq = bq := ⟨_, rfl⟩
            have hbql : bq.length = nq := by rw [← hbq, List.length_take]; omega
            rw [hbq] at hRb HO4
            obtain ⟨⟨m, er⟩, hmr⟩ : ∃ pr, readM x2 cc bq = pr := ⟨_, rfl⟩
            have CM := msgOf_any A4 c4 nq x2 cc bq w4 HF4.out hRb hbql (by omega) hx2 hc32
            rw [hmr] at CM
            rw [hmr] at HO4
            have CMH : Hid (Calls Tryd.prog 42 #[.int .u8 (x2 : Int), .int .u8 (cc : Int), .slice A4 nq c4] w4 fun e w' => ∃ s', e = .returned (.tuple #[.agg #[.int .i64 m.kind, .int .u32 (m.ssrc : Int), .int .u32 (m.media : Int), .int .u64 (m.clock : Int), .int .u32 (m.time : Int), .int .u32 (m.packets : Int), .int .u32 (m.bytes : Int), .slice s'.rA m.reps.length s'.rc, .slice s'.wA m.who.length s'.wc, .slice s'.pA m.pairs.length s'.pc, .slice s'.aA m.asks.length s'.ac, .int .u8 (m.typ : Int)], .int .i64 er]) ∧ CmAt w' w'.heap.size m s' ∧ SlNew w4.heap.size s' ∧ m.Fits ∧ Below w4.heap.size w4 w') := Lib.hid CM
            clear hbad hrs hone4 hl0 hnq hRb hbq hbql hmr CM HO HUP hp0 HF4
            go_wp2_with fail
            refine HE4.out.mono ?_
            rintro en w4b ⟨rfl, rfl⟩
            go_wp2_with fail
            refine CP.out.mono ?_
            rintro en w4c ⟨rfl, rfl⟩
            go_wp2_with fail
            refine CL.out.mono ?_
            rintro en w4d ⟨rfl, rfl⟩
            clear HE4 CP CL
            go_wp2_with fail
            refine CMH.out.mono ?_
            rintro en w6 ⟨s', rfl, hAt, hNew, hFits, b6⟩
            have HX6 := HX4.out.below b6 HX4.out.lt
            have hc6 := HC4.out.below b6 HC4.out.lt
            have HG6 := grown_belowG HG4.out b6 hws4
            have q0 : w6.cell? ⟨rx, 0, none⟩ = some (.int .i64 0) := HX6.cell 0
            have f0 : w6.frozen? ⟨rx, 0, none⟩ = false := HX6.free 0
            have q1 : w6.cell? ⟨rx, 1, none⟩ = some (.int .u32 0) := HX6.cell 1
            have f1 : w6.frozen? ⟨rx, 1, none⟩ = false := HX6.free 1
            have q2 : w6.cell? ⟨rx, 2, none⟩ = some (.int .u32 0) := HX6.cell 2
            have f2 : w6.frozen? ⟨rx, 2, none⟩ = false := HX6.free 2
            have q3 : w6.cell? ⟨rx, 3, none⟩ = some (.int .u64 0) := HX6.cell 3
            have f3 : w6.frozen? ⟨rx, 3, none⟩ = false := HX6.free 3
            have q4 : w6.cell? ⟨rx, 4, none⟩ = some (.int .u32 0) := HX6.cell 4
            have f4 : w6.frozen? ⟨rx, 4, none⟩ = false := HX6.free 4
            have q5 : w6.cell? ⟨rx, 5, none⟩ = some (.int .u32 0) := HX6.cell 5
            have f5 : w6.frozen? ⟨rx, 5, none⟩ = false := HX6.free 5
            have q6 : w6.cell? ⟨rx, 6, none⟩ = some (.int .u32 0) := HX6.cell 6
            have f6 : w6.frozen? ⟨rx, 6, none⟩ = false := HX6.free 6
            have q7 : w6.cell? ⟨rx, 7, none⟩ = some (.slice none 0 0) := HX6.cell 7
            have f7 : w6.frozen? ⟨rx, 7, none⟩ = false := HX6.free 7
            have q8 : w6.cell? ⟨rx, 8, none⟩ = some (.slice none 0 0) := HX6.cell 8
            have f8 : w6.frozen? ⟨rx, 8, none⟩ = false := HX6.free 8
            have q9 : w6.cell? ⟨rx, 9, none⟩ = some (.slice none 0 0) := HX6.cell 9
            have f9 : w6.frozen? ⟨rx, 9, none⟩ = false := HX6.free 9
            have q10 : w6.cell? ⟨rx, 10, none⟩ = some (.slice none 0 0) := HX6.cell 10
            have f10 : w6.frozen? ⟨rx, 10, none⟩ = false := HX6.free 10
            have q11 : w6.cell? ⟨rx, 11, none⟩ = some (.int .u8 0) := HX6.cell 11
            have f11 : w6.frozen? ⟨rx, 11, none⟩ = false := HX6.free 11
            have HW : Hid (OneR lo g l w (.returned (.tuple #[.agg #[.int .i64 m.kind, .int .u32 (m.ssrc : Int), .int .u32 (m.media : Int), .int .u64 (m.clock : Int), .int .u32 (m.time : Int), .int .u32 (m.packets : Int), .int .u32 (m.bytes : Int), .slice s'.rA m.reps.length s'.rc, .slice s'.wA m.who.length s'.wc, .slice s'.pA m.pairs.length s'.pc, .slice s'.aA m.asks.length s'.ac, .int .u8 (m.typ : Int)], .int .i64 er])) ((((((((((((w6.setCell ⟨rx, 0, none⟩ (.int .i64 m.kind)).setCell ⟨rx, 1, none⟩ (.int .u32 (m.ssrc : Int))).setCell ⟨rx, 2, none⟩ (.int .u32 (m.media : Int))).setCell ⟨rx, 3, none⟩ (.int .u64 (m.clock : Int))).setCell ⟨rx, 4, none⟩ (.int .u32 (m.time : Int))).setCell ⟨rx, 5, none⟩ (.int .u32 (m.packets : Int))).setCell ⟨rx, 6, none⟩ (.int .u32 (m.bytes : Int))).setCell ⟨rx, 7, none⟩ (.slice s'.rA m.reps.length s'.rc)).setCell ⟨rx, 8, none⟩ (.slice s'.wA m.who.length s'.wc)).setCell ⟨rx, 9, none⟩ (.slice s'.pA m.pairs.length s'.pc)).setCell ⟨rx, 10, none⟩ (.slice s'.aA m.asks.length s'.ac)).setCell ⟨rx, 11, none⟩ (.int .u8 (m.typ : Int)))) := Lib.hid ⟨s', by rw [HO4.out]; rfl, (by rw [HO4.out]; exact ((((((((((((hAt.setNew hNew hrx4 _ _).setNew hNew hrx4 _ _).setNew hNew hrx4 _ _).setNew hNew hrx4 _ _).setNew hNew hrx4 _ _).setNew hNew hrx4 _ _).setNew hNew hrx4 _ _).setNew hNew hrx4 _ _).setNew hNew hrx4 _ _).setNew hNew hrx4 _ _).setNew hNew hrx4 _ _).setNew hNew hrx4 _ _).more (by simp)), hNew.less hws4, (by rw [HO4.out]; exact hFits), (fun _ => by rw [HO4.out]; exact hc6.below (show Below rx w6 _ from (((((((((((((Below.refl rx w6).setCell (Nat.le_refl _) _).setCell (Nat.le_refl _) _).setCell (Nat.le_refl _) _).setCell (Nat.le_refl _) _).setCell (Nat.le_refl _) _).setCell (Nat.le_refl _) _).setCell (Nat.le_refl _) _).setCell (Nat.le_refl _) _).setCell (Nat.le_refl _) _).setCell (Nat.le_refl _) _).setCell (Nat.le_refl _) _).setCell (Nat.le_refl _) _)) (by omega)), grown_belowG HG6 (show Below rx w6 _ from (((((((((((((Below.refl rx w6).setCell (Nat.le_refl _) _).setCell (Nat.le_refl _) _).setCell (Nat.le_refl _) _).setCell (Nat.le_refl _) _).setCell (Nat.le_refl _) _).setCell (Nat.le_refl _) _).setCell (Nat.le_refl _) _).setCell (Nat.le_refl _) _).setCell (Nat.le_refl _) _).setCell (Nat.le_refl _) _).setCell (Nat.le_refl _) _).setCell (Nat.le_refl _) _)) hrle⟩
            clear hAt hNew hFits b6 HX6 hc6 HG6 HX4 HK4 HG4 HC4 HR4 HO4 CMH
            go_wp2
            exact bodyPost_ret (v := .tuple #[.agg #[.int .i64 m.kind, .int .u32 (m.ssrc : Int), .int .u32 (m.media : Int), .int .u64 (m.clock : Int), .int .u32 (m.time : Int), .int .u32 (m.packets : Int), .int .u32 (m.bytes : Int), .slice s'.rA m.reps.length s'.rc, .slice s'.wA m.who.length s'.wc, .slice s'.pA m.pairs.length s'.pc, .slice s'.aA m.asks.length s'.ac, .int .u8 (m.typ : Int)], .int .i64 er]) (by simp [results, Tryd.results27, go_sem, q0, q1, q2, q3, q4, q5, q6, q7, q8, q9, q10, q11]) rfl HW.out
        · have hb0 : bits .and .u8 (x1 : Int) 32 = 0 := by rw [hb32, show x1 / 32 % 2 = 0 by omega]; rfl
          have hone4 : oneS l = ((readM x2 cc bd).1, rs, (readM x2 cc bd).2) := by rw [HO.out, unpad_no x1 bd rs (by omega)]
          have HO4 := Lib.hid hone4
          obtain ⟨⟨m, er⟩, hmr⟩ : ∃ pr, readM x2 cc bd = pr := ⟨_, rfl⟩
          have CM := msgOf_any A4 c4 bd.length x2 cc bd w4 HF4.out HR4.out rfl (by omega) hx2 hc32
          rw [hmr] at CM HO4
          have CMH : Hid (Calls Tryd.prog 42 #[.int .u8 (x2 : Int), .int .u8 (cc : Int), .slice A4 bd.length c4] w4 fun e w' => ∃ s', e = .returned (.tuple #[.agg #[.int .i64 m.kind, .int .u32 (m.ssrc : Int), .int .u32 (m.media : Int), .int .u64 (m.clock : Int), .int .u32 (m.time : Int), .int .u32 (m.packets : Int), .int .u32 (m.bytes : Int), .slice s'.rA m.reps.length s'.rc, .slice s'.wA m.who.length s'.wc, .slice s'.pA m.pairs.length s'.pc, .slice s'.aA m.asks.length s'.ac, .int .u8 (m.typ : Int)], .int .i64 er]) ∧ CmAt w' w'.heap.size m s' ∧ SlNew w4.heap.size s' ∧ m.Fits ∧ Below w4.heap.size w4 w') := Lib.hid CM
          clear hone4 hmr CM HO hb32 hp HF4
          go_wp2_with fail
          refine HE4.out.mono ?_
          rintro en w4b ⟨rfl, rfl⟩
          clear HE4
          go_wp2_with fail
          refine CMH.out.mono ?_
          rintro en w6 ⟨s', rfl, hAt, hNew, hFits, b6⟩
          have HX6 := HX4.out.below b6 HX4.out.lt
          have hc6 := HC4.out.below b6 HC4.out.lt
          have HG6 := grown_belowG HG4.out b6 hws4
          have q0 : w6.cell? ⟨rx, 0, none⟩ = some (.int .i64 0) := HX6.cell 0
          have f0 : w6.frozen? ⟨rx, 0, none⟩ = false := HX6.free 0
          have q1 : w6.cell? ⟨rx, 1, none⟩ = some (.int .u32 0) := HX6.cell 1
          have f1 : w6.frozen? ⟨rx, 1, none⟩ = false := HX6.free 1
          have q2 : w6.cell? ⟨rx, 2, none⟩ = some (.int .u32 0) := HX6.cell 2
          have f2 : w6.frozen? ⟨rx, 2, none⟩ = false := HX6.free 2
          have q3 : w6.cell? ⟨rx, 3, none⟩ = some (.int .u64 0) := HX6.cell 3
          have f3 : w6.frozen? ⟨rx, 3, none⟩ = false := HX6.free 3
          have q4 : w6.cell? ⟨rx, 4, none⟩ = some (.int .u32 0) := HX6.cell 4
          have f4 : w6.frozen? ⟨rx, 4, none⟩ = false := HX6.free 4
          have q5 : w6.cell? ⟨rx, 5, none⟩ = some (.int .u32 0) := HX6.cell 5
          have f5 : w6.frozen? ⟨rx, 5, none⟩ = false := HX6.free 5
          have q6 : w6.cell? ⟨rx, 6, none⟩ = some (.int .u32 0) := HX6.cell 6
          have f6 : w6.frozen? ⟨rx, 6, none⟩ = false := HX6.free 6
          have q7 : w6.cell? ⟨rx, 7, none⟩ = some (.slice none 0 0) := HX6.cell 7
          have f7 : w6.frozen? ⟨rx, 7, none⟩ = false := HX6.free 7
          have q8 : w6.cell? ⟨rx, 8, none⟩ = some (.slice none 0 0) := HX6.cell 8
          have f8 : w6.frozen? ⟨rx, 8, none⟩ = false := HX6.free 8
          have q9 : w6.cell? ⟨rx, 9, none⟩ = some (.slice none 0 0) := HX6.cell 9
          have f9 : w6.frozen? ⟨rx, 9, none⟩ = false := HX6.free 9
          have q10 : w6.cell? ⟨rx, 10, none⟩ = some (.slice none 0 0) := HX6.cell 10
          have f10 : w6.frozen? ⟨rx, 10, none⟩ = false := HX6.free 10
          have q11 : w6.cell? ⟨rx, 11, none⟩ = some (.int .u8 0) := HX6.cell 11
          have f11 : w6.frozen? ⟨rx, 11, none⟩ = false := HX6.free 11
          have HW : Hid (OneR lo g l w (.returned (.tuple #[.agg #[.int .i64 m.kind, .int .u32 (m.ssrc : Int), .int .u32 (m.media : Int), .int .u64 (m.clock : Int), .int .u32 (m.time : Int), .int .u32 (m.packets : Int), .int .u32 (m.bytes : Int), .slice s'.rA m.reps.length s'.rc, .slice s'.wA m.who.length s'.wc, .slice s'.pA m.pairs.length s'.pc, .slice s'.aA m.asks.length s'.ac, .int .u8 (m.typ : Int)], .int .i64 er])) ((((((((((((w6.setCell ⟨rx, 0, none⟩ (.int .i64 m.kind)).setCell ⟨rx, 1, none⟩ (.int .u32 (m.ssrc : Int))).setCell ⟨rx, 2, none⟩ (.int .u32 (m.media : Int))).setCell ⟨rx, 3, none⟩ (.int .u64 (m.clock : Int))).setCell ⟨rx, 4, none⟩ (.int .u32 (m.time : Int))).setCell ⟨rx, 5, none⟩ (.int .u32 (m.packets : Int))).setCell ⟨rx, 6, none⟩ (.int .u32 (m.bytes : Int))).setCell ⟨rx, 7, none⟩ (.slice s'.rA m.reps.length s'.rc)).setCell ⟨rx, 8, none⟩ (.slice s'.wA m.who.length s'.wc)).setCell ⟨rx, 9, none⟩ (.slice s'.pA m.pairs.length s'.pc)).setCell ⟨rx, 10, none⟩ (.slice s'.aA m.asks.length s'.ac)).setCell ⟨rx, 11, none⟩ (.int .u8 (m.typ : Int)))) := Lib.hid ⟨s', by rw [HO4.out]; rfl, (by rw [HO4.out]; exact ((((((((((((hAt.setNew hNew hrx4 _ _).setNew hNew hrx4 _ _).setNew hNew hrx4 _ _).setNew hNew hrx4 _ _).setNew hNew hrx4 _ _).setNew hNew hrx4 _ _).setNew hNew hrx4 _ _).setNew hNew hrx4 _ _).setNew hNew hrx4 _ _).setNew hNew hrx4 _ _).setNew hNew hrx4 _ _).setNew hNew hrx4 _ _).more (by simp)), hNew.less hws4, (by rw [HO4.out]; exact hFits), (fun _ => by rw [HO4.out]; exact hc6.below (show Below rx w6 _ from (((((((((((((Below.refl rx w6).setCell (Nat.le_refl _) _).setCell (Nat.le_refl _) _).setCell (Nat.le_refl _) _).setCell (Nat.le_refl _) _).setCell (Nat.le_refl _) _).setCell (Nat.le_refl _) _).setCell (Nat.le_refl _) _).setCell (Nat.le_refl _) _).setCell (Nat.le_refl _) _).setCell (Nat.le_refl _) _).setCell (Nat.le_refl _) _).setCell (Nat.le_refl _) _)) (by omega)), grown_belowG HG6 (show Below rx w6 _ from (((((((((((((Below.refl rx w6).setCell (Nat.le_refl _) _).setCell (Nat.le_refl _) _).setCell (Nat.le_refl _) _).setCell (Nat.le_refl _) _).setCell (Nat.le_refl _) _).setCell (Nat.le_refl _) _).setCell (Nat.le_refl _) _).setCell (Nat.le_refl _) _).setCell (Nat.le_refl _) _).setCell (Nat.le_refl _) _).setCell (Nat.le_refl _) _).setCell (Nat.le_refl _) _)) hrle⟩
          clear hAt hNew hFits b6 HX6 hc6 HG6 HX4 HK4 HG4 HC4 HR4 HO4 CMH
          go_wp2
          exact bodyPost_ret (v := .tuple #[.agg #[.int .i64 m.kind, .int .u32 (m.ssrc : Int), .int .u32 (m.media : Int), .int .u64 (m.clock : Int), .int .u32 (m.time : Int), .int .u32 (m.packets : Int), .int .u32 (m.bytes : Int), .slice s'.rA m.reps.length s'.rc, .slice s'.wA m.who.length s'.wc, .slice s'.pA m.pairs.length s'.pc, .slice s'.aA m.asks.length s'.ac, .int .u8 (m.typ : Int)], .int .i64 er]) (by simp [results, Tryd.results27, go_sem, q0, q1, q2, q3, q4, q5, q6, q7, q8, q9, q10, q11]) rfl HW.out
      · have hw10 := HBD.out.2.1 hsh
        subst hw10
        have hone3 : oneS l = (zeroM, [], 10) := HONE2.out.trans (if_pos (by have := HL3L.out; omega))
        have q0 : w4.cell? ⟨rx, 0, none⟩ = some (.int .i64 0) := HX4.out.cell 0
        have f0 : w4.frozen? ⟨rx, 0, none⟩ = false := HX4.out.free 0
        have q1 : w4.cell? ⟨rx, 1, none⟩ = some (.int .u32 0) := HX4.out.cell 1
        have f1 : w4.frozen? ⟨rx, 1, none⟩ = false := HX4.out.free 1
        have q2 : w4.cell? ⟨rx, 2, none⟩ = some (.int .u32 0) := HX4.out.cell 2
        have f2 : w4.frozen? ⟨rx, 2, none⟩ = false := HX4.out.free 2
        have q3 : w4.cell? ⟨rx, 3, none⟩ = some (.int .u64 0) := HX4.out.cell 3
        have f3 : w4.frozen? ⟨rx, 3, none⟩ = false := HX4.out.free 3
        have q4 : w4.cell? ⟨rx, 4, none⟩ = some (.int .u32 0) := HX4.out.cell 4
        have f4 : w4.frozen? ⟨rx, 4, none⟩ = false := HX4.out.free 4
        have q5 : w4.cell? ⟨rx, 5, none⟩ = some (.int .u32 0) := HX4.out.cell 5
        have f5 : w4.frozen? ⟨rx, 5, none⟩ = false := HX4.out.free 5
        have q6 : w4.cell? ⟨rx, 6, none⟩ = some (.int .u32 0) := HX4.out.cell 6
        have f6 : w4.frozen? ⟨rx, 6, none⟩ = false := HX4.out.free 6
        have q7 : w4.cell? ⟨rx, 7, none⟩ = some (.slice none 0 0) := HX4.out.cell 7
        have f7 : w4.frozen? ⟨rx, 7, none⟩ = false := HX4.out.free 7
        have q8 : w4.cell? ⟨rx, 8, none⟩ = some (.slice none 0 0) := HX4.out.cell 8
        have f8 : w4.frozen? ⟨rx, 8, none⟩ = false := HX4.out.free 8
        have q9 : w4.cell? ⟨rx, 9, none⟩ = some (.slice none 0 0) := HX4.out.cell 9
        have f9 : w4.frozen? ⟨rx, 9, none⟩ = false := HX4.out.free 9
        have q10 : w4.cell? ⟨rx, 10, none⟩ = some (.slice none 0 0) := HX4.out.cell 10
        have f10 : w4.frozen? ⟨rx, 10, none⟩ = false := HX4.out.free 10
        have q11 : w4.cell? ⟨rx, 11, none⟩ = some (.int .u8 0) := HX4.out.cell 11
        have f11 : w4.frozen? ⟨rx, 11, none⟩ = false := HX4.out.free 11
        have HF : Hid (OneR lo g l w (.returned (.tuple #[.agg #[.int .i64 0, .int .u32 0, .int .u32 0, .int .u64 0, .int .u32 0, .int .u32 0, .int .u32 0, .slice none 0 0, .slice none 0 0, .slice none 0 0, .slice none 0 0, .int .u8 0], .int .i64 10])) ((((((((((((w4.setCell ⟨rx, 0, none⟩ (.int .i64 0)).setCell ⟨rx, 1, none⟩ (.int .u32 0)).setCell ⟨rx, 2, none⟩ (.int .u32 0)).setCell ⟨rx, 3, none⟩ (.int .u64 0)).setCell ⟨rx, 4, none⟩ (.int .u32 0)).setCell ⟨rx, 5, none⟩ (.int .u32 0)).setCell ⟨rx, 6, none⟩ (.int .u32 0)).setCell ⟨rx, 7, none⟩ (.slice none 0 0)).setCell ⟨rx, 8, none⟩ (.slice none 0 0)).setCell ⟨rx, 9, none⟩ (.slice none 0 0)).setCell ⟨rx, 10, none⟩ (.slice none 0 0)).setCell ⟨rx, 11, none⟩ (.int .u8 0))) := Lib.hid (OneR.zero (grown_belowG HG4.out (((((((((((((Below.refl rx w4).setCell (Nat.le_refl _) _).setCell (Nat.le_refl _) _).setCell (Nat.le_refl _) _).setCell (Nat.le_refl _) _).setCell (Nat.le_refl _) _).setCell (Nat.le_refl _) _).setCell (Nat.le_refl _) _).setCell (Nat.le_refl _) _).setCell (Nat.le_refl _) _).setCell (Nat.le_refl _) _).setCell (Nat.le_refl _) _).setCell (Nat.le_refl _) _) hrle) (by decide) (by rw [hone3]) (by rw [hone3]))
        clear HK4 HX4 HG4 HR4 hone3 HONE2 HL3L HBD HFM HC4
        go_wp2_with fail
        refine HE4.out.mono ?_
        rintro en w4b ⟨rfl, rfl⟩
        go_wp2_with fail
        refine HE4.out.mono ?_
        rintro en w4c ⟨rfl, rfl⟩
        clear HE4
        go_wp2
        exact bodyPost_ret (v := .tuple #[.agg #[.int .i64 0, .int .u32 0, .int .u32 0, .int .u64 0, .int .u32 0, .int .u32 0, .int .u32 0, .slice none 0 0, .slice none 0 0, .slice none 0 0, .slice none 0 0, .int .u8 0], .int .i64 10]) (by simp [results, Tryd.results27, go_sem, q0, q1, q2, q3, q4, q5, q6, q7, q8, q9, q10, q11]) rfl HF.out
  · rw [if_neg (by omega)] at he3
    subst he3
    have hone : oneS l = (zeroM, [], 10) := by unfold oneS; rw [if_pos (by omega)]
    have q0 : w3.cell? ⟨rx, 0, none⟩ = some (.int .i64 0) := HX3.out.cell 0
    have f0 : w3.frozen? ⟨rx, 0, none⟩ = false := HX3.out.free 0
    have q1 : w3.cell? ⟨rx, 1, none⟩ = some (.int .u32 0) := HX3.out.cell 1
    have f1 : w3.frozen? ⟨rx, 1, none⟩ = false := HX3.out.free 1
    have q2 : w3.cell? ⟨rx, 2, none⟩ = some (.int .u32 0) := HX3.out.cell 2
    have f2 : w3.frozen? ⟨rx, 2, none⟩ = false := HX3.out.free 2
    have q3 : w3.cell? ⟨rx, 3, none⟩ = some (.int .u64 0) := HX3.out.cell 3
    have f3 : w3.frozen? ⟨rx, 3, none⟩ = false := HX3.out.free 3
    have q4 : w3.cell? ⟨rx, 4, none⟩ = some (.int .u32 0) := HX3.out.cell 4
    have f4 : w3.frozen? ⟨rx, 4, none⟩ = false := HX3.out.free 4
    have q5 : w3.cell? ⟨rx, 5, none⟩ = some (.int .u32 0) := HX3.out.cell 5
    have f5 : w3.frozen? ⟨rx, 5, none⟩ = false := HX3.out.free 5
    have q6 : w3.cell? ⟨rx, 6, none⟩ = some (.int .u32 0) := HX3.out.cell 6
    have f6 : w3.frozen? ⟨rx, 6, none⟩ = false := HX3.out.free 6
    have q7 : w3.cell? ⟨rx, 7, none⟩ = some (.slice none 0 0) := HX3.out.cell 7
    have f7 : w3.frozen? ⟨rx, 7, none⟩ = false := HX3.out.free 7
    have q8 : w3.cell? ⟨rx, 8, none⟩ = some (.slice none 0 0) := HX3.out.cell 8
    have f8 : w3.frozen? ⟨rx, 8, none⟩ = false := HX3.out.free 8
    have q9 : w3.cell? ⟨rx, 9, none⟩ = some (.slice none 0 0) := HX3.out.cell 9
    have f9 : w3.frozen? ⟨rx, 9, none⟩ = false := HX3.out.free 9
    have q10 : w3.cell? ⟨rx, 10, none⟩ = some (.slice none 0 0) := HX3.out.cell 10
    have f10 : w3.frozen? ⟨rx, 10, none⟩ = false := HX3.out.free 10
    have q11 : w3.cell? ⟨rx, 11, none⟩ = some (.int .u8 0) := HX3.out.cell 11
    have f11 : w3.frozen? ⟨rx, 11, none⟩ = false := HX3.out.free 11
    have HF : Hid (OneR lo g l w (.returned (.tuple #[.agg #[.int .i64 0, .int .u32 0, .int .u32 0, .int .u64 0, .int .u32 0, .int .u32 0, .int .u32 0, .slice none 0 0, .slice none 0 0, .slice none 0 0, .slice none 0 0, .int .u8 0], .int .i64 10])) ((((((((((((w3.setCell ⟨rx, 0, none⟩ (.int .i64 0)).setCell ⟨rx, 1, none⟩ (.int .u32 0)).setCell ⟨rx, 2, none⟩ (.int .u32 0)).setCell ⟨rx, 3, none⟩ (.int .u64 0)).setCell ⟨rx, 4, none⟩ (.int .u32 0)).setCell ⟨rx, 5, none⟩ (.int .u32 0)).setCell ⟨rx, 6, none⟩ (.int .u32 0)).setCell ⟨rx, 7, none⟩ (.slice none 0 0)).setCell ⟨rx, 8, none⟩ (.slice none 0 0)).setCell ⟨rx, 9, none⟩ (.slice none 0 0)).setCell ⟨rx, 10, none⟩ (.slice none 0 0)).setCell ⟨rx, 11, none⟩ (.int .u8 0))) := Lib.hid (OneR.zero (grown_belowG HG3.out (((((((((((((Below.refl rx w3).setCell (Nat.le_refl _) _).setCell (Nat.le_refl _) _).setCell (Nat.le_refl _) _).setCell (Nat.le_refl _) _).setCell (Nat.le_refl _) _).setCell (Nat.le_refl _) _).setCell (Nat.le_refl _) _).setCell (Nat.le_refl _) _).setCell (Nat.le_refl _) _).setCell (Nat.le_refl _) _).setCell (Nat.le_refl _) _).setCell (Nat.le_refl _) _) hrle) (by decide) (by rw [hone]) (by rw [hone]))
    clear HK3 HX3 HG3 HC3 HV HFM hone CB
    go_wp2_with fail
    refine HE3.out.mono ?_
    rintro en w3b ⟨rfl, rfl⟩
    go_wp2_with fail
    refine HE3.out.mono ?_
    rintro en w3c ⟨rfl, rfl⟩
    clear HE3 HT
    go_wp2
    exact bodyPost_ret (v := .tuple #[.agg #[.int .i64 0, .int .u32 0, .int .u32 0, .int .u64 0, .int .u32 0, .int .u32 0, .int .u32 0, .slice none 0 0, .slice none 0 0, .slice none 0 0, .slice none 0 0, .int .u8 0], .int .i64 10]) (by simp [results, Tryd.results27, go_sem, q0, q1, q2, q3, q4, q5, q6, q7, q8, q9, q10, q11]) rfl HF.out
end Go.Proofs.YtcjmiidnhbmclaaDoor
