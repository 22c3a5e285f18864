/-
  Package rtcp's msgOf: the message of a type, a count and a body.
-/
import Derived.Test.YtcjmiidnhbmclaaDoorRcN
namespace Go.Proofs.YtcjmiidnhbmclaaDoor
open Go.RowKit
set_option maxRecDepth 100000

/-- A message and an error are told. -/
def MsgR (p : Ms × Int) (w : World) (e : Ending) (w' : World) : Prop :=
  ∃ s, e = .returned (.tuple #[.agg (p.1.cells s).toArray, .int .i64 p.2]) ∧ CmAt w' w'.heap.size p.1 s ∧ SlNew w.heap.size s ∧ p.1.Fits ∧ Below w.heap.size w w'
def BodiedB (B g gm c : Nat) (w : World) (e : Ending) (w' : World) : Prop :=
  ∃ m, e = .returned (.map (some m)) ∧ Below B w w' ∧ Whole w' B 74 #[.pointer (some ⟨g, 0, none⟩)] ∧ Whole w' (B + 1) 126 #[.pointer (some ⟨gm, 0, none⟩)] ∧ Whole w' (B + 2) 3 #[.int .i64 (c : Int)] ∧
    ∀ k : Nat, k < 6 → (Instr.lookup 124 (.map (some m)) (.int .i64 (k : Int)) false).run Tryd.prog w' = .ok (clo B k) w'
theorem bodied_at {B g gm c : Nat} {w : World} {e : Ending} {w' : World} (h : Bodied g gm c w e w') (hb : w.heap.size = B) : BodiedB B g gm c w e w' := by
  subst hb
  exact h
theorem zero_fits : zeroM.Fits := by constructor <;> simp [zeroM]
theorem zero_at (w : World) (B : Nat) : CmAt w B zeroM ⟨none, 0, none, 0, none, 0, none, 0⟩ := ⟨Row.nil, Row.nil, Row.nil, Row.nil⟩
def zeroC : Array Value := #[.int .i64 0, .int .u32 0, .int .u32 0, .int .u64 0, .int .u32 0, .int .u32 0, .int .u32 0, .slice none 0 0, .slice none 0 0, .slice none 0 0, .slice none 0 0, .int .u8 0]
theorem MsgR.zero {w w' : World} {p : Ms × Int} {er : Int} (h : Below w.heap.size w w') (hp : p = (zeroM, er)) : MsgR p w (.returned (.tuple #[.agg #[.int .i64 0, .int .u32 0, .int .u32 0, .int .u64 0, .int .u32 0, .int .u32 0, .int .u32 0, .slice none 0 0, .slice none 0 0, .slice none 0 0, .slice none 0 0, .int .u8 0], .int .i64 er])) w' := by
  subst hp
  exact ⟨⟨none, 0, none, 0, none, 0, none, 0⟩, rfl, zero_at _ _, SlNew.empty _, zero_fits, h⟩

set_option maxHeartbeats 6400000 in
theorem msgOf0_any (A : Option Addr) (cp n t c : Nat) (s : List UInt8) (w : World) (hF : Forms w) (h : Row w w.heap.size 1 A n (u8s s)) (hn : s.length = n) (hl : n ≤ 2000) (hc : c < 32) (hk : kf t c = 0) (hp1 : ¬ 24 + 24 * c ≤ s.length → readM t c s = (zeroM, 10)) (hp2 : 24 + 24 * c ≤ s.length → Ms.good (⟨0, numAt s 0 4, 0, numAt s 4 8, numAt s 12 4, numAt s 16 4, numAt s 20 4, rdReps s 24 c, [], [], [], 0⟩) = false → readM t c s = (zeroM, 11)) (hp3 : 24 + 24 * c ≤ s.length → Ms.good (⟨0, numAt s 0 4, 0, numAt s 4 8, numAt s 12 4, numAt s 16 4, numAt s 20 4, rdReps s 24 c, [], [], [], 0⟩) = true → readM t c s = (⟨0, numAt s 0 4, 0, numAt s 4 8, numAt s 12 4, numAt s 16 4, numAt s 20 4, rdReps s 24 c, [], [], [], 0⟩, 0)) :
    Calls Tryd.prog 42 #[.int .u8 (t : Int), .int .u8 (c : Int), .slice A n cp] w (MsgR (readM t c s) w) := by
  obtain ⟨pr, hpr⟩ : ∃ pr, readM t c s = pr := ⟨_, rfl⟩
  rw [hpr] at hp1 hp2 hp3 ⊢
  have HP1 := Lib.hid hp1
  have HP2 := Lib.hid hp2
  have HP3 := Lib.hid hp3
  have B0 := (Below.refl w.heap.size w).alloc (Nat.le_refl _) (.cells #[.int .i64 0, .int .u32 0, .int .u32 0, .int .u64 0, .int .u32 0, .int .u32 0, .int .u32 0, .slice none 0 0, .slice none 0 0, .slice none 0 0, .slice none 0 0, .int .u8 0] 59)
  have W6 := Whole.new w 59 #[.int .i64 0, .int .u32 0, .int .u32 0, .int .u64 0, .int .u32 0, .int .u32 0, .int .u32 0, .slice none 0 0, .slice none 0 0, .slice none 0 0, .slice none 0 0, .int .u8 0]
  obtain ⟨w0, hw0⟩ : ∃ w0, w.alloc (.cells #[.int .i64 0, .int .u32 0, .int .u32 0, .int .u64 0, .int .u32 0, .int .u32 0, .int .u32 0, .slice none 0 0, .slice none 0 0, .slice none 0 0, .slice none 0 0, .int .u8 0] 59) = w0 := ⟨_, rfl⟩
  rw [hw0] at B0 W6
  obtain ⟨rx, hrx⟩ : ∃ rx, w.heap.size = rx := ⟨_, rfl⟩
  have CK := kindOf_any t c w0 (hF.next B0)
  rw [hk] at CK
  have H := Lib.hid h
  have HN := Lib.hid hn
  have HB0 := Lib.hid B0
  have hrx0 : rx < w0.heap.size := by rw [← hrx]; exact W6.lt
  have HW6 := Lib.hid W6
  clear h hn B0 W6 hF hk hp1 hp2 hp3 hpr
  go_enter Tryd.func42, Tryd.ntmps42
  go_wp2_with fail
  clear hw0
  refine CK.mono ?_
  rintro e w1 ⟨rfl, b1⟩
  have hs1 := b1.size
  have b2 := b1.alloc b1.size (.cells #[.int .i64 0, .int .u32 0, .int .u32 0, .int .u64 0, .int .u32 0, .int .u32 0, .int .u32 0, .slice none 0 0, .slice none 0 0, .slice none 0 0, .slice none 0 0, .int .u8 0] 59)
  have WM := Whole.new w1 59 #[.int .i64 0, .int .u32 0, .int .u32 0, .int .u64 0, .int .u32 0, .int .u32 0, .int .u32 0, .slice none 0 0, .slice none 0 0, .slice none 0 0, .slice none 0 0, .int .u8 0]
  obtain ⟨w2, hw2⟩ : ∃ w2, w1.alloc (.cells #[.int .i64 0, .int .u32 0, .int .u32 0, .int .u64 0, .int .u32 0, .int .u32 0, .int .u32 0, .slice none 0 0, .slice none 0 0, .slice none 0 0, .slice none 0 0, .int .u8 0] 59) = w2 := ⟨_, rfl⟩
  rw [hw2] at b2 WM
  obtain ⟨gm, hgm⟩ : ∃ gm, w1.heap.size = gm := ⟨_, rfl⟩
  rw [hgm] at WM
  have hgm2 : w2.heap.size = gm + 1 := by rw [← hw2, ← hgm]; simp
  have c0 : w2.cell? ⟨gm, 0, none⟩ = some (.int .i64 0) := WM.cell 0
  have B2 := bnextA HB0.out b2
  have CN := new_any A n cp s w2 (((H.out.below B2 (Nat.le_refl _))).more B2.size) (by omega)
  have HW2 := Lib.hid hw2
  have b1s := b2
  clear CK b1 hw2
  go_wp2_with fail
  rw [HW2.out]
  clear HW2
  refine CN.mono ?_
  rintro e w3 ⟨g, rfl, hg3, hc3, b3⟩
  have hg3l := hc3.lt
  have WM3 := WM.below b3 WM.lt
  have b4 := b3.alloc b3.size (.cells #[.pointer (some ⟨g, 0, none⟩)] 74)
  have hc4 := hc3.alloc (.cells #[.pointer (some ⟨g, 0, none⟩)] 74)
  have WM4 := WM3.alloc (.cells #[.pointer (some ⟨g, 0, none⟩)] 74)
  have WR4 := Whole.new w3 74 #[.pointer (some ⟨g, 0, none⟩)]
  have hs3 := b3.size
  have hs4 : (w3.alloc (.cells #[.pointer (some ⟨g, 0, none⟩)] 74)).heap.size = w3.heap.size + 1 := by simp
  obtain ⟨w4, hw4⟩ : ∃ w4, w3.alloc (.cells #[.pointer (some ⟨g, 0, none⟩)] 74) = w4 := ⟨_, rfl⟩
  rw [hw4] at b4 hc4 WM4 WR4 hs4
  obtain ⟨br, hbr⟩ : ∃ br, w3.heap.size = br := ⟨_, rfl⟩
  rw [hbr] at WR4 hs4 hs3 hg3l
  have B4 := bnextA B2 b4
  have HX4 := Lib.hid ((HW6.out.below b1s (Nat.lt_of_lt_of_le HW6.out.lt (Nat.le_refl _))).below b4 (by omega))
  obtain ⟨bq, hbq⟩ : ∃ bq, w4.heap.size = bq := ⟨_, rfl⟩
  have CB := Lib.hid ((bodies_any g gm c w4.drew).mono fun e w' hh => bodied_at hh (show w4.drew.heap.size = bq from hbq))
  have hbqr : br + 1 = bq := by rw [← hbq, hs4]
  have d0 : w4.cell? ⟨gm, 0, none⟩ = some (.int .i64 0) := WM4.cell 0
  have d1 : w4.cell? ⟨br, 0, none⟩ = some (.pointer (some ⟨g, 0, none⟩)) := WR4.cell 0
  have HWM4 := Lib.hid WM4
  have HWR4 := Lib.hid WR4
  have HC4 := Lib.hid hc4
  have HB4 := Lib.hid B4
  have hcw : IntKind.i64.wrap (c : Int) = (c : Int) := IntWalk.i64_in _ (by omega)
  have KP := Lib.hid (fun w' (b : Below w4.heap.size w4 w') => show w'.cell? ⟨gm, 0, none⟩ = some (.int .i64 0) ∧ w'.cell? ⟨br, 0, none⟩ = some (.pointer (some ⟨g, 0, none⟩)) from ⟨(HWM4.out.below b HWM4.out.lt).cell 0, (HWR4.out.below b HWR4.out.lt).cell 0⟩)
  have HW4 := Lib.hid hw4
  clear WM WM3 WM4 WR4 hc3 hc4 B2 B4 b2 b3 b4 CN c0 hw4
  go_wp2_with fail
  rw [HW4.out]
  clear HW4
  go_region_held3 (fun w' => w'.cell? ⟨gm, 0, none⟩ = some (.int .i64 0) ∧ w'.cell? ⟨br, 0, none⟩ = some (.pointer (some ⟨g, 0, none⟩)))
    (first | with_reducible exact KP.out _ bb5 | with_reducible exact KP.out _ (Below.refl _ _).drew | go_keep)
    (first
      | (go_at_call 57; refine CB.out.mono ?_; rintro e w5 ⟨mp, rfl, b5, V3, V4, V5, LK⟩; have bb5 : Below w4.heap.size w4 w5 := (by rw [hbq]; exact (Below.refl bq w4).drew.trans b5); have lk : (Instr.lookup 124 (.map (some mp)) (.int .i64 0) false).run Tryd.prog w5 = .ok (.func (.func 61) #[] #[.pointer (some ⟨bq, 0, none⟩), .pointer (some ⟨bq + 1, 0, none⟩), .pointer (some ⟨bq + 2, 0, none⟩)]) w5 := LK 0 (by decide)))
  have hM5 := HWM4.out.below bb5 HWM4.out.lt
  have hC5 := HC4.out.below bb5 (by rw [hs4]; omega)
  have hR5 := HWR4.out.below bb5 HWR4.out.lt
  have hX5 : Whole w5 rx 59 #[.int .i64 0, .int .u32 0, .int .u32 0, .int .u64 0, .int .u32 0, .int .u32 0, .int .u32 0, .slice none 0 0, .slice none 0 0, .slice none 0 0, .slice none 0 0, .int .u8 0] := by rw [← hrx]; exact HX4.out.below bb5 HX4.out.lt
  have CR := Lib.hid (read1_any gm g bq (bq + 1) (bq + 2) c s w5 hM5 hC5 V3 V4 V5 hc (by rw [HN.out]; exact hl) (by omega) (by omega) (by omega) (by omega) (by omega))
  have HB5 := Lib.hid (bnextA HB4.out bb5)
  have hs5 := bb5.size
  have HR5 := Lib.hid hR5
  have HX5 := Lib.hid hX5
  clear hM5 hC5 hR5 hX5 V3 V4 V5 LK b5 bb5 CB KP HWM4 HWR4 HC4 HB4 HX4
  go_wp2_with fail
  refine CR.out.mono ?_
  rintro e w6 ⟨m, s', l', e', rfl, hM, hAt, hNew, hFits, hm, he, hC, hP⟩
  have hR6 := HR5.out.prt hP (by omega) (by omega)
  have hX6 := HX5.out.prt hP (by omega) (by omega)
  have hB6 := HB5.out.trans (hP.below (B := w.heap.size) (by have := HB5.out.size; omega) (by omega) (by omega))
  have y1 : w6.cell? ⟨br, 0, none⟩ = some (.pointer (some ⟨g, 0, none⟩)) := hR6.cell 0
  have HM6 := Lib.hid hM
  have HAt := Lib.hid hAt
  have hrle : w.heap.size ≤ rx := Nat.le_of_eq hrx
  have HBX6 := Lib.hid hB6
  have CE := Lib.hid (err_any g l' e' w6 hC)
  have HX6 := Lib.hid hX6
  have HPS := hP.size
  clear CR hM hAt hC hP hR6 hX6 hB6 HR5 HX5 HB5 lk
  by_cases hz : 24 + 24 * c ≤ s.length
  · rw [if_pos hz] at he
    subst he
    have hmm : m = ⟨0, numAt s 0 4, 0, numAt s 4 8, numAt s 12 4, numAt s 16 4, numAt s 20 4, rdReps s 24 c, [], [], [], 0⟩ := hm rfl
    have CE0 := CE.out
    have CW := isWrong_any m s' w6
    have hpr : (m.good = false → pr = (zeroM, 11)) ∧ (m.good = true → pr = (m, 0)) := ⟨fun hg => HP2.out hz (hmm ▸ hg), fun hg => (HP3.out hz (hmm ▸ hg)).trans (by rw [hmm])⟩
    have HPR := Lib.hid hpr
    obtain ⟨gd, hgd⟩ : ∃ b, m.good = b := ⟨_, rfl⟩
    rw [hgd] at CW
    have HGD := Lib.hid hgd
    have CWH : Hid (Calls Tryd.prog 22 #[.agg #[.int .i64 m.kind, .int .u32 (m.ssrc : Int), .int .u32 (m.media : Int), .int .u64 (m.clock : Int), .int .u32 (m.time : Int), .int .u32 (m.packets : Int), .int .u32 (m.bytes : Int), .slice s'.rA m.reps.length s'.rc, .slice s'.wA m.who.length s'.wc, .slice s'.pA m.pairs.length s'.pc, .slice s'.aA m.asks.length s'.ac, .int .u8 (m.typ : Int)]] w6 fun e w' => e = .returned (.bool (!gd)) ∧ Below w6.heap.size w6 w') := CW
    have CEH := Lib.hid CE0
    have z0 : w6.cell? ⟨gm, 0, none⟩ = some (.int .i64 m.kind) := HM6.out.cell 0
    have z1 : w6.cell? ⟨gm, 1, none⟩ = some (.int .u32 (m.ssrc : Int)) := HM6.out.cell 1
    have z2 : w6.cell? ⟨gm, 2, none⟩ = some (.int .u32 (m.media : Int)) := HM6.out.cell 2
    have z3 : w6.cell? ⟨gm, 3, none⟩ = some (.int .u64 (m.clock : Int)) := HM6.out.cell 3
    have z4 : w6.cell? ⟨gm, 4, none⟩ = some (.int .u32 (m.time : Int)) := HM6.out.cell 4
    have z5 : w6.cell? ⟨gm, 5, none⟩ = some (.int .u32 (m.packets : Int)) := HM6.out.cell 5
    have z6 : w6.cell? ⟨gm, 6, none⟩ = some (.int .u32 (m.bytes : Int)) := HM6.out.cell 6
    have z7 : w6.cell? ⟨gm, 7, none⟩ = some (.slice s'.rA m.reps.length s'.rc) := HM6.out.cell 7
    have z8 : w6.cell? ⟨gm, 8, none⟩ = some (.slice s'.wA m.who.length s'.wc) := HM6.out.cell 8
    have z9 : w6.cell? ⟨gm, 9, none⟩ = some (.slice s'.pA m.pairs.length s'.pc) := HM6.out.cell 9
    have z10 : w6.cell? ⟨gm, 10, none⟩ = some (.slice s'.aA m.asks.length s'.ac) := HM6.out.cell 10
    have z11 : w6.cell? ⟨gm, 11, none⟩ = some (.int .u8 (m.typ : Int)) := HM6.out.cell 11
    clear CW CE0 hmm hm hpr hgd CE HP1 HP2 HP3
    go_wp2_with fail
    refine CEH.out.mono ?_
    rintro e w6b ⟨rfl, rfl⟩
    go_wp2_with fail
    refine CWH.out.mono ?_
    rintro e w7 ⟨rfl, b7⟩
    have M7 := HM6.out.below b7 HM6.out.lt
    have X7 := HX6.out.below b7 HX6.out.lt
    have HBX := bnextA HBX6.out b7
    have q0 : w7.cell? ⟨rx, 0, none⟩ = some (.int .i64 0) := X7.cell 0
    have f0 : w7.frozen? ⟨rx, 0, none⟩ = false := X7.free 0
    have q1 : w7.cell? ⟨rx, 1, none⟩ = some (.int .u32 0) := X7.cell 1
    have f1 : w7.frozen? ⟨rx, 1, none⟩ = false := X7.free 1
    have q2 : w7.cell? ⟨rx, 2, none⟩ = some (.int .u32 0) := X7.cell 2
    have f2 : w7.frozen? ⟨rx, 2, none⟩ = false := X7.free 2
    have q3 : w7.cell? ⟨rx, 3, none⟩ = some (.int .u64 0) := X7.cell 3
    have f3 : w7.frozen? ⟨rx, 3, none⟩ = false := X7.free 3
    have q4 : w7.cell? ⟨rx, 4, none⟩ = some (.int .u32 0) := X7.cell 4
    have f4 : w7.frozen? ⟨rx, 4, none⟩ = false := X7.free 4
    have q5 : w7.cell? ⟨rx, 5, none⟩ = some (.int .u32 0) := X7.cell 5
    have f5 : w7.frozen? ⟨rx, 5, none⟩ = false := X7.free 5
    have q6 : w7.cell? ⟨rx, 6, none⟩ = some (.int .u32 0) := X7.cell 6
    have f6 : w7.frozen? ⟨rx, 6, none⟩ = false := X7.free 6
    have q7 : w7.cell? ⟨rx, 7, none⟩ = some (.slice none 0 0) := X7.cell 7
    have f7 : w7.frozen? ⟨rx, 7, none⟩ = false := X7.free 7
    have q8 : w7.cell? ⟨rx, 8, none⟩ = some (.slice none 0 0) := X7.cell 8
    have f8 : w7.frozen? ⟨rx, 8, none⟩ = false := X7.free 8
    have q9 : w7.cell? ⟨rx, 9, none⟩ = some (.slice none 0 0) := X7.cell 9
    have f9 : w7.frozen? ⟨rx, 9, none⟩ = false := X7.free 9
    have q10 : w7.cell? ⟨rx, 10, none⟩ = some (.slice none 0 0) := X7.cell 10
    have f10 : w7.frozen? ⟨rx, 10, none⟩ = false := X7.free 10
    have q11 : w7.cell? ⟨rx, 11, none⟩ = some (.int .u8 0) := X7.cell 11
    have f11 : w7.frozen? ⟨rx, 11, none⟩ = false := X7.free 11
    cases gd with
    | false =>
      have HF : Hid (MsgR pr w (.returned (.tuple #[.agg #[.int .i64 0, .int .u32 0, .int .u32 0, .int .u64 0, .int .u32 0, .int .u32 0, .int .u32 0, .slice none 0 0, .slice none 0 0, .slice none 0 0, .slice none 0 0, .int .u8 0], .int .i64 11])) ((((((((((((w7.setCell ⟨rx, 0, none⟩ (.int .i64 0)).setCell ⟨rx, 1, none⟩ (.int .u32 0)).setCell ⟨rx, 2, none⟩ (.int .u32 0)).setCell ⟨rx, 3, none⟩ (.int .u64 0)).setCell ⟨rx, 4, none⟩ (.int .u32 0)).setCell ⟨rx, 5, none⟩ (.int .u32 0)).setCell ⟨rx, 6, none⟩ (.int .u32 0)).setCell ⟨rx, 7, none⟩ (.slice none 0 0)).setCell ⟨rx, 8, none⟩ (.slice none 0 0)).setCell ⟨rx, 9, none⟩ (.slice none 0 0)).setCell ⟨rx, 10, none⟩ (.slice none 0 0)).setCell ⟨rx, 11, none⟩ (.int .u8 0))) := Lib.hid (MsgR.zero ((((((((((((HBX.setCell hrle _).setCell hrle _).setCell hrle _).setCell hrle _).setCell hrle _).setCell hrle _).setCell hrle _).setCell hrle _).setCell hrle _).setCell hrle _).setCell hrle _).setCell hrle _) (HPR.out.1 HGD.out))
      clear HBX M7 X7 HM6 HX6 HBX6 HAt b7 CWH CEH z0 z1 z2 z3 z4 z5 z6 z7 z8 z9 z10 z11
      go_wp2
      exact bodyPost_ret (v := .tuple #[.agg #[.int .i64 0, .int .u32 0, .int .u32 0, .int .u64 0, .int .u32 0, .int .u32 0, .int .u32 0, .slice none 0 0, .slice none 0 0, .slice none 0 0, .slice none 0 0, .int .u8 0], .int .i64 11]) (by simp [results, Tryd.results42, go_sem, q0, q1, q2, q3, q4, q5, q6, q7, q8, q9, q10, q11]) rfl HF.out
    | true =>
      have hAt7 := ((HAt.out.below b7 (Nat.le_refl _)).more b7.size)
      have v0 : w7.cell? ⟨gm, 0, none⟩ = some (.int .i64 m.kind) := M7.cell 0
      have v1 : w7.cell? ⟨gm, 1, none⟩ = some (.int .u32 (m.ssrc : Int)) := M7.cell 1
      have v2 : w7.cell? ⟨gm, 2, none⟩ = some (.int .u32 (m.media : Int)) := M7.cell 2
      have v3 : w7.cell? ⟨gm, 3, none⟩ = some (.int .u64 (m.clock : Int)) := M7.cell 3
      have v4 : w7.cell? ⟨gm, 4, none⟩ = some (.int .u32 (m.time : Int)) := M7.cell 4
      have v5 : w7.cell? ⟨gm, 5, none⟩ = some (.int .u32 (m.packets : Int)) := M7.cell 5
      have v6 : w7.cell? ⟨gm, 6, none⟩ = some (.int .u32 (m.bytes : Int)) := M7.cell 6
      have v7 : w7.cell? ⟨gm, 7, none⟩ = some (.slice s'.rA m.reps.length s'.rc) := M7.cell 7
      have v8 : w7.cell? ⟨gm, 8, none⟩ = some (.slice s'.wA m.who.length s'.wc) := M7.cell 8
      have v9 : w7.cell? ⟨gm, 9, none⟩ = some (.slice s'.pA m.pairs.length s'.pc) := M7.cell 9
      have v10 : w7.cell? ⟨gm, 10, none⟩ = some (.slice s'.aA m.asks.length s'.ac) := M7.cell 10
      have v11 : w7.cell? ⟨gm, 11, none⟩ = some (.int .u8 (m.typ : Int)) := M7.cell 11
      have hrn : rx < w5.heap.size := by omega
      have HF : Hid (MsgR pr w (.returned (.tuple #[.agg #[.int .i64 m.kind, .int .u32 (m.ssrc : Int), .int .u32 (m.media : Int), .int .u64 (m.clock : Int), .int .u32 (m.time : Int), .int .u32 (m.packets : Int), .int .u32 (m.bytes : Int), .slice s'.rA m.reps.length s'.rc, .slice s'.wA m.who.length s'.wc, .slice s'.pA m.pairs.length s'.pc, .slice s'.aA m.asks.length s'.ac, .int .u8 (m.typ : Int)], .int .i64 0])) ((((((((((((w7.setCell ⟨rx, 0, none⟩ (.int .i64 m.kind)).setCell ⟨rx, 1, none⟩ (.int .u32 (m.ssrc : Int))).setCell ⟨rx, 2, none⟩ (.int .u32 (m.media : Int))).setCell ⟨rx, 3, none⟩ (.int .u64 (m.clock : Int))).setCell ⟨rx, 4, none⟩ (.int .u32 (m.time : Int))).setCell ⟨rx, 5, none⟩ (.int .u32 (m.packets : Int))).setCell ⟨rx, 6, none⟩ (.int .u32 (m.bytes : Int))).setCell ⟨rx, 7, none⟩ (.slice s'.rA m.reps.length s'.rc)).setCell ⟨rx, 8, none⟩ (.slice s'.wA m.who.length s'.wc)).setCell ⟨rx, 9, none⟩ (.slice s'.pA m.pairs.length s'.pc)).setCell ⟨rx, 10, none⟩ (.slice s'.aA m.asks.length s'.ac)).setCell ⟨rx, 11, none⟩ (.int .u8 (m.typ : Int)))) := Lib.hid (by
        rw [HPR.out.2 HGD.out]
        exact ⟨s', rfl, ((((((((((((hAt7.setNew hNew hrn _ _).setNew hNew hrn _ _).setNew hNew hrn _ _).setNew hNew hrn _ _).setNew hNew hrn _ _).setNew hNew hrn _ _).setNew hNew hrn _ _).setNew hNew hrn _ _).setNew hNew hrn _ _).setNew hNew hrn _ _).setNew hNew hrn _ _).setNew hNew hrn _ _).more (by simp), hNew.less (by omega), hFits, ((((((((((((HBX.setCell hrle _).setCell hrle _).setCell hrle _).setCell hrle _).setCell hrle _).setCell hrle _).setCell hrle _).setCell hrle _).setCell hrle _).setCell hrle _).setCell hrle _).setCell hrle _)⟩)
      clear HBX M7 X7 HM6 HX6 HBX6 HAt b7 CWH CEH hAt7 hNew hFits z0 z1 z2 z3 z4 z5 z6 z7 z8 z9 z10 z11
      go_wp2
      exact bodyPost_ret (v := .tuple #[.agg #[.int .i64 m.kind, .int .u32 (m.ssrc : Int), .int .u32 (m.media : Int), .int .u64 (m.clock : Int), .int .u32 (m.time : Int), .int .u32 (m.packets : Int), .int .u32 (m.bytes : Int), .slice s'.rA m.reps.length s'.rc, .slice s'.wA m.who.length s'.wc, .slice s'.pA m.pairs.length s'.pc, .slice s'.aA m.asks.length s'.ac, .int .u8 (m.typ : Int)], .int .i64 0]) (by simp [results, Tryd.results42, go_sem, q0, q1, q2, q3, q4, q5, q6, q7, q8, q9, q10, q11]) rfl HF.out
  · rw [if_neg hz] at he
    subst he
    have CEH := Lib.hid CE.out
    have HPR := Lib.hid (HP1.out hz)
    have hX6 := HX6.out
    have HBX := HBX6.out
    have q0 : w6.cell? ⟨rx, 0, none⟩ = some (.int .i64 0) := hX6.cell 0
    have f0 : w6.frozen? ⟨rx, 0, none⟩ = false := hX6.free 0
    have q1 : w6.cell? ⟨rx, 1, none⟩ = some (.int .u32 0) := hX6.cell 1
    have f1 : w6.frozen? ⟨rx, 1, none⟩ = false := hX6.free 1
    have q2 : w6.cell? ⟨rx, 2, none⟩ = some (.int .u32 0) := hX6.cell 2
    have f2 : w6.frozen? ⟨rx, 2, none⟩ = false := hX6.free 2
    have q3 : w6.cell? ⟨rx, 3, none⟩ = some (.int .u64 0) := hX6.cell 3
    have f3 : w6.frozen? ⟨rx, 3, none⟩ = false := hX6.free 3
    have q4 : w6.cell? ⟨rx, 4, none⟩ = some (.int .u32 0) := hX6.cell 4
    have f4 : w6.frozen? ⟨rx, 4, none⟩ = false := hX6.free 4
    have q5 : w6.cell? ⟨rx, 5, none⟩ = some (.int .u32 0) := hX6.cell 5
    have f5 : w6.frozen? ⟨rx, 5, none⟩ = false := hX6.free 5
    have q6 : w6.cell? ⟨rx, 6, none⟩ = some (.int .u32 0) := hX6.cell 6
    have f6 : w6.frozen? ⟨rx, 6, none⟩ = false := hX6.free 6
    have q7 : w6.cell? ⟨rx, 7, none⟩ = some (.slice none 0 0) := hX6.cell 7
    have f7 : w6.frozen? ⟨rx, 7, none⟩ = false := hX6.free 7
    have q8 : w6.cell? ⟨rx, 8, none⟩ = some (.slice none 0 0) := hX6.cell 8
    have f8 : w6.frozen? ⟨rx, 8, none⟩ = false := hX6.free 8
    have q9 : w6.cell? ⟨rx, 9, none⟩ = some (.slice none 0 0) := hX6.cell 9
    have f9 : w6.frozen? ⟨rx, 9, none⟩ = false := hX6.free 9
    have q10 : w6.cell? ⟨rx, 10, none⟩ = some (.slice none 0 0) := hX6.cell 10
    have f10 : w6.frozen? ⟨rx, 10, none⟩ = false := hX6.free 10
    have q11 : w6.cell? ⟨rx, 11, none⟩ = some (.int .u8 0) := hX6.cell 11
    have f11 : w6.frozen? ⟨rx, 11, none⟩ = false := hX6.free 11
    have HF : Hid (MsgR pr w (.returned (.tuple #[.agg #[.int .i64 0, .int .u32 0, .int .u32 0, .int .u64 0, .int .u32 0, .int .u32 0, .int .u32 0, .slice none 0 0, .slice none 0 0, .slice none 0 0, .slice none 0 0, .int .u8 0], .int .i64 10])) ((((((((((((w6.setCell ⟨rx, 0, none⟩ (.int .i64 0)).setCell ⟨rx, 1, none⟩ (.int .u32 0)).setCell ⟨rx, 2, none⟩ (.int .u32 0)).setCell ⟨rx, 3, none⟩ (.int .u64 0)).setCell ⟨rx, 4, none⟩ (.int .u32 0)).setCell ⟨rx, 5, none⟩ (.int .u32 0)).setCell ⟨rx, 6, none⟩ (.int .u32 0)).setCell ⟨rx, 7, none⟩ (.slice none 0 0)).setCell ⟨rx, 8, none⟩ (.slice none 0 0)).setCell ⟨rx, 9, none⟩ (.slice none 0 0)).setCell ⟨rx, 10, none⟩ (.slice none 0 0)).setCell ⟨rx, 11, none⟩ (.int .u8 0))) := Lib.hid (MsgR.zero ((((((((((((HBX.setCell hrle _).setCell hrle _).setCell hrle _).setCell hrle _).setCell hrle _).setCell hrle _).setCell hrle _).setCell hrle _).setCell hrle _).setCell hrle _).setCell hrle _).setCell hrle _) HPR.out)
    clear HBX HM6 HX6 HBX6 HAt CE HP1 HP2 HP3 hm hX6
    go_wp2_with fail
    refine CEH.out.mono ?_
    rintro e w6b ⟨rfl, rfl⟩
    go_wp2_with fail
    refine CEH.out.mono ?_
    rintro e w6c ⟨rfl, rfl⟩
    clear CEH
    go_wp2
    exact bodyPost_ret (v := .tuple #[.agg #[.int .i64 0, .int .u32 0, .int .u32 0, .int .u64 0, .int .u32 0, .int .u32 0, .int .u32 0, .slice none 0 0, .slice none 0 0, .slice none 0 0, .slice none 0 0, .int .u8 0], .int .i64 10]) (by simp [results, Tryd.results42, go_sem, q0, q1, q2, q3, q4, q5, q6, q7, q8, q9, q10, q11]) rfl HF.out

set_option maxHeartbeats 6400000 in
theorem msgOf1_any (A : Option Addr) (cp n t c : Nat) (s : List UInt8) (w : World) (hF : Forms w) (h : Row w w.heap.size 1 A n (u8s s)) (hn : s.length = n) (hl : n ≤ 2000) (hc : c < 32) (hk : kf t c = 1) (hp1 : ¬ 4 + 24 * c ≤ s.length → readM t c s = (zeroM, 10)) (hp2 : 4 + 24 * c ≤ s.length → Ms.good (⟨1, numAt s 0 4, 0, 0, 0, 0, 0, rdReps s 4 c, [], [], [], 0⟩) = false → readM t c s = (zeroM, 11)) (hp3 : 4 + 24 * c ≤ s.length → Ms.good (⟨1, numAt s 0 4, 0, 0, 0, 0, 0, rdReps s 4 c, [], [], [], 0⟩) = true → readM t c s = (⟨1, numAt s 0 4, 0, 0, 0, 0, 0, rdReps s 4 c, [], [], [], 0⟩, 0)) :
    Calls Tryd.prog 42 #[.int .u8 (t : Int), .int .u8 (c : Int), .slice A n cp] w (MsgR (readM t c s) w) := by
  obtain ⟨pr, hpr⟩ : ∃ pr, readM t c s = pr := ⟨_, rfl⟩
  rw [hpr] at hp1 hp2 hp3 ⊢
  have HP1 := Lib.hid hp1
  have HP2 := Lib.hid hp2
  have HP3 := Lib.hid hp3
  have B0 := (Below.refl w.heap.size w).alloc (Nat.le_refl _) (.cells #[.int .i64 0, .int .u32 0, .int .u32 0, .int .u64 0, .int .u32 0, .int .u32 0, .int .u32 0, .slice none 0 0, .slice none 0 0, .slice none 0 0, .slice none 0 0, .int .u8 0] 59)
  have W6 := Whole.new w 59 #[.int .i64 0, .int .u32 0, .int .u32 0, .int .u64 0, .int .u32 0, .int .u32 0, .int .u32 0, .slice none 0 0, .slice none 0 0, .slice none 0 0, .slice none 0 0, .int .u8 0]
  obtain ⟨w0, hw0⟩ : ∃ w0, w.alloc (.cells #[.int .i64 0, .int .u32 0, .int .u32 0, .int .u64 0, .int .u32 0, .int .u32 0, .int .u32 0, .slice none 0 0, .slice none 0 0, .slice none 0 0, .slice none 0 0, .int .u8 0] 59) = w0 := ⟨_, rfl⟩
  rw [hw0] at B0 W6
  obtain ⟨rx, hrx⟩ : ∃ rx, w.heap.size = rx := ⟨_, rfl⟩
  have CK := kindOf_any t c w0 (hF.next B0)
  rw [hk] at CK
  have H := Lib.hid h
  have HN := Lib.hid hn
  have HB0 := Lib.hid B0
  have hrx0 : rx < w0.heap.size := by rw [← hrx]; exact W6.lt
  have HW6 := Lib.hid W6
  clear h hn B0 W6 hF hk hp1 hp2 hp3 hpr
  go_enter Tryd.func42, Tryd.ntmps42
  go_wp2_with fail
  clear hw0
  refine CK.mono ?_
  rintro e w1 ⟨rfl, b1⟩
  have hs1 := b1.size
  have b2 := b1.alloc b1.size (.cells #[.int .i64 1, .int .u32 0, .int .u32 0, .int .u64 0, .int .u32 0, .int .u32 0, .int .u32 0, .slice none 0 0, .slice none 0 0, .slice none 0 0, .slice none 0 0, .int .u8 0] 59)
  have WM := Whole.new w1 59 #[.int .i64 1, .int .u32 0, .int .u32 0, .int .u64 0, .int .u32 0, .int .u32 0, .int .u32 0, .slice none 0 0, .slice none 0 0, .slice none 0 0, .slice none 0 0, .int .u8 0]
  obtain ⟨w2, hw2⟩ : ∃ w2, w1.alloc (.cells #[.int .i64 1, .int .u32 0, .int .u32 0, .int .u64 0, .int .u32 0, .int .u32 0, .int .u32 0, .slice none 0 0, .slice none 0 0, .slice none 0 0, .slice none 0 0, .int .u8 0] 59) = w2 := ⟨_, rfl⟩
  rw [hw2] at b2 WM
  obtain ⟨gm, hgm⟩ : ∃ gm, w1.heap.size = gm := ⟨_, rfl⟩
  rw [hgm] at WM
  have hgm2 : w2.heap.size = gm + 1 := by rw [← hw2, ← hgm]; simp
  have c0 : w2.cell? ⟨gm, 0, none⟩ = some (.int .i64 1) := WM.cell 0
  have B2 := bnextA HB0.out b2
  have CN := new_any A n cp s w2 (((H.out.below B2 (Nat.le_refl _))).more B2.size) (by omega)
  have HW2 := Lib.hid hw2
  have b1s := b2
  clear CK b1 hw2
  go_wp2_with fail
  rw [HW2.out]
  clear HW2
  refine CN.mono ?_
  rintro e w3 ⟨g, rfl, hg3, hc3, b3⟩
  have hg3l := hc3.lt
  have WM3 := WM.below b3 WM.lt
  have b4 := b3.alloc b3.size (.cells #[.pointer (some ⟨g, 0, none⟩)] 74)
  have hc4 := hc3.alloc (.cells #[.pointer (some ⟨g, 0, none⟩)] 74)
  have WM4 := WM3.alloc (.cells #[.pointer (some ⟨g, 0, none⟩)] 74)
  have WR4 := Whole.new w3 74 #[.pointer (some ⟨g, 0, none⟩)]
  have hs3 := b3.size
  have hs4 : (w3.alloc (.cells #[.pointer (some ⟨g, 0, none⟩)] 74)).heap.size = w3.heap.size + 1 := by simp
  obtain ⟨w4, hw4⟩ : ∃ w4, w3.alloc (.cells #[.pointer (some ⟨g, 0, none⟩)] 74) = w4 := ⟨_, rfl⟩
  rw [hw4] at b4 hc4 WM4 WR4 hs4
  obtain ⟨br, hbr⟩ : ∃ br, w3.heap.size = br := ⟨_, rfl⟩
  rw [hbr] at WR4 hs4 hs3 hg3l
  have B4 := bnextA B2 b4
  have HX4 := Lib.hid ((HW6.out.below b1s (Nat.lt_of_lt_of_le HW6.out.lt (Nat.le_refl _))).below b4 (by omega))
  obtain ⟨bq, hbq⟩ : ∃ bq, w4.heap.size = bq := ⟨_, rfl⟩
  have CB := Lib.hid ((bodies_any g gm c w4.drew).mono fun e w' hh => bodied_at hh (show w4.drew.heap.size = bq from hbq))
  have hbqr : br + 1 = bq := by rw [← hbq, hs4]
  have d0 : w4.cell? ⟨gm, 0, none⟩ = some (.int .i64 1) := WM4.cell 0
  have d1 : w4.cell? ⟨br, 0, none⟩ = some (.pointer (some ⟨g, 0, none⟩)) := WR4.cell 0
  have HWM4 := Lib.hid WM4
  have HWR4 := Lib.hid WR4
  have HC4 := Lib.hid hc4
  have HB4 := Lib.hid B4
  have hcw : IntKind.i64.wrap (c : Int) = (c : Int) := IntWalk.i64_in _ (by omega)
  have KP := Lib.hid (fun w' (b : Below w4.heap.size w4 w') => show w'.cell? ⟨gm, 0, none⟩ = some (.int .i64 1) ∧ w'.cell? ⟨br, 0, none⟩ = some (.pointer (some ⟨g, 0, none⟩)) from ⟨(HWM4.out.below b HWM4.out.lt).cell 0, (HWR4.out.below b HWR4.out.lt).cell 0⟩)
  have HW4 := Lib.hid hw4
  clear WM WM3 WM4 WR4 hc3 hc4 B2 B4 b2 b3 b4 CN c0 hw4
  go_wp2_with fail
  rw [HW4.out]
  clear HW4
  go_region_held3 (fun w' => w'.cell? ⟨gm, 0, none⟩ = some (.int .i64 1) ∧ w'.cell? ⟨br, 0, none⟩ = some (.pointer (some ⟨g, 0, none⟩)))
    (first | with_reducible exact KP.out _ bb5 | with_reducible exact KP.out _ (Below.refl _ _).drew | go_keep)
    (first
      | (go_at_call 57; refine CB.out.mono ?_; rintro e w5 ⟨mp, rfl, b5, V3, V4, V5, LK⟩; have bb5 : Below w4.heap.size w4 w5 := (by rw [hbq]; exact (Below.refl bq w4).drew.trans b5); have lk : (Instr.lookup 124 (.map (some mp)) (.int .i64 1) false).run Tryd.prog w5 = .ok (.func (.func 66) #[] #[.pointer (some ⟨bq, 0, none⟩), .pointer (some ⟨bq + 1, 0, none⟩), .pointer (some ⟨bq + 2, 0, none⟩)]) w5 := LK 1 (by decide)))
  have hM5 := HWM4.out.below bb5 HWM4.out.lt
  have hC5 := HC4.out.below bb5 (by rw [hs4]; omega)
  have hR5 := HWR4.out.below bb5 HWR4.out.lt
  have hX5 : Whole w5 rx 59 #[.int .i64 0, .int .u32 0, .int .u32 0, .int .u64 0, .int .u32 0, .int .u32 0, .int .u32 0, .slice none 0 0, .slice none 0 0, .slice none 0 0, .slice none 0 0, .int .u8 0] := by rw [← hrx]; exact HX4.out.below bb5 HX4.out.lt
  have CR := Lib.hid (read2_any gm g bq (bq + 1) (bq + 2) c s w5 hM5 hC5 V3 V4 V5 hc (by rw [HN.out]; exact hl) (by omega) (by omega) (by omega) (by omega) (by omega))
  have HB5 := Lib.hid (bnextA HB4.out bb5)
  have hs5 := bb5.size
  have HR5 := Lib.hid hR5
  have HX5 := Lib.hid hX5
  clear hM5 hC5 hR5 hX5 V3 V4 V5 LK b5 bb5 CB KP HWM4 HWR4 HC4 HB4 HX4
  go_wp2_with fail
  refine CR.out.mono ?_
  rintro e w6 ⟨m, s', l', e', rfl, hM, hAt, hNew, hFits, hm, he, hC, hP⟩
  have hR6 := HR5.out.prt hP (by omega) (by omega)
  have hX6 := HX5.out.prt hP (by omega) (by omega)
  have hB6 := HB5.out.trans (hP.below (B := w.heap.size) (by have := HB5.out.size; omega) (by omega) (by omega))
  have y1 : w6.cell? ⟨br, 0, none⟩ = some (.pointer (some ⟨g, 0, none⟩)) := hR6.cell 0
  have HM6 := Lib.hid hM
  have HAt := Lib.hid hAt
  have hrle : w.heap.size ≤ rx := Nat.le_of_eq hrx
  have HBX6 := Lib.hid hB6
  have CE := Lib.hid (err_any g l' e' w6 hC)
  have HX6 := Lib.hid hX6
  have HPS := hP.size
  clear CR hM hAt hC hP hR6 hX6 hB6 HR5 HX5 HB5 lk
  by_cases hz : 4 + 24 * c ≤ s.length
  · rw [if_pos hz] at he
    subst he
    have hmm : m = ⟨1, numAt s 0 4, 0, 0, 0, 0, 0, rdReps s 4 c, [], [], [], 0⟩ := hm rfl
    have CE0 := CE.out
    have CW := isWrong_any m s' w6
    have hpr : (m.good = false → pr = (zeroM, 11)) ∧ (m.good = true → pr = (m, 0)) := ⟨fun hg => HP2.out hz (hmm ▸ hg), fun hg => (HP3.out hz (hmm ▸ hg)).trans (by rw [hmm])⟩
    have HPR := Lib.hid hpr
    obtain ⟨gd, hgd⟩ : ∃ b, m.good = b := ⟨_, rfl⟩
    rw [hgd] at CW
    have HGD := Lib.hid hgd
    have CWH : Hid (Calls Tryd.prog 22 #[.agg #[.int .i64 m.kind, .int .u32 (m.ssrc : Int), .int .u32 (m.media : Int), .int .u64 (m.clock : Int), .int .u32 (m.time : Int), .int .u32 (m.packets : Int), .int .u32 (m.bytes : Int), .slice s'.rA m.reps.length s'.rc, .slice s'.wA m.who.length s'.wc, .slice s'.pA m.pairs.length s'.pc, .slice s'.aA m.asks.length s'.ac, .int .u8 (m.typ : Int)]] w6 fun e w' => e = .returned (.bool (!gd)) ∧ Below w6.heap.size w6 w') := CW
    have CEH := Lib.hid CE0
    have z0 : w6.cell? ⟨gm, 0, none⟩ = some (.int .i64 m.kind) := HM6.out.cell 0
    have z1 : w6.cell? ⟨gm, 1, none⟩ = some (.int .u32 (m.ssrc : Int)) := HM6.out.cell 1
    have z2 : w6.cell? ⟨gm, 2, none⟩ = some (.int .u32 (m.media : Int)) := HM6.out.cell 2
    have z3 : w6.cell? ⟨gm, 3, none⟩ = some (.int .u64 (m.clock : Int)) := HM6.out.cell 3
    have z4 : w6.cell? ⟨gm, 4, none⟩ = some (.int .u32 (m.time : Int)) := HM6.out.cell 4
    have z5 : w6.cell? ⟨gm, 5, none⟩ = some (.int .u32 (m.packets : Int)) := HM6.out.cell 5
    have z6 : w6.cell? ⟨gm, 6, none⟩ = some (.int .u32 (m.bytes : Int)) := HM6.out.cell 6
    have z7 : w6.cell? ⟨gm, 7, none⟩ = some (.slice s'.rA m.reps.length s'.rc) := HM6.out.cell 7
    have z8 : w6.cell? ⟨gm, 8, none⟩ = some (.slice s'.wA m.who.length s'.wc) := HM6.out.cell 8
    have z9 : w6.cell? ⟨gm, 9, none⟩ = some (.slice s'.pA m.pairs.length s'.pc) := HM6.out.cell 9
    have z10 : w6.cell? ⟨gm, 10, none⟩ = some (.slice s'.aA m.asks.length s'.ac) := HM6.out.cell 10
    have z11 : w6.cell? ⟨gm, 11, none⟩ = some (.int .u8 (m.typ : Int)) := HM6.out.cell 11
    clear CW CE0 hmm hm hpr hgd CE HP1 HP2 HP3
    go_wp2_with fail
    refine CEH.out.mono ?_
    rintro e w6b ⟨rfl, rfl⟩
    go_wp2_with fail
    refine CWH.out.mono ?_
    rintro e w7 ⟨rfl, b7⟩
    have M7 := HM6.out.below b7 HM6.out.lt
    have X7 := HX6.out.below b7 HX6.out.lt
    have HBX := bnextA HBX6.out b7
    have q0 : w7.cell? ⟨rx, 0, none⟩ = some (.int .i64 0) := X7.cell 0
    have f0 : w7.frozen? ⟨rx, 0, none⟩ = false := X7.free 0
    have q1 : w7.cell? ⟨rx, 1, none⟩ = some (.int .u32 0) := X7.cell 1
    have f1 : w7.frozen? ⟨rx, 1, none⟩ = false := X7.free 1
    have q2 : w7.cell? ⟨rx, 2, none⟩ = some (.int .u32 0) := X7.cell 2
    have f2 : w7.frozen? ⟨rx, 2, none⟩ = false := X7.free 2
    have q3 : w7.cell? ⟨rx, 3, none⟩ = some (.int .u64 0) := X7.cell 3
    have f3 : w7.frozen? ⟨rx, 3, none⟩ = false := X7.free 3
    have q4 : w7.cell? ⟨rx, 4, none⟩ = some (.int .u32 0) := X7.cell 4
    have f4 : w7.frozen? ⟨rx, 4, none⟩ = false := X7.free 4
    have q5 : w7.cell? ⟨rx, 5, none⟩ = some (.int .u32 0) := X7.cell 5
    have f5 : w7.frozen? ⟨rx, 5, none⟩ = false := X7.free 5
    have q6 : w7.cell? ⟨rx, 6, none⟩ = some (.int .u32 0) := X7.cell 6
    have f6 : w7.frozen? ⟨rx, 6, none⟩ = false := X7.free 6
    have q7 : w7.cell? ⟨rx, 7, none⟩ = some (.slice none 0 0) := X7.cell 7
    have f7 : w7.frozen? ⟨rx, 7, none⟩ = false := X7.free 7
    have q8 : w7.cell? ⟨rx, 8, none⟩ = some (.slice none 0 0) := X7.cell 8
    have f8 : w7.frozen? ⟨rx, 8, none⟩ = false := X7.free 8
    have q9 : w7.cell? ⟨rx, 9, none⟩ = some (.slice none 0 0) := X7.cell 9
    have f9 : w7.frozen? ⟨rx, 9, none⟩ = false := X7.free 9
    have q10 : w7.cell? ⟨rx, 10, none⟩ = some (.slice none 0 0) := X7.cell 10
    have f10 : w7.frozen? ⟨rx, 10, none⟩ = false := X7.free 10
    have q11 : w7.cell? ⟨rx, 11, none⟩ = some (.int .u8 0) := X7.cell 11
    have f11 : w7.frozen? ⟨rx, 11, none⟩ = false := X7.free 11
    cases gd with
    | false =>
      have HF : Hid (MsgR pr w (.returned (.tuple #[.agg #[.int .i64 0, .int .u32 0, .int .u32 0, .int .u64 0, .int .u32 0, .int .u32 0, .int .u32 0, .slice none 0 0, .slice none 0 0, .slice none 0 0, .slice none 0 0, .int .u8 0], .int .i64 11])) ((((((((((((w7.setCell ⟨rx, 0, none⟩ (.int .i64 0)).setCell ⟨rx, 1, none⟩ (.int .u32 0)).setCell ⟨rx, 2, none⟩ (.int .u32 0)).setCell ⟨rx, 3, none⟩ (.int .u64 0)).setCell ⟨rx, 4, none⟩ (.int .u32 0)).setCell ⟨rx, 5, none⟩ (.int .u32 0)).setCell ⟨rx, 6, none⟩ (.int .u32 0)).setCell ⟨rx, 7, none⟩ (.slice none 0 0)).setCell ⟨rx, 8, none⟩ (.slice none 0 0)).setCell ⟨rx, 9, none⟩ (.slice none 0 0)).setCell ⟨rx, 10, none⟩ (.slice none 0 0)).setCell ⟨rx, 11, none⟩ (.int .u8 0))) := Lib.hid (MsgR.zero ((((((((((((HBX.setCell hrle _).setCell hrle _).setCell hrle _).setCell hrle _).setCell hrle _).setCell hrle _).setCell hrle _).setCell hrle _).setCell hrle _).setCell hrle _).setCell hrle _).setCell hrle _) (HPR.out.1 HGD.out))
      clear HBX M7 X7 HM6 HX6 HBX6 HAt b7 CWH CEH z0 z1 z2 z3 z4 z5 z6 z7 z8 z9 z10 z11
      go_wp2
      exact bodyPost_ret (v := .tuple #[.agg #[.int .i64 0, .int .u32 0, .int .u32 0, .int .u64 0, .int .u32 0, .int .u32 0, .int .u32 0, .slice none 0 0, .slice none 0 0, .slice none 0 0, .slice none 0 0, .int .u8 0], .int .i64 11]) (by simp [results, Tryd.results42, go_sem, q0, q1, q2, q3, q4, q5, q6, q7, q8, q9, q10, q11]) rfl HF.out
    | true =>
      have hAt7 := ((HAt.out.below b7 (Nat.le_refl _)).more b7.size)
      have v0 : w7.cell? ⟨gm, 0, none⟩ = some (.int .i64 m.kind) := M7.cell 0
      have v1 : w7.cell? ⟨gm, 1, none⟩ = some (.int .u32 (m.ssrc : Int)) := M7.cell 1
      have v2 : w7.cell? ⟨gm, 2, none⟩ = some (.int .u32 (m.media : Int)) := M7.cell 2
      have v3 : w7.cell? ⟨gm, 3, none⟩ = some (.int .u64 (m.clock : Int)) := M7.cell 3
      have v4 : w7.cell? ⟨gm, 4, none⟩ = some (.int .u32 (m.time : Int)) := M7.cell 4
      have v5 : w7.cell? ⟨gm, 5, none⟩ = some (.int .u32 (m.packets : Int)) := M7.cell 5
      have v6 : w7.cell? ⟨gm, 6, none⟩ = some (.int .u32 (m.bytes : Int)) := M7.cell 6
      have v7 : w7.cell? ⟨gm, 7, none⟩ = some (.slice s'.rA m.reps.length s'.rc) := M7.cell 7
      have v8 : w7.cell? ⟨gm, 8, none⟩ = some (.slice s'.wA m.who.length s'.wc) := M7.cell 8
      have v9 : w7.cell? ⟨gm, 9, none⟩ = some (.slice s'.pA m.pairs.length s'.pc) := M7.cell 9
      have v10 : w7.cell? ⟨gm, 10, none⟩ = some (.slice s'.aA m.asks.length s'.ac) := M7.cell 10
      have v11 : w7.cell? ⟨gm, 11, none⟩ = some (.int .u8 (m.typ : Int)) := M7.cell 11
      have hrn : rx < w5.heap.size := by omega
      have HF : Hid (MsgR pr w (.returned (.tuple #[.agg #[.int .i64 m.kind, .int .u32 (m.ssrc : Int), .int .u32 (m.media : Int), .int .u64 (m.clock : Int), .int .u32 (m.time : Int), .int .u32 (m.packets : Int), .int .u32 (m.bytes : Int), .slice s'.rA m.reps.length s'.rc, .slice s'.wA m.who.length s'.wc, .slice s'.pA m.pairs.length s'.pc, .slice s'.aA m.asks.length s'.ac, .int .u8 (m.typ : Int)], .int .i64 0])) ((((((((((((w7.setCell ⟨rx, 0, none⟩ (.int .i64 m.kind)).setCell ⟨rx, 1, none⟩ (.int .u32 (m.ssrc : Int))).setCell ⟨rx, 2, none⟩ (.int .u32 (m.media : Int))).setCell ⟨rx, 3, none⟩ (.int .u64 (m.clock : Int))).setCell ⟨rx, 4, none⟩ (.int .u32 (m.time : Int))).setCell ⟨rx, 5, none⟩ (.int .u32 (m.packets : Int))).setCell ⟨rx, 6, none⟩ (.int .u32 (m.bytes : Int))).setCell ⟨rx, 7, none⟩ (.slice s'.rA m.reps.length s'.rc)).setCell ⟨rx, 8, none⟩ (.slice s'.wA m.who.length s'.wc)).setCell ⟨rx, 9, none⟩ (.slice s'.pA m.pairs.length s'.pc)).setCell ⟨rx, 10, none⟩ (.slice s'.aA m.asks.length s'.ac)).setCell ⟨rx, 11, none⟩ (.int .u8 (m.typ : Int)))) := Lib.hid (by
        rw [HPR.out.2 HGD.out]
        exact ⟨s', rfl, ((((((((((((hAt7.setNew hNew hrn _ _).setNew hNew hrn _ _).setNew hNew hrn _ _).setNew hNew hrn _ _).setNew hNew hrn _ _).setNew hNew hrn _ _).setNew hNew hrn _ _).setNew hNew hrn _ _).setNew hNew hrn _ _).setNew hNew hrn _ _).setNew hNew hrn _ _).setNew hNew hrn _ _).more (by simp), hNew.less (by omega), hFits, ((((((((((((HBX.setCell hrle _).setCell hrle _).setCell hrle _).setCell hrle _).setCell hrle _).setCell hrle _).setCell hrle _).setCell hrle _).setCell hrle _).setCell hrle _).setCell hrle _).setCell hrle _)⟩)
      clear HBX M7 X7 HM6 HX6 HBX6 HAt b7 CWH CEH hAt7 hNew hFits z0 z1 z2 z3 z4 z5 z6 z7 z8 z9 z10 z11
      go_wp2
      exact bodyPost_ret (v := .tuple #[.agg #[.int .i64 m.kind, .int .u32 (m.ssrc : Int), .int .u32 (m.media : Int), .int .u64 (m.clock : Int), .int .u32 (m.time : Int), .int .u32 (m.packets : Int), .int .u32 (m.bytes : Int), .slice s'.rA m.reps.length s'.rc, .slice s'.wA m.who.length s'.wc, .slice s'.pA m.pairs.length s'.pc, .slice s'.aA m.asks.length s'.ac, .int .u8 (m.typ : Int)], .int .i64 0]) (by simp [results, Tryd.results42, go_sem, q0, q1, q2, q3, q4, q5, q6, q7, q8, q9, q10, q11]) rfl HF.out
  · rw [if_neg hz] at he
    subst he
    have CEH := Lib.hid CE.out
    have HPR := Lib.hid (HP1.out hz)
    have hX6 := HX6.out
    have HBX := HBX6.out
    have q0 : w6.cell? ⟨rx, 0, none⟩ = some (.int .i64 0) := hX6.cell 0
    have f0 : w6.frozen? ⟨rx, 0, none⟩ = false := hX6.free 0
    have q1 : w6.cell? ⟨rx, 1, none⟩ = some (.int .u32 0) := hX6.cell 1
    have f1 : w6.frozen? ⟨rx, 1, none⟩ = false := hX6.free 1
    have q2 : w6.cell? ⟨rx, 2, none⟩ = some (.int .u32 0) := hX6.cell 2
    have f2 : w6.frozen? ⟨rx, 2, none⟩ = false := hX6.free 2
    have q3 : w6.cell? ⟨rx, 3, none⟩ = some (.int .u64 0) := hX6.cell 3
    have f3 : w6.frozen? ⟨rx, 3, none⟩ = false := hX6.free 3
    have q4 : w6.cell? ⟨rx, 4, none⟩ = some (.int .u32 0) := hX6.cell 4
    have f4 : w6.frozen? ⟨rx, 4, none⟩ = false := hX6.free 4
    have q5 : w6.cell? ⟨rx, 5, none⟩ = some (.int .u32 0) := hX6.cell 5
    have f5 : w6.frozen? ⟨rx, 5, none⟩ = false := hX6.free 5
    have q6 : w6.cell? ⟨rx, 6, none⟩ = some (.int .u32 0) := hX6.cell 6
    have f6 : w6.frozen? ⟨rx, 6, none⟩ = false := hX6.free 6
    have q7 : w6.cell? ⟨rx, 7, none⟩ = some (.slice none 0 0) := hX6.cell 7
    have f7 : w6.frozen? ⟨rx, 7, none⟩ = false := hX6.free 7
    have q8 : w6.cell? ⟨rx, 8, none⟩ = some (.slice none 0 0) := hX6.cell 8
    have f8 : w6.frozen? ⟨rx, 8, none⟩ = false := hX6.free 8
    have q9 : w6.cell? ⟨rx, 9, none⟩ = some (.slice none 0 0) := hX6.cell 9
    have f9 : w6.frozen? ⟨rx, 9, none⟩ = false := hX6.free 9
    have q10 : w6.cell? ⟨rx, 10, none⟩ = some (.slice none 0 0) := hX6.cell 10
    have f10 : w6.frozen? ⟨rx, 10, none⟩ = false := hX6.free 10
    have q11 : w6.cell? ⟨rx, 11, none⟩ = some (.int .u8 0) := hX6.cell 11
    have f11 : w6.frozen? ⟨rx, 11, none⟩ = false := hX6.free 11
    have HF : Hid (MsgR pr w (.returned (.tuple #[.agg #[.int .i64 0, .int .u32 0, .int .u32 0, .int .u64 0, .int .u32 0, .int .u32 0, .int .u32 0, .slice none 0 0, .slice none 0 0, .slice none 0 0, .slice none 0 0, .int .u8 0], .int .i64 10])) ((((((((((((w6.setCell ⟨rx, 0, none⟩ (.int .i64 0)).setCell ⟨rx, 1, none⟩ (.int .u32 0)).setCell ⟨rx, 2, none⟩ (.int .u32 0)).setCell ⟨rx, 3, none⟩ (.int .u64 0)).setCell ⟨rx, 4, none⟩ (.int .u32 0)).setCell ⟨rx, 5, none⟩ (.int .u32 0)).setCell ⟨rx, 6, none⟩ (.int .u32 0)).setCell ⟨rx, 7, none⟩ (.slice none 0 0)).setCell ⟨rx, 8, none⟩ (.slice none 0 0)).setCell ⟨rx, 9, none⟩ (.slice none 0 0)).setCell ⟨rx, 10, none⟩ (.slice none 0 0)).setCell ⟨rx, 11, none⟩ (.int .u8 0))) := Lib.hid (MsgR.zero ((((((((((((HBX.setCell hrle _).setCell hrle _).setCell hrle _).setCell hrle _).setCell hrle _).setCell hrle _).setCell hrle _).setCell hrle _).setCell hrle _).setCell hrle _).setCell hrle _).setCell hrle _) HPR.out)
    clear HBX HM6 HX6 HBX6 HAt CE HP1 HP2 HP3 hm hX6
    go_wp2_with fail
    refine CEH.out.mono ?_
    rintro e w6b ⟨rfl, rfl⟩
    go_wp2_with fail
    refine CEH.out.mono ?_
    rintro e w6c ⟨rfl, rfl⟩
    clear CEH
    go_wp2
    exact bodyPost_ret (v := .tuple #[.agg #[.int .i64 0, .int .u32 0, .int .u32 0, .int .u64 0, .int .u32 0, .int .u32 0, .int .u32 0, .slice none 0 0, .slice none 0 0, .slice none 0 0, .slice none 0 0, .int .u8 0], .int .i64 10]) (by simp [results, Tryd.results42, go_sem, q0, q1, q2, q3, q4, q5, q6, q7, q8, q9, q10, q11]) rfl HF.out

set_option maxHeartbeats 6400000 in
theorem msgOf2_any (A : Option Addr) (cp n t c : Nat) (s : List UInt8) (w : World) (hF : Forms w) (h : Row w w.heap.size 1 A n (u8s s)) (hn : s.length = n) (hl : n ≤ 2000) (hc : c < 32) (hk : kf t c = 2) (hp1 : ¬ 4 * c ≤ s.length → readM t c s = (zeroM, 10)) (hp2 : 4 * c ≤ s.length → Ms.good (⟨2, 0, 0, 0, 0, 0, 0, [], rdWho s c, [], [], 0⟩) = false → readM t c s = (zeroM, 11)) (hp3 : 4 * c ≤ s.length → Ms.good (⟨2, 0, 0, 0, 0, 0, 0, [], rdWho s c, [], [], 0⟩) = true → readM t c s = (⟨2, 0, 0, 0, 0, 0, 0, [], rdWho s c, [], [], 0⟩, 0)) :
    Calls Tryd.prog 42 #[.int .u8 (t : Int), .int .u8 (c : Int), .slice A n cp] w (MsgR (readM t c s) w) := by
  obtain ⟨pr, hpr⟩ : ∃ pr, readM t c s = pr := ⟨_, rfl⟩
  rw [hpr] at hp1 hp2 hp3 ⊢
  have HP1 := Lib.hid hp1
  have HP2 := Lib.hid hp2
  have HP3 := Lib.hid hp3
  have B0 := (Below.refl w.heap.size w).alloc (Nat.le_refl _) (.cells #[.int .i64 0, .int .u32 0, .int .u32 0, .int .u64 0, .int .u32 0, .int .u32 0, .int .u32 0, .slice none 0 0, .slice none 0 0, .slice none 0 0, .slice none 0 0, .int .u8 0] 59)
  have W6 := Whole.new w 59 #[.int .i64 0, .int .u32 0, .int .u32 0, .int .u64 0, .int .u32 0, .int .u32 0, .int .u32 0, .slice none 0 0, .slice none 0 0, .slice none 0 0, .slice none 0 0, .int .u8 0]
  obtain ⟨w0, hw0⟩ : ∃ w0, w.alloc (.cells #[.int .i64 0, .int .u32 0, .int .u32 0, .int .u64 0, .int .u32 0, .int .u32 0, .int .u32 0, .slice none 0 0, .slice none 0 0, .slice none 0 0, .slice none 0 0, .int .u8 0] 59) = w0 := ⟨_, rfl⟩
  rw [hw0] at B0 W6
  obtain ⟨rx, hrx⟩ : ∃ rx, w.heap.size = rx := ⟨_, rfl⟩
  have CK := kindOf_any t c w0 (hF.next B0)
  rw [hk] at CK
  have H := Lib.hid h
  have HN := Lib.hid hn
  have HB0 := Lib.hid B0
  have hrx0 : rx < w0.heap.size := by rw [← hrx]; exact W6.lt
  have HW6 := Lib.hid W6
  clear h hn B0 W6 hF hk hp1 hp2 hp3 hpr
  go_enter Tryd.func42, Tryd.ntmps42
  go_wp2_with fail
  clear hw0
  refine CK.mono ?_
  rintro e w1 ⟨rfl, b1⟩
  have hs1 := b1.size
  have b2 := b1.alloc b1.size (.cells #[.int .i64 2, .int .u32 0, .int .u32 0, .int .u64 0, .int .u32 0, .int .u32 0, .int .u32 0, .slice none 0 0, .slice none 0 0, .slice none 0 0, .slice none 0 0, .int .u8 0] 59)
  have WM := Whole.new w1 59 #[.int .i64 2, .int .u32 0, .int .u32 0, .int .u64 0, .int .u32 0, .int .u32 0, .int .u32 0, .slice none 0 0, .slice none 0 0, .slice none 0 0, .slice none 0 0, .int .u8 0]
  obtain ⟨w2, hw2⟩ : ∃ w2, w1.alloc (.cells #[.int .i64 2, .int .u32 0, .int .u32 0, .int .u64 0, .int .u32 0, .int .u32 0, .int .u32 0, .slice none 0 0, .slice none 0 0, .slice none 0 0, .slice none 0 0, .int .u8 0] 59) = w2 := ⟨_, rfl⟩
  rw [hw2] at b2 WM
  obtain ⟨gm, hgm⟩ : ∃ gm, w1.heap.size = gm := ⟨_, rfl⟩
  rw [hgm] at WM
  have hgm2 : w2.heap.size = gm + 1 := by rw [← hw2, ← hgm]; simp
  have c0 : w2.cell? ⟨gm, 0, none⟩ = some (.int .i64 2) := WM.cell 0
  have B2 := bnextA HB0.out b2
  have CN := new_any A n cp s w2 (((H.out.below B2 (Nat.le_refl _))).more B2.size) (by omega)
  have HW2 := Lib.hid hw2
  have b1s := b2
  clear CK b1 hw2
  go_wp2_with fail
  rw [HW2.out]
  clear HW2
  refine CN.mono ?_
  rintro e w3 ⟨g, rfl, hg3, hc3, b3⟩
  have hg3l := hc3.lt
  have WM3 := WM.below b3 WM.lt
  have b4 := b3.alloc b3.size (.cells #[.pointer (some ⟨g, 0, none⟩)] 74)
  have hc4 := hc3.alloc (.cells #[.pointer (some ⟨g, 0, none⟩)] 74)
  have WM4 := WM3.alloc (.cells #[.pointer (some ⟨g, 0, none⟩)] 74)
  have WR4 := Whole.new w3 74 #[.pointer (some ⟨g, 0, none⟩)]
  have hs3 := b3.size
  have hs4 : (w3.alloc (.cells #[.pointer (some ⟨g, 0, none⟩)] 74)).heap.size = w3.heap.size + 1 := by simp
  obtain ⟨w4, hw4⟩ : ∃ w4, w3.alloc (.cells #[.pointer (some ⟨g, 0, none⟩)] 74) = w4 := ⟨_, rfl⟩
  rw [hw4] at b4 hc4 WM4 WR4 hs4
  obtain ⟨br, hbr⟩ : ∃ br, w3.heap.size = br := ⟨_, rfl⟩
  rw [hbr] at WR4 hs4 hs3 hg3l
  have B4 := bnextA B2 b4
  have HX4 := Lib.hid ((HW6.out.below b1s (Nat.lt_of_lt_of_le HW6.out.lt (Nat.le_refl _))).below b4 (by omega))
  obtain ⟨bq, hbq⟩ : ∃ bq, w4.heap.size = bq := ⟨_, rfl⟩
  have CB := Lib.hid ((bodies_any g gm c w4.drew).mono fun e w' hh => bodied_at hh (show w4.drew.heap.size = bq from hbq))
  have hbqr : br + 1 = bq := by rw [← hbq, hs4]
  have d0 : w4.cell? ⟨gm, 0, none⟩ = some (.int .i64 2) := WM4.cell 0
  have d1 : w4.cell? ⟨br, 0, none⟩ = some (.pointer (some ⟨g, 0, none⟩)) := WR4.cell 0
  have HWM4 := Lib.hid WM4
  have HWR4 := Lib.hid WR4
  have HC4 := Lib.hid hc4
  have HB4 := Lib.hid B4
  have hcw : IntKind.i64.wrap (c : Int) = (c : Int) := IntWalk.i64_in _ (by omega)
  have KP := Lib.hid (fun w' (b : Below w4.heap.size w4 w') => show w'.cell? ⟨gm, 0, none⟩ = some (.int .i64 2) ∧ w'.cell? ⟨br, 0, none⟩ = some (.pointer (some ⟨g, 0, none⟩)) from ⟨(HWM4.out.below b HWM4.out.lt).cell 0, (HWR4.out.below b HWR4.out.lt).cell 0⟩)
  have HW4 := Lib.hid hw4
  clear WM WM3 WM4 WR4 hc3 hc4 B2 B4 b2 b3 b4 CN c0 hw4
  go_wp2_with fail
  rw [HW4.out]
  clear HW4
  go_region_held3 (fun w' => w'.cell? ⟨gm, 0, none⟩ = some (.int .i64 2) ∧ w'.cell? ⟨br, 0, none⟩ = some (.pointer (some ⟨g, 0, none⟩)))
    (first | with_reducible exact KP.out _ bb5 | with_reducible exact KP.out _ (Below.refl _ _).drew | go_keep)
    (first
      | (go_at_call 57; refine CB.out.mono ?_; rintro e w5 ⟨mp, rfl, b5, V3, V4, V5, LK⟩; have bb5 : Below w4.heap.size w4 w5 := (by rw [hbq]; exact (Below.refl bq w4).drew.trans b5); have lk : (Instr.lookup 124 (.map (some mp)) (.int .i64 2) false).run Tryd.prog w5 = .ok (.func (.func 67) #[] #[.pointer (some ⟨bq + 2, 0, none⟩), .pointer (some ⟨bq, 0, none⟩), .pointer (some ⟨bq + 1, 0, none⟩)]) w5 := LK 2 (by decide)))
  have hM5 := HWM4.out.below bb5 HWM4.out.lt
  have hC5 := HC4.out.below bb5 (by rw [hs4]; omega)
  have hR5 := HWR4.out.below bb5 HWR4.out.lt
  have hX5 : Whole w5 rx 59 #[.int .i64 0, .int .u32 0, .int .u32 0, .int .u64 0, .int .u32 0, .int .u32 0, .int .u32 0, .slice none 0 0, .slice none 0 0, .slice none 0 0, .slice none 0 0, .int .u8 0] := by rw [← hrx]; exact HX4.out.below bb5 HX4.out.lt
  have CR := Lib.hid (read3_any gm g bq (bq + 1) (bq + 2) c s w5 hM5 hC5 V3 V4 V5 hc (by rw [HN.out]; exact hl) (by omega) (by omega) (by omega) (by omega) (by omega))
  have HB5 := Lib.hid (bnextA HB4.out bb5)
  have hs5 := bb5.size
  have HR5 := Lib.hid hR5
  have HX5 := Lib.hid hX5
  clear hM5 hC5 hR5 hX5 V3 V4 V5 LK b5 bb5 CB KP HWM4 HWR4 HC4 HB4 HX4
  go_wp2_with fail
  refine CR.out.mono ?_
  rintro e w6 ⟨m, s', l', e', rfl, hM, hAt, hNew, hFits, hm, he, hC, hP⟩
  have hR6 := HR5.out.prt hP (by omega) (by omega)
  have hX6 := HX5.out.prt hP (by omega) (by omega)
  have hB6 := HB5.out.trans (hP.below (B := w.heap.size) (by have := HB5.out.size; omega) (by omega) (by omega))
  have y1 : w6.cell? ⟨br, 0, none⟩ = some (.pointer (some ⟨g, 0, none⟩)) := hR6.cell 0
  have HM6 := Lib.hid hM
  have HAt := Lib.hid hAt
  have hrle : w.heap.size ≤ rx := Nat.le_of_eq hrx
  have HBX6 := Lib.hid hB6
  have CE := Lib.hid (err_any g l' e' w6 hC)
  have HX6 := Lib.hid hX6
  have HPS := hP.size
  clear CR hM hAt hC hP hR6 hX6 hB6 HR5 HX5 HB5 lk
  by_cases hz : 4 * c ≤ s.length
  · rw [if_pos hz] at he
    subst he
    have hmm : m = ⟨2, 0, 0, 0, 0, 0, 0, [], rdWho s c, [], [], 0⟩ := hm rfl
    have CE0 := CE.out
    have CW := isWrong_any m s' w6
    have hpr : (m.good = false → pr = (zeroM, 11)) ∧ (m.good = true → pr = (m, 0)) := ⟨fun hg => HP2.out hz (hmm ▸ hg), fun hg => (HP3.out hz (hmm ▸ hg)).trans (by rw [hmm])⟩
    have HPR := Lib.hid hpr
    obtain ⟨gd, hgd⟩ : ∃ b, m.good = b := ⟨_, rfl⟩
    rw [hgd] at CW
    have HGD := Lib.hid hgd
    have CWH : Hid (Calls Tryd.prog 22 #[.agg #[.int .i64 m.kind, .int .u32 (m.ssrc : Int), .int .u32 (m.media : Int), .int .u64 (m.clock : Int), .int .u32 (m.time : Int), .int .u32 (m.packets : Int), .int .u32 (m.bytes : Int), .slice s'.rA m.reps.length s'.rc, .slice s'.wA m.who.length s'.wc, .slice s'.pA m.pairs.length s'.pc, .slice s'.aA m.asks.length s'.ac, .int .u8 (m.typ : Int)]] w6 fun e w' => e = .returned (.bool (!gd)) ∧ Below w6.heap.size w6 w') := CW
    have CEH := Lib.hid CE0
    have z0 : w6.cell? ⟨gm, 0, none⟩ = some (.int .i64 m.kind) := HM6.out.cell 0
    have z1 : w6.cell? ⟨gm, 1, none⟩ = some (.int .u32 (m.ssrc : Int)) := HM6.out.cell 1
    have z2 : w6.cell? ⟨gm, 2, none⟩ = some (.int .u32 (m.media : Int)) := HM6.out.cell 2
    have z3 : w6.cell? ⟨gm, 3, none⟩ = some (.int .u64 (m.clock : Int)) := HM6.out.cell 3
    have z4 : w6.cell? ⟨gm, 4, none⟩ = some (.int .u32 (m.time : Int)) := HM6.out.cell 4
    have z5 : w6.cell? ⟨gm, 5, none⟩ = some (.int .u32 (m.packets : Int)) := HM6.out.cell 5
    have z6 : w6.cell? ⟨gm, 6, none⟩ = some (.int .u32 (m.bytes : Int)) := HM6.out.cell 6
    have z7 : w6.cell? ⟨gm, 7, none⟩ = some (.slice s'.rA m.reps.length s'.rc) := HM6.out.cell 7
    have z8 : w6.cell? ⟨gm, 8, none⟩ = some (.slice s'.wA m.who.length s'.wc) := HM6.out.cell 8
    have z9 : w6.cell? ⟨gm, 9, none⟩ = some (.slice s'.pA m.pairs.length s'.pc) := HM6.out.cell 9
    have z10 : w6.cell? ⟨gm, 10, none⟩ = some (.slice s'.aA m.asks.length s'.ac) := HM6.out.cell 10
    have z11 : w6.cell? ⟨gm, 11, none⟩ = some (.int .u8 (m.typ : Int)) := HM6.out.cell 11
    clear CW CE0 hmm hm hpr hgd CE HP1 HP2 HP3
    go_wp2_with fail
    refine CEH.out.mono ?_
    rintro e w6b ⟨rfl, rfl⟩
    go_wp2_with fail
    refine CWH.out.mono ?_
    rintro e w7 ⟨rfl, b7⟩
    have M7 := HM6.out.below b7 HM6.out.lt
    have X7 := HX6.out.below b7 HX6.out.lt
    have HBX := bnextA HBX6.out b7
    have q0 : w7.cell? ⟨rx, 0, none⟩ = some (.int .i64 0) := X7.cell 0
    have f0 : w7.frozen? ⟨rx, 0, none⟩ = false := X7.free 0
    have q1 : w7.cell? ⟨rx, 1, none⟩ = some (.int .u32 0) := X7.cell 1
    have f1 : w7.frozen? ⟨rx, 1, none⟩ = false := X7.free 1
    have q2 : w7.cell? ⟨rx, 2, none⟩ = some (.int .u32 0) := X7.cell 2
    have f2 : w7.frozen? ⟨rx, 2, none⟩ = false := X7.free 2
    have q3 : w7.cell? ⟨rx, 3, none⟩ = some (.int .u64 0) := X7.cell 3
    have f3 : w7.frozen? ⟨rx, 3, none⟩ = false := X7.free 3
    have q4 : w7.cell? ⟨rx, 4, none⟩ = some (.int .u32 0) := X7.cell 4
    have f4 : w7.frozen? ⟨rx, 4, none⟩ = false := X7.free 4
    have q5 : w7.cell? ⟨rx, 5, none⟩ = some (.int .u32 0) := X7.cell 5
    have f5 : w7.frozen? ⟨rx, 5, none⟩ = false := X7.free 5
    have q6 : w7.cell? ⟨rx, 6, none⟩ = some (.int .u32 0) := X7.cell 6
    have f6 : w7.frozen? ⟨rx, 6, none⟩ = false := X7.free 6
    have q7 : w7.cell? ⟨rx, 7, none⟩ = some (.slice none 0 0) := X7.cell 7
    have f7 : w7.frozen? ⟨rx, 7, none⟩ = false := X7.free 7
    have q8 : w7.cell? ⟨rx, 8, none⟩ = some (.slice none 0 0) := X7.cell 8
    have f8 : w7.frozen? ⟨rx, 8, none⟩ = false := X7.free 8
    have q9 : w7.cell? ⟨rx, 9, none⟩ = some (.slice none 0 0) := X7.cell 9
    have f9 : w7.frozen? ⟨rx, 9, none⟩ = false := X7.free 9
    have q10 : w7.cell? ⟨rx, 10, none⟩ = some (.slice none 0 0) := X7.cell 10
    have f10 : w7.frozen? ⟨rx, 10, none⟩ = false := X7.free 10
    have q11 : w7.cell? ⟨rx, 11, none⟩ = some (.int .u8 0) := X7.cell 11
    have f11 : w7.frozen? ⟨rx, 11, none⟩ = false := X7.free 11
    cases gd with
    | false =>
      have HF : Hid (MsgR pr w (.returned (.tuple #[.agg #[.int .i64 0, .int .u32 0, .int .u32 0, .int .u64 0, .int .u32 0, .int .u32 0, .int .u32 0, .slice none 0 0, .slice none 0 0, .slice none 0 0, .slice none 0 0, .int .u8 0], .int .i64 11])) ((((((((((((w7.setCell ⟨rx, 0, none⟩ (.int .i64 0)).setCell ⟨rx, 1, none⟩ (.int .u32 0)).setCell ⟨rx, 2, none⟩ (.int .u32 0)).setCell ⟨rx, 3, none⟩ (.int .u64 0)).setCell ⟨rx, 4, none⟩ (.int .u32 0)).setCell ⟨rx, 5, none⟩ (.int .u32 0)).setCell ⟨rx, 6, none⟩ (.int .u32 0)).setCell ⟨rx, 7, none⟩ (.slice none 0 0)).setCell ⟨rx, 8, none⟩ (.slice none 0 0)).setCell ⟨rx, 9, none⟩ (.slice none 0 0)).setCell ⟨rx, 10, none⟩ (.slice none 0 0)).setCell ⟨rx, 11, none⟩ (.int .u8 0))) := Lib.hid (MsgR.zero ((((((((((((HBX.setCell hrle _).setCell hrle _).setCell hrle _).setCell hrle _).setCell hrle _).setCell hrle _).setCell hrle _).setCell hrle _).setCell hrle _).setCell hrle _).setCell hrle _).setCell hrle _) (HPR.out.1 HGD.out))
      clear HBX M7 X7 HM6 HX6 HBX6 HAt b7 CWH CEH z0 z1 z2 z3 z4 z5 z6 z7 z8 z9 z10 z11
      go_wp2
      exact bodyPost_ret (v := .tuple #[.agg #[.int .i64 0, .int .u32 0, .int .u32 0, .int .u64 0, .int .u32 0, .int .u32 0, .int .u32 0, .slice none 0 0, .slice none 0 0, .slice none 0 0, .slice none 0 0, .int .u8 0], .int .i64 11]) (by simp [results, Tryd.results42, go_sem, q0, q1, q2, q3, q4, q5, q6, q7, q8, q9, q10, q11]) rfl HF.out
    | true =>
      have hAt7 := ((HAt.out.below b7 (Nat.le_refl _)).more b7.size)
      have v0 : w7.cell? ⟨gm, 0, none⟩ = some (.int .i64 m.kind) := M7.cell 0
      have v1 : w7.cell? ⟨gm, 1, none⟩ = some (.int .u32 (m.ssrc : Int)) := M7.cell 1
      have v2 : w7.cell? ⟨gm, 2, none⟩ = some (.int .u32 (m.media : Int)) := M7.cell 2
      have v3 : w7.cell? ⟨gm, 3, none⟩ = some (.int .u64 (m.clock : Int)) := M7.cell 3
      have v4 : w7.cell? ⟨gm, 4, none⟩ = some (.int .u32 (m.time : Int)) := M7.cell 4
      have v5 : w7.cell? ⟨gm, 5, none⟩ = some (.int .u32 (m.packets : Int)) := M7.cell 5
      have v6 : w7.cell? ⟨gm, 6, none⟩ = some (.int .u32 (m.bytes : Int)) := M7.cell 6
      have v7 : w7.cell? ⟨gm, 7, none⟩ = some (.slice s'.rA m.reps.length s'.rc) := M7.cell 7
      have v8 : w7.cell? ⟨gm, 8, none⟩ = some (.slice s'.wA m.who.length s'.wc) := M7.cell 8
      have v9 : w7.cell? ⟨gm, 9, none⟩ = some (.slice s'.pA m.pairs.length s'.pc) := M7.cell 9
      have v10 : w7.cell? ⟨gm, 10, none⟩ = some (.slice s'.aA m.asks.length s'.ac) := M7.cell 10
      have v11 : w7.cell? ⟨gm, 11, none⟩ = some (.int .u8 (m.typ : Int)) := M7.cell 11
      have hrn : rx < w5.heap.size := by omega
      have HF : Hid (MsgR pr w (.returned (.tuple #[.agg #[.int .i64 m.kind, .int .u32 (m.ssrc : Int), .int .u32 (m.media : Int), .int .u64 (m.clock : Int), .int .u32 (m.time : Int), .int .u32 (m.packets : Int), .int .u32 (m.bytes : Int), .slice s'.rA m.reps.length s'.rc, .slice s'.wA m.who.length s'.wc, .slice s'.pA m.pairs.length s'.pc, .slice s'.aA m.asks.length s'.ac, .int .u8 (m.typ : Int)], .int .i64 0])) ((((((((((((w7.setCell ⟨rx, 0, none⟩ (.int .i64 m.kind)).setCell ⟨rx, 1, none⟩ (.int .u32 (m.ssrc : Int))).setCell ⟨rx, 2, none⟩ (.int .u32 (m.media : Int))).setCell ⟨rx, 3, none⟩ (.int .u64 (m.clock : Int))).setCell ⟨rx, 4, none⟩ (.int .u32 (m.time : Int))).setCell ⟨rx, 5, none⟩ (.int .u32 (m.packets : Int))).setCell ⟨rx, 6, none⟩ (.int .u32 (m.bytes : Int))).setCell ⟨rx, 7, none⟩ (.slice s'.rA m.reps.length s'.rc)).setCell ⟨rx, 8, none⟩ (.slice s'.wA m.who.length s'.wc)).setCell ⟨rx, 9, none⟩ (.slice s'.pA m.pairs.length s'.pc)).setCell ⟨rx, 10, none⟩ (.slice s'.aA m.asks.length s'.ac)).setCell ⟨rx, 11, none⟩ (.int .u8 (m.typ : Int)))) := Lib.hid (by
        rw [HPR.out.2 HGD.out]
        exact ⟨s', rfl, ((((((((((((hAt7.setNew hNew hrn _ _).setNew hNew hrn _ _).setNew hNew hrn _ _).setNew hNew hrn _ _).setNew hNew hrn _ _).setNew hNew hrn _ _).setNew hNew hrn _ _).setNew hNew hrn _ _).setNew hNew hrn _ _).setNew hNew hrn _ _).setNew hNew hrn _ _).setNew hNew hrn _ _).more (by simp), hNew.less (by omega), hFits, ((((((((((((HBX.setCell hrle _).setCell hrle _).setCell hrle _).setCell hrle _).setCell hrle _).setCell hrle _).setCell hrle _).setCell hrle _).setCell hrle _).setCell hrle _).setCell hrle _).setCell hrle _)⟩)
      clear HBX M7 X7 HM6 HX6 HBX6 HAt b7 CWH CEH hAt7 hNew hFits z0 z1 z2 z3 z4 z5 z6 z7 z8 z9 z10 z11
      go_wp2
      exact bodyPost_ret (v := .tuple #[.agg #[.int .i64 m.kind, .int .u32 (m.ssrc : Int), .int .u32 (m.media : Int), .int .u64 (m.clock : Int), .int .u32 (m.time : Int), .int .u32 (m.packets : Int), .int .u32 (m.bytes : Int), .slice s'.rA m.reps.length s'.rc, .slice s'.wA m.who.length s'.wc, .slice s'.pA m.pairs.length s'.pc, .slice s'.aA m.asks.length s'.ac, .int .u8 (m.typ : Int)], .int .i64 0]) (by simp [results, Tryd.results42, go_sem, q0, q1, q2, q3, q4, q5, q6, q7, q8, q9, q10, q11]) rfl HF.out
  · rw [if_neg hz] at he
    subst he
    have CEH := Lib.hid CE.out
    have HPR := Lib.hid (HP1.out hz)
    have hX6 := HX6.out
    have HBX := HBX6.out
    have q0 : w6.cell? ⟨rx, 0, none⟩ = some (.int .i64 0) := hX6.cell 0
    have f0 : w6.frozen? ⟨rx, 0, none⟩ = false := hX6.free 0
    have q1 : w6.cell? ⟨rx, 1, none⟩ = some (.int .u32 0) := hX6.cell 1
    have f1 : w6.frozen? ⟨rx, 1, none⟩ = false := hX6.free 1
    have q2 : w6.cell? ⟨rx, 2, none⟩ = some (.int .u32 0) := hX6.cell 2
    have f2 : w6.frozen? ⟨rx, 2, none⟩ = false := hX6.free 2
    have q3 : w6.cell? ⟨rx, 3, none⟩ = some (.int .u64 0) := hX6.cell 3
    have f3 : w6.frozen? ⟨rx, 3, none⟩ = false := hX6.free 3
    have q4 : w6.cell? ⟨rx, 4, none⟩ = some (.int .u32 0) := hX6.cell 4
    have f4 : w6.frozen? ⟨rx, 4, none⟩ = false := hX6.free 4
    have q5 : w6.cell? ⟨rx, 5, none⟩ = some (.int .u32 0) := hX6.cell 5
    have f5 : w6.frozen? ⟨rx, 5, none⟩ = false := hX6.free 5
    have q6 : w6.cell? ⟨rx, 6, none⟩ = some (.int .u32 0) := hX6.cell 6
    have f6 : w6.frozen? ⟨rx, 6, none⟩ = false := hX6.free 6
    have q7 : w6.cell? ⟨rx, 7, none⟩ = some (.slice none 0 0) := hX6.cell 7
    have f7 : w6.frozen? ⟨rx, 7, none⟩ = false := hX6.free 7
    have q8 : w6.cell? ⟨rx, 8, none⟩ = some (.slice none 0 0) := hX6.cell 8
    have f8 : w6.frozen? ⟨rx, 8, none⟩ = false := hX6.free 8
    have q9 : w6.cell? ⟨rx, 9, none⟩ = some (.slice none 0 0) := hX6.cell 9
    have f9 : w6.frozen? ⟨rx, 9, none⟩ = false := hX6.free 9
    have q10 : w6.cell? ⟨rx, 10, none⟩ = some (.slice none 0 0) := hX6.cell 10
    have f10 : w6.frozen? ⟨rx, 10, none⟩ = false := hX6.free 10
    have q11 : w6.cell? ⟨rx, 11, none⟩ = some (.int .u8 0) := hX6.cell 11
    have f11 : w6.frozen? ⟨rx, 11, none⟩ = false := hX6.free 11
    have HF : Hid (MsgR pr w (.returned (.tuple #[.agg #[.int .i64 0, .int .u32 0, .int .u32 0, .int .u64 0, .int .u32 0, .int .u32 0, .int .u32 0, .slice none 0 0, .slice none 0 0, .slice none 0 0, .slice none 0 0, .int .u8 0], .int .i64 10])) ((((((((((((w6.setCell ⟨rx, 0, none⟩ (.int .i64 0)).setCell ⟨rx, 1, none⟩ (.int .u32 0)).setCell ⟨rx, 2, none⟩ (.int .u32 0)).setCell ⟨rx, 3, none⟩ (.int .u64 0)).setCell ⟨rx, 4, none⟩ (.int .u32 0)).setCell ⟨rx, 5, none⟩ (.int .u32 0)).setCell ⟨rx, 6, none⟩ (.int .u32 0)).setCell ⟨rx, 7, none⟩ (.slice none 0 0)).setCell ⟨rx, 8, none⟩ (.slice none 0 0)).setCell ⟨rx, 9, none⟩ (.slice none 0 0)).setCell ⟨rx, 10, none⟩ (.slice none 0 0)).setCell ⟨rx, 11, none⟩ (.int .u8 0))) := Lib.hid (MsgR.zero ((((((((((((HBX.setCell hrle _).setCell hrle _).setCell hrle _).setCell hrle _).setCell hrle _).setCell hrle _).setCell hrle _).setCell hrle _).setCell hrle _).setCell hrle _).setCell hrle _).setCell hrle _) HPR.out)
    clear HBX HM6 HX6 HBX6 HAt CE HP1 HP2 HP3 hm hX6
    go_wp2_with fail
    refine CEH.out.mono ?_
    rintro e w6b ⟨rfl, rfl⟩
    go_wp2_with fail
    refine CEH.out.mono ?_
    rintro e w6c ⟨rfl, rfl⟩
    clear CEH
    go_wp2
    exact bodyPost_ret (v := .tuple #[.agg #[.int .i64 0, .int .u32 0, .int .u32 0, .int .u64 0, .int .u32 0, .int .u32 0, .int .u32 0, .slice none 0 0, .slice none 0 0, .slice none 0 0, .slice none 0 0, .int .u8 0], .int .i64 10]) (by simp [results, Tryd.results42, go_sem, q0, q1, q2, q3, q4, q5, q6, q7, q8, q9, q10, q11]) rfl HF.out

set_option maxHeartbeats 6400000 in
theorem msgOf3_any (A : Option Addr) (cp n t c : Nat) (s : List UInt8) (w : World) (hF : Forms w) (h : Row w w.heap.size 1 A n (u8s s)) (hn : s.length = n) (hl : n ≤ 2000) (hc : c < 32) (hk : kf t c = 3) (hp1 : ¬ 8 ≤ s.length → readM t c s = (zeroM, 10)) (hp2 : 8 ≤ s.length → Ms.good (⟨3, numAt s 0 4, numAt s 4 4, 0, 0, 0, 0, [], [], rdPairs s ((s.length - 8) / 4), [], 0⟩) = false → readM t c s = (zeroM, 11)) (hp3 : 8 ≤ s.length → Ms.good (⟨3, numAt s 0 4, numAt s 4 4, 0, 0, 0, 0, [], [], rdPairs s ((s.length - 8) / 4), [], 0⟩) = true → readM t c s = (⟨3, numAt s 0 4, numAt s 4 4, 0, 0, 0, 0, [], [], rdPairs s ((s.length - 8) / 4), [], 0⟩, 0)) :
    Calls Tryd.prog 42 #[.int .u8 (t : Int), .int .u8 (c : Int), .slice A n cp] w (MsgR (readM t c s) w) := by
  obtain ⟨pr, hpr⟩ : ∃ pr, readM t c s = pr := ⟨_, rfl⟩
  rw [hpr] at hp1 hp2 hp3 ⊢
  have HP1 := Lib.hid hp1
  have HP2 := Lib.hid hp2
  have HP3 := Lib.hid hp3
  have B0 := (Below.refl w.heap.size w).alloc (Nat.le_refl _) (.cells #[.int .i64 0, .int .u32 0, .int .u32 0, .int .u64 0, .int .u32 0, .int .u32 0, .int .u32 0, .slice none 0 0, .slice none 0 0, .slice none 0 0, .slice none 0 0, .int .u8 0] 59)
  have W6 := Whole.new w 59 #[.int .i64 0, .int .u32 0, .int .u32 0, .int .u64 0, .int .u32 0, .int .u32 0, .int .u32 0, .slice none 0 0, .slice none 0 0, .slice none 0 0, .slice none 0 0, .int .u8 0]
  obtain ⟨w0, hw0⟩ : ∃ w0, w.alloc (.cells #[.int .i64 0, .int .u32 0, .int .u32 0, .int .u64 0, .int .u32 0, .int .u32 0, .int .u32 0, .slice none 0 0, .slice none 0 0, .slice none 0 0, .slice none 0 0, .int .u8 0] 59) = w0 := ⟨_, rfl⟩
  rw [hw0] at B0 W6
  obtain ⟨rx, hrx⟩ : ∃ rx, w.heap.size = rx := ⟨_, rfl⟩
  have CK := kindOf_any t c w0 (hF.next B0)
  rw [hk] at CK
  have H := Lib.hid h
  have HN := Lib.hid hn
  have HB0 := Lib.hid B0
  have hrx0 : rx < w0.heap.size := by rw [← hrx]; exact W6.lt
  have HW6 := Lib.hid W6
  clear h hn B0 W6 hF hk hp1 hp2 hp3 hpr
  go_enter Tryd.func42, Tryd.ntmps42
  go_wp2_with fail
  clear hw0
  refine CK.mono ?_
  rintro e w1 ⟨rfl, b1⟩
  have hs1 := b1.size
  have b2 := b1.alloc b1.size (.cells #[.int .i64 3, .int .u32 0, .int .u32 0, .int .u64 0, .int .u32 0, .int .u32 0, .int .u32 0, .slice none 0 0, .slice none 0 0, .slice none 0 0, .slice none 0 0, .int .u8 0] 59)
  have WM := Whole.new w1 59 #[.int .i64 3, .int .u32 0, .int .u32 0, .int .u64 0, .int .u32 0, .int .u32 0, .int .u32 0, .slice none 0 0, .slice none 0 0, .slice none 0 0, .slice none 0 0, .int .u8 0]
  obtain ⟨w2, hw2⟩ : ∃ w2, w1.alloc (.cells #[.int .i64 3, .int .u32 0, .int .u32 0, .int .u64 0, .int .u32 0, .int .u32 0, .int .u32 0, .slice none 0 0, .slice none 0 0, .slice none 0 0, .slice none 0 0, .int .u8 0] 59) = w2 := ⟨_, rfl⟩
  rw [hw2] at b2 WM
  obtain ⟨gm, hgm⟩ : ∃ gm, w1.heap.size = gm := ⟨_, rfl⟩
  rw [hgm] at WM
  have hgm2 : w2.heap.size = gm + 1 := by rw [← hw2, ← hgm]; simp
  have c0 : w2.cell? ⟨gm, 0, none⟩ = some (.int .i64 3) := WM.cell 0
  have B2 := bnextA HB0.out b2
  have CN := new_any A n cp s w2 (((H.out.below B2 (Nat.le_refl _))).more B2.size) (by omega)
  have HW2 := Lib.hid hw2
  have b1s := b2
  clear CK b1 hw2
  go_wp2_with fail
  rw [HW2.out]
  clear HW2
  refine CN.mono ?_
  rintro e w3 ⟨g, rfl, hg3, hc3, b3⟩
  have hg3l := hc3.lt
  have WM3 := WM.below b3 WM.lt
  have b4 := b3.alloc b3.size (.cells #[.pointer (some ⟨g, 0, none⟩)] 74)
  have hc4 := hc3.alloc (.cells #[.pointer (some ⟨g, 0, none⟩)] 74)
  have WM4 := WM3.alloc (.cells #[.pointer (some ⟨g, 0, none⟩)] 74)
  have WR4 := Whole.new w3 74 #[.pointer (some ⟨g, 0, none⟩)]
  have hs3 := b3.size
  have hs4 : (w3.alloc (.cells #[.pointer (some ⟨g, 0, none⟩)] 74)).heap.size = w3.heap.size + 1 := by simp
  obtain ⟨w4, hw4⟩ : ∃ w4, w3.alloc (.cells #[.pointer (some ⟨g, 0, none⟩)] 74) = w4 := ⟨_, rfl⟩
  rw [hw4] at b4 hc4 WM4 WR4 hs4
  obtain ⟨br, hbr⟩ : ∃ br, w3.heap.size = br := ⟨_, rfl⟩
  rw [hbr] at WR4 hs4 hs3 hg3l
  have B4 := bnextA B2 b4
  have HX4 := Lib.hid ((HW6.out.below b1s (Nat.lt_of_lt_of_le HW6.out.lt (Nat.le_refl _))).below b4 (by omega))
  obtain ⟨bq, hbq⟩ : ∃ bq, w4.heap.size = bq := ⟨_, rfl⟩
  have CB := Lib.hid ((bodies_any g gm c w4.drew).mono fun e w' hh => bodied_at hh (show w4.drew.heap.size = bq from hbq))
  have hbqr : br + 1 = bq := by rw [← hbq, hs4]
  have d0 : w4.cell? ⟨gm, 0, none⟩ = some (.int .i64 3) := WM4.cell 0
  have d1 : w4.cell? ⟨br, 0, none⟩ = some (.pointer (some ⟨g, 0, none⟩)) := WR4.cell 0
  have HWM4 := Lib.hid WM4
  have HWR4 := Lib.hid WR4
  have HC4 := Lib.hid hc4
  have HB4 := Lib.hid B4
  have hcw : IntKind.i64.wrap (c : Int) = (c : Int) := IntWalk.i64_in _ (by omega)
  have KP := Lib.hid (fun w' (b : Below w4.heap.size w4 w') => show w'.cell? ⟨gm, 0, none⟩ = some (.int .i64 3) ∧ w'.cell? ⟨br, 0, none⟩ = some (.pointer (some ⟨g, 0, none⟩)) from ⟨(HWM4.out.below b HWM4.out.lt).cell 0, (HWR4.out.below b HWR4.out.lt).cell 0⟩)
  have HW4 := Lib.hid hw4
  clear WM WM3 WM4 WR4 hc3 hc4 B2 B4 b2 b3 b4 CN c0 hw4
  go_wp2_with fail
  rw [HW4.out]
  clear HW4
  go_region_held3 (fun w' => w'.cell? ⟨gm, 0, none⟩ = some (.int .i64 3) ∧ w'.cell? ⟨br, 0, none⟩ = some (.pointer (some ⟨g, 0, none⟩)))
    (first | with_reducible exact KP.out _ bb5 | with_reducible exact KP.out _ (Below.refl _ _).drew | go_keep)
    (first
      | (go_at_call 57; refine CB.out.mono ?_; rintro e w5 ⟨mp, rfl, b5, V3, V4, V5, LK⟩; have bb5 : Below w4.heap.size w4 w5 := (by rw [hbq]; exact (Below.refl bq w4).drew.trans b5); have lk : (Instr.lookup 124 (.map (some mp)) (.int .i64 3) false).run Tryd.prog w5 = .ok (.func (.func 69) #[] #[.pointer (some ⟨bq, 0, none⟩), .pointer (some ⟨bq + 1, 0, none⟩)]) w5 := LK 3 (by decide)))
  have hM5 := HWM4.out.below bb5 HWM4.out.lt
  have hC5 := HC4.out.below bb5 (by rw [hs4]; omega)
  have hR5 := HWR4.out.below bb5 HWR4.out.lt
  have hX5 : Whole w5 rx 59 #[.int .i64 0, .int .u32 0, .int .u32 0, .int .u64 0, .int .u32 0, .int .u32 0, .int .u32 0, .slice none 0 0, .slice none 0 0, .slice none 0 0, .slice none 0 0, .int .u8 0] := by rw [← hrx]; exact HX4.out.below bb5 HX4.out.lt
  have CR := Lib.hid (read4_any gm g bq (bq + 1) (bq + 2) c s w5 hM5 hC5 V3 V4 V5 hc (by rw [HN.out]; exact hl) (by omega) (by omega) (by omega) (by omega) (by omega))
  have HB5 := Lib.hid (bnextA HB4.out bb5)
  have hs5 := bb5.size
  have HR5 := Lib.hid hR5
  have HX5 := Lib.hid hX5
  clear hM5 hC5 hR5 hX5 V3 V4 V5 LK b5 bb5 CB KP HWM4 HWR4 HC4 HB4 HX4
  go_wp2_with fail
  refine CR.out.mono ?_
  rintro e w6 ⟨m, s', l', e', rfl, hM, hAt, hNew, hFits, hm, he, hC, hP⟩
  have hR6 := HR5.out.prt hP (by omega) (by omega)
  have hX6 := HX5.out.prt hP (by omega) (by omega)
  have hB6 := HB5.out.trans (hP.below (B := w.heap.size) (by have := HB5.out.size; omega) (by omega) (by omega))
  have y1 : w6.cell? ⟨br, 0, none⟩ = some (.pointer (some ⟨g, 0, none⟩)) := hR6.cell 0
  have HM6 := Lib.hid hM
  have HAt := Lib.hid hAt
  have hrle : w.heap.size ≤ rx := Nat.le_of_eq hrx
  have HBX6 := Lib.hid hB6
  have CE := Lib.hid (err_any g l' e' w6 hC)
  have HX6 := Lib.hid hX6
  have HPS := hP.size
  clear CR hM hAt hC hP hR6 hX6 hB6 HR5 HX5 HB5 lk
  by_cases hz : 8 ≤ s.length
  · rw [if_pos hz] at he
    subst he
    have hmm : m = ⟨3, numAt s 0 4, numAt s 4 4, 0, 0, 0, 0, [], [], rdPairs s ((s.length - 8) / 4), [], 0⟩ := hm rfl
    have CE0 := CE.out
    have CW := isWrong_any m s' w6
    have hpr : (m.good = false → pr = (zeroM, 11)) ∧ (m.good = true → pr = (m, 0)) := ⟨fun hg => HP2.out hz (hmm ▸ hg), fun hg => (HP3.out hz (hmm ▸ hg)).trans (by rw [hmm])⟩
    have HPR := Lib.hid hpr
    obtain ⟨gd, hgd⟩ : ∃ b, m.good = b := ⟨_, rfl⟩
    rw [hgd] at CW
    have HGD := Lib.hid hgd
    have CWH : Hid (Calls Tryd.prog 22 #[.agg #[.int .i64 m.kind, .int .u32 (m.ssrc : Int), .int .u32 (m.media : Int), .int .u64 (m.clock : Int), .int .u32 (m.time : Int), .int .u32 (m.packets : Int), .int .u32 (m.bytes : Int), .slice s'.rA m.reps.length s'.rc, .slice s'.wA m.who.length s'.wc, .slice s'.pA m.pairs.length s'.pc, .slice s'.aA m.asks.length s'.ac, .int .u8 (m.typ : Int)]] w6 fun e w' => e = .returned (.bool (!gd)) ∧ Below w6.heap.size w6 w') := CW
    have CEH := Lib.hid CE0
    have z0 : w6.cell? ⟨gm, 0, none⟩ = some (.int .i64 m.kind) := HM6.out.cell 0
    have z1 : w6.cell? ⟨gm, 1, none⟩ = some (.int .u32 (m.ssrc : Int)) := HM6.out.cell 1
    have z2 : w6.cell? ⟨gm, 2, none⟩ = some (.int .u32 (m.media : Int)) := HM6.out.cell 2
    have z3 : w6.cell? ⟨gm, 3, none⟩ = some (.int .u64 (m.clock : Int)) := HM6.out.cell 3
    have z4 : w6.cell? ⟨gm, 4, none⟩ = some (.int .u32 (m.time : Int)) := HM6.out.cell 4
    have z5 : w6.cell? ⟨gm, 5, none⟩ = some (.int .u32 (m.packets : Int)) := HM6.out.cell 5
    have z6 : w6.cell? ⟨gm, 6, none⟩ = some (.int .u32 (m.bytes : Int)) := HM6.out.cell 6
    have z7 : w6.cell? ⟨gm, 7, none⟩ = some (.slice s'.rA m.reps.length s'.rc) := HM6.out.cell 7
    have z8 : w6.cell? ⟨gm, 8, none⟩ = some (.slice s'.wA m.who.length s'.wc) := HM6.out.cell 8
    have z9 : w6.cell? ⟨gm, 9, none⟩ = some (.slice s'.pA m.pairs.length s'.pc) := HM6.out.cell 9
    have z10 : w6.cell? ⟨gm, 10, none⟩ = some (.slice s'.aA m.asks.length s'.ac) := HM6.out.cell 10
    have z11 : w6.cell? ⟨gm, 11, none⟩ = some (.int .u8 (m.typ : Int)) := HM6.out.cell 11
    clear CW CE0 hmm hm hpr hgd CE HP1 HP2 HP3
    go_wp2_with fail
    refine CEH.out.mono ?_
    rintro e w6b ⟨rfl, rfl⟩
    go_wp2_with fail
    refine CWH.out.mono ?_
    rintro e w7 ⟨rfl, b7⟩
    have M7 := HM6.out.below b7 HM6.out.lt
    have X7 := HX6.out.below b7 HX6.out.lt
    have HBX := bnextA HBX6.out b7
    have q0 : w7.cell? ⟨rx, 0, none⟩ = some (.int .i64 0) := X7.cell 0
    have f0 : w7.frozen? ⟨rx, 0, none⟩ = false := X7.free 0
    have q1 : w7.cell? ⟨rx, 1, none⟩ = some (.int .u32 0) := X7.cell 1
    have f1 : w7.frozen? ⟨rx, 1, none⟩ = false := X7.free 1
    have q2 : w7.cell? ⟨rx, 2, none⟩ = some (.int .u32 0) := X7.cell 2
    have f2 : w7.frozen? ⟨rx, 2, none⟩ = false := X7.free 2
    have q3 : w7.cell? ⟨rx, 3, none⟩ = some (.int .u64 0) := X7.cell 3
    have f3 : w7.frozen? ⟨rx, 3, none⟩ = false := X7.free 3
    have q4 : w7.cell? ⟨rx, 4, none⟩ = some (.int .u32 0) := X7.cell 4
    have f4 : w7.frozen? ⟨rx, 4, none⟩ = false := X7.free 4
    have q5 : w7.cell? ⟨rx, 5, none⟩ = some (.int .u32 0) := X7.cell 5
    have f5 : w7.frozen? ⟨rx, 5, none⟩ = false := X7.free 5
    have q6 : w7.cell? ⟨rx, 6, none⟩ = some (.int .u32 0) := X7.cell 6
    have f6 : w7.frozen? ⟨rx, 6, none⟩ = false := X7.free 6
    have q7 : w7.cell? ⟨rx, 7, none⟩ = some (.slice none 0 0) := X7.cell 7
    have f7 : w7.frozen? ⟨rx, 7, none⟩ = false := X7.free 7
    have q8 : w7.cell? ⟨rx, 8, none⟩ = some (.slice none 0 0) := X7.cell 8
    have f8 : w7.frozen? ⟨rx, 8, none⟩ = false := X7.free 8
    have q9 : w7.cell? ⟨rx, 9, none⟩ = some (.slice none 0 0) := X7.cell 9
    have f9 : w7.frozen? ⟨rx, 9, none⟩ = false := X7.free 9
    have q10 : w7.cell? ⟨rx, 10, none⟩ = some (.slice none 0 0) := X7.cell 10
    have f10 : w7.frozen? ⟨rx, 10, none⟩ = false := X7.free 10
    have q11 : w7.cell? ⟨rx, 11, none⟩ = some (.int .u8 0) := X7.cell 11
    have f11 : w7.frozen? ⟨rx, 11, none⟩ = false := X7.free 11
    cases gd with
    | false =>
      have HF : Hid (MsgR pr w (.returned (.tuple #[.agg #[.int .i64 0, .int .u32 0, .int .u32 0, .int .u64 0, .int .u32 0, .int .u32 0, .int .u32 0, .slice none 0 0, .slice none 0 0, .slice none 0 0, .slice none 0 0, .int .u8 0], .int .i64 11])) ((((((((((((w7.setCell ⟨rx, 0, none⟩ (.int .i64 0)).setCell ⟨rx, 1, none⟩ (.int .u32 0)).setCell ⟨rx, 2, none⟩ (.int .u32 0)).setCell ⟨rx, 3, none⟩ (.int .u64 0)).setCell ⟨rx, 4, none⟩ (.int .u32 0)).setCell ⟨rx, 5, none⟩ (.int .u32 0)).setCell ⟨rx, 6, none⟩ (.int .u32 0)).setCell ⟨rx, 7, none⟩ (.slice none 0 0)).setCell ⟨rx, 8, none⟩ (.slice none 0 0)).setCell ⟨rx, 9, none⟩ (.slice none 0 0)).setCell ⟨rx, 10, none⟩ (.slice none 0 0)).setCell ⟨rx, 11, none⟩ (.int .u8 0))) := Lib.hid (MsgR.zero ((((((((((((HBX.setCell hrle _).setCell hrle _).setCell hrle _).setCell hrle _).setCell hrle _).setCell hrle _).setCell hrle _).setCell hrle _).setCell hrle _).setCell hrle _).setCell hrle _).setCell hrle _) (HPR.out.1 HGD.out))
      clear HBX M7 X7 HM6 HX6 HBX6 HAt b7 CWH CEH z0 z1 z2 z3 z4 z5 z6 z7 z8 z9 z10 z11
      go_wp2
      exact bodyPost_ret (v := .tuple #[.agg #[.int .i64 0, .int .u32 0, .int .u32 0, .int .u64 0, .int .u32 0, .int .u32 0, .int .u32 0, .slice none 0 0, .slice none 0 0, .slice none 0 0, .slice none 0 0, .int .u8 0], .int .i64 11]) (by simp [results, Tryd.results42, go_sem, q0, q1, q2, q3, q4, q5, q6, q7, q8, q9, q10, q11]) rfl HF.out
    | true =>
      have hAt7 := ((HAt.out.below b7 (Nat.le_refl _)).more b7.size)
      have v0 : w7.cell? ⟨gm, 0, none⟩ = some (.int .i64 m.kind) := M7.cell 0
      have v1 : w7.cell? ⟨gm, 1, none⟩ = some (.int .u32 (m.ssrc : Int)) := M7.cell 1
      have v2 : w7.cell? ⟨gm, 2, none⟩ = some (.int .u32 (m.media : Int)) := M7.cell 2
      have v3 : w7.cell? ⟨gm, 3, none⟩ = some (.int .u64 (m.clock : Int)) := M7.cell 3
      have v4 : w7.cell? ⟨gm, 4, none⟩ = some (.int .u32 (m.time : Int)) := M7.cell 4
      have v5 : w7.cell? ⟨gm, 5, none⟩ = some (.int .u32 (m.packets : Int)) := M7.cell 5
      have v6 : w7.cell? ⟨gm, 6, none⟩ = some (.int .u32 (m.bytes : Int)) := M7.cell 6
      have v7 : w7.cell? ⟨gm, 7, none⟩ = some (.slice s'.rA m.reps.length s'.rc) := M7.cell 7
      have v8 : w7.cell? ⟨gm, 8, none⟩ = some (.slice s'.wA m.who.length s'.wc) := M7.cell 8
      have v9 : w7.cell? ⟨gm, 9, none⟩ = some (.slice s'.pA m.pairs.length s'.pc) := M7.cell 9
      have v10 : w7.cell? ⟨gm, 10, none⟩ = some (.slice s'.aA m.asks.length s'.ac) := M7.cell 10
      have v11 : w7.cell? ⟨gm, 11, none⟩ = some (.int .u8 (m.typ : Int)) := M7.cell 11
      have hrn : rx < w5.heap.size := by omega
      have HF : Hid (MsgR pr w (.returned (.tuple #[.agg #[.int .i64 m.kind, .int .u32 (m.ssrc : Int), .int .u32 (m.media : Int), .int .u64 (m.clock : Int), .int .u32 (m.time : Int), .int .u32 (m.packets : Int), .int .u32 (m.bytes : Int), .slice s'.rA m.reps.length s'.rc, .slice s'.wA m.who.length s'.wc, .slice s'.pA m.pairs.length s'.pc, .slice s'.aA m.asks.length s'.ac, .int .u8 (m.typ : Int)], .int .i64 0])) ((((((((((((w7.setCell ⟨rx, 0, none⟩ (.int .i64 m.kind)).setCell ⟨rx, 1, none⟩ (.int .u32 (m.ssrc : Int))).setCell ⟨rx, 2, none⟩ (.int .u32 (m.media : Int))).setCell ⟨rx, 3, none⟩ (.int .u64 (m.clock : Int))).setCell ⟨rx, 4, none⟩ (.int .u32 (m.time : Int))).setCell ⟨rx, 5, none⟩ (.int .u32 (m.packets : Int))).setCell ⟨rx, 6, none⟩ (.int .u32 (m.bytes : Int))).setCell ⟨rx, 7, none⟩ (.slice s'.rA m.reps.length s'.rc)).setCell ⟨rx, 8, none⟩ (.slice s'.wA m.who.length s'.wc)).setCell ⟨rx, 9, none⟩ (.slice s'.pA m.pairs.length s'.pc)).setCell ⟨rx, 10, none⟩ (.slice s'.aA m.asks.length s'.ac)).setCell ⟨rx, 11, none⟩ (.int .u8 (m.typ : Int)))) := Lib.hid (by
        rw [HPR.out.2 HGD.out]
        exact ⟨s', rfl, ((((((((((((hAt7.setNew hNew hrn _ _).setNew hNew hrn _ _).setNew hNew hrn _ _).setNew hNew hrn _ _).setNew hNew hrn _ _).setNew hNew hrn _ _).setNew hNew hrn _ _).setNew hNew hrn _ _).setNew hNew hrn _ _).setNew hNew hrn _ _).setNew hNew hrn _ _).setNew hNew hrn _ _).more (by simp), hNew.less (by omega), hFits, ((((((((((((HBX.setCell hrle _).setCell hrle _).setCell hrle _).setCell hrle _).setCell hrle _).setCell hrle _).setCell hrle _).setCell hrle _).setCell hrle _).setCell hrle _).setCell hrle _).setCell hrle _)⟩)
      clear HBX M7 X7 HM6 HX6 HBX6 HAt b7 CWH CEH hAt7 hNew hFits z0 z1 z2 z3 z4 z5 z6 z7 z8 z9 z10 z11
      go_wp2
      exact bodyPost_ret (v := .tuple #[.agg #[.int .i64 m.kind, .int .u32 (m.ssrc : Int), .int .u32 (m.media : Int), .int .u64 (m.clock : Int), .int .u32 (m.time : Int), .int .u32 (m.packets : Int), .int .u32 (m.bytes : Int), .slice s'.rA m.reps.length s'.rc, .slice s'.wA m.who.length s'.wc, .slice s'.pA m.pairs.length s'.pc, .slice s'.aA m.asks.length s'.ac, .int .u8 (m.typ : Int)], .int .i64 0]) (by simp [results, Tryd.results42, go_sem, q0, q1, q2, q3, q4, q5, q6, q7, q8, q9, q10, q11]) rfl HF.out
  · rw [if_neg hz] at he
    subst he
    have CEH := Lib.hid CE.out
    have HPR := Lib.hid (HP1.out hz)
    have hX6 := HX6.out
    have HBX := HBX6.out
    have q0 : w6.cell? ⟨rx, 0, none⟩ = some (.int .i64 0) := hX6.cell 0
    have f0 : w6.frozen? ⟨rx, 0, none⟩ = false := hX6.free 0
    have q1 : w6.cell? ⟨rx, 1, none⟩ = some (.int .u32 0) := hX6.cell 1
    have f1 : w6.frozen? ⟨rx, 1, none⟩ = false := hX6.free 1
    have q2 : w6.cell? ⟨rx, 2, none⟩ = some (.int .u32 0) := hX6.cell 2
    have f2 : w6.frozen? ⟨rx, 2, none⟩ = false := hX6.free 2
    have q3 : w6.cell? ⟨rx, 3, none⟩ = some (.int .u64 0) := hX6.cell 3
    have f3 : w6.frozen? ⟨rx, 3, none⟩ = false := hX6.free 3
    have q4 : w6.cell? ⟨rx, 4, none⟩ = some (.int .u32 0) := hX6.cell 4
    have f4 : w6.frozen? ⟨rx, 4, none⟩ = false := hX6.free 4
    have q5 : w6.cell? ⟨rx, 5, none⟩ = some (.int .u32 0) := hX6.cell 5
    have f5 : w6.frozen? ⟨rx, 5, none⟩ = false := hX6.free 5
    have q6 : w6.cell? ⟨rx, 6, none⟩ = some (.int .u32 0) := hX6.cell 6
    have f6 : w6.frozen? ⟨rx, 6, none⟩ = false := hX6.free 6
    have q7 : w6.cell? ⟨rx, 7, none⟩ = some (.slice none 0 0) := hX6.cell 7
    have f7 : w6.frozen? ⟨rx, 7, none⟩ = false := hX6.free 7
    have q8 : w6.cell? ⟨rx, 8, none⟩ = some (.slice none 0 0) := hX6.cell 8
    have f8 : w6.frozen? ⟨rx, 8, none⟩ = false := hX6.free 8
    have q9 : w6.cell? ⟨rx, 9, none⟩ = some (.slice none 0 0) := hX6.cell 9
    have f9 : w6.frozen? ⟨rx, 9, none⟩ = false := hX6.free 9
    have q10 : w6.cell? ⟨rx, 10, none⟩ = some (.slice none 0 0) := hX6.cell 10
    have f10 : w6.frozen? ⟨rx, 10, none⟩ = false := hX6.free 10
    have q11 : w6.cell? ⟨rx, 11, none⟩ = some (.int .u8 0) := hX6.cell 11
    have f11 : w6.frozen? ⟨rx, 11, none⟩ = false := hX6.free 11
    have HF : Hid (MsgR pr w (.returned (.tuple #[.agg #[.int .i64 0, .int .u32 0, .int .u32 0, .int .u64 0, .int .u32 0, .int .u32 0, .int .u32 0, .slice none 0 0, .slice none 0 0, .slice none 0 0, .slice none 0 0, .int .u8 0], .int .i64 10])) ((((((((((((w6.setCell ⟨rx, 0, none⟩ (.int .i64 0)).setCell ⟨rx, 1, none⟩ (.int .u32 0)).setCell ⟨rx, 2, none⟩ (.int .u32 0)).setCell ⟨rx, 3, none⟩ (.int .u64 0)).setCell ⟨rx, 4, none⟩ (.int .u32 0)).setCell ⟨rx, 5, none⟩ (.int .u32 0)).setCell ⟨rx, 6, none⟩ (.int .u32 0)).setCell ⟨rx, 7, none⟩ (.slice none 0 0)).setCell ⟨rx, 8, none⟩ (.slice none 0 0)).setCell ⟨rx, 9, none⟩ (.slice none 0 0)).setCell ⟨rx, 10, none⟩ (.slice none 0 0)).setCell ⟨rx, 11, none⟩ (.int .u8 0))) := Lib.hid (MsgR.zero ((((((((((((HBX.setCell hrle _).setCell hrle _).setCell hrle _).setCell hrle _).setCell hrle _).setCell hrle _).setCell hrle _).setCell hrle _).setCell hrle _).setCell hrle _).setCell hrle _).setCell hrle _) HPR.out)
    clear HBX HM6 HX6 HBX6 HAt CE HP1 HP2 HP3 hm hX6
    go_wp2_with fail
    refine CEH.out.mono ?_
    rintro e w6b ⟨rfl, rfl⟩
    go_wp2_with fail
    refine CEH.out.mono ?_
    rintro e w6c ⟨rfl, rfl⟩
    clear CEH
    go_wp2
    exact bodyPost_ret (v := .tuple #[.agg #[.int .i64 0, .int .u32 0, .int .u32 0, .int .u64 0, .int .u32 0, .int .u32 0, .int .u32 0, .slice none 0 0, .slice none 0 0, .slice none 0 0, .slice none 0 0, .int .u8 0], .int .i64 10]) (by simp [results, Tryd.results42, go_sem, q0, q1, q2, q3, q4, q5, q6, q7, q8, q9, q10, q11]) rfl HF.out

set_option maxHeartbeats 6400000 in
theorem msgOf4_any (A : Option Addr) (cp n t c : Nat) (s : List UInt8) (w : World) (hF : Forms w) (h : Row w w.heap.size 1 A n (u8s s)) (hn : s.length = n) (hl : n ≤ 2000) (hc : c < 32) (hk : kf t c = 4) (hp1 : ¬ 8 ≤ s.length → readM t c s = (zeroM, 10)) (hp2 : 8 ≤ s.length → Ms.good (⟨4, numAt s 0 4, numAt s 4 4, 0, 0, 0, 0, [], [], [], [], 0⟩) = false → readM t c s = (zeroM, 11)) (hp3 : 8 ≤ s.length → Ms.good (⟨4, numAt s 0 4, numAt s 4 4, 0, 0, 0, 0, [], [], [], [], 0⟩) = true → readM t c s = (⟨4, numAt s 0 4, numAt s 4 4, 0, 0, 0, 0, [], [], [], [], 0⟩, 0)) :
    Calls Tryd.prog 42 #[.int .u8 (t : Int), .int .u8 (c : Int), .slice A n cp] w (MsgR (readM t c s) w) := by
  obtain ⟨pr, hpr⟩ : ∃ pr, readM t c s = pr := ⟨_, rfl⟩
  rw [hpr] at hp1 hp2 hp3 ⊢
  have HP1 := Lib.hid hp1
  have HP2 := Lib.hid hp2
  have HP3 := Lib.hid hp3
  have B0 := (Below.refl w.heap.size w).alloc (Nat.le_refl _) (.cells #[.int .i64 0, .int .u32 0, .int .u32 0, .int .u64 0, .int .u32 0, .int .u32 0, .int .u32 0, .slice none 0 0, .slice none 0 0, .slice none 0 0, .slice none 0 0, .int .u8 0] 59)
  have W6 := Whole.new w 59 #[.int .i64 0, .int .u32 0, .int .u32 0, .int .u64 0, .int .u32 0, .int .u32 0, .int .u32 0, .slice none 0 0, .slice none 0 0, .slice none 0 0, .slice none 0 0, .int .u8 0]
  obtain ⟨w0, hw0⟩ : ∃ w0, w.alloc (.cells #[.int .i64 0, .int .u32 0, .int .u32 0, .int .u64 0, .int .u32 0, .int .u32 0, .int .u32 0, .slice none 0 0, .slice none 0 0, .slice none 0 0, .slice none 0 0, .int .u8 0] 59) = w0 := ⟨_, rfl⟩
  rw [hw0] at B0 W6
  obtain ⟨rx, hrx⟩ : ∃ rx, w.heap.size = rx := ⟨_, rfl⟩
  have CK := kindOf_any t c w0 (hF.next B0)
  rw [hk] at CK
  have H := Lib.hid h
  have HN := Lib.hid hn
  have HB0 := Lib.hid B0
  have hrx0 : rx < w0.heap.size := by rw [← hrx]; exact W6.lt
  have HW6 := Lib.hid W6
  clear h hn B0 W6 hF hk hp1 hp2 hp3 hpr
  go_enter Tryd.func42, Tryd.ntmps42
  go_wp2_with fail
  clear hw0
  refine CK.mono ?_
  rintro e w1 ⟨rfl, b1⟩
  have hs1 := b1.size
  have b2 := b1.alloc b1.size (.cells #[.int .i64 4, .int .u32 0, .int .u32 0, .int .u64 0, .int .u32 0, .int .u32 0, .int .u32 0, .slice none 0 0, .slice none 0 0, .slice none 0 0, .slice none 0 0, .int .u8 0] 59)
  have WM := Whole.new w1 59 #[.int .i64 4, .int .u32 0, .int .u32 0, .int .u64 0, .int .u32 0, .int .u32 0, .int .u32 0, .slice none 0 0, .slice none 0 0, .slice none 0 0, .slice none 0 0, .int .u8 0]
  obtain ⟨w2, hw2⟩ : ∃ w2, w1.alloc (.cells #[.int .i64 4, .int .u32 0, .int .u32 0, .int .u64 0, .int .u32 0, .int .u32 0, .int .u32 0, .slice none 0 0, .slice none 0 0, .slice none 0 0, .slice none 0 0, .int .u8 0] 59) = w2 := ⟨_, rfl⟩
  rw [hw2] at b2 WM
  obtain ⟨gm, hgm⟩ : ∃ gm, w1.heap.size = gm := ⟨_, rfl⟩
  rw [hgm] at WM
  have hgm2 : w2.heap.size = gm + 1 := by rw [← hw2, ← hgm]; simp
  have c0 : w2.cell? ⟨gm, 0, none⟩ = some (.int .i64 4) := WM.cell 0
  have B2 := bnextA HB0.out b2
  have CN := new_any A n cp s w2 (((H.out.below B2 (Nat.le_refl _))).more B2.size) (by omega)
  have HW2 := Lib.hid hw2
  have b1s := b2
  clear CK b1 hw2
  go_wp2_with fail
  rw [HW2.out]
  clear HW2
  refine CN.mono ?_
  rintro e w3 ⟨g, rfl, hg3, hc3, b3⟩
  have hg3l := hc3.lt
  have WM3 := WM.below b3 WM.lt
  have b4 := b3.alloc b3.size (.cells #[.pointer (some ⟨g, 0, none⟩)] 74)
  have hc4 := hc3.alloc (.cells #[.pointer (some ⟨g, 0, none⟩)] 74)
  have WM4 := WM3.alloc (.cells #[.pointer (some ⟨g, 0, none⟩)] 74)
  have WR4 := Whole.new w3 74 #[.pointer (some ⟨g, 0, none⟩)]
  have hs3 := b3.size
  have hs4 : (w3.alloc (.cells #[.pointer (some ⟨g, 0, none⟩)] 74)).heap.size = w3.heap.size + 1 := by simp
  obtain ⟨w4, hw4⟩ : ∃ w4, w3.alloc (.cells #[.pointer (some ⟨g, 0, none⟩)] 74) = w4 := ⟨_, rfl⟩
  rw [hw4] at b4 hc4 WM4 WR4 hs4
  obtain ⟨br, hbr⟩ : ∃ br, w3.heap.size = br := ⟨_, rfl⟩
  rw [hbr] at WR4 hs4 hs3 hg3l
  have B4 := bnextA B2 b4
  have HX4 := Lib.hid ((HW6.out.below b1s (Nat.lt_of_lt_of_le HW6.out.lt (Nat.le_refl _))).below b4 (by omega))
  obtain ⟨bq, hbq⟩ : ∃ bq, w4.heap.size = bq := ⟨_, rfl⟩
  have CB := Lib.hid ((bodies_any g gm c w4.drew).mono fun e w' hh => bodied_at hh (show w4.drew.heap.size = bq from hbq))
  have hbqr : br + 1 = bq := by rw [← hbq, hs4]
  have d0 : w4.cell? ⟨gm, 0, none⟩ = some (.int .i64 4) := WM4.cell 0
  have d1 : w4.cell? ⟨br, 0, none⟩ = some (.pointer (some ⟨g, 0, none⟩)) := WR4.cell 0
  have HWM4 := Lib.hid WM4
  have HWR4 := Lib.hid WR4
  have HC4 := Lib.hid hc4
  have HB4 := Lib.hid B4
  have hcw : IntKind.i64.wrap (c : Int) = (c : Int) := IntWalk.i64_in _ (by omega)
  have KP := Lib.hid (fun w' (b : Below w4.heap.size w4 w') => show w'.cell? ⟨gm, 0, none⟩ = some (.int .i64 4) ∧ w'.cell? ⟨br, 0, none⟩ = some (.pointer (some ⟨g, 0, none⟩)) from ⟨(HWM4.out.below b HWM4.out.lt).cell 0, (HWR4.out.below b HWR4.out.lt).cell 0⟩)
  have HW4 := Lib.hid hw4
  clear WM WM3 WM4 WR4 hc3 hc4 B2 B4 b2 b3 b4 CN c0 hw4
  go_wp2_with fail
  rw [HW4.out]
  clear HW4
  go_region_held3 (fun w' => w'.cell? ⟨gm, 0, none⟩ = some (.int .i64 4) ∧ w'.cell? ⟨br, 0, none⟩ = some (.pointer (some ⟨g, 0, none⟩)))
    (first | with_reducible exact KP.out _ bb5 | with_reducible exact KP.out _ (Below.refl _ _).drew | go_keep)
    (first
      | (go_at_call 57; refine CB.out.mono ?_; rintro e w5 ⟨mp, rfl, b5, V3, V4, V5, LK⟩; have bb5 : Below w4.heap.size w4 w5 := (by rw [hbq]; exact (Below.refl bq w4).drew.trans b5); have lk : (Instr.lookup 124 (.map (some mp)) (.int .i64 4) false).run Tryd.prog w5 = .ok (.func (.func 72) #[] #[.pointer (some ⟨bq, 0, none⟩), .pointer (some ⟨bq + 1, 0, none⟩)]) w5 := LK 4 (by decide)))
  have hM5 := HWM4.out.below bb5 HWM4.out.lt
  have hC5 := HC4.out.below bb5 (by rw [hs4]; omega)
  have hR5 := HWR4.out.below bb5 HWR4.out.lt
  have hX5 : Whole w5 rx 59 #[.int .i64 0, .int .u32 0, .int .u32 0, .int .u64 0, .int .u32 0, .int .u32 0, .int .u32 0, .slice none 0 0, .slice none 0 0, .slice none 0 0, .slice none 0 0, .int .u8 0] := by rw [← hrx]; exact HX4.out.below bb5 HX4.out.lt
  have CR := Lib.hid (read5_any gm g bq (bq + 1) (bq + 2) c s w5 hM5 hC5 V3 V4 V5 hc (by rw [HN.out]; exact hl) (by omega) (by omega) (by omega) (by omega) (by omega))
  have HB5 := Lib.hid (bnextA HB4.out bb5)
  have hs5 := bb5.size
  have HR5 := Lib.hid hR5
  have HX5 := Lib.hid hX5
  clear hM5 hC5 hR5 hX5 V3 V4 V5 LK b5 bb5 CB KP HWM4 HWR4 HC4 HB4 HX4
  go_wp2_with fail
  refine CR.out.mono ?_
  rintro e w6 ⟨m, s', l', e', rfl, hM, hAt, hNew, hFits, hm, he, hC, hP⟩
  have hR6 := HR5.out.prt hP (by omega) (by omega)
  have hX6 := HX5.out.prt hP (by omega) (by omega)
  have hB6 := HB5.out.trans (hP.below (B := w.heap.size) (by have := HB5.out.size; omega) (by omega) (by omega))
  have y1 : w6.cell? ⟨br, 0, none⟩ = some (.pointer (some ⟨g, 0, none⟩)) := hR6.cell 0
  have HM6 := Lib.hid hM
  have HAt := Lib.hid hAt
  have hrle : w.heap.size ≤ rx := Nat.le_of_eq hrx
  have HBX6 := Lib.hid hB6
  have CE := Lib.hid (err_any g l' e' w6 hC)
  have HX6 := Lib.hid hX6
  have HPS := hP.size
  clear CR hM hAt hC hP hR6 hX6 hB6 HR5 HX5 HB5 lk
  by_cases hz : 8 ≤ s.length
  · rw [if_pos hz] at he
    subst he
    have hmm : m = ⟨4, numAt s 0 4, numAt s 4 4, 0, 0, 0, 0, [], [], [], [], 0⟩ := hm rfl
    have CE0 := CE.out
    have CW := isWrong_any m s' w6
    have hpr : (m.good = false → pr = (zeroM, 11)) ∧ (m.good = true → pr = (m, 0)) := ⟨fun hg => HP2.out hz (hmm ▸ hg), fun hg => (HP3.out hz (hmm ▸ hg)).trans (by rw [hmm])⟩
    have HPR := Lib.hid hpr
    obtain ⟨gd, hgd⟩ : ∃ b, m.good = b := ⟨_, rfl⟩
    rw [hgd] at CW
    have HGD := Lib.hid hgd
    have CWH : Hid (Calls Tryd.prog 22 #[.agg #[.int .i64 m.kind, .int .u32 (m.ssrc : Int), .int .u32 (m.media : Int), .int .u64 (m.clock : Int), .int .u32 (m.time : Int), .int .u32 (m.packets : Int), .int .u32 (m.bytes : Int), .slice s'.rA m.reps.length s'.rc, .slice s'.wA m.who.length s'.wc, .slice s'.pA m.pairs.length s'.pc, .slice s'.aA m.asks.length s'.ac, .int .u8 (m.typ : Int)]] w6 fun e w' => e = .returned (.bool (!gd)) ∧ Below w6.heap.size w6 w') := CW
    have CEH := Lib.hid CE0
    have z0 : w6.cell? ⟨gm, 0, none⟩ = some (.int .i64 m.kind) := HM6.out.cell 0
    have z1 : w6.cell? ⟨gm, 1, none⟩ = some (.int .u32 (m.ssrc : Int)) := HM6.out.cell 1
    have z2 : w6.cell? ⟨gm, 2, none⟩ = some (.int .u32 (m.media : Int)) := HM6.out.cell 2
    have z3 : w6.cell? ⟨gm, 3, none⟩ = some (.int .u64 (m.clock : Int)) := HM6.out.cell 3
    have z4 : w6.cell? ⟨gm, 4, none⟩ = some (.int .u32 (m.time : Int)) := HM6.out.cell 4
    have z5 : w6.cell? ⟨gm, 5, none⟩ = some (.int .u32 (m.packets : Int)) := HM6.out.cell 5
    have z6 : w6.cell? ⟨gm, 6, none⟩ = some (.int .u32 (m.bytes : Int)) := HM6.out.cell 6
    have z7 : w6.cell? ⟨gm, 7, none⟩ = some (.slice s'.rA m.reps.length s'.rc) := HM6.out.cell 7
    have z8 : w6.cell? ⟨gm, 8, none⟩ = some (.slice s'.wA m.who.length s'.wc) := HM6.out.cell 8
    have z9 : w6.cell? ⟨gm, 9, none⟩ = some (.slice s'.pA m.pairs.length s'.pc) := HM6.out.cell 9
    have z10 : w6.cell? ⟨gm, 10, none⟩ = some (.slice s'.aA m.asks.length s'.ac) := HM6.out.cell 10
    have z11 : w6.cell? ⟨gm, 11, none⟩ = some (.int .u8 (m.typ : Int)) := HM6.out.cell 11
    clear CW CE0 hmm hm hpr hgd CE HP1 HP2 HP3
    go_wp2_with fail
    refine CEH.out.mono ?_
    rintro e w6b ⟨rfl, rfl⟩
    go_wp2_with fail
    refine CWH.out.mono ?_
    rintro e w7 ⟨rfl, b7⟩
    have M7 := HM6.out.below b7 HM6.out.lt
    have X7 := HX6.out.below b7 HX6.out.lt
    have HBX := bnextA HBX6.out b7
    have q0 : w7.cell? ⟨rx, 0, none⟩ = some (.int .i64 0) := X7.cell 0
    have f0 : w7.frozen? ⟨rx, 0, none⟩ = false := X7.free 0
    have q1 : w7.cell? ⟨rx, 1, none⟩ = some (.int .u32 0) := X7.cell 1
    have f1 : w7.frozen? ⟨rx, 1, none⟩ = false := X7.free 1
    have q2 : w7.cell? ⟨rx, 2, none⟩ = some (.int .u32 0) := X7.cell 2
    have f2 : w7.frozen? ⟨rx, 2, none⟩ = false := X7.free 2
    have q3 : w7.cell? ⟨rx, 3, none⟩ = some (.int .u64 0) := X7.cell 3
    have f3 : w7.frozen? ⟨rx, 3, none⟩ = false := X7.free 3
    have q4 : w7.cell? ⟨rx, 4, none⟩ = some (.int .u32 0) := X7.cell 4
    have f4 : w7.frozen? ⟨rx, 4, none⟩ = false := X7.free 4
    have q5 : w7.cell? ⟨rx, 5, none⟩ = some (.int .u32 0) := X7.cell 5
    have f5 : w7.frozen? ⟨rx, 5, none⟩ = false := X7.free 5
    have q6 : w7.cell? ⟨rx, 6, none⟩ = some (.int .u32 0) := X7.cell 6
    have f6 : w7.frozen? ⟨rx, 6, none⟩ = false := X7.free 6
    have q7 : w7.cell? ⟨rx, 7, none⟩ = some (.slice none 0 0) := X7.cell 7
    have f7 : w7.frozen? ⟨rx, 7, none⟩ = false := X7.free 7
    have q8 : w7.cell? ⟨rx, 8, none⟩ = some (.slice none 0 0) := X7.cell 8
    have f8 : w7.frozen? ⟨rx, 8, none⟩ = false := X7.free 8
    have q9 : w7.cell? ⟨rx, 9, none⟩ = some (.slice none 0 0) := X7.cell 9
    have f9 : w7.frozen? ⟨rx, 9, none⟩ = false := X7.free 9
    have q10 : w7.cell? ⟨rx, 10, none⟩ = some (.slice none 0 0) := X7.cell 10
    have f10 : w7.frozen? ⟨rx, 10, none⟩ = false := X7.free 10
    have q11 : w7.cell? ⟨rx, 11, none⟩ = some (.int .u8 0) := X7.cell 11
    have f11 : w7.frozen? ⟨rx, 11, none⟩ = false := X7.free 11
    cases gd with
    | false =>
      have HF : Hid (MsgR pr w (.returned (.tuple #[.agg #[.int .i64 0, .int .u32 0, .int .u32 0, .int .u64 0, .int .u32 0, .int .u32 0, .int .u32 0, .slice none 0 0, .slice none 0 0, .slice none 0 0, .slice none 0 0, .int .u8 0], .int .i64 11])) ((((((((((((w7.setCell ⟨rx, 0, none⟩ (.int .i64 0)).setCell ⟨rx, 1, none⟩ (.int .u32 0)).setCell ⟨rx, 2, none⟩ (.int .u32 0)).setCell ⟨rx, 3, none⟩ (.int .u64 0)).setCell ⟨rx, 4, none⟩ (.int .u32 0)).setCell ⟨rx, 5, none⟩ (.int .u32 0)).setCell ⟨rx, 6, none⟩ (.int .u32 0)).setCell ⟨rx, 7, none⟩ (.slice none 0 0)).setCell ⟨rx, 8, none⟩ (.slice none 0 0)).setCell ⟨rx, 9, none⟩ (.slice none 0 0)).setCell ⟨rx, 10, none⟩ (.slice none 0 0)).setCell ⟨rx, 11, none⟩ (.int .u8 0))) := Lib.hid (MsgR.zero ((((((((((((HBX.setCell hrle _).setCell hrle _).setCell hrle _).setCell hrle _).setCell hrle _).setCell hrle _).setCell hrle _).setCell hrle _).setCell hrle _).setCell hrle _).setCell hrle _).setCell hrle _) (HPR.out.1 HGD.out))
      clear HBX M7 X7 HM6 HX6 HBX6 HAt b7 CWH CEH z0 z1 z2 z3 z4 z5 z6 z7 z8 z9 z10 z11
      go_wp2
      exact bodyPost_ret (v := .tuple #[.agg #[.int .i64 0, .int .u32 0, .int .u32 0, .int .u64 0, .int .u32 0, .int .u32 0, .int .u32 0, .slice none 0 0, .slice none 0 0, .slice none 0 0, .slice none 0 0, .int .u8 0], .int .i64 11]) (by simp [results, Tryd.results42, go_sem, q0, q1, q2, q3, q4, q5, q6, q7, q8, q9, q10, q11]) rfl HF.out
    | true =>
      have hAt7 := ((HAt.out.below b7 (Nat.le_refl _)).more b7.size)
      have v0 : w7.cell? ⟨gm, 0, none⟩ = some (.int .i64 m.kind) := M7.cell 0
      have v1 : w7.cell? ⟨gm, 1, none⟩ = some (.int .u32 (m.ssrc : Int)) := M7.cell 1
      have v2 : w7.cell? ⟨gm, 2, none⟩ = some (.int .u32 (m.media : Int)) := M7.cell 2
      have v3 : w7.cell? ⟨gm, 3, none⟩ = some (.int .u64 (m.clock : Int)) := M7.cell 3
      have v4 : w7.cell? ⟨gm, 4, none⟩ = some (.int .u32 (m.time : Int)) := M7.cell 4
      have v5 : w7.cell? ⟨gm, 5, none⟩ = some (.int .u32 (m.packets : Int)) := M7.cell 5
      have v6 : w7.cell? ⟨gm, 6, none⟩ = some (.int .u32 (m.bytes : Int)) := M7.cell 6
      have v7 : w7.cell? ⟨gm, 7, none⟩ = some (.slice s'.rA m.reps.length s'.rc) := M7.cell 7
      have v8 : w7.cell? ⟨gm, 8, none⟩ = some (.slice s'.wA m.who.length s'.wc) := M7.cell 8
      have v9 : w7.cell? ⟨gm, 9, none⟩ = some (.slice s'.pA m.pairs.length s'.pc) := M7.cell 9
      have v10 : w7.cell? ⟨gm, 10, none⟩ = some (.slice s'.aA m.asks.length s'.ac) := M7.cell 10
      have v11 : w7.cell? ⟨gm, 11, none⟩ = some (.int .u8 (m.typ : Int)) := M7.cell 11
      have hrn : rx < w5.heap.size := by omega
      have HF : Hid (MsgR pr w (.returned (.tuple #[.agg #[.int .i64 m.kind, .int .u32 (m.ssrc : Int), .int .u32 (m.media : Int), .int .u64 (m.clock : Int), .int .u32 (m.time : Int), .int .u32 (m.packets : Int), .int .u32 (m.bytes : Int), .slice s'.rA m.reps.length s'.rc, .slice s'.wA m.who.length s'.wc, .slice s'.pA m.pairs.length s'.pc, .slice s'.aA m.asks.length s'.ac, .int .u8 (m.typ : Int)], .int .i64 0])) ((((((((((((w7.setCell ⟨rx, 0, none⟩ (.int .i64 m.kind)).setCell ⟨rx, 1, none⟩ (.int .u32 (m.ssrc : Int))).setCell ⟨rx, 2, none⟩ (.int .u32 (m.media : Int))).setCell ⟨rx, 3, none⟩ (.int .u64 (m.clock : Int))).setCell ⟨rx, 4, none⟩ (.int .u32 (m.time : Int))).setCell ⟨rx, 5, none⟩ (.int .u32 (m.packets : Int))).setCell ⟨rx, 6, none⟩ (.int .u32 (m.bytes : Int))).setCell ⟨rx, 7, none⟩ (.slice s'.rA m.reps.length s'.rc)).setCell ⟨rx, 8, none⟩ (.slice s'.wA m.who.length s'.wc)).setCell ⟨rx, 9, none⟩ (.slice s'.pA m.pairs.length s'.pc)).setCell ⟨rx, 10, none⟩ (.slice s'.aA m.asks.length s'.ac)).setCell ⟨rx, 11, none⟩ (.int .u8 (m.typ : Int)))) := Lib.hid (by
        rw [HPR.out.2 HGD.out]
        exact ⟨s', rfl, ((((((((((((hAt7.setNew hNew hrn _ _).setNew hNew hrn _ _).setNew hNew hrn _ _).setNew hNew hrn _ _).setNew hNew hrn _ _).setNew hNew hrn _ _).setNew hNew hrn _ _).setNew hNew hrn _ _).setNew hNew hrn _ _).setNew hNew hrn _ _).setNew hNew hrn _ _).setNew hNew hrn _ _).more (by simp), hNew.less (by omega), hFits, ((((((((((((HBX.setCell hrle _).setCell hrle _).setCell hrle _).setCell hrle _).setCell hrle _).setCell hrle _).setCell hrle _).setCell hrle _).setCell hrle _).setCell hrle _).setCell hrle _).setCell hrle _)⟩)
      clear HBX M7 X7 HM6 HX6 HBX6 HAt b7 CWH CEH hAt7 hNew hFits z0 z1 z2 z3 z4 z5 z6 z7 z8 z9 z10 z11
      go_wp2
      exact bodyPost_ret (v := .tuple #[.agg #[.int .i64 m.kind, .int .u32 (m.ssrc : Int), .int .u32 (m.media : Int), .int .u64 (m.clock : Int), .int .u32 (m.time : Int), .int .u32 (m.packets : Int), .int .u32 (m.bytes : Int), .slice s'.rA m.reps.length s'.rc, .slice s'.wA m.who.length s'.wc, .slice s'.pA m.pairs.length s'.pc, .slice s'.aA m.asks.length s'.ac, .int .u8 (m.typ : Int)], .int .i64 0]) (by simp [results, Tryd.results42, go_sem, q0, q1, q2, q3, q4, q5, q6, q7, q8, q9, q10, q11]) rfl HF.out
  · rw [if_neg hz] at he
    subst he
    have CEH := Lib.hid CE.out
    have HPR := Lib.hid (HP1.out hz)
    have hX6 := HX6.out
    have HBX := HBX6.out
    have q0 : w6.cell? ⟨rx, 0, none⟩ = some (.int .i64 0) := hX6.cell 0
    have f0 : w6.frozen? ⟨rx, 0, none⟩ = false := hX6.free 0
    have q1 : w6.cell? ⟨rx, 1, none⟩ = some (.int .u32 0) := hX6.cell 1
    have f1 : w6.frozen? ⟨rx, 1, none⟩ = false := hX6.free 1
    have q2 : w6.cell? ⟨rx, 2, none⟩ = some (.int .u32 0) := hX6.cell 2
    have f2 : w6.frozen? ⟨rx, 2, none⟩ = false := hX6.free 2
    have q3 : w6.cell? ⟨rx, 3, none⟩ = some (.int .u64 0) := hX6.cell 3
    have f3 : w6.frozen? ⟨rx, 3, none⟩ = false := hX6.free 3
    have q4 : w6.cell? ⟨rx, 4, none⟩ = some (.int .u32 0) := hX6.cell 4
    have f4 : w6.frozen? ⟨rx, 4, none⟩ = false := hX6.free 4
    have q5 : w6.cell? ⟨rx, 5, none⟩ = some (.int .u32 0) := hX6.cell 5
    have f5 : w6.frozen? ⟨rx, 5, none⟩ = false := hX6.free 5
    have q6 : w6.cell? ⟨rx, 6, none⟩ = some (.int .u32 0) := hX6.cell 6
    have f6 : w6.frozen? ⟨rx, 6, none⟩ = false := hX6.free 6
    have q7 : w6.cell? ⟨rx, 7, none⟩ = some (.slice none 0 0) := hX6.cell 7
    have f7 : w6.frozen? ⟨rx, 7, none⟩ = false := hX6.free 7
    have q8 : w6.cell? ⟨rx, 8, none⟩ = some (.slice none 0 0) := hX6.cell 8
    have f8 : w6.frozen? ⟨rx, 8, none⟩ = false := hX6.free 8
    have q9 : w6.cell? ⟨rx, 9, none⟩ = some (.slice none 0 0) := hX6.cell 9
    have f9 : w6.frozen? ⟨rx, 9, none⟩ = false := hX6.free 9
    have q10 : w6.cell? ⟨rx, 10, none⟩ = some (.slice none 0 0) := hX6.cell 10
    have f10 : w6.frozen? ⟨rx, 10, none⟩ = false := hX6.free 10
    have q11 : w6.cell? ⟨rx, 11, none⟩ = some (.int .u8 0) := hX6.cell 11
    have f11 : w6.frozen? ⟨rx, 11, none⟩ = false := hX6.free 11
    have HF : Hid (MsgR pr w (.returned (.tuple #[.agg #[.int .i64 0, .int .u32 0, .int .u32 0, .int .u64 0, .int .u32 0, .int .u32 0, .int .u32 0, .slice none 0 0, .slice none 0 0, .slice none 0 0, .slice none 0 0, .int .u8 0], .int .i64 10])) ((((((((((((w6.setCell ⟨rx, 0, none⟩ (.int .i64 0)).setCell ⟨rx, 1, none⟩ (.int .u32 0)).setCell ⟨rx, 2, none⟩ (.int .u32 0)).setCell ⟨rx, 3, none⟩ (.int .u64 0)).setCell ⟨rx, 4, none⟩ (.int .u32 0)).setCell ⟨rx, 5, none⟩ (.int .u32 0)).setCell ⟨rx, 6, none⟩ (.int .u32 0)).setCell ⟨rx, 7, none⟩ (.slice none 0 0)).setCell ⟨rx, 8, none⟩ (.slice none 0 0)).setCell ⟨rx, 9, none⟩ (.slice none 0 0)).setCell ⟨rx, 10, none⟩ (.slice none 0 0)).setCell ⟨rx, 11, none⟩ (.int .u8 0))) := Lib.hid (MsgR.zero ((((((((((((HBX.setCell hrle _).setCell hrle _).setCell hrle _).setCell hrle _).setCell hrle _).setCell hrle _).setCell hrle _).setCell hrle _).setCell hrle _).setCell hrle _).setCell hrle _).setCell hrle _) HPR.out)
    clear HBX HM6 HX6 HBX6 HAt CE HP1 HP2 HP3 hm hX6
    go_wp2_with fail
    refine CEH.out.mono ?_
    rintro e w6b ⟨rfl, rfl⟩
    go_wp2_with fail
    refine CEH.out.mono ?_
    rintro e w6c ⟨rfl, rfl⟩
    clear CEH
    go_wp2
    exact bodyPost_ret (v := .tuple #[.agg #[.int .i64 0, .int .u32 0, .int .u32 0, .int .u64 0, .int .u32 0, .int .u32 0, .int .u32 0, .slice none 0 0, .slice none 0 0, .slice none 0 0, .slice none 0 0, .int .u8 0], .int .i64 10]) (by simp [results, Tryd.results42, go_sem, q0, q1, q2, q3, q4, q5, q6, q7, q8, q9, q10, q11]) rfl HF.out

set_option maxHeartbeats 6400000 in
theorem msgOf5_any (A : Option Addr) (cp n t c : Nat) (s : List UInt8) (w : World) (hF : Forms w) (h : Row w w.heap.size 1 A n (u8s s)) (hn : s.length = n) (hl : n ≤ 2000) (hc : c < 32) (hk : kf t c = 5) (hp1 : ¬ 8 ≤ s.length → readM t c s = (zeroM, 10)) (hp2 : 8 ≤ s.length → Ms.good (⟨5, numAt s 0 4, numAt s 4 4, 0, 0, 0, 0, [], [], [], rdAsks s ((s.length - 8) / 8), 0⟩) = false → readM t c s = (zeroM, 11)) (hp3 : 8 ≤ s.length → Ms.good (⟨5, numAt s 0 4, numAt s 4 4, 0, 0, 0, 0, [], [], [], rdAsks s ((s.length - 8) / 8), 0⟩) = true → readM t c s = (⟨5, numAt s 0 4, numAt s 4 4, 0, 0, 0, 0, [], [], [], rdAsks s ((s.length - 8) / 8), 0⟩, 0)) :
    Calls Tryd.prog 42 #[.int .u8 (t : Int), .int .u8 (c : Int), .slice A n cp] w (MsgR (readM t c s) w) := by
  obtain ⟨pr, hpr⟩ : ∃ pr, readM t c s = pr := ⟨_, rfl⟩
  rw [hpr] at hp1 hp2 hp3 ⊢
  have HP1 := Lib.hid hp1
  have HP2 := Lib.hid hp2
  have HP3 := Lib.hid hp3
  have B0 := (Below.refl w.heap.size w).alloc (Nat.le_refl _) (.cells #[.int .i64 0, .int .u32 0, .int .u32 0, .int .u64 0, .int .u32 0, .int .u32 0, .int .u32 0, .slice none 0 0, .slice none 0 0, .slice none 0 0, .slice none 0 0, .int .u8 0] 59)
  have W6 := Whole.new w 59 #[.int .i64 0, .int .u32 0, .int .u32 0, .int .u64 0, .int .u32 0, .int .u32 0, .int .u32 0, .slice none 0 0, .slice none 0 0, .slice none 0 0, .slice none 0 0, .int .u8 0]
  obtain ⟨w0, hw0⟩ : ∃ w0, w.alloc (.cells #[.int .i64 0, .int .u32 0, .int .u32 0, .int .u64 0, .int .u32 0, .int .u32 0, .int .u32 0, .slice none 0 0, .slice none 0 0, .slice none 0 0, .slice none 0 0, .int .u8 0] 59) = w0 := ⟨_, rfl⟩
  rw [hw0] at B0 W6
  obtain ⟨rx, hrx⟩ : ∃ rx, w.heap.size = rx := ⟨_, rfl⟩
  have CK := kindOf_any t c w0 (hF.next B0)
  rw [hk] at CK
  have H := Lib.hid h
  have HN := Lib.hid hn
  have HB0 := Lib.hid B0
  have hrx0 : rx < w0.heap.size := by rw [← hrx]; exact W6.lt
  have HW6 := Lib.hid W6
  clear h hn B0 W6 hF hk hp1 hp2 hp3 hpr
  go_enter Tryd.func42, Tryd.ntmps42
  go_wp2_with fail
  clear hw0
  refine CK.mono ?_
  rintro e w1 ⟨rfl, b1⟩
  have hs1 := b1.size
  have b2 := b1.alloc b1.size (.cells #[.int .i64 5, .int .u32 0, .int .u32 0, .int .u64 0, .int .u32 0, .int .u32 0, .int .u32 0, .slice none 0 0, .slice none 0 0, .slice none 0 0, .slice none 0 0, .int .u8 0] 59)
  have WM := Whole.new w1 59 #[.int .i64 5, .int .u32 0, .int .u32 0, .int .u64 0, .int .u32 0, .int .u32 0, .int .u32 0, .slice none 0 0, .slice none 0 0, .slice none 0 0, .slice none 0 0, .int .u8 0]
  obtain ⟨w2, hw2⟩ : ∃ w2, w1.alloc (.cells #[.int .i64 5, .int .u32 0, .int .u32 0, .int .u64 0, .int .u32 0, .int .u32 0, .int .u32 0, .slice none 0 0, .slice none 0 0, .slice none 0 0, .slice none 0 0, .int .u8 0] 59) = w2 := ⟨_, rfl⟩
  rw [hw2] at b2 WM
  obtain ⟨gm, hgm⟩ : ∃ gm, w1.heap.size = gm := ⟨_, rfl⟩
  rw [hgm] at WM
  have hgm2 : w2.heap.size = gm + 1 := by rw [← hw2, ← hgm]; simp
  have c0 : w2.cell? ⟨gm, 0, none⟩ = some (.int .i64 5) := WM.cell 0
  have B2 := bnextA HB0.out b2
  have CN := new_any A n cp s w2 (((H.out.below B2 (Nat.le_refl _))).more B2.size) (by omega)
  have HW2 := Lib.hid hw2
  have b1s := b2
  clear CK b1 hw2
  go_wp2_with fail
  rw [HW2.out]
  clear HW2
  refine CN.mono ?_
  rintro e w3 ⟨g, rfl, hg3, hc3, b3⟩
  have hg3l := hc3.lt
  have WM3 := WM.below b3 WM.lt
  have b4 := b3.alloc b3.size (.cells #[.pointer (some ⟨g, 0, none⟩)] 74)
  have hc4 := hc3.alloc (.cells #[.pointer (some ⟨g, 0, none⟩)] 74)
  have WM4 := WM3.alloc (.cells #[.pointer (some ⟨g, 0, none⟩)] 74)
  have WR4 := Whole.new w3 74 #[.pointer (some ⟨g, 0, none⟩)]
  have hs3 := b3.size
  have hs4 : (w3.alloc (.cells #[.pointer (some ⟨g, 0, none⟩)] 74)).heap.size = w3.heap.size + 1 := by simp
  obtain ⟨w4, hw4⟩ : ∃ w4, w3.alloc (.cells #[.pointer (some ⟨g, 0, none⟩)] 74) = w4 := ⟨_, rfl⟩
  rw [hw4] at b4 hc4 WM4 WR4 hs4
  obtain ⟨br, hbr⟩ : ∃ br, w3.heap.size = br := ⟨_, rfl⟩
  rw [hbr] at WR4 hs4 hs3 hg3l
  have B4 := bnextA B2 b4
  have HX4 := Lib.hid ((HW6.out.below b1s (Nat.lt_of_lt_of_le HW6.out.lt (Nat.le_refl _))).below b4 (by omega))
  obtain ⟨bq, hbq⟩ : ∃ bq, w4.heap.size = bq := ⟨_, rfl⟩
  have CB := Lib.hid ((bodies_any g gm c w4.drew).mono fun e w' hh => bodied_at hh (show w4.drew.heap.size = bq from hbq))
  have hbqr : br + 1 = bq := by rw [← hbq, hs4]
  have d0 : w4.cell? ⟨gm, 0, none⟩ = some (.int .i64 5) := WM4.cell 0
  have d1 : w4.cell? ⟨br, 0, none⟩ = some (.pointer (some ⟨g, 0, none⟩)) := WR4.cell 0
  have HWM4 := Lib.hid WM4
  have HWR4 := Lib.hid WR4
  have HC4 := Lib.hid hc4
  have HB4 := Lib.hid B4
  have hcw : IntKind.i64.wrap (c : Int) = (c : Int) := IntWalk.i64_in _ (by omega)
  have KP := Lib.hid (fun w' (b : Below w4.heap.size w4 w') => show w'.cell? ⟨gm, 0, none⟩ = some (.int .i64 5) ∧ w'.cell? ⟨br, 0, none⟩ = some (.pointer (some ⟨g, 0, none⟩)) from ⟨(HWM4.out.below b HWM4.out.lt).cell 0, (HWR4.out.below b HWR4.out.lt).cell 0⟩)
  have HW4 := Lib.hid hw4
  clear WM WM3 WM4 WR4 hc3 hc4 B2 B4 b2 b3 b4 CN c0 hw4
  go_wp2_with fail
  rw [HW4.out]
  clear HW4
  go_region_held3 (fun w' => w'.cell? ⟨gm, 0, none⟩ = some (.int .i64 5) ∧ w'.cell? ⟨br, 0, none⟩ = some (.pointer (some ⟨g, 0, none⟩)))
    (first | with_reducible exact KP.out _ bb5 | with_reducible exact KP.out _ (Below.refl _ _).drew | go_keep)
    (first
      | (go_at_call 57; refine CB.out.mono ?_; rintro e w5 ⟨mp, rfl, b5, V3, V4, V5, LK⟩; have bb5 : Below w4.heap.size w4 w5 := (by rw [hbq]; exact (Below.refl bq w4).drew.trans b5); have lk : (Instr.lookup 124 (.map (some mp)) (.int .i64 5) false).run Tryd.prog w5 = .ok (.func (.func 73) #[] #[.pointer (some ⟨bq, 0, none⟩), .pointer (some ⟨bq + 1, 0, none⟩)]) w5 := LK 5 (by decide)))
  have hM5 := HWM4.out.below bb5 HWM4.out.lt
  have hC5 := HC4.out.below bb5 (by rw [hs4]; omega)
  have hR5 := HWR4.out.below bb5 HWR4.out.lt
  have hX5 : Whole w5 rx 59 #[.int .i64 0, .int .u32 0, .int .u32 0, .int .u64 0, .int .u32 0, .int .u32 0, .int .u32 0, .slice none 0 0, .slice none 0 0, .slice none 0 0, .slice none 0 0, .int .u8 0] := by rw [← hrx]; exact HX4.out.below bb5 HX4.out.lt
  have CR := Lib.hid (read6_any gm g bq (bq + 1) (bq + 2) c s w5 hM5 hC5 V3 V4 V5 hc (by rw [HN.out]; exact hl) (by omega) (by omega) (by omega) (by omega) (by omega))
  have HB5 := Lib.hid (bnextA HB4.out bb5)
  have hs5 := bb5.size
  have HR5 := Lib.hid hR5
  have HX5 := Lib.hid hX5
  clear hM5 hC5 hR5 hX5 V3 V4 V5 LK b5 bb5 CB KP HWM4 HWR4 HC4 HB4 HX4
  go_wp2_with fail
  refine CR.out.mono ?_
  rintro e w6 ⟨m, s', l', e', rfl, hM, hAt, hNew, hFits, hm, he, hC, hP⟩
  have hR6 := HR5.out.prt hP (by omega) (by omega)
  have hX6 := HX5.out.prt hP (by omega) (by omega)
  have hB6 := HB5.out.trans (hP.below (B := w.heap.size) (by have := HB5.out.size; omega) (by omega) (by omega))
  have y1 : w6.cell? ⟨br, 0, none⟩ = some (.pointer (some ⟨g, 0, none⟩)) := hR6.cell 0
  have HM6 := Lib.hid hM
  have HAt := Lib.hid hAt
  have hrle : w.heap.size ≤ rx := Nat.le_of_eq hrx
  have HBX6 := Lib.hid hB6
  have CE := Lib.hid (err_any g l' e' w6 hC)
  have HX6 := Lib.hid hX6
  have HPS := hP.size
  clear CR hM hAt hC hP hR6 hX6 hB6 HR5 HX5 HB5 lk
  by_cases hz : 8 ≤ s.length
  · rw [if_pos hz] at he
    subst he
    have hmm : m = ⟨5, numAt s 0 4, numAt s 4 4, 0, 0, 0, 0, [], [], [], rdAsks s ((s.length - 8) / 8), 0⟩ := hm rfl
    have CE0 := CE.out
    have CW := isWrong_any m s' w6
    have hpr : (m.good = false → pr = (zeroM, 11)) ∧ (m.good = true → pr = (m, 0)) := ⟨fun hg => HP2.out hz (hmm ▸ hg), fun hg => (HP3.out hz (hmm ▸ hg)).trans (by rw [hmm])⟩
    have HPR := Lib.hid hpr
    obtain ⟨gd, hgd⟩ : ∃ b, m.good = b := ⟨_, rfl⟩
    rw [hgd] at CW
    have HGD := Lib.hid hgd
    have CWH : Hid (Calls Tryd.prog 22 #[.agg #[.int .i64 m.kind, .int .u32 (m.ssrc : Int), .int .u32 (m.media : Int), .int .u64 (m.clock : Int), .int .u32 (m.time : Int), .int .u32 (m.packets : Int), .int .u32 (m.bytes : Int), .slice s'.rA m.reps.length s'.rc, .slice s'.wA m.who.length s'.wc, .slice s'.pA m.pairs.length s'.pc, .slice s'.aA m.asks.length s'.ac, .int .u8 (m.typ : Int)]] w6 fun e w' => e = .returned (.bool (!gd)) ∧ Below w6.heap.size w6 w') := CW
    have CEH := Lib.hid CE0
    have z0 : w6.cell? ⟨gm, 0, none⟩ = some (.int .i64 m.kind) := HM6.out.cell 0
    have z1 : w6.cell? ⟨gm, 1, none⟩ = some (.int .u32 (m.ssrc : Int)) := HM6.out.cell 1
    have z2 : w6.cell? ⟨gm, 2, none⟩ = some (.int .u32 (m.media : Int)) := HM6.out.cell 2
    have z3 : w6.cell? ⟨gm, 3, none⟩ = some (.int .u64 (m.clock : Int)) := HM6.out.cell 3
    have z4 : w6.cell? ⟨gm, 4, none⟩ = some (.int .u32 (m.time : Int)) := HM6.out.cell 4
    have z5 : w6.cell? ⟨gm, 5, none⟩ = some (.int .u32 (m.packets : Int)) := HM6.out.cell 5
    have z6 : w6.cell? ⟨gm, 6, none⟩ = some (.int .u32 (m.bytes : Int)) := HM6.out.cell 6
    have z7 : w6.cell? ⟨gm, 7, none⟩ = some (.slice s'.rA m.reps.length s'.rc) := HM6.out.cell 7
    have z8 : w6.cell? ⟨gm, 8, none⟩ = some (.slice s'.wA m.who.length s'.wc) := HM6.out.cell 8
    have z9 : w6.cell? ⟨gm, 9, none⟩ = some (.slice s'.pA m.pairs.length s'.pc) := HM6.out.cell 9
    have z10 : w6.cell? ⟨gm, 10, none⟩ = some (.slice s'.aA m.asks.length s'.ac) := HM6.out.cell 10
    have z11 : w6.cell? ⟨gm, 11, none⟩ = some (.int .u8 (m.typ : Int)) := HM6.out.cell 11
    clear CW CE0 hmm hm hpr hgd CE HP1 HP2 HP3
    go_wp2_with fail
    refine CEH.out.mono ?_
    rintro e w6b ⟨rfl, rfl⟩
    go_wp2_with fail
    refine CWH.out.mono ?_
    rintro e w7 ⟨rfl, b7⟩
    have M7 := HM6.out.below b7 HM6.out.lt
    have X7 := HX6.out.below b7 HX6.out.lt
    have HBX := bnextA HBX6.out b7
    have q0 : w7.cell? ⟨rx, 0, none⟩ = some (.int .i64 0) := X7.cell 0
    have f0 : w7.frozen? ⟨rx, 0, none⟩ = false := X7.free 0
    have q1 : w7.cell? ⟨rx, 1, none⟩ = some (.int .u32 0) := X7.cell 1
    have f1 : w7.frozen? ⟨rx, 1, none⟩ = false := X7.free 1
    have q2 : w7.cell? ⟨rx, 2, none⟩ = some (.int .u32 0) := X7.cell 2
    have f2 : w7.frozen? ⟨rx, 2, none⟩ = false := X7.free 2
    have q3 : w7.cell? ⟨rx, 3, none⟩ = some (.int .u64 0) := X7.cell 3
    have f3 : w7.frozen? ⟨rx, 3, none⟩ = false := X7.free 3
    have q4 : w7.cell? ⟨rx, 4, none⟩ = some (.int .u32 0) := X7.cell 4
    have f4 : w7.frozen? ⟨rx, 4, none⟩ = false := X7.free 4
    have q5 : w7.cell? ⟨rx, 5, none⟩ = some (.int .u32 0) := X7.cell 5
    have f5 : w7.frozen? ⟨rx, 5, none⟩ = false := X7.free 5
    have q6 : w7.cell? ⟨rx, 6, none⟩ = some (.int .u32 0) := X7.cell 6
    have f6 : w7.frozen? ⟨rx, 6, none⟩ = false := X7.free 6
    have q7 : w7.cell? ⟨rx, 7, none⟩ = some (.slice none 0 0) := X7.cell 7
    have f7 : w7.frozen? ⟨rx, 7, none⟩ = false := X7.free 7
    have q8 : w7.cell? ⟨rx, 8, none⟩ = some (.slice none 0 0) := X7.cell 8
    have f8 : w7.frozen? ⟨rx, 8, none⟩ = false := X7.free 8
    have q9 : w7.cell? ⟨rx, 9, none⟩ = some (.slice none 0 0) := X7.cell 9
    have f9 : w7.frozen? ⟨rx, 9, none⟩ = false := X7.free 9
    have q10 : w7.cell? ⟨rx, 10, none⟩ = some (.slice none 0 0) := X7.cell 10
    have f10 : w7.frozen? ⟨rx, 10, none⟩ = false := X7.free 10
    have q11 : w7.cell? ⟨rx, 11, none⟩ = some (.int .u8 0) := X7.cell 11
    have f11 : w7.frozen? ⟨rx, 11, none⟩ = false := X7.free 11
    cases gd with
    | false =>
      have HF : Hid (MsgR pr w (.returned (.tuple #[.agg #[.int .i64 0, .int .u32 0, .int .u32 0, .int .u64 0, .int .u32 0, .int .u32 0, .int .u32 0, .slice none 0 0, .slice none 0 0, .slice none 0 0, .slice none 0 0, .int .u8 0], .int .i64 11])) ((((((((((((w7.setCell ⟨rx, 0, none⟩ (.int .i64 0)).setCell ⟨rx, 1, none⟩ (.int .u32 0)).setCell ⟨rx, 2, none⟩ (.int .u32 0)).setCell ⟨rx, 3, none⟩ (.int .u64 0)).setCell ⟨rx, 4, none⟩ (.int .u32 0)).setCell ⟨rx, 5, none⟩ (.int .u32 0)).setCell ⟨rx, 6, none⟩ (.int .u32 0)).setCell ⟨rx, 7, none⟩ (.slice none 0 0)).setCell ⟨rx, 8, none⟩ (.slice none 0 0)).setCell ⟨rx, 9, none⟩ (.slice none 0 0)).setCell ⟨rx, 10, none⟩ (.slice none 0 0)).setCell ⟨rx, 11, none⟩ (.int .u8 0))) := Lib.hid (MsgR.zero ((((((((((((HBX.setCell hrle _).setCell hrle _).setCell hrle _).setCell hrle _).setCell hrle _).setCell hrle _).setCell hrle _).setCell hrle _).setCell hrle _).setCell hrle _).setCell hrle _).setCell hrle _) (HPR.out.1 HGD.out))
      clear HBX M7 X7 HM6 HX6 HBX6 HAt b7 CWH CEH z0 z1 z2 z3 z4 z5 z6 z7 z8 z9 z10 z11
      go_wp2
      exact bodyPost_ret (v := .tuple #[.agg #[.int .i64 0, .int .u32 0, .int .u32 0, .int .u64 0, .int .u32 0, .int .u32 0, .int .u32 0, .slice none 0 0, .slice none 0 0, .slice none 0 0, .slice none 0 0, .int .u8 0], .int .i64 11]) (by simp [results, Tryd.results42, go_sem, q0, q1, q2, q3, q4, q5, q6, q7, q8, q9, q10, q11]) rfl HF.out
    | true =>
      have hAt7 := ((HAt.out.below b7 (Nat.le_refl _)).more b7.size)
      have v0 : w7.cell? ⟨gm, 0, none⟩ = some (.int .i64 m.kind) := M7.cell 0
      have v1 : w7.cell? ⟨gm, 1, none⟩ = some (.int .u32 (m.ssrc : Int)) := M7.cell 1
      have v2 : w7.cell? ⟨gm, 2, none⟩ = some (.int .u32 (m.media : Int)) := M7.cell 2
      have v3 : w7.cell? ⟨gm, 3, none⟩ = some (.int .u64 (m.clock : Int)) := M7.cell 3
      have v4 : w7.cell? ⟨gm, 4, none⟩ = some (.int .u32 (m.time : Int)) := M7.cell 4
      have v5 : w7.cell? ⟨gm, 5, none⟩ = some (.int .u32 (m.packets : Int)) := M7.cell 5
      have v6 : w7.cell? ⟨gm, 6, none⟩ = some (.int .u32 (m.bytes : Int)) := M7.cell 6
      have v7 : w7.cell? ⟨gm, 7, none⟩ = some (.slice s'.rA m.reps.length s'.rc) := M7.cell 7
      have v8 : w7.cell? ⟨gm, 8, none⟩ = some (.slice s'.wA m.who.length s'.wc) := M7.cell 8
      have v9 : w7.cell? ⟨gm, 9, none⟩ = some (.slice s'.pA m.pairs.length s'.pc) := M7.cell 9
      have v10 : w7.cell? ⟨gm, 10, none⟩ = some (.slice s'.aA m.asks.length s'.ac) := M7.cell 10
      have v11 : w7.cell? ⟨gm, 11, none⟩ = some (.int .u8 (m.typ : Int)) := M7.cell 11
      have hrn : rx < w5.heap.size := by omega
      have HF : Hid (MsgR pr w (.returned (.tuple #[.agg #[.int .i64 m.kind, .int .u32 (m.ssrc : Int), .int .u32 (m.media : Int), .int .u64 (m.clock : Int), .int .u32 (m.time : Int), .int .u32 (m.packets : Int), .int .u32 (m.bytes : Int), .slice s'.rA m.reps.length s'.rc, .slice s'.wA m.who.length s'.wc, .slice s'.pA m.pairs.length s'.pc, .slice s'.aA m.asks.length s'.ac, .int .u8 (m.typ : Int)], .int .i64 0])) ((((((((((((w7.setCell ⟨rx, 0, none⟩ (.int .i64 m.kind)).setCell ⟨rx, 1, none⟩ (.int .u32 (m.ssrc : Int))).setCell ⟨rx, 2, none⟩ (.int .u32 (m.media : Int))).setCell ⟨rx, 3, none⟩ (.int .u64 (m.clock : Int))).setCell ⟨rx, 4, none⟩ (.int .u32 (m.time : Int))).setCell ⟨rx, 5, none⟩ (.int .u32 (m.packets : Int))).setCell ⟨rx, 6, none⟩ (.int .u32 (m.bytes : Int))).setCell ⟨rx, 7, none⟩ (.slice s'.rA m.reps.length s'.rc)).setCell ⟨rx, 8, none⟩ (.slice s'.wA m.who.length s'.wc)).setCell ⟨rx, 9, none⟩ (.slice s'.pA m.pairs.length s'.pc)).setCell ⟨rx, 10, none⟩ (.slice s'.aA m.asks.length s'.ac)).setCell ⟨rx, 11, none⟩ (.int .u8 (m.typ : Int)))) := Lib.hid (by
        rw [HPR.out.2 HGD.out]
        exact ⟨s', rfl, ((((((((((((hAt7.setNew hNew hrn _ _).setNew hNew hrn _ _).setNew hNew hrn _ _).setNew hNew hrn _ _).setNew hNew hrn _ _).setNew hNew hrn _ _).setNew hNew hrn _ _).setNew hNew hrn _ _).setNew hNew hrn _ _).setNew hNew hrn _ _).setNew hNew hrn _ _).setNew hNew hrn _ _).more (by simp), hNew.less (by omega), hFits, ((((((((((((HBX.setCell hrle _).setCell hrle _).setCell hrle _).setCell hrle _).setCell hrle _).setCell hrle _).setCell hrle _).setCell hrle _).setCell hrle _).setCell hrle _).setCell hrle _).setCell hrle _)⟩)
      clear HBX M7 X7 HM6 HX6 HBX6 HAt b7 CWH CEH hAt7 hNew hFits z0 z1 z2 z3 z4 z5 z6 z7 z8 z9 z10 z11
      go_wp2
      exact bodyPost_ret (v := .tuple #[.agg #[.int .i64 m.kind, .int .u32 (m.ssrc : Int), .int .u32 (m.media : Int), .int .u64 (m.clock : Int), .int .u32 (m.time : Int), .int .u32 (m.packets : Int), .int .u32 (m.bytes : Int), .slice s'.rA m.reps.length s'.rc, .slice s'.wA m.who.length s'.wc, .slice s'.pA m.pairs.length s'.pc, .slice s'.aA m.asks.length s'.ac, .int .u8 (m.typ : Int)], .int .i64 0]) (by simp [results, Tryd.results42, go_sem, q0, q1, q2, q3, q4, q5, q6, q7, q8, q9, q10, q11]) rfl HF.out
  · rw [if_neg hz] at he
    subst he
    have CEH := Lib.hid CE.out
    have HPR := Lib.hid (HP1.out hz)
    have hX6 := HX6.out
    have HBX := HBX6.out
    have q0 : w6.cell? ⟨rx, 0, none⟩ = some (.int .i64 0) := hX6.cell 0
    have f0 : w6.frozen? ⟨rx, 0, none⟩ = false := hX6.free 0
    have q1 : w6.cell? ⟨rx, 1, none⟩ = some (.int .u32 0) := hX6.cell 1
    have f1 : w6.frozen? ⟨rx, 1, none⟩ = false := hX6.free 1
    have q2 : w6.cell? ⟨rx, 2, none⟩ = some (.int .u32 0) := hX6.cell 2
    have f2 : w6.frozen? ⟨rx, 2, none⟩ = false := hX6.free 2
    have q3 : w6.cell? ⟨rx, 3, none⟩ = some (.int .u64 0) := hX6.cell 3
    have f3 : w6.frozen? ⟨rx, 3, none⟩ = false := hX6.free 3
    have q4 : w6.cell? ⟨rx, 4, none⟩ = some (.int .u32 0) := hX6.cell 4
    have f4 : w6.frozen? ⟨rx, 4, none⟩ = false := hX6.free 4
    have q5 : w6.cell? ⟨rx, 5, none⟩ = some (.int .u32 0) := hX6.cell 5
    have f5 : w6.frozen? ⟨rx, 5, none⟩ = false := hX6.free 5
    have q6 : w6.cell? ⟨rx, 6, none⟩ = some (.int .u32 0) := hX6.cell 6
    have f6 : w6.frozen? ⟨rx, 6, none⟩ = false := hX6.free 6
    have q7 : w6.cell? ⟨rx, 7, none⟩ = some (.slice none 0 0) := hX6.cell 7
    have f7 : w6.frozen? ⟨rx, 7, none⟩ = false := hX6.free 7
    have q8 : w6.cell? ⟨rx, 8, none⟩ = some (.slice none 0 0) := hX6.cell 8
    have f8 : w6.frozen? ⟨rx, 8, none⟩ = false := hX6.free 8
    have q9 : w6.cell? ⟨rx, 9, none⟩ = some (.slice none 0 0) := hX6.cell 9
    have f9 : w6.frozen? ⟨rx, 9, none⟩ = false := hX6.free 9
    have q10 : w6.cell? ⟨rx, 10, none⟩ = some (.slice none 0 0) := hX6.cell 10
    have f10 : w6.frozen? ⟨rx, 10, none⟩ = false := hX6.free 10
    have q11 : w6.cell? ⟨rx, 11, none⟩ = some (.int .u8 0) := hX6.cell 11
    have f11 : w6.frozen? ⟨rx, 11, none⟩ = false := hX6.free 11
    have HF : Hid (MsgR pr w (.returned (.tuple #[.agg #[.int .i64 0, .int .u32 0, .int .u32 0, .int .u64 0, .int .u32 0, .int .u32 0, .int .u32 0, .slice none 0 0, .slice none 0 0, .slice none 0 0, .slice none 0 0, .int .u8 0], .int .i64 10])) ((((((((((((w6.setCell ⟨rx, 0, none⟩ (.int .i64 0)).setCell ⟨rx, 1, none⟩ (.int .u32 0)).setCell ⟨rx, 2, none⟩ (.int .u32 0)).setCell ⟨rx, 3, none⟩ (.int .u64 0)).setCell ⟨rx, 4, none⟩ (.int .u32 0)).setCell ⟨rx, 5, none⟩ (.int .u32 0)).setCell ⟨rx, 6, none⟩ (.int .u32 0)).setCell ⟨rx, 7, none⟩ (.slice none 0 0)).setCell ⟨rx, 8, none⟩ (.slice none 0 0)).setCell ⟨rx, 9, none⟩ (.slice none 0 0)).setCell ⟨rx, 10, none⟩ (.slice none 0 0)).setCell ⟨rx, 11, none⟩ (.int .u8 0))) := Lib.hid (MsgR.zero ((((((((((((HBX.setCell hrle _).setCell hrle _).setCell hrle _).setCell hrle _).setCell hrle _).setCell hrle _).setCell hrle _).setCell hrle _).setCell hrle _).setCell hrle _).setCell hrle _).setCell hrle _) HPR.out)
    clear HBX HM6 HX6 HBX6 HAt CE HP1 HP2 HP3 hm hX6
    go_wp2_with fail
    refine CEH.out.mono ?_
    rintro e w6b ⟨rfl, rfl⟩
    go_wp2_with fail
    refine CEH.out.mono ?_
    rintro e w6c ⟨rfl, rfl⟩
    clear CEH
    go_wp2
    exact bodyPost_ret (v := .tuple #[.agg #[.int .i64 0, .int .u32 0, .int .u32 0, .int .u64 0, .int .u32 0, .int .u32 0, .int .u32 0, .slice none 0 0, .slice none 0 0, .slice none 0 0, .slice none 0 0, .int .u8 0], .int .i64 10]) (by simp [results, Tryd.results42, go_sem, q0, q1, q2, q3, q4, q5, q6, q7, q8, q9, q10, q11]) rfl HF.out
end Go.Proofs.YtcjmiidnhbmclaaDoor
