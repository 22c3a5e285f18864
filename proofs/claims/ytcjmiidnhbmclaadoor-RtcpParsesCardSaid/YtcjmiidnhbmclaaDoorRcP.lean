/-
  Package rtcp's msgOf, whole.
-/
import Derived.Test.YtcjmiidnhbmclaaDoorRcO
namespace Go.Proofs.YtcjmiidnhbmclaaDoor
open Go.RowKit
set_option maxRecDepth 100000

set_option maxHeartbeats 6400000 in
theorem msgOf6_any (A : Option Addr) (cp n t c : Nat) (s : List UInt8) (w : World) (hF : Forms w) (hk : kf t c = 6) (ht : t < 256) (hrd : readM t c s = (⟨6, 0, 0, 0, 0, 0, 0, [], [], [], [], t⟩, 0)) :
    Calls Tryd.prog 42 #[.int .u8 (t : Int), .int .u8 (c : Int), .slice A n cp] w (MsgR (readM t c s) w) := by
  rw [hrd]
  clear hrd
  have B0 := (Below.refl w.heap.size w).alloc (Nat.le_refl _) (.cells #[.int .i64 0, .int .u32 0, .int .u32 0, .int .u64 0, .int .u32 0, .int .u32 0, .int .u32 0, .slice none 0 0, .slice none 0 0, .slice none 0 0, .slice none 0 0, .int .u8 0] 59)
  have W6 := Whole.new w 59 #[.int .i64 0, .int .u32 0, .int .u32 0, .int .u64 0, .int .u32 0, .int .u32 0, .int .u32 0, .slice none 0 0, .slice none 0 0, .slice none 0 0, .slice none 0 0, .int .u8 0]
  obtain ⟨w0, hw0⟩ : ∃ w0, w.alloc (.cells #[.int .i64 0, .int .u32 0, .int .u32 0, .int .u64 0, .int .u32 0, .int .u32 0, .int .u32 0, .slice none 0 0, .slice none 0 0, .slice none 0 0, .slice none 0 0, .int .u8 0] 59) = w0 := ⟨_, rfl⟩
  rw [hw0] at B0 W6
  obtain ⟨rx, hrx⟩ : ∃ rx, w.heap.size = rx := ⟨_, rfl⟩
  have CK := kindOf_any t c w0 (hF.next B0)
  rw [hk] at CK
  have HB0 := Lib.hid B0
  rw [hrx] at W6
  have HW6 := Lib.hid W6
  clear B0 W6 hF hk
  go_enter Tryd.func42, Tryd.ntmps42
  go_wp2_with fail
  clear hw0
  refine CK.mono ?_
  rintro e w1 ⟨rfl, b1⟩
  have X1 := HW6.out.below b1 HW6.out.lt
  have hlt := X1.lt
  have hrle : w.heap.size ≤ rx := Nat.le_of_eq hrx
  have HB1 := bnextA HB0.out b1
  have WM := Whole.new w1 59 #[.int .i64 6, .int .u32 0, .int .u32 0, .int .u64 0, .int .u32 0, .int .u32 0, .int .u32 0, .slice none 0 0, .slice none 0 0, .slice none 0 0, .slice none 0 0, .int .u8 0]
  have X2 := X1.alloc (.cells #[.int .i64 6, .int .u32 0, .int .u32 0, .int .u64 0, .int .u32 0, .int .u32 0, .int .u32 0, .slice none 0 0, .slice none 0 0, .slice none 0 0, .slice none 0 0, .int .u8 0] 59)
  have HB1b := HB1.alloc HB1.size (.cells #[.int .i64 6, .int .u32 0, .int .u32 0, .int .u64 0, .int .u32 0, .int .u32 0, .int .u32 0, .slice none 0 0, .slice none 0 0, .slice none 0 0, .slice none 0 0, .int .u8 0] 59)
  obtain ⟨w2, hw2⟩ : ∃ w2, w1.alloc (.cells #[.int .i64 6, .int .u32 0, .int .u32 0, .int .u64 0, .int .u32 0, .int .u32 0, .int .u32 0, .slice none 0 0, .slice none 0 0, .slice none 0 0, .slice none 0 0, .int .u8 0] 59) = w2 := ⟨_, rfl⟩
  obtain ⟨gm, hgm⟩ : ∃ gm, w1.heap.size = gm := ⟨_, rfl⟩
  rw [hw2] at WM X2 HB1b
  rw [hgm] at WM
  have hgr : w.heap.size ≤ gm := by omega
  have hne : gm ≠ rx := by omega
  have HW2 := Lib.hid hw2
  have HWM := Lib.hid WM
  have HX2 := Lib.hid X2
  have HBB := Lib.hid HB1b
  clear hw2 WM X2 HB1b HB1 X1 b1 CK HB0 HW6
  go_upto_region 3 with fail
  rw [HW2.out]
  clear HW2
  have m11 : w2.cell? ⟨gm, 11, none⟩ = some (.int .u8 0) := HWM.out.cell 11
  have n11 : w2.frozen? ⟨gm, 11, none⟩ = false := HWM.out.free 11
  go_upto_region 4 with fail
  clear m11 n11
  have HM3 := HWM.out.set 11 (.int .u8 (t : Int))
  have HX3 := HX2.out.far (p := ⟨gm, 11, none⟩) (by simp; omega) (.int .u8 (t : Int))
  have HBX := HBB.out.setCell (p := ⟨gm, 11, none⟩) hgr (.int .u8 (t : Int))
  obtain ⟨w3, hw3⟩ : ∃ w3, w2.setCell ⟨gm, 11, none⟩ (.int .u8 (t : Int)) = w3 := ⟨_, rfl⟩
  rw [hw3] at HM3 HX3 HBX
  rw [hw3]
  have m0 : w3.cell? ⟨gm, 0, none⟩ = some (.int .i64 6) := HM3.cell 0
  have m1 : w3.cell? ⟨gm, 1, none⟩ = some (.int .u32 0) := HM3.cell 1
  have m2 : w3.cell? ⟨gm, 2, none⟩ = some (.int .u32 0) := HM3.cell 2
  have m3 : w3.cell? ⟨gm, 3, none⟩ = some (.int .u64 0) := HM3.cell 3
  have m4 : w3.cell? ⟨gm, 4, none⟩ = some (.int .u32 0) := HM3.cell 4
  have m5 : w3.cell? ⟨gm, 5, none⟩ = some (.int .u32 0) := HM3.cell 5
  have m6 : w3.cell? ⟨gm, 6, none⟩ = some (.int .u32 0) := HM3.cell 6
  have m7 : w3.cell? ⟨gm, 7, none⟩ = some (.slice none 0 0) := HM3.cell 7
  have m8 : w3.cell? ⟨gm, 8, none⟩ = some (.slice none 0 0) := HM3.cell 8
  have m9 : w3.cell? ⟨gm, 9, none⟩ = some (.slice none 0 0) := HM3.cell 9
  have m10 : w3.cell? ⟨gm, 10, none⟩ = some (.slice none 0 0) := HM3.cell 10
  have m11 : w3.cell? ⟨gm, 11, none⟩ = some (.int .u8 (t : Int)) := HM3.cell 11
  have q0 : w3.cell? ⟨rx, 0, none⟩ = some (.int .i64 0) := HX3.cell 0
  have f0 : w3.frozen? ⟨rx, 0, none⟩ = false := HX3.free 0
  have q1 : w3.cell? ⟨rx, 1, none⟩ = some (.int .u32 0) := HX3.cell 1
  have f1 : w3.frozen? ⟨rx, 1, none⟩ = false := HX3.free 1
  have q2 : w3.cell? ⟨rx, 2, none⟩ = some (.int .u32 0) := HX3.cell 2
  have f2 : w3.frozen? ⟨rx, 2, none⟩ = false := HX3.free 2
  have q3 : w3.cell? ⟨rx, 3, none⟩ = some (.int .u64 0) := HX3.cell 3
  have f3 : w3.frozen? ⟨rx, 3, none⟩ = false := HX3.free 3
  have q4 : w3.cell? ⟨rx, 4, none⟩ = some (.int .u32 0) := HX3.cell 4
  have f4 : w3.frozen? ⟨rx, 4, none⟩ = false := HX3.free 4
  have q5 : w3.cell? ⟨rx, 5, none⟩ = some (.int .u32 0) := HX3.cell 5
  have f5 : w3.frozen? ⟨rx, 5, none⟩ = false := HX3.free 5
  have q6 : w3.cell? ⟨rx, 6, none⟩ = some (.int .u32 0) := HX3.cell 6
  have f6 : w3.frozen? ⟨rx, 6, none⟩ = false := HX3.free 6
  have q7 : w3.cell? ⟨rx, 7, none⟩ = some (.slice none 0 0) := HX3.cell 7
  have f7 : w3.frozen? ⟨rx, 7, none⟩ = false := HX3.free 7
  have q8 : w3.cell? ⟨rx, 8, none⟩ = some (.slice none 0 0) := HX3.cell 8
  have f8 : w3.frozen? ⟨rx, 8, none⟩ = false := HX3.free 8
  have q9 : w3.cell? ⟨rx, 9, none⟩ = some (.slice none 0 0) := HX3.cell 9
  have f9 : w3.frozen? ⟨rx, 9, none⟩ = false := HX3.free 9
  have q10 : w3.cell? ⟨rx, 10, none⟩ = some (.slice none 0 0) := HX3.cell 10
  have f10 : w3.frozen? ⟨rx, 10, none⟩ = false := HX3.free 10
  have q11 : w3.cell? ⟨rx, 11, none⟩ = some (.int .u8 0) := HX3.cell 11
  have f11 : w3.frozen? ⟨rx, 11, none⟩ = false := HX3.free 11
  have HF : Hid (MsgR (⟨6, 0, 0, 0, 0, 0, 0, [], [], [], [], t⟩, 0) w (.returned (.tuple #[.agg #[.int .i64 6, .int .u32 0, .int .u32 0, .int .u64 0, .int .u32 0, .int .u32 0, .int .u32 0, .slice none 0 0, .slice none 0 0, .slice none 0 0, .slice none 0 0, .int .u8 (t : Int)], .int .i64 0])) ((((((((((((w3.setCell ⟨rx, 0, none⟩ (.int .i64 6)).setCell ⟨rx, 1, none⟩ (.int .u32 0)).setCell ⟨rx, 2, none⟩ (.int .u32 0)).setCell ⟨rx, 3, none⟩ (.int .u64 0)).setCell ⟨rx, 4, none⟩ (.int .u32 0)).setCell ⟨rx, 5, none⟩ (.int .u32 0)).setCell ⟨rx, 6, none⟩ (.int .u32 0)).setCell ⟨rx, 7, none⟩ (.slice none 0 0)).setCell ⟨rx, 8, none⟩ (.slice none 0 0)).setCell ⟨rx, 9, none⟩ (.slice none 0 0)).setCell ⟨rx, 10, none⟩ (.slice none 0 0)).setCell ⟨rx, 11, none⟩ (.int .u8 (t : Int)))) := Lib.hid
    ⟨⟨none, 0, none, 0, none, 0, none, 0⟩, rfl, ⟨Row.nil, Row.nil, Row.nil, Row.nil⟩, SlNew.empty _, (by constructor <;> first | (simp; done) | (simp; omega) | omega), ((((((((((((HBX.setCell hrle _).setCell hrle _).setCell hrle _).setCell hrle _).setCell hrle _).setCell hrle _).setCell hrle _).setCell hrle _).setCell hrle _).setCell hrle _).setCell hrle _).setCell hrle _)⟩
  clear hw3 HM3 HX3 HBX HBB HWM HX2
  go_wp2
  exact bodyPost_ret (v := .tuple #[.agg #[.int .i64 6, .int .u32 0, .int .u32 0, .int .u64 0, .int .u32 0, .int .u32 0, .int .u32 0, .slice none 0 0, .slice none 0 0, .slice none 0 0, .slice none 0 0, .int .u8 (t : Int)], .int .i64 0]) (by simp [results, Tryd.results42, go_sem, q0, q1, q2, q3, q4, q5, q6, q7, q8, q9, q10, q11]) rfl HF.out

theorem kf_lt (t c : Nat) : kf t c = 0 ∧ t = 200 ∨ kf t c = 1 ∧ t = 201 ∨ kf t c = 2 ∧ t = 203 ∨ kf t c = 3 ∧ t = 205 ∧ c = 1 ∨ kf t c = 4 ∧ t = 206 ∧ c = 1 ∨ kf t c = 5 ∧ t = 206 ∧ c = 4 ∨ kf t c = 6 ∧ ∀ s, readM t c s = (⟨6, 0, 0, 0, 0, 0, 0, [], [], [], [], t⟩, 0) := by
  unfold kf
  by_cases h0 : t = 200
  · exact .inl ⟨by rw [if_pos h0], h0⟩
  by_cases h1 : t = 201
  · exact .inr (.inl ⟨by rw [if_neg h0, if_pos h1], h1⟩)
  by_cases h2 : t = 203
  · exact .inr (.inr (.inl ⟨by rw [if_neg h0, if_neg h1, if_pos h2], h2⟩))
  by_cases h3 : t = 205 ∧ c = 1
  · exact .inr (.inr (.inr (.inl ⟨by rw [if_neg h0, if_neg h1, if_neg h2, if_pos h3], h3⟩)))
  by_cases h4 : t = 206 ∧ c = 1
  · exact .inr (.inr (.inr (.inr (.inl ⟨by rw [if_neg h0, if_neg h1, if_neg h2, if_neg h3, if_pos h4], h4⟩))))
  by_cases h5 : t = 206 ∧ c = 4
  · exact .inr (.inr (.inr (.inr (.inr (.inl ⟨by rw [if_neg h0, if_neg h1, if_neg h2, if_neg h3, if_neg h4, if_pos h5], h5⟩)))))
  · refine .inr (.inr (.inr (.inr (.inr (.inr ⟨by rw [if_neg h0, if_neg h1, if_neg h2, if_neg h3, if_neg h4, if_neg h5], fun s => ?_⟩)))))
    unfold readM
    rw [if_neg h0, if_neg h1, if_neg h2, if_neg h3, if_neg h4, if_neg h5]
theorem no_false {b : Bool} {p : Prop} (h : b = true) : b = false → p := fun h' => by rw [h] at h'; cases h'

theorem msgOf_any (A : Option Addr) (cp n t c : Nat) (s : List UInt8) (w : World) (hF : Forms w) (h : Row w w.heap.size 1 A n (u8s s)) (hn : s.length = n) (hl : n ≤ 2000) (ht : t < 256) (hc : c < 32) :
    Calls Tryd.prog 42 #[.int .u8 (t : Int), .int .u8 (c : Int), .slice A n cp] w (MsgR (readM t c s) w) := by
  rcases kf_lt t c with ⟨hk, e⟩ | ⟨hk, e⟩ | ⟨hk, e⟩ | ⟨hk, e, e'⟩ | ⟨hk, e, e'⟩ | ⟨hk, e, e'⟩ | ⟨hk, e⟩
  · subst e
    refine msgOf0_any A cp n 200 c s w hF h hn hl hc hk (fun hz => ?_) (fun _ => no_false ?_) (fun hz _ => ?_)
    · unfold readM; rw [if_pos rfl, if_pos (by omega)]
    · simp [Ms.good, Ms.num, Ms.cnt, rdReps]; omega
    · unfold readM; rw [if_pos rfl, if_neg (by omega)]
  · subst e
    refine msgOf1_any A cp n 201 c s w hF h hn hl hc hk (fun hz => ?_) (fun _ => no_false ?_) (fun hz _ => ?_)
    · unfold readM; rw [if_neg (by decide), if_pos rfl, if_pos (by omega)]
    · simp [Ms.good, Ms.num, Ms.cnt, rdReps]; omega
    · unfold readM; rw [if_neg (by decide), if_pos rfl, if_neg (by omega)]
  · subst e
    refine msgOf2_any A cp n 203 c s w hF h hn hl hc hk (fun hz => ?_) (fun _ => no_false ?_) (fun hz _ => ?_)
    · unfold readM; rw [if_neg (by decide), if_neg (by decide), if_pos rfl, if_pos (by omega)]
    · simp [Ms.good, Ms.num, Ms.cnt, rdWho]; omega
    · unfold readM; rw [if_neg (by decide), if_neg (by decide), if_pos rfl, if_neg (by omega)]
  · subst e; subst e'
    have hg : Ms.good ⟨3, numAt s 0 4, numAt s 4 4, 0, 0, 0, 0, [], [], rdPairs s ((s.length - 8) / 4), [], 0⟩ = decide ((s.length - 8) / 4 ≠ 0) := by simp [Ms.good, Ms.num, Ms.cnt, rdPairs]
    refine msgOf3_any A cp n 205 1 s w hF h hn hl hc hk (fun hz => ?_) (fun hz hgf => ?_) (fun hz hgt => ?_)
    · unfold readM; rw [if_neg (by decide), if_neg (by decide), if_neg (by decide), if_pos (by decide), if_pos (by omega)]
    · rw [hg] at hgf; unfold readM; rw [if_neg (by decide), if_neg (by decide), if_neg (by decide), if_pos (by decide), if_neg (by omega), if_pos (by simpa using hgf)]
    · rw [hg] at hgt; unfold readM; rw [if_neg (by decide), if_neg (by decide), if_neg (by decide), if_pos (by decide), if_neg (by omega), if_neg (by simpa using hgt)]
  · subst e; subst e'
    refine msgOf4_any A cp n 206 1 s w hF h hn hl hc hk (fun hz => ?_) (fun _ => no_false ?_) (fun hz _ => ?_)
    · unfold readM; rw [if_neg (by decide), if_neg (by decide), if_neg (by decide), if_neg (by decide), if_pos (by decide), if_pos (by omega)]
    · simp [Ms.good, Ms.num, Ms.cnt]
    · unfold readM; rw [if_neg (by decide), if_neg (by decide), if_neg (by decide), if_neg (by decide), if_pos (by decide), if_neg (by omega)]
  · subst e; subst e'
    have hg : Ms.good ⟨5, numAt s 0 4, numAt s 4 4, 0, 0, 0, 0, [], [], [], rdAsks s ((s.length - 8) / 8), 0⟩ = decide ((s.length - 8) / 8 ≠ 0) := by simp [Ms.good, Ms.num, Ms.cnt, rdAsks]
    refine msgOf5_any A cp n 206 4 s w hF h hn hl hc hk (fun hz => ?_) (fun hz hgf => ?_) (fun hz hgt => ?_)
    · unfold readM; rw [if_neg (by decide), if_neg (by decide), if_neg (by decide), if_neg (by decide), if_neg (by decide), if_pos (by decide), if_pos (by omega)]
    · rw [hg] at hgf; unfold readM; rw [if_neg (by decide), if_neg (by decide), if_neg (by decide), if_neg (by decide), if_neg (by decide), if_pos (by decide), if_neg (by omega), if_pos (by simpa using hgf)]
    · rw [hg] at hgt; unfold readM; rw [if_neg (by decide), if_neg (by decide), if_neg (by decide), if_neg (by decide), if_neg (by decide), if_pos (by decide), if_neg (by omega), if_neg (by simpa using hgt)]
  · exact msgOf6_any A cp n t c s w hF hk ht (e s)
end Go.Proofs.YtcjmiidnhbmclaaDoor
