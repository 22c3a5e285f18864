/-
  Package rtcp's times: what is taken so many times.
-/
import Derived.Test.YtcjmiidnhbmclaaDoorRcI
namespace Go.Proofs.YtcjmiidnhbmclaaDoor
open Go.RowKit
set_option maxRecDepth 100000
variable {lo : Nat}
def TimesR {α : Type} (C : List α → List Value) (T : TypeId) (zc : Nat) (ok : α → Prop) (f : List UInt8 → α) (z n lo g : Nat) (l : List UInt8) (e : Int) (w : World) (en : Ending) (w' : World) : Prop :=
  ∃ (A : Option Addr) (c : Nat) (xs : List α) (l' : List UInt8) (e' : Int), en = .returned (.slice A n c) ∧ w'.ownsRow w.heap.size T zc (.slice A n c) n (C xs) ∧ xs.length = n ∧ (∀ x ∈ xs, ok x) ∧
    (e' = 0 → xs = (List.range n).map fun i => f (l.drop (z * i))) ∧ Tk (z * n) l e l' e' ∧ CutAt w' lo g l' e' ∧ w.grownBy w' (some g)
theorem own_grownG {w w' : World} {base g : Nat} {t : TypeId} {z n : Nat} {v : Value} {xs : List Value} (h : w.ownsRow base t z v n xs) (hg : w.grownBy w' (some g)) (hlt : g < base) : w'.ownsRow base t z v n xs := by
  rcases h.2 with ⟨hv, hx⟩ | ⟨b, cap, cur, hv, h1, h2, h3⟩
  · exact ⟨h.1, .inl ⟨hv, hx⟩⟩
  · have hb : b < w.heap.size := (Array.getElem?_eq_some_iff.1 h2).1
    exact ⟨h.1, .inr ⟨b, cap, cur, hv, h1, (hg.block b hb (fun e => by injection e; omega)).trans h2, h3⟩⟩
theorem grown_two {a b c : World} {g : Nat} {r : Option Nat} (h : a.grownBy b (some g)) (k : b.grownBy c r) (hr : ∀ q, r = some q → a.heap.size ≤ q) : a.grownBy c (some g) :=
  ⟨k.os.trans h.os, k.tape.trans h.tape, k.output.trans h.output, Nat.le_trans h.size k.size, fun i hi hne => (k.block i (Nat.lt_of_lt_of_le hi h.size) (fun e => by have := hr i e.symm; omega)).trans (h.block i hi hne)⟩
theorem range_snoc {α : Type} (f : Nat → α) (n : Nat) : (List.range (n + 1)).map f = (List.range n).map f ++ [f n] := by rw [List.range_succ, List.map_append]; rfl
theorem repC_snoc (xs : List Rp) (x : Rp) : repC (xs ++ [x]) = repC xs ++ x.cells := by simp [repC]
theorem u32s_snoc (xs : List Nat) (x : Nat) : u32s (xs ++ [x]) = u32s xs ++ [.int .u32 (x : Int)] := by simp [u32s]
theorem p16C_snoc (xs : List (Nat × Nat)) (x : Nat × Nat) : p16C (xs ++ [x]) = p16C xs ++ [.int .u16 (x.1 : Int), .int .u16 (x.2 : Int)] := by simp [p16C]
theorem askC_snoc (xs : List (Nat × Nat)) (x : Nat × Nat) : askC (xs ++ [x]) = askC xs ++ [.int .u32 (x.1 : Int), .int .u8 (x.2 : Int)] := by simp [askC]
theorem info_rep : (Tryd.prog.info? 82).map (fun i => (i.zero, i.size, i.bytes)) = some (some (.agg #[.int .u32 0, .int .u8 0, .int .u32 0, .int .u32 0, .int .u32 0, .int .u32 0, .int .u32 0]), 7, 28) := by kernel_rfl
theorem info_pair : (Tryd.prog.info? 68).map (fun i => (i.zero, i.size, i.bytes)) = some (some (.agg #[.int .u16 0, .int .u16 0]), 2, 4) := by kernel_rfl
theorem info_ask : (Tryd.prog.info? 86).map (fun i => (i.zero, i.size, i.bytes)) = some (some (.agg #[.int .u32 0, .int .u8 0]), 2, 8) := by kernel_rfl
theorem info_u32 : (Tryd.prog.info? 43).map (fun i => (i.zero, i.size, i.bytes)) = some (some (.int .u32 0), 1, 4) := by kernel_rfl

set_option maxHeartbeats 1600000 in
theorem timesRep (g n : Nat) (l : List UInt8) (e : Int) (w : World) (h : CutAt w lo g l e) (hn : n ≤ 2000) :
    Calls Tryd.prog 64 #[.int .i64 (n : Int), .func (.func 65) #[.agg #[.pointer (some ⟨g, 0, none⟩)]] #[]] w (TimesR (repC) 82 7 (fun x : Rp => x.Fits) (fun l => rdRep l 0) 24 n lo g l e w) := by
  have hglt := h.lt
  have H := Lib.hid h
  clear h
  go_enter Tryd.func64, Tryd.ntmps64
  go_wp2_with fail
  go_loopw [5, 7] (fun v i wr => ∃ (k : Nat) (xs : List (Rp)) (l' : List UInt8) (e' : Int), k ≤ n ∧ i = .int .i64 k ∧ wr.ownsRow w.heap.size 82 7 v k (repC xs) ∧ Hid (xs.length = k ∧ (∀ x ∈ xs, (fun x : Rp => x.Fits) x) ∧ (e' = 0 → xs = (List.range k).map fun i => (fun l : List UInt8 => rdRep l 0) (l.drop (24 * i))) ∧ Tk (24 * k) l e l' e') ∧ CutAt wr lo g l' e' ∧ w.grownBy wr (some g)) (fun _ i _ => n - (intOf i).toNat)
  case atStart => exact ⟨0, [], l, e, Nat.zero_le _, rfl, World.ownsRow_nil _ _ _ _, Lib.hid ⟨rfl, by simp, fun _ => rfl, Tk.zero l e⟩, H.out, only_below (Below.refl _ _) _⟩
  case round =>
    obtain ⟨k, xs, l1, e1, hk, rfl, hown, HX, hc, hgr⟩ := hrel
    by_cases hlt : k < n
    · have C1 : Hid (Calls Tryd.prog 65 #[.agg #[.pointer (some ⟨g, 0, none⟩)]] wr (TakeR (fun x : Rp => .agg #[.int .u32 (x.ssrc : Int), .int .u8 (x.part : Int), .int .u32 (x.lost : Int), .int .u32 (x.high : Int), .int .u32 (x.jit : Int), .int .u32 (x.last : Int), .int .u32 (x.delay : Int)]) (fun x => x.Fits) (fun l => rdRep l 0) 24 lo g l1 e1 wr)) := Lib.hid (report_take g l1 e1 wr hc)
      have HGR := Lib.hid hgr
      have hws := hgr.size
      clear hc hgr
      go_wp2_with fail
      refine C1.out.mono ?_
      rintro en w2 ⟨x, l2, e2, rfl, hx, hv, ht, hc2, hg2⟩
      have own2 := own_grownG hown hg2 hglt
      have hg2s := hg2.size
      have HN : Hid ((xs ++ [x]).length = k + 1 ∧ (∀ y ∈ xs ++ [x], (fun x : Rp => x.Fits) y) ∧ (e2 = 0 → xs ++ [x] = (List.range (k + 1)).map fun i => (fun l : List UInt8 => rdRep l 0) (l.drop (24 * i))) ∧ Tk (24 * (k + 1)) l e l2 e2) := Lib.hid (by
        obtain ⟨a1, a2, a3, a4⟩ := HX.out
        refine ⟨by simp [a1], fun y hy => ?_, fun h0 => ?_, ?_⟩
        · rcases List.mem_append.1 hy with hy | hy
          · exact a2 y hy
          · simp at hy; rw [hy]; exact hx
        · obtain ⟨z1, _, _⟩ := ht.good h0
          obtain ⟨_, _, d1⟩ := a4.good z1
          rw [range_snoc, ← a3 z1, hv h0, d1]
        · rw [Nat.mul_add]; exact a4.trans ht)
      have HG2 := Lib.hid (only_trans HGR.out hg2)
      obtain ⟨x0, x1, x2, x3, x4, x5, x6⟩ := x
      have HC2 := Lib.hid hc2
      clear hown HX hv ht hg2 HGR C1 hc2
      have hcx := HC2.out.lt
      go_wp2_with (at_builtin; go_loud (refine wpl_append _ rfl (.tmp 9) (.tmp 12) 55 rfl w.heap.size 82 (.agg #[.int .u32 0, .int .u8 0, .int .u32 0, .int .u32 0, .int .u32 0, .int .u32 0, .int .u32 0]) 7 28 Tryd.underlying55 info_rep rfl (by decide) _ _ _ rfl (own2.alloc _) _ _ 1 1 [.int .u32 (x0 : Int), .int .u8 (x1 : Int), .int .u32 (x2 : Int), .int .u32 (x3 : Int), .int .u32 (x4 : Int), .int .u32 (x5 : Int), .int .u32 (x6 : Int)] rfl (Row.fresh w2 82 #[.int .u32 (x0 : Int), .int .u8 (x1 : Int), .int .u32 (x2 : Int), .int .u32 (x3 : Int), .int .u32 (x4 : Int), .int .u32 (x5 : Int), .int .u32 (x6 : Int)] 7 1 [.int .u32 (x0 : Int), .int .u8 (x1 : Int), .int .u32 (x2 : Int), .int .u32 (x3 : Int), .int .u32 (x4 : Int), .int .u32 (x5 : Int), .int .u32 (x6 : Int)] rfl rfl) ?c1 ?c2 ?c3 ?c4 ?_))
      case c1 => intro u hu; simp at hu; rcases hu with rfl | rfl | rfl | rfl | rfl | rfl | rfl <;> rfl
      case c2 => unfold maxLen; omega
      case c3 => omega
      case c4 => simp; omega
      intro v3 w3 own3 g3 _
      have R : w3.ownsRow w.heap.size 82 7 v3 (k + 1) (repC (xs ++ [⟨x0, x1, x2, x3, x4, x5, x6⟩])) := by rw [repC_snoc]; exact own3
      have hcut : CutAt w3 lo g l2 e2 := (HC2.out.alloc _).grown g3 (fun q hq => by have := (own2.lt q hq).1; omega)
      have hgr3 : w.grownBy w3 (some g) := grown_two (grown_two HG2.out (only_below ((Below.refl _ _).alloc (Nat.le_refl _) _) none) (fun q hq => by cases hq)) g3 (fun q hq => (own2.lt q hq).1)
      clear own2 own3 g3 HC2 HG2 hcx
      go_wp2
      go_roundw
      case rel => exact ⟨k + 1, _, l2, e2, by omega, by go_num, R, HN, hcut, hgr3⟩
      case measure => simp [intOf]; omega
    · obtain rfl : n = k := by omega
      obtain ⟨A5, c5, rfl⟩ := oown_form hown
      have HF : Hid (TimesR (repC) 82 7 (fun x : Rp => x.Fits) (fun l => rdRep l 0) 24 n lo g l e w (.returned (.slice A5 n c5)) wr) := Lib.hid ⟨A5, c5, xs, l1, e1, rfl, hown, HX.out.1, HX.out.2.1, HX.out.2.2.1, HX.out.2.2.2, hc, hgr⟩
      clear hown HX hc hgr
      go_wp2
      go_ret
      exact HF.out

set_option maxHeartbeats 1600000 in
theorem timesWho (g n : Nat) (l : List UInt8) (e : Int) (w : World) (h : CutAt w lo g l e) (hn : n ≤ 2000) :
    Calls Tryd.prog 68 #[.int .i64 (n : Int), .func (.func 62) #[.agg #[.pointer (some ⟨g, 0, none⟩)]] #[]] w (TimesR (u32s) 43 1 (fun x : Nat => x < 4294967296) (fun l => numAt l 0 4) 4 n lo g l e w) := by
  have hglt := h.lt
  have H := Lib.hid h
  clear h
  go_enter Tryd.func68, Tryd.ntmps68
  go_wp2_with fail
  go_loopw [5, 7] (fun v i wr => ∃ (k : Nat) (xs : List (Nat)) (l' : List UInt8) (e' : Int), k ≤ n ∧ i = .int .i64 k ∧ wr.ownsRow w.heap.size 43 1 v k (u32s xs) ∧ Hid (xs.length = k ∧ (∀ x ∈ xs, (fun x : Nat => x < 4294967296) x) ∧ (e' = 0 → xs = (List.range k).map fun i => (fun l : List UInt8 => numAt l 0 4) (l.drop (4 * i))) ∧ Tk (4 * k) l e l' e') ∧ CutAt wr lo g l' e' ∧ w.grownBy wr (some g)) (fun _ i _ => n - (intOf i).toNat)
  case atStart => exact ⟨0, [], l, e, Nat.zero_le _, rfl, World.ownsRow_nil _ _ _ _, Lib.hid ⟨rfl, by simp, fun _ => rfl, Tk.zero l e⟩, H.out, only_below (Below.refl _ _) _⟩
  case round =>
    obtain ⟨k, xs, l1, e1, hk, rfl, hown, HX, hc, hgr⟩ := hrel
    by_cases hlt : k < n
    · have C1 := Lib.hid (word_take g l1 e1 wr hc)
      have HGR := Lib.hid hgr
      have hws := hgr.size
      clear hc hgr
      go_wp2_with fail
      refine C1.out.mono ?_
      rintro en w2 ⟨x, l2, e2, rfl, hx, hv, ht, hc2, hg2⟩
      have own2 := own_grownG hown hg2 hglt
      have hg2s := hg2.size
      have HN : Hid ((xs ++ [x]).length = k + 1 ∧ (∀ y ∈ xs ++ [x], (fun x : Nat => x < 4294967296) y) ∧ (e2 = 0 → xs ++ [x] = (List.range (k + 1)).map fun i => (fun l : List UInt8 => numAt l 0 4) (l.drop (4 * i))) ∧ Tk (4 * (k + 1)) l e l2 e2) := Lib.hid (by
        obtain ⟨a1, a2, a3, a4⟩ := HX.out
        refine ⟨by simp [a1], fun y hy => ?_, fun h0 => ?_, ?_⟩
        · rcases List.mem_append.1 hy with hy | hy
          · exact a2 y hy
          · simp at hy; rw [hy]; exact hx
        · obtain ⟨z1, _, _⟩ := ht.good h0
          obtain ⟨_, _, d1⟩ := a4.good z1
          rw [range_snoc, ← a3 z1, hv h0, d1]
        · rw [Nat.mul_add]; exact a4.trans ht)
      have HG2 := Lib.hid (only_trans HGR.out hg2)
      skip
      have HC2 := Lib.hid hc2
      clear hown HX hv ht hg2 HGR C1 hc2
      have hcx := HC2.out.lt
      go_wp2_with (at_builtin; go_loud (refine wpl_append _ rfl (.tmp 9) (.tmp 12) 46 rfl w.heap.size 43 (.int .u32 0) 1 4 Tryd.underlying46 info_u32 rfl (by decide) _ _ _ rfl (own2.alloc _) _ _ 1 1 [.int .u32 (x : Int)] rfl (Row.one _ _ _) ?c1 ?c2 ?c3 ?c4 ?_))
      case c1 => intro u hu; simp at hu; subst hu; rfl
      case c2 => unfold maxLen; omega
      case c3 => omega
      case c4 => simp; omega
      intro v3 w3 own3 g3 _
      have R : w3.ownsRow w.heap.size 43 1 v3 (k + 1) (u32s (xs ++ [x])) := by rw [u32s_snoc]; exact own3
      have hcut : CutAt w3 lo g l2 e2 := (HC2.out.alloc _).grown g3 (fun q hq => by have := (own2.lt q hq).1; omega)
      have hgr3 : w.grownBy w3 (some g) := grown_two (grown_two HG2.out (only_below ((Below.refl _ _).alloc (Nat.le_refl _) _) none) (fun q hq => by cases hq)) g3 (fun q hq => (own2.lt q hq).1)
      clear own2 own3 g3 HC2 HG2 hcx
      go_wp2
      go_roundw
      case rel => exact ⟨k + 1, _, l2, e2, by omega, by go_num, R, HN, hcut, hgr3⟩
      case measure => simp [intOf]; omega
    · obtain rfl : n = k := by omega
      obtain ⟨A5, c5, rfl⟩ := oown_form hown
      have HF : Hid (TimesR (u32s) 43 1 (fun x : Nat => x < 4294967296) (fun l => numAt l 0 4) 4 n lo g l e w (.returned (.slice A5 n c5)) wr) := Lib.hid ⟨A5, c5, xs, l1, e1, rfl, hown, HX.out.1, HX.out.2.1, HX.out.2.2.1, HX.out.2.2.2, hc, hgr⟩
      clear hown HX hc hgr
      go_wp2
      go_ret
      exact HF.out

set_option maxHeartbeats 1600000 in
theorem timesPair (g n : Nat) (l : List UInt8) (e : Int) (w : World) (h : CutAt w lo g l e) (hn : n ≤ 2000) :
    Calls Tryd.prog 70 #[.int .i64 (n : Int), .func (.func 71) #[.agg #[.pointer (some ⟨g, 0, none⟩)]] #[]] w (TimesR (p16C) 68 2 (fun x : Nat × Nat => x.1 < 65536 ∧ x.2 < 65536) (fun l => (numAt l 0 2, numAt l 2 2)) 4 n lo g l e w) := by
  have hglt := h.lt
  have H := Lib.hid h
  clear h
  go_enter Tryd.func70, Tryd.ntmps70
  go_wp2_with fail
  go_loopw [5, 7] (fun v i wr => ∃ (k : Nat) (xs : List (Nat × Nat)) (l' : List UInt8) (e' : Int), k ≤ n ∧ i = .int .i64 k ∧ wr.ownsRow w.heap.size 68 2 v k (p16C xs) ∧ Hid (xs.length = k ∧ (∀ x ∈ xs, (fun x : Nat × Nat => x.1 < 65536 ∧ x.2 < 65536) x) ∧ (e' = 0 → xs = (List.range k).map fun i => (fun l : List UInt8 => (numAt l 0 2, numAt l 2 2)) (l.drop (4 * i))) ∧ Tk (4 * k) l e l' e') ∧ CutAt wr lo g l' e' ∧ w.grownBy wr (some g)) (fun _ i _ => n - (intOf i).toNat)
  case atStart => exact ⟨0, [], l, e, Nat.zero_le _, rfl, World.ownsRow_nil _ _ _ _, Lib.hid ⟨rfl, by simp, fun _ => rfl, Tk.zero l e⟩, H.out, only_below (Below.refl _ _) _⟩
  case round =>
    obtain ⟨k, xs, l1, e1, hk, rfl, hown, HX, hc, hgr⟩ := hrel
    by_cases hlt : k < n
    · have C1 := Lib.hid (pair_take g l1 e1 wr hc)
      have HGR := Lib.hid hgr
      have hws := hgr.size
      clear hc hgr
      go_wp2_with fail
      refine C1.out.mono ?_
      rintro en w2 ⟨x, l2, e2, rfl, hx, hv, ht, hc2, hg2⟩
      have own2 := own_grownG hown hg2 hglt
      have hg2s := hg2.size
      have HN : Hid ((xs ++ [x]).length = k + 1 ∧ (∀ y ∈ xs ++ [x], (fun x : Nat × Nat => x.1 < 65536 ∧ x.2 < 65536) y) ∧ (e2 = 0 → xs ++ [x] = (List.range (k + 1)).map fun i => (fun l : List UInt8 => (numAt l 0 2, numAt l 2 2)) (l.drop (4 * i))) ∧ Tk (4 * (k + 1)) l e l2 e2) := Lib.hid (by
        obtain ⟨a1, a2, a3, a4⟩ := HX.out
        refine ⟨by simp [a1], fun y hy => ?_, fun h0 => ?_, ?_⟩
        · rcases List.mem_append.1 hy with hy | hy
          · exact a2 y hy
          · simp at hy; rw [hy]; exact hx
        · obtain ⟨z1, _, _⟩ := ht.good h0
          obtain ⟨_, _, d1⟩ := a4.good z1
          rw [range_snoc, ← a3 z1, hv h0, d1]
        · rw [Nat.mul_add]; exact a4.trans ht)
      have HG2 := Lib.hid (only_trans HGR.out hg2)
      obtain ⟨x0, x1⟩ := x
      have HC2 := Lib.hid hc2
      clear hown HX hv ht hg2 HGR C1 hc2
      have hcx := HC2.out.lt
      go_wp2_with (at_builtin; go_loud (refine wpl_append _ rfl (.tmp 9) (.tmp 12) 56 rfl w.heap.size 68 (.agg #[.int .u16 0, .int .u16 0]) 2 4 Tryd.underlying56 info_pair rfl (by decide) _ _ _ rfl (own2.alloc _) _ _ 1 1 [.int .u16 (x0 : Int), .int .u16 (x1 : Int)] rfl (Row.fresh w2 68 #[.int .u16 (x0 : Int), .int .u16 (x1 : Int)] 2 1 [.int .u16 (x0 : Int), .int .u16 (x1 : Int)] rfl rfl) ?c1 ?c2 ?c3 ?c4 ?_))
      case c1 => intro u hu; simp at hu; rcases hu with rfl | rfl <;> rfl
      case c2 => unfold maxLen; omega
      case c3 => omega
      case c4 => simp; omega
      intro v3 w3 own3 g3 _
      have R : w3.ownsRow w.heap.size 68 2 v3 (k + 1) (p16C (xs ++ [(x0, x1)])) := by rw [p16C_snoc]; exact own3
      have hcut : CutAt w3 lo g l2 e2 := (HC2.out.alloc _).grown g3 (fun q hq => by have := (own2.lt q hq).1; omega)
      have hgr3 : w.grownBy w3 (some g) := grown_two (grown_two HG2.out (only_below ((Below.refl _ _).alloc (Nat.le_refl _) _) none) (fun q hq => by cases hq)) g3 (fun q hq => (own2.lt q hq).1)
      clear own2 own3 g3 HC2 HG2 hcx
      go_wp2
      go_roundw
      case rel => exact ⟨k + 1, _, l2, e2, by omega, by go_num, R, HN, hcut, hgr3⟩
      case measure => simp [intOf]; omega
    · obtain rfl : n = k := by omega
      obtain ⟨A5, c5, rfl⟩ := oown_form hown
      have HF : Hid (TimesR (p16C) 68 2 (fun x : Nat × Nat => x.1 < 65536 ∧ x.2 < 65536) (fun l => (numAt l 0 2, numAt l 2 2)) 4 n lo g l e w (.returned (.slice A5 n c5)) wr) := Lib.hid ⟨A5, c5, xs, l1, e1, rfl, hown, HX.out.1, HX.out.2.1, HX.out.2.2.1, HX.out.2.2.2, hc, hgr⟩
      clear hown HX hc hgr
      go_wp2
      go_ret
      exact HF.out

set_option maxHeartbeats 1600000 in
theorem timesAsk (g n : Nat) (l : List UInt8) (e : Int) (w : World) (h : CutAt w lo g l e) (hn : n ≤ 2000) :
    Calls Tryd.prog 74 #[.int .i64 (n : Int), .func (.func 75) #[.agg #[.pointer (some ⟨g, 0, none⟩)]] #[]] w (TimesR (askC) 86 2 (fun x : Nat × Nat => x.1 < 4294967296 ∧ x.2 < 256) (fun l => (numAt l 0 4, numAt l 4 1)) 8 n lo g l e w) := by
  have hglt := h.lt
  have H := Lib.hid h
  clear h
  go_enter Tryd.func74, Tryd.ntmps74
  go_wp2_with fail
  go_loopw [5, 7] (fun v i wr => ∃ (k : Nat) (xs : List (Nat × Nat)) (l' : List UInt8) (e' : Int), k ≤ n ∧ i = .int .i64 k ∧ wr.ownsRow w.heap.size 86 2 v k (askC xs) ∧ Hid (xs.length = k ∧ (∀ x ∈ xs, (fun x : Nat × Nat => x.1 < 4294967296 ∧ x.2 < 256) x) ∧ (e' = 0 → xs = (List.range k).map fun i => (fun l : List UInt8 => (numAt l 0 4, numAt l 4 1)) (l.drop (8 * i))) ∧ Tk (8 * k) l e l' e') ∧ CutAt wr lo g l' e' ∧ w.grownBy wr (some g)) (fun _ i _ => n - (intOf i).toNat)
  case atStart => exact ⟨0, [], l, e, Nat.zero_le _, rfl, World.ownsRow_nil _ _ _ _, Lib.hid ⟨rfl, by simp, fun _ => rfl, Tk.zero l e⟩, H.out, only_below (Below.refl _ _) _⟩
  case round =>
    obtain ⟨k, xs, l1, e1, hk, rfl, hown, HX, hc, hgr⟩ := hrel
    by_cases hlt : k < n
    · have C1 := Lib.hid (ask_take g l1 e1 wr hc)
      have HGR := Lib.hid hgr
      have hws := hgr.size
      clear hc hgr
      go_wp2_with fail
      refine C1.out.mono ?_
      rintro en w2 ⟨x, l2, e2, rfl, hx, hv, ht, hc2, hg2⟩
      have own2 := own_grownG hown hg2 hglt
      have hg2s := hg2.size
      have HN : Hid ((xs ++ [x]).length = k + 1 ∧ (∀ y ∈ xs ++ [x], (fun x : Nat × Nat => x.1 < 4294967296 ∧ x.2 < 256) y) ∧ (e2 = 0 → xs ++ [x] = (List.range (k + 1)).map fun i => (fun l : List UInt8 => (numAt l 0 4, numAt l 4 1)) (l.drop (8 * i))) ∧ Tk (8 * (k + 1)) l e l2 e2) := Lib.hid (by
        obtain ⟨a1, a2, a3, a4⟩ := HX.out
        refine ⟨by simp [a1], fun y hy => ?_, fun h0 => ?_, ?_⟩
        · rcases List.mem_append.1 hy with hy | hy
          · exact a2 y hy
          · simp at hy; rw [hy]; exact hx
        · obtain ⟨z1, _, _⟩ := ht.good h0
          obtain ⟨_, _, d1⟩ := a4.good z1
          rw [range_snoc, ← a3 z1, hv h0, d1]
        · rw [Nat.mul_add]; exact a4.trans ht)
      have HG2 := Lib.hid (only_trans HGR.out hg2)
      obtain ⟨x0, x1⟩ := x
      have HC2 := Lib.hid hc2
      clear hown HX hv ht hg2 HGR C1 hc2
      have hcx := HC2.out.lt
      go_wp2_with (at_builtin; go_loud (refine wpl_append _ rfl (.tmp 9) (.tmp 12) 57 rfl w.heap.size 86 (.agg #[.int .u32 0, .int .u8 0]) 2 8 Tryd.underlying57 info_ask rfl (by decide) _ _ _ rfl (own2.alloc _) _ _ 1 1 [.int .u32 (x0 : Int), .int .u8 (x1 : Int)] rfl (Row.fresh w2 86 #[.int .u32 (x0 : Int), .int .u8 (x1 : Int)] 2 1 [.int .u32 (x0 : Int), .int .u8 (x1 : Int)] rfl rfl) ?c1 ?c2 ?c3 ?c4 ?_))
      case c1 => intro u hu; simp at hu; rcases hu with rfl | rfl <;> rfl
      case c2 => unfold maxLen; omega
      case c3 => omega
      case c4 => simp; omega
      intro v3 w3 own3 g3 _
      have R : w3.ownsRow w.heap.size 86 2 v3 (k + 1) (askC (xs ++ [(x0, x1)])) := by rw [askC_snoc]; exact own3
      have hcut : CutAt w3 lo g l2 e2 := (HC2.out.alloc _).grown g3 (fun q hq => by have := (own2.lt q hq).1; omega)
      have hgr3 : w.grownBy w3 (some g) := grown_two (grown_two HG2.out (only_below ((Below.refl _ _).alloc (Nat.le_refl _) _) none) (fun q hq => by cases hq)) g3 (fun q hq => (own2.lt q hq).1)
      clear own2 own3 g3 HC2 HG2 hcx
      go_wp2
      go_roundw
      case rel => exact ⟨k + 1, _, l2, e2, by omega, by go_num, R, HN, hcut, hgr3⟩
      case measure => simp [intOf]; omega
    · obtain rfl : n = k := by omega
      obtain ⟨A5, c5, rfl⟩ := oown_form hown
      have HF : Hid (TimesR (askC) 86 2 (fun x : Nat × Nat => x.1 < 4294967296 ∧ x.2 < 256) (fun l => (numAt l 0 4, numAt l 4 1)) 8 n lo g l e w (.returned (.slice A5 n c5)) wr) := Lib.hid ⟨A5, c5, xs, l1, e1, rfl, hown, HX.out.1, HX.out.2.1, HX.out.2.2.1, HX.out.2.2.2, hc, hgr⟩
      clear hown HX hc hgr
      go_wp2
      go_ret
      exact HF.out
end Go.Proofs.YtcjmiidnhbmclaaDoor
