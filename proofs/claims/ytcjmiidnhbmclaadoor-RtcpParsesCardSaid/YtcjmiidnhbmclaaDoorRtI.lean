/-
  The contract of the laws' same (layer 9).
-/
import Derived.Test.YtcjmiidnhbmclaaDoorRtH
import Derived.Deep.RegionHeld3
namespace Go.Proofs.YtcjmiidnhbmclaaDoor
set_option maxRecDepth 100000
set_option linter.unusedSimpArgs false
open Go.RowKit

set_option maxRecDepth 1000000 in
set_option maxHeartbeats 6400000 in
theorem same_any (A B : Option Addr) (c c2 n n2 : Nat) (l1 l2 : List (Ms × Sl)) (w : World) (h1 : MsRow w w.heap.size A l1) (h2 : MsRow w w.heap.size B l2) (hn : l1.length = n) (hn2 : l2.length = n2) (f1 : ∀ x ∈ l1, x.1.Mod) (f2 : ∀ x ∈ l2, x.1.Mod) (hm : n ≤ 2000) (hm2 : n2 ≤ 2000) :
    Calls Tryd.prog 16 #[.slice A n c, .slice B n2 c2] w fun e w' => e = .returned (.bool (decide (l1.map Prod.fst = l2.map Prod.fst))) ∧ Below w.heap.size w w' := by
  obtain ⟨ans, hans⟩ : ∃ b : Bool, b = decide (l1.map Prod.fst = l2.map Prod.fst) := ⟨_, rfl⟩
  rw [← hans]
  have HANS := Lib.hid hans
  have H1 := Lib.hid h1
  have H2 := Lib.hid h2
  have HN := Lib.hid hn
  have HN2 := Lib.hid hn2
  have F1 := Lib.hid f1
  have F2 := Lib.hid f2
  clear hans h1 h2 hn hn2 f1 f2
  by_cases hL : n = n2
  case neg =>
    have HNO : Hid (false = ans) := Lib.hid (by
      rw [HANS.out]
      exact (decide_eq_false fun e => hL (by have := congrArg List.length e; simp [HN.out, HN2.out] at this; exact this)).symm)
    go_enter Tryd.func16, Tryd.ntmps16
    go_wp2_with fail
    go_ret
    exact ⟨ret_boolK HNO.out, Below.refl _ _⟩
  case pos =>
  subst hL
  go_enter Tryd.func16, Tryd.ntmps16
  go_wp2_with fail
  go_loopw [5] (fun i wr => ∃ (k : Nat), k ≤ n ∧ i = .int .i64 k ∧ Hid ((l1.map Prod.fst).take k = (l2.map Prod.fst).take k) ∧ Below w.heap.size w wr) (fun i _ => n - (intOf i).toNat)
  case atStart => exact ⟨0, Nat.zero_le _, rfl, Lib.hid rfl, Below.refl _ _⟩
  case round =>
    obtain ⟨k, hk, rfl, HE, hb⟩ := hrel
    by_cases hlt : k < n
    · obtain ⟨x, hx⟩ : ∃ x, l1[k]? = some x := ⟨l1[k]'(by rw [HN.out]; exact hlt), by simp⟩
      obtain ⟨x', hx'⟩ : ∃ x, l2[k]? = some x := ⟨l2[k]'(by rw [HN2.out]; exact hlt), by simp⟩
      obtain ⟨g, o, hA, hg, hcs, hat⟩ := (H1.out.below hb (Nat.le_refl _)).at k x hx
      obtain ⟨g', o', hA', hg', hcs', hat'⟩ := (H2.out.below hb (Nat.le_refl _)).at k x' hx'
      subst hA hA'
      have hsz := hb.size
      have ff := F1.out x (List.mem_of_getElem? hx)
      have ff' := F2.out x' (List.mem_of_getElem? hx')
      obtain ⟨m, s⟩ := x
      obtain ⟨m', s'⟩ := x'
      dsimp only at hcs hcs' hat hat' ff ff'
      have y1 : (l1.map Prod.fst)[k]? = some m := by rw [List.getElem?_map, hx]; rfl
      have y2 : (l2.map Prod.fst)[k]? = some m' := by rw [List.getElem?_map, hx']; rfl
      obtain ⟨b, hb0⟩ : ∃ b : Bool, b = decide (m = m') := ⟨_, rfl⟩
      have C : Hid (Calls Tryd.prog 21 #[.agg #[.int .i64 m.kind, .int .u32 (m.ssrc : Int), .int .u32 (m.media : Int), .int .u64 (m.clock : Int), .int .u32 (m.time : Int), .int .u32 (m.packets : Int), .int .u32 (m.bytes : Int), .slice s.rA m.reps.length s.rc, .slice s.wA m.who.length s.wc, .slice s.pA m.pairs.length s.pc, .slice s.aA m.asks.length s.ac, .int .u8 (m.typ : Int)], .agg #[.int .i64 m'.kind, .int .u32 (m'.ssrc : Int), .int .u32 (m'.media : Int), .int .u64 (m'.clock : Int), .int .u32 (m'.time : Int), .int .u32 (m'.packets : Int), .int .u32 (m'.bytes : Int), .slice s'.rA m'.reps.length s'.rc, .slice s'.wA m'.who.length s'.wc, .slice s'.pA m'.pairs.length s'.pc, .slice s'.aA m'.asks.length s'.ac, .int .u8 (m'.typ : Int)]] wr.drew fun e w' => e = .returned (.bool b) ∧ Below w.heap.size w w') := Lib.hid (by
        rw [hb0]
        refine (sameM_any m m' s s' wr.drew ((hat.below (Below.refl w.heap.size wr).drew (Nat.le_refl _)).more hsz) ((hat'.below (Below.refl w.heap.size wr).drew (Nat.le_refl _)).more hsz) ff ff').mono ?_
        rintro e w' ⟨rfl, h⟩
        exact ⟨rfl, hb.drew.trans (h.mono hsz)⟩)
      have a0 : wr.cell? ⟨g, o + k * 12, none⟩ = some (.int .i64 m.kind) := hcs 0 _ rfl
      have a1 : wr.cell? ⟨g, o + k * 12 + 1, none⟩ = some (.int .u32 (m.ssrc : Int)) := hcs 1 _ rfl
      have a2 : wr.cell? ⟨g, o + k * 12 + 2, none⟩ = some (.int .u32 (m.media : Int)) := hcs 2 _ rfl
      have a3 : wr.cell? ⟨g, o + k * 12 + 3, none⟩ = some (.int .u64 (m.clock : Int)) := hcs 3 _ rfl
      have a4 : wr.cell? ⟨g, o + k * 12 + 4, none⟩ = some (.int .u32 (m.time : Int)) := hcs 4 _ rfl
      have a5 : wr.cell? ⟨g, o + k * 12 + 5, none⟩ = some (.int .u32 (m.packets : Int)) := hcs 5 _ rfl
      have a6 : wr.cell? ⟨g, o + k * 12 + 6, none⟩ = some (.int .u32 (m.bytes : Int)) := hcs 6 _ rfl
      have a7 : wr.cell? ⟨g, o + k * 12 + 7, none⟩ = some (.slice s.rA m.reps.length s.rc) := hcs 7 _ rfl
      have a8 : wr.cell? ⟨g, o + k * 12 + 8, none⟩ = some (.slice s.wA m.who.length s.wc) := hcs 8 _ rfl
      have a9 : wr.cell? ⟨g, o + k * 12 + 9, none⟩ = some (.slice s.pA m.pairs.length s.pc) := hcs 9 _ rfl
      have a10 : wr.cell? ⟨g, o + k * 12 + 10, none⟩ = some (.slice s.aA m.asks.length s.ac) := hcs 10 _ rfl
      have a11 : wr.cell? ⟨g, o + k * 12 + 11, none⟩ = some (.int .u8 (m.typ : Int)) := hcs 11 _ rfl
      have b0 : wr.cell? ⟨g', o' + k * 12, none⟩ = some (.int .i64 m'.kind) := hcs' 0 _ rfl
      have b1 : wr.cell? ⟨g', o' + k * 12 + 1, none⟩ = some (.int .u32 (m'.ssrc : Int)) := hcs' 1 _ rfl
      have b2 : wr.cell? ⟨g', o' + k * 12 + 2, none⟩ = some (.int .u32 (m'.media : Int)) := hcs' 2 _ rfl
      have b3 : wr.cell? ⟨g', o' + k * 12 + 3, none⟩ = some (.int .u64 (m'.clock : Int)) := hcs' 3 _ rfl
      have b4 : wr.cell? ⟨g', o' + k * 12 + 4, none⟩ = some (.int .u32 (m'.time : Int)) := hcs' 4 _ rfl
      have b5 : wr.cell? ⟨g', o' + k * 12 + 5, none⟩ = some (.int .u32 (m'.packets : Int)) := hcs' 5 _ rfl
      have b6 : wr.cell? ⟨g', o' + k * 12 + 6, none⟩ = some (.int .u32 (m'.bytes : Int)) := hcs' 6 _ rfl
      have b7 : wr.cell? ⟨g', o' + k * 12 + 7, none⟩ = some (.slice s'.rA m'.reps.length s'.rc) := hcs' 7 _ rfl
      have b8 : wr.cell? ⟨g', o' + k * 12 + 8, none⟩ = some (.slice s'.wA m'.who.length s'.wc) := hcs' 8 _ rfl
      have b9 : wr.cell? ⟨g', o' + k * 12 + 9, none⟩ = some (.slice s'.pA m'.pairs.length s'.pc) := hcs' 9 _ rfl
      have b10 : wr.cell? ⟨g', o' + k * 12 + 10, none⟩ = some (.slice s'.aA m'.asks.length s'.ac) := hcs' 10 _ rfl
      have b11 : wr.cell? ⟨g', o' + k * 12 + 11, none⟩ = some (.int .u8 (m'.typ : Int)) := hcs' 11 _ rfl
      have HT : Hid (b = true → (l1.map Prod.fst).take (k + 1) = (l2.map Prod.fst).take (k + 1)) := Lib.hid fun h => take_more HE.out y1 (by rw [hb0, decide_eq_true_eq] at h; rw [h]; exact y2)
      have HF : Hid (b = false → false = ans) := Lib.hid fun h => by
        rw [hb0] at h
        rw [HANS.out]
        exact (decide_eq_false (ne_at y1 y2 (of_decide_eq_false h))).symm
      have KEEP := Lib.hid (fun w' (h : Below w.heap.size w w') => show (fun w' => w'.cell? ⟨g, o + k * 12, none⟩ = some (.int .i64 m.kind) ∧ w'.cell? ⟨g, o + k * 12 + 1, none⟩ = some (.int .u32 (m.ssrc : Int)) ∧ w'.cell? ⟨g, o + k * 12 + 2, none⟩ = some (.int .u32 (m.media : Int)) ∧ w'.cell? ⟨g, o + k * 12 + 3, none⟩ = some (.int .u64 (m.clock : Int)) ∧ w'.cell? ⟨g, o + k * 12 + 4, none⟩ = some (.int .u32 (m.time : Int)) ∧ w'.cell? ⟨g, o + k * 12 + 5, none⟩ = some (.int .u32 (m.packets : Int)) ∧ w'.cell? ⟨g, o + k * 12 + 6, none⟩ = some (.int .u32 (m.bytes : Int)) ∧ w'.cell? ⟨g, o + k * 12 + 7, none⟩ = some (.slice s.rA m.reps.length s.rc) ∧ w'.cell? ⟨g, o + k * 12 + 8, none⟩ = some (.slice s.wA m.who.length s.wc) ∧ w'.cell? ⟨g, o + k * 12 + 9, none⟩ = some (.slice s.pA m.pairs.length s.pc) ∧ w'.cell? ⟨g, o + k * 12 + 10, none⟩ = some (.slice s.aA m.asks.length s.ac) ∧ w'.cell? ⟨g, o + k * 12 + 11, none⟩ = some (.int .u8 (m.typ : Int)) ∧ w'.cell? ⟨g', o' + k * 12, none⟩ = some (.int .i64 m'.kind) ∧ w'.cell? ⟨g', o' + k * 12 + 1, none⟩ = some (.int .u32 (m'.ssrc : Int)) ∧ w'.cell? ⟨g', o' + k * 12 + 2, none⟩ = some (.int .u32 (m'.media : Int)) ∧ w'.cell? ⟨g', o' + k * 12 + 3, none⟩ = some (.int .u64 (m'.clock : Int)) ∧ w'.cell? ⟨g', o' + k * 12 + 4, none⟩ = some (.int .u32 (m'.time : Int)) ∧ w'.cell? ⟨g', o' + k * 12 + 5, none⟩ = some (.int .u32 (m'.packets : Int)) ∧ w'.cell? ⟨g', o' + k * 12 + 6, none⟩ = some (.int .u32 (m'.bytes : Int)) ∧ w'.cell? ⟨g', o' + k * 12 + 7, none⟩ = some (.slice s'.rA m'.reps.length s'.rc) ∧ w'.cell? ⟨g', o' + k * 12 + 8, none⟩ = some (.slice s'.wA m'.who.length s'.wc) ∧ w'.cell? ⟨g', o' + k * 12 + 9, none⟩ = some (.slice s'.pA m'.pairs.length s'.pc) ∧ w'.cell? ⟨g', o' + k * 12 + 10, none⟩ = some (.slice s'.aA m'.asks.length s'.ac) ∧ w'.cell? ⟨g', o' + k * 12 + 11, none⟩ = some (.int .u8 (m'.typ : Int))) w' from by
        obtain ⟨g2, o2, e2, _, k1, _⟩ := (H1.out.below h (Nat.le_refl _)).at k _ hx
        injection e2 with e2
        injection e2 with e3 e4
        subst e3 e4
        obtain ⟨g2, o2, e2, _, k2, _⟩ := (H2.out.below h (Nat.le_refl _)).at k _ hx'
        injection e2 with e2
        injection e2 with e3 e4
        subst e3 e4
        exact ⟨k1 0 _ rfl, k1 1 _ rfl, k1 2 _ rfl, k1 3 _ rfl, k1 4 _ rfl, k1 5 _ rfl, k1 6 _ rfl, k1 7 _ rfl, k1 8 _ rfl, k1 9 _ rfl, k1 10 _ rfl, k1 11 _ rfl, k2 0 _ rfl, k2 1 _ rfl, k2 2 _ rfl, k2 3 _ rfl, k2 4 _ rfl, k2 5 _ rfl, k2 6 _ rfl, k2 7 _ rfl, k2 8 _ rfl, k2 9 _ rfl, k2 10 _ rfl, k2 11 _ rfl⟩)
      have HB := Lib.hid hb
      have hi1 : (0 : Int) ≤ (k : Int) := by omega
      have hi2 : (k : Int) < (n : Int) := by omega
      clear hb0 hcs hcs' hat hat' ff ff' y1 y2 hx hx' hb
      go_wp2_with fail
      go_region_held3 (fun w' => w'.cell? ⟨g, o + k * 12, none⟩ = some (.int .i64 m.kind) ∧ w'.cell? ⟨g, o + k * 12 + 1, none⟩ = some (.int .u32 (m.ssrc : Int)) ∧ w'.cell? ⟨g, o + k * 12 + 2, none⟩ = some (.int .u32 (m.media : Int)) ∧ w'.cell? ⟨g, o + k * 12 + 3, none⟩ = some (.int .u64 (m.clock : Int)) ∧ w'.cell? ⟨g, o + k * 12 + 4, none⟩ = some (.int .u32 (m.time : Int)) ∧ w'.cell? ⟨g, o + k * 12 + 5, none⟩ = some (.int .u32 (m.packets : Int)) ∧ w'.cell? ⟨g, o + k * 12 + 6, none⟩ = some (.int .u32 (m.bytes : Int)) ∧ w'.cell? ⟨g, o + k * 12 + 7, none⟩ = some (.slice s.rA m.reps.length s.rc) ∧ w'.cell? ⟨g, o + k * 12 + 8, none⟩ = some (.slice s.wA m.who.length s.wc) ∧ w'.cell? ⟨g, o + k * 12 + 9, none⟩ = some (.slice s.pA m.pairs.length s.pc) ∧ w'.cell? ⟨g, o + k * 12 + 10, none⟩ = some (.slice s.aA m.asks.length s.ac) ∧ w'.cell? ⟨g, o + k * 12 + 11, none⟩ = some (.int .u8 (m.typ : Int)) ∧ w'.cell? ⟨g', o' + k * 12, none⟩ = some (.int .i64 m'.kind) ∧ w'.cell? ⟨g', o' + k * 12 + 1, none⟩ = some (.int .u32 (m'.ssrc : Int)) ∧ w'.cell? ⟨g', o' + k * 12 + 2, none⟩ = some (.int .u32 (m'.media : Int)) ∧ w'.cell? ⟨g', o' + k * 12 + 3, none⟩ = some (.int .u64 (m'.clock : Int)) ∧ w'.cell? ⟨g', o' + k * 12 + 4, none⟩ = some (.int .u32 (m'.time : Int)) ∧ w'.cell? ⟨g', o' + k * 12 + 5, none⟩ = some (.int .u32 (m'.packets : Int)) ∧ w'.cell? ⟨g', o' + k * 12 + 6, none⟩ = some (.int .u32 (m'.bytes : Int)) ∧ w'.cell? ⟨g', o' + k * 12 + 7, none⟩ = some (.slice s'.rA m'.reps.length s'.rc) ∧ w'.cell? ⟨g', o' + k * 12 + 8, none⟩ = some (.slice s'.wA m'.who.length s'.wc) ∧ w'.cell? ⟨g', o' + k * 12 + 9, none⟩ = some (.slice s'.pA m'.pairs.length s'.pc) ∧ w'.cell? ⟨g', o' + k * 12 + 10, none⟩ = some (.slice s'.aA m'.asks.length s'.ac) ∧ w'.cell? ⟨g', o' + k * 12 + 11, none⟩ = some (.int .u8 (m'.typ : Int))) (first | exact ⟨a0, a1, a2, a3, a4, a5, a6, a7, a8, a9, a10, a11, b0, b1, b2, b3, b4, b5, b6, b7, b8, b9, b10, b11⟩ | exact KEEP.out _ (by assumption) | go_keep) ((go_at_call 21; refine C.out.mono ?_; rintro e w1 ⟨rfl, hB⟩))
      clear KEEP C HB a0 a1 a2 a3 a4 a5 a6 a7 a8 a9 a10 a11 b0 b1 b2 b3 b4 b5 b6 b7 b8 b9 b10 b11
      cases b with
      | true =>
        have HT2 := Lib.hid (HT.out rfl)
        clear HT HF
        go_wp2
        go_roundw
        case rel => exact ⟨k + 1, by omega, by go_num, HT2, hB⟩
        case measure => simp [intOf]; omega
      | false =>
        have HF2 := Lib.hid (HF.out rfl)
        clear HT HF
        go_wp2
        go_ret
        exact ⟨ret_boolK HF2.out, hB⟩
    · obtain rfl : n = k := by omega
      have HYES : Hid (true = ans) := Lib.hid (by
        rw [HANS.out]
        exact (decide_eq_true (take_all HE.out (by simp [HN.out]) (by simp [HN2.out]))).symm)
      have HB := Lib.hid hb
      clear hb HE
      go_wp2
      go_ret
      exact ⟨ret_boolK HYES.out, HB.out⟩
end Go.Proofs.YtcjmiidnhbmclaaDoor
