/-
  Contracts of package ext's readers, and of Parse.
-/
import Derived.Test.YtdfbbmaaonkjiaaExtA
import Derived.Deep.RegionHeld3
import Derived.Deep.CutBlock
namespace Go.Proofs.Ytdfbbmaaonkjiaa
open Go.RowKit
variable {lo : Nat}

/-- What a reader tells of what stands there. -/
def Readed (lo g : Nat) (w : World) (e : Ending) (w' : World) : Nx → Prop
  | .stop => ∃ u A n c, e = .returned (.tuple #[.agg #[.int .u8 u, .slice A n c], .bool true, .int .i64 0]) ∧ w.grownBy w' (some g)
  | .bad er => ∃ u A n c, e = .returned (.tuple #[.agg #[.int .u8 u, .slice A n c], .bool false, .int .i64 er]) ∧ er ≠ 0 ∧ w.grownBy w' (some g)
  | .item i r => ∃ A c, e = .returned (.tuple #[.agg #[.int .u8 (i.id.toNat : Int), .slice A i.d.length c], .bool false, .int .i64 0]) ∧ w'.ownsRow w.heap.size 5 1 (.slice A i.d.length c) i.d.length (u8s i.d) ∧ CutAt w' lo g r 0 ∧ w.grownBy w' (some g)

theorem CutAt.drew {w : World} {g : Nat} {l : List UInt8} {e : Int} (h : CutAt w lo g l e) : CutAt w.drew lo g l e := h
theorem keep_bx {w w2 : World} {g bx : Nat} {u : Value} (g2 : w.grownBy w2 (some g)) (hc : w.cell? ⟨bx, 0, none⟩ = some u) (hne : bx ≠ g) : w2.cell? ⟨bx, 0, none⟩ = some u :=
  (World.cell?_of_block (a := ⟨bx, 0, none⟩) (g2.block bx (World.block_lt_of_cell? w _ hc) (fun e => hne (by injection e)))).trans hc
theorem keep_set2 {w : World} {R bx : Nat} {u : Value} (h : w.cell? ⟨bx, 0, none⟩ = some u) (hne : bx ≠ R) (a b : Value) : ((w.setCell ⟨R, 0, none⟩ a).setCell ⟨R, 1, none⟩ b).cell? ⟨bx, 0, none⟩ = some u := by
  rw [World.cell?_setCell_other _ _ _ _ (by intro e; have := congrArg Addr.block e; simp at this; omega), World.cell?_setCell_other _ _ _ _ (by intro e; have := congrArg Addr.block e; simp at this; omega)]
  exact h
theorem grown_fresh {w w' : World} {row : Option Nat} (h : w.grownBy w' row) {p : Addr} (hp : w.heap.size ≤ p.block) (u : Value) : w.grownBy (w'.setCell p u) row :=
  ⟨h.os, h.tape, h.output, by simpa using h.size, fun k hk hne => (Below.heap_setCell _ _ _ _ (by omega)).trans (h.block k hk hne)⟩
theorem grown_from {w w1 w' : World} {row : Option Nat} (h : w.grownBy w1 row) (k : w1.grownBy w' row) : w.grownBy w' row :=
  ⟨k.os.trans h.os, k.tape.trans h.tape, k.output.trans h.output, Nat.le_trans h.size k.size, fun i hi hne => (k.block i (Nat.lt_of_lt_of_le hi h.size) hne).trans (h.block i hi hne)⟩
theorem grown_alloc (w : World) (o : Obj) (row : Option Nat) : w.grownBy (w.alloc o) row := only_below ((Below.refl _ _).alloc (Nat.le_refl _) _) row
theorem grown_drew' {w w' : World} {row : Option Nat} (h : w.drew.grownBy w' row) : w.grownBy w' row := ⟨h.os, h.tape, h.output, h.size, h.block⟩

/-- The end of a reader: the item lies in its result's block R. -/
theorem read_end {w w2 : World} {g : Nat} {hd rs : List UInt8} {er : Int} {A2 : Option Addr} {c2 : Nat} {o : Obj}
    (own2 : w2.ownsRow (w.heap.size + 1) 5 1 (.slice A2 hd.length c2) hd.length (u8s hd)) (cut2 : CutAt w2 lo g rs er) (g2 : (w.alloc o).grownBy w2 (some g)) (hg : g < w.heap.size) (u0 u1 : Value) :
    ((w2.setCell ⟨w.heap.size, 0, none⟩ u0).setCell ⟨w.heap.size, 1, none⟩ u1).ownsRow w.heap.size 5 1 (.slice A2 hd.length c2) hd.length (u8s hd) ∧
      CutAt ((w2.setCell ⟨w.heap.size, 0, none⟩ u0).setCell ⟨w.heap.size, 1, none⟩ u1) lo g rs er ∧ w.grownBy ((w2.setCell ⟨w.heap.size, 0, none⟩ u0).setCell ⟨w.heap.size, 1, none⟩ u1) (some g) :=
  ⟨own_base (ownsRow_setCell_below (ownsRow_setCell_below own2 (a := ⟨w.heap.size, 0, none⟩) (by simp) u0) (a := ⟨w.heap.size, 1, none⟩) (by simp) u1) (by omega),
    (cut2.far (p := ⟨w.heap.size, 0, none⟩) hg u0).far (p := ⟨w.heap.size, 1, none⟩) hg u1, grown_fresh (grown_fresh (grown_from (grown_alloc w o _) g2) (Nat.le_refl _) u0) (Nat.le_refl _) u1⟩

set_option maxRecDepth 100000 in
theorem readS_any (f : UInt8) (r : List UInt8) (g bx : Nat) (w : World) (hbx : w.cell? ⟨bx, 0, none⟩ = some (.pointer (some ⟨g, 0, none⟩))) (hblt : bx < w.heap.size) (hne : bx ≠ g) (h : CutAt w lo g r 0) (hl : r.length ≤ 65536) :
    Calls Try.prog 32 #[.int .u8 (f.toNat : Int), .pointer (some ⟨bx, 0, none⟩)] w fun e w' => Readed lo g w e w' (nxS f r) := by
  have hf := f.toNat_lt
  have hne2 : bx ≠ w.heap.size := by omega
  have hg := h.lt
  by_cases h0 : f.toNat / 16 = 0
  · have e : nxS f r = .bad 11 := by unfold nxS; rw [if_pos h0]
    have HF := Lib.hid (show Readed lo g w (.returned (.tuple #[.agg #[.int .u8 0, .slice none 0 0], .bool false, .int .i64 11])) (w.alloc (.cells #[.int .u8 0, .slice none 0 0] 46)) (nxS f r) from by
      rw [e]
      exact ⟨0, none, 0, 0, rfl, by decide, grown_alloc w _ _⟩)
    clear e h
    have h0' : (f.toNat : Int) / 16 = 0 := by omega
    clear h0
    generalize f.toNat = x at *
    go_enter Try.func32, Try.ntmps32
    go_wp2
    exact bodyPost_ret (v := .tuple #[.agg #[.int .u8 0, .slice none 0 0], .bool false, .int .i64 11]) (by simp [results, Try.results32, go_sem]) rfl HF.out
  by_cases h15 : f.toNat / 16 = 15
  · have e : nxS f r = .stop := by unfold nxS; rw [if_neg h0, if_pos h15]
    have HF := Lib.hid (show Readed lo g w (.returned (.tuple #[.agg #[.int .u8 0, .slice none 0 0], .bool true, .int .i64 0])) (w.alloc (.cells #[.int .u8 0, .slice none 0 0] 46)) (nxS f r) from by
      rw [e]
      exact ⟨0, none, 0, 0, rfl, grown_alloc w _ _⟩)
    clear e h
    have h15' : (f.toNat : Int) / 16 = 15 := by omega
    clear h0 h15
    generalize f.toNat = x at *
    go_enter Try.func32, Try.ntmps32
    go_wp2
    exact bodyPost_ret (v := .tuple #[.agg #[.int .u8 0, .slice none 0 0], .bool true, .int .i64 0]) (by simp [results, Try.results32, go_sem]) rfl HF.out
  obtain ⟨hd, rs, er, H0, HC⟩ : ∃ (hd rs : List UInt8) (er : Int), (∀ A2 c2 w4, w4.ownsRow w.heap.size 5 1 (.slice A2 hd.length c2) hd.length (u8s hd) ∧ CutAt w4 lo g rs er ∧ w.grownBy w4 (some g) →
        Readed lo g w (.returned (.tuple #[.agg #[.int .u8 ((f.toNat : Int) / 16), .slice A2 hd.length c2], .bool false, .int .i64 er])) w4 (nxS f r)) ∧
      ∀ wx, CutAt wx lo g r 0 → Calls Try.prog 33 #[.pointer (some ⟨g, 0, none⟩), .int .i64 ((f.toNat : Int) % 16 + 1)] wx (Byted wx lo g hd rs er) := by
    refine ⟨_, _, _, ?_, fun wx hc => by
      have := bytes_any g r 0 ((f.toNat : Int) % 16 + 1) wx hc (by omega)
      rwa [show decide (0 ≤ (f.toNat : Int) % 16 + 1) = true from by simp; omega] at this⟩
    intro A2 c2 w4 ⟨h1, h2, h3⟩
    have e0 : ((f.toNat : Int) % 16 + 1).toNat = f.toNat % 16 + 1 := by omega
    by_cases hs : r.length < f.toNat % 16 + 1
    · have hs' : ¬ (f.toNat : Int) % 16 + 1 ≤ (r.length : Int) := by omega
      have e : nxS f r = .bad 10 := by unfold nxS; rw [if_neg h0, if_neg h15, if_pos hs]
      rw [e]
      exact ⟨(f.toNat : Int) / 16, A2, _, c2, by rw [show errS r 0 ((f.toNat : Int) % 16 + 1) true = 10 by simp [errS, hs']], by decide, h3⟩
    · have hs' : (f.toNat : Int) % 16 + 1 ≤ (r.length : Int) := by omega
      have e : nxS f r = .item ⟨UInt8.ofNat (f.toNat / 16), r.take (f.toNat % 16 + 1)⟩ (r.drop (f.toNat % 16 + 1)) := by unfold nxS; rw [if_neg h0, if_neg h15, if_neg hs]
      have e1 : headS r 0 ((f.toNat : Int) % 16 + 1) true = r.take (f.toNat % 16 + 1) := by simp only [headS, hs', and_true, if_true, e0]
      have e2 : restS r 0 ((f.toNat : Int) % 16 + 1) true = r.drop (f.toNat % 16 + 1) := by simp only [restS, hs', and_true, if_true, e0]
      have e3 : errS r 0 ((f.toNat : Int) % 16 + 1) true = 0 := by simp [errS, hs']
      have e4 : ((UInt8.ofNat (f.toNat / 16)).toNat : Int) = (f.toNat : Int) / 16 := by rw [UInt8.toNat_ofNat']; omega
      rw [e1] at h1
      rw [e2, e3] at h2
      rw [e, e1, e3]
      exact ⟨A2, c2, by dsimp only; rw [e4], h1, h2, h3⟩
  have HF := Lib.hid H0
  have HB := Lib.hid HC
  clear H0 HC
  have hcut := h.alloc (.cells #[.int .u8 0, .slice none 0 0] 46)
  have HCUT := Lib.hid hcut
  have hbx2 : (w.alloc (.cells #[.int .u8 0, .slice none 0 0] 46)).cell? ⟨bx, 0, none⟩ = some (.pointer (some ⟨g, 0, none⟩)) := (World.cell?_alloc_lt w _ ⟨bx, 0, none⟩ hblt).trans hbx
  have HW := Lib.hid (Whole.new w 46 #[.int .u8 0, .slice none 0 0])
  clear h hcut hbx
  generalize f.toNat = x at *
  have t0 : ¬ (x : Int) / 16 = 0 := by omega
  have t15 : ¬ (x : Int) / 16 = 15 := by omega
  clear h0 h15
  have hz : (w.alloc (.cells #[.int .u8 0, .slice none 0 0] 46)).heap.size = w.heap.size + 1 := by simp
  have HZ := Lib.hid hz
  clear hz
  go_enter Try.func32, Try.ntmps32
  go_wp2_with fail
  have hw0 := HW.out.cell 0
  have hw1 := HW.out.cell 1
  go_region_held3 (fun w' => w'.cell? ⟨bx, 0, none⟩ = some (.pointer (some ⟨g, 0, none⟩)))
    (first | exact hbx2 | exact keep_bx g2 hbx2 hne | exact keep_set2 (keep_bx g2 hbx2 hne) hne2 _ _ | go_keep)
    (first
      | (go_at_call 33; refine (HB.out _ ?_).mono ?_; (first | exact HCUT.out | exact HCUT.out.drew); rintro e w2 ⟨A2, c2, rfl, own2, cut2, g2⟩; have hq := HW.out.drew.grown g2 (by simp; omega); have q0 := hq.cell 0; have q1 := hq.cell 1; have q2 := hq.free 0; have q3 := hq.free 1)
      | (go_at_call 34; refine (err_any _ _ _ _ cut2).mono ?_; rintro e w3 ⟨rfl, rfl⟩))
  have own2' : w2.ownsRow (w.heap.size + 1) 5 1 (.slice A2 hd.length c2) hd.length (u8s hd) := by rw [← HZ.out]; exact own2
  have HG := Lib.hid (HF.out A2 c2 _ (read_end own2' cut2 (grown_drew' g2) hg (.int .u8 ((x : Int) / 16)) (.slice A2 hd.length c2)))
  clear own2 own2' cut2 g2 hq HF HB HCUT HW hbx2
  go_wp2
  exact bodyPost_ret (v := .tuple #[.agg #[.int .u8 ((x : Int) / 16), .slice A2 hd.length c2], .bool false, .int .i64 er]) (by simp [results, Try.results32, go_sem, q0, q1]) rfl HG.out

theorem be_one (b : UInt8) : be [b] = b.toNat := by simp [be]
theorem be_nil : be [] = 0 := rfl

set_option maxRecDepth 100000 in
theorem readL_any (f : UInt8) (r : List UInt8) (g bx : Nat) (w : World) (hbx : w.cell? ⟨bx, 0, none⟩ = some (.pointer (some ⟨g, 0, none⟩))) (hblt : bx < w.heap.size) (hne : bx ≠ g) (h : CutAt w lo g r 0) (hl : r.length ≤ 65536) :
    Calls Try.prog 35 #[.int .u8 (f.toNat : Int), .pointer (some ⟨bx, 0, none⟩)] w fun e w' => Readed lo g w e w' (nxL f r) := by
  have hf := f.toNat_lt
  have hne2 : bx ≠ w.heap.size := by omega
  have hg := h.lt
  obtain ⟨nv, r1, e1, hd, rs, er, hnv, HN0, HC, H0⟩ : ∃ (nv : Nat) (r1 : List UInt8) (e1 : Int) (hd rs : List UInt8) (er : Int), nv < 256 ∧
      (∀ wx, CutAt wx lo g r 0 → Calls Try.prog 27 #[.pointer (some ⟨g, 0, none⟩), .int .i64 1] wx fun e w' => e = .returned (.int .u64 (nv : Int)) ∧ CutAt w' lo g r1 e1 ∧ wx.grownBy w' (some g)) ∧
      (∀ wx, CutAt wx lo g r1 e1 → Calls Try.prog 33 #[.pointer (some ⟨g, 0, none⟩), .int .i64 (nv : Int)] wx (Byted wx lo g hd rs er)) ∧
      (∀ A2 c2 w4, w4.ownsRow w.heap.size 5 1 (.slice A2 hd.length c2) hd.length (u8s hd) ∧ CutAt w4 lo g rs er ∧ w.grownBy w4 (some g) →
        Readed lo g w (.returned (.tuple #[.agg #[.int .u8 (f.toNat : Int), .slice A2 hd.length c2], .bool false, .int .i64 er])) w4 (nxL f r)) := by
    have hs1 : sizeB 1 = true := by decide
    cases r with
    | nil =>
      refine ⟨0, [], 10, [], [], 10, by omega, fun wx hc => ?_, fun wx hc => ?_, ?_⟩
      · have := num_any g [] 0 1 wx hc
        exact this
      · have := bytes_any g [] 10 0 wx hc (by simp)
        exact this
      · intro A2 c2 w4 ⟨h1, h2, h3⟩
        exact ⟨(f.toNat : Int), A2, 0, c2, rfl, by decide, h3⟩
    | cons b r1 =>
      simp only [List.length_cons] at hl
      have hb := b.toNat_lt
      refine ⟨b.toNat, r1, 0, headS r1 0 (b.toNat : Int) true, restS r1 0 (b.toNat : Int) true, errS r1 0 (b.toNat : Int) true, by omega, fun wx hc => ?_, fun wx hc => ?_, ?_⟩
      · have := num_any g (b :: r1) 0 1 wx hc
        have g1 : headS (b :: r1) 0 1 true = [b] := by simp [headS]; omega
        have g2 : restS (b :: r1) 0 1 true = r1 := by simp [restS]; omega
        have g3 : errS (b :: r1) 0 1 true = 0 := by simp [errS]; omega
        rw [hs1, g1, g2, g3] at this
        refine this.mono ?_
        rintro e w' ⟨rfl, k1, k2⟩
        exact ⟨by rw [be_one], k1, k2⟩
      · have := bytes_any g r1 0 (b.toNat : Int) wx hc (by omega)
        rwa [show decide (0 ≤ (b.toNat : Int)) = true from by simp] at this
      · intro A2 c2 w4 ⟨h1, h2, h3⟩
        by_cases hs : r1.length < b.toNat
        · have hs' : ¬ (b.toNat : Int) ≤ (r1.length : Int) := by omega
          have e : nxL f (b :: r1) = .bad 10 := by unfold nxL; simp only; rw [if_pos hs]
          rw [e]
          exact ⟨(f.toNat : Int), A2, _, c2, by rw [show errS r1 0 (b.toNat : Int) true = 10 by simp [errS]; omega], by decide, h3⟩
        · have hs' : (b.toNat : Int) ≤ (r1.length : Int) := by omega
          have e : nxL f (b :: r1) = .item ⟨f, r1.take b.toNat⟩ (r1.drop b.toNat) := by unfold nxL; simp only; rw [if_neg hs]
          have k1 : headS r1 0 (b.toNat : Int) true = r1.take b.toNat := by simp only [headS, hs', and_true, if_true, Int.toNat_natCast]
          have k2 : restS r1 0 (b.toNat : Int) true = r1.drop b.toNat := by simp only [restS, hs', and_true, if_true, Int.toNat_natCast]
          have k3 : errS r1 0 (b.toNat : Int) true = 0 := by simp [errS]; omega
          rw [k1] at h1
          rw [k2, k3] at h2
          rw [e, k1, k3]
          exact ⟨A2, c2, rfl, h1, h2, h3⟩
  have HF := Lib.hid H0
  have HB := Lib.hid HC
  have HN := Lib.hid HN0
  clear H0 HC HN0
  have HCUT := Lib.hid (h.alloc (.cells #[.int .u8 0, .slice none 0 0] 46))
  have hbx2 : (w.alloc (.cells #[.int .u8 0, .slice none 0 0] 46)).cell? ⟨bx, 0, none⟩ = some (.pointer (some ⟨g, 0, none⟩)) := (World.cell?_alloc_lt w _ ⟨bx, 0, none⟩ hblt).trans hbx
  have HW := Lib.hid (Whole.new w 46 #[.int .u8 0, .slice none 0 0])
  clear h hbx
  generalize f.toNat = x at *
  have hz : (w.alloc (.cells #[.int .u8 0, .slice none 0 0] 46)).heap.size = w.heap.size + 1 := by simp
  have HZ := Lib.hid hz
  clear hz
  go_enter Try.func35, Try.ntmps35
  go_wp2_with fail
  refine (HN.out _ HCUT.out).mono ?_
  rintro e w1 ⟨rfl, cut1, g1⟩
  have hbx3 := keep_bx g1 hbx2 hne
  have HW1 := Lib.hid (HW.out.grown g1 (by simp; omega))
  have HCUT1 := Lib.hid cut1
  have HG1 := Lib.hid g1
  clear cut1 g1 hbx2 HW HCUT
  go_wp2_with fail
  go_region_held3 (fun w' => w'.cell? ⟨bx, 0, none⟩ = some (.pointer (some ⟨g, 0, none⟩)))
    (first | exact hbx3 | exact keep_bx g2 hbx3 hne | exact keep_set2 (keep_bx g2 hbx3 hne) hne2 _ _ | go_keep)
    (first
      | (go_at_call 33; refine (HB.out _ ?_).mono ?_; (first | exact HCUT1.out | exact HCUT1.out.drew); rintro e w2 ⟨A2, c2, rfl, own2, cut2, g2⟩; have hq := HW1.out.drew.grown g2 (by simp; omega); have q0 := hq.cell 0; have q1 := hq.cell 1; have q2 := hq.free 0; have q3 := hq.free 1)
      | (go_at_call 34; refine (err_any _ _ _ _ cut2).mono ?_; rintro e w3 ⟨rfl, rfl⟩))
  have own2' : w2.ownsRow (w.heap.size + 1) 5 1 (.slice A2 hd.length c2) hd.length (u8s hd) := own_base own2 (by have := HG1.out.size; rw [HZ.out] at this; exact this)
  have HG := Lib.hid (HF.out A2 c2 _ (read_end own2' cut2 (grown_from HG1.out (grown_drew' g2)) hg (.int .u8 (x : Int)) (.slice A2 hd.length c2)))
  clear own2 own2' cut2 g2 hq HF HB HCUT1 HW1 hbx3 HN HG1
  go_wp2
  exact bodyPost_ret (v := .tuple #[.agg #[.int .u8 (x : Int), .slice A2 hd.length c2], .bool false, .int .i64 er]) (by simp [results, Try.results35, go_sem, q0, q1]) rfl HG.out
end Go.Proofs.Ytdfbbmaaonkjiaa
