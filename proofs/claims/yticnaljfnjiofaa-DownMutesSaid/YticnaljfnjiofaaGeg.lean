/-
  Several texts in one (ExtE, ExtG): what each of them says stands at its head.
-/
import Derived.Test.YticnaljfnjiofaaGoc
import Derived.Test.YticnaljfnjiofaaGex
import Derived.Deep.RegionHeld3
import Derived.Deep.CutBlock
/-
  Contracts of package ext's readers, and of Parse.
-/
namespace Go.Proofs.Yticnaljfnjiofaa
open Go.RowKit
variable {lo : Nat}

/-- What a reader tells of what stands there. -/
def Readed (lo g : Nat) (w : World) (e : Ending) (w' : World) : Nx → Prop
  | .stop => ∃ u A n c, e = .returned (.tuple #[.agg #[.int .u8 u, .slice A n c], .bool true, .int .i64 0]) ∧ w.grownBy w' (some g)
  | .bad er => ∃ u A n c, e = .returned (.tuple #[.agg #[.int .u8 u, .slice A n c], .bool false, .int .i64 er]) ∧ er ≠ 0 ∧ w.grownBy w' (some g)
  | .item i r => ∃ A c, e = .returned (.tuple #[.agg #[.int .u8 (i.id.toNat : Int), .slice A i.d.length c], .bool false, .int .i64 0]) ∧ w'.ownsRow w.heap.size 5 1 (.slice A i.d.length c) i.d.length (u8s i.d) ∧ CutAt w' lo g r 0 ∧ w.grownBy w' (some g)

theorem keep_bx {w w2 : World} {g bx : Nat} {u : Value} (g2 : w.grownBy w2 (some g)) (hc : w.cell? ⟨bx, 0, none⟩ = some u) (hne : bx ≠ g) : w2.cell? ⟨bx, 0, none⟩ = some u :=
  (World.cell?_of_block (a := ⟨bx, 0, none⟩) (g2.block bx (World.block_lt_of_cell? w _ hc) (fun e => hne (by injection e)))).trans hc
theorem keep_set2 {w : World} {R bx : Nat} {u : Value} (h : w.cell? ⟨bx, 0, none⟩ = some u) (hne : bx ≠ R) (a b : Value) : ((w.setCell ⟨R, 0, none⟩ a).setCell ⟨R, 1, none⟩ b).cell? ⟨bx, 0, none⟩ = some u := by
  rw [World.cell?_setCell_other _ _ _ _ (by intro e; have := congrArg Addr.block e; simp at this; omega), World.cell?_setCell_other _ _ _ _ (by intro e; have := congrArg Addr.block e; simp at this; omega)]
  exact h
theorem grown_fresh {w w' : World} {row : Option Nat} (h : w.grownBy w' row) {p : Addr} (hp : w.heap.size ≤ p.block) (u : Value) : w.grownBy (w'.setCell p u) row :=
  ⟨h.os, h.tape, h.output, by simpa using h.size, fun k hk hne => (Below.heap_setCell _ _ _ _ (by omega)).trans (h.block k hk hne)⟩
theorem grown_from {w w1 w' : World} {row : Option Nat} (h : w.grownBy w1 row) (k : w1.grownBy w' row) : w.grownBy w' row :=
  ⟨k.os.trans h.os, k.tape.trans h.tape, k.output.trans h.output, Nat.le_trans h.size k.size, fun i hi hne => (k.block i (Nat.lt_of_lt_of_le hi h.size) hne).trans (h.block i hi hne)⟩
theorem grown_alloc (w : World) (o : Obj) (row : Option Nat) : w.grownBy (w.alloc o) row := only_below ((Below.refl _ _).alloc (Nat.le_refl _) _) row
/-- The end of a reader: the item lies in its result's block R. -/
theorem read_end {w w2 : World} {g : Nat} {hd rs : List UInt8} {er : Int} {A2 : Option Addr} {c2 : Nat} {o : Obj}
    (own2 : w2.ownsRow (w.heap.size + 1) 5 1 (.slice A2 hd.length c2) hd.length (u8s hd)) (cut2 : CutAt w2 lo g rs er) (g2 : (w.alloc o).grownBy w2 (some g)) (hg : g < w.heap.size) (u0 u1 : Value) :
    ((w2.setCell ⟨w.heap.size, 0, none⟩ u0).setCell ⟨w.heap.size, 1, none⟩ u1).ownsRow w.heap.size 5 1 (.slice A2 hd.length c2) hd.length (u8s hd) ∧
      CutAt ((w2.setCell ⟨w.heap.size, 0, none⟩ u0).setCell ⟨w.heap.size, 1, none⟩ u1) lo g rs er ∧ w.grownBy ((w2.setCell ⟨w.heap.size, 0, none⟩ u0).setCell ⟨w.heap.size, 1, none⟩ u1) (some g) :=
  ⟨own_base (ownsRow_setCell_below (ownsRow_setCell_below own2 (a := ⟨w.heap.size, 0, none⟩) (by simp) u0) (a := ⟨w.heap.size, 1, none⟩) (by simp) u1) (by omega),
    (cut2.far (p := ⟨w.heap.size, 0, none⟩) hg u0).far (p := ⟨w.heap.size, 1, none⟩) hg u1, grown_fresh (grown_fresh (grown_from (grown_alloc w o _) g2) (Nat.le_refl _) u0) (Nat.le_refl _) u1⟩

set_option maxRecDepth 100000 in
theorem readS_any (f : UInt8) (r : List UInt8) (g bx : Nat) (w : World) (hbx : w.cell? ⟨bx, 0, none⟩ = some (.pointer (some ⟨g, 0, none⟩))) (hblt : bx < w.heap.size) (hne : bx ≠ g) (h : CutAt w lo g r 0) (hl : r.length ≤ 65536) :
    Calls Try.prog 93 #[.int .u8 (f.toNat : Int), .pointer (some ⟨bx, 0, none⟩)] w fun e w' => Readed lo g w e w' (nxS f r) := by
  have hf := f.toNat_lt
  have hne2 : bx ≠ w.heap.size := by omega
  have hg := h.lt
  by_cases h0 : f.toNat / 16 = 0
  · have e : nxS f r = .bad 11 := by unfold nxS; rw [if_pos h0]
    have HF := Lib.hid (show Readed lo g w (.returned (.tuple #[.agg #[.int .u8 0, .slice none 0 0], .bool false, .int .i64 11])) (w.alloc (.cells #[.int .u8 0, .slice none 0 0] 68)) (nxS f r) from by
      rw [e]
      exact ⟨0, none, 0, 0, rfl, by decide, grown_alloc w _ _⟩)
    clear e h
    have h0' : (f.toNat : Int) / 16 = 0 := by omega
    clear h0
    generalize f.toNat = x at *
    go_enter Try.func93, Try.ntmps93
    go_wp2
    exact bodyPost_ret (v := .tuple #[.agg #[.int .u8 0, .slice none 0 0], .bool false, .int .i64 11]) (by simp [results, Try.results93, go_sem]) rfl HF.out
  by_cases h15 : f.toNat / 16 = 15
  · have e : nxS f r = .stop := by unfold nxS; rw [if_neg h0, if_pos h15]
    have HF := Lib.hid (show Readed lo g w (.returned (.tuple #[.agg #[.int .u8 0, .slice none 0 0], .bool true, .int .i64 0])) (w.alloc (.cells #[.int .u8 0, .slice none 0 0] 68)) (nxS f r) from by
      rw [e]
      exact ⟨0, none, 0, 0, rfl, grown_alloc w _ _⟩)
    clear e h
    have h15' : (f.toNat : Int) / 16 = 15 := by omega
    clear h0 h15
    generalize f.toNat = x at *
    go_enter Try.func93, Try.ntmps93
    go_wp2
    exact bodyPost_ret (v := .tuple #[.agg #[.int .u8 0, .slice none 0 0], .bool true, .int .i64 0]) (by simp [results, Try.results93, go_sem]) rfl HF.out
  obtain ⟨hd, rs, er, H0, HC⟩ : ∃ (hd rs : List UInt8) (er : Int), (∀ A2 c2 w4, w4.ownsRow w.heap.size 5 1 (.slice A2 hd.length c2) hd.length (u8s hd) ∧ CutAt w4 lo g rs er ∧ w.grownBy w4 (some g) →
        Readed lo g w (.returned (.tuple #[.agg #[.int .u8 ((f.toNat : Int) / 16), .slice A2 hd.length c2], .bool false, .int .i64 er])) w4 (nxS f r)) ∧
      ∀ wx, CutAt wx lo g r 0 → Calls Try.prog 29 #[.pointer (some ⟨g, 0, none⟩), .int .i64 ((f.toNat : Int) % 16 + 1)] wx (Byted wx lo g hd rs er) := by
    refine ⟨_, _, _, ?_, fun wx hc => by
      have := bytes_any g r 0 ((f.toNat : Int) % 16 + 1) wx hc (by omega)
      rwa [show decide (0 ≤ (f.toNat : Int) % 16 + 1) = true from by simp; omega] at this⟩
    intro A2 c2 w4 ⟨h1, h2, h3⟩
    have e0 : ((f.toNat : Int) % 16 + 1).toNat = f.toNat % 16 + 1 := by omega
    by_cases hs : r.length < f.toNat % 16 + 1
    · have hs' : ¬ (f.toNat : Int) % 16 + 1 ≤ (r.length : Int) := by omega
      have e : nxS f r = .bad 10 := by unfold nxS; rw [if_neg h0, if_neg h15, if_pos hs]
      rw [e]
      exact ⟨(f.toNat : Int) / 16, A2, _, c2, by rw [show errS r 0 ((f.toNat : Int) % 16 + 1) true = 10 by simp [errS, hs']], by decide, h3⟩
    · have hs' : (f.toNat : Int) % 16 + 1 ≤ (r.length : Int) := by omega
      have e : nxS f r = .item ⟨UInt8.ofNat (f.toNat / 16), r.take (f.toNat % 16 + 1)⟩ (r.drop (f.toNat % 16 + 1)) := by unfold nxS; rw [if_neg h0, if_neg h15, if_neg hs]
      have e1 : headS r 0 ((f.toNat : Int) % 16 + 1) true = r.take (f.toNat % 16 + 1) := by simp only [headS, hs', and_true, if_true, e0]
      have e2 : restS r 0 ((f.toNat : Int) % 16 + 1) true = r.drop (f.toNat % 16 + 1) := by simp only [restS, hs', and_true, if_true, e0]
      have e3 : errS r 0 ((f.toNat : Int) % 16 + 1) true = 0 := by simp [errS, hs']
      have e4 : ((UInt8.ofNat (f.toNat / 16)).toNat : Int) = (f.toNat : Int) / 16 := by rw [UInt8.toNat_ofNat']; omega
      rw [e1] at h1
      rw [e2, e3] at h2
      rw [e, e1, e3]
      exact ⟨A2, c2, by dsimp only; rw [e4], h1, h2, h3⟩
  have HF := Lib.hid H0
  have HB := Lib.hid HC
  clear H0 HC
  have hcut := h.alloc (.cells #[.int .u8 0, .slice none 0 0] 68)
  have HCUT := Lib.hid hcut
  have hbx2 : (w.alloc (.cells #[.int .u8 0, .slice none 0 0] 68)).cell? ⟨bx, 0, none⟩ = some (.pointer (some ⟨g, 0, none⟩)) := (World.cell?_alloc_lt w _ ⟨bx, 0, none⟩ hblt).trans hbx
  have HW := Lib.hid (Whole.new w 68 #[.int .u8 0, .slice none 0 0])
  clear h hcut hbx
  generalize f.toNat = x at *
  have t0 : ¬ (x : Int) / 16 = 0 := by omega
  have t15 : ¬ (x : Int) / 16 = 15 := by omega
  clear h0 h15
  have hz : (w.alloc (.cells #[.int .u8 0, .slice none 0 0] 68)).heap.size = w.heap.size + 1 := by simp
  have HZ := Lib.hid hz
  clear hz
  go_enter Try.func93, Try.ntmps93
  go_wp2_with fail
  have hw0 := HW.out.cell 0
  have hw1 := HW.out.cell 1
  go_region_held3 (fun w' => w'.cell? ⟨bx, 0, none⟩ = some (.pointer (some ⟨g, 0, none⟩)))
    (first | exact hbx2 | exact keep_bx g2 hbx2 hne | exact keep_set2 (keep_bx g2 hbx2 hne) hne2 _ _ | go_keep)
    (first
      | (go_at_call 29; refine (HB.out _ ?_).mono ?_; (first | exact HCUT.out | exact HCUT.out.drew); rintro e w2 ⟨A2, c2, rfl, own2, cut2, g2⟩; have hq := HW.out.drew.grown g2 (by simp; omega); have q0 := hq.cell 0; have q1 := hq.cell 1; have q2 := hq.free 0; have q3 := hq.free 1)
      | (go_at_call 32; refine (err_any _ _ _ _ cut2).mono ?_; rintro e w3 ⟨rfl, rfl⟩))
  have own2' : w2.ownsRow (w.heap.size + 1) 5 1 (.slice A2 hd.length c2) hd.length (u8s hd) := by rw [← HZ.out]; exact own2
  have HG := Lib.hid (HF.out A2 c2 _ (read_end own2' cut2 (grown_drew' g2) hg (.int .u8 ((x : Int) / 16)) (.slice A2 hd.length c2)))
  clear own2 own2' cut2 g2 hq HF HB HCUT HW hbx2
  go_wp2
  exact bodyPost_ret (v := .tuple #[.agg #[.int .u8 ((x : Int) / 16), .slice A2 hd.length c2], .bool false, .int .i64 er]) (by simp [results, Try.results93, go_sem, q0, q1]) rfl HG.out

theorem be_one (b : UInt8) : be [b] = b.toNat := by simp [be]
theorem be_nil : be [] = 0 := rfl

set_option maxRecDepth 100000 in
theorem readL_any (f : UInt8) (r : List UInt8) (g bx : Nat) (w : World) (hbx : w.cell? ⟨bx, 0, none⟩ = some (.pointer (some ⟨g, 0, none⟩))) (hblt : bx < w.heap.size) (hne : bx ≠ g) (h : CutAt w lo g r 0) (hl : r.length ≤ 65536) :
    Calls Try.prog 94 #[.int .u8 (f.toNat : Int), .pointer (some ⟨bx, 0, none⟩)] w fun e w' => Readed lo g w e w' (nxL f r) := by
  have hf := f.toNat_lt
  have hne2 : bx ≠ w.heap.size := by omega
  have hg := h.lt
  obtain ⟨nv, r1, e1, hd, rs, er, hnv, HN0, HC, H0⟩ : ∃ (nv : Nat) (r1 : List UInt8) (e1 : Int) (hd rs : List UInt8) (er : Int), nv < 256 ∧
      (∀ wx, CutAt wx lo g r 0 → Calls Try.prog 30 #[.pointer (some ⟨g, 0, none⟩), .int .i64 1] wx fun e w' => e = .returned (.int .u64 (nv : Int)) ∧ CutAt w' lo g r1 e1 ∧ wx.grownBy w' (some g)) ∧
      (∀ wx, CutAt wx lo g r1 e1 → Calls Try.prog 29 #[.pointer (some ⟨g, 0, none⟩), .int .i64 (nv : Int)] wx (Byted wx lo g hd rs er)) ∧
      (∀ A2 c2 w4, w4.ownsRow w.heap.size 5 1 (.slice A2 hd.length c2) hd.length (u8s hd) ∧ CutAt w4 lo g rs er ∧ w.grownBy w4 (some g) →
        Readed lo g w (.returned (.tuple #[.agg #[.int .u8 (f.toNat : Int), .slice A2 hd.length c2], .bool false, .int .i64 er])) w4 (nxL f r)) := by
    have hs1 : sizeB 1 = true := by decide
    cases r with
    | nil =>
      refine ⟨0, [], 10, [], [], 10, by omega, fun wx hc => ?_, fun wx hc => ?_, ?_⟩
      · have := num_any g [] 0 1 wx hc
        exact this
      · have := bytes_any g [] 10 0 wx hc (by simp)
        exact this
      · intro A2 c2 w4 ⟨h1, h2, h3⟩
        exact ⟨(f.toNat : Int), A2, 0, c2, rfl, by decide, h3⟩
    | cons b r1 =>
      simp only [List.length_cons] at hl
      have hb := b.toNat_lt
      refine ⟨b.toNat, r1, 0, headS r1 0 (b.toNat : Int) true, restS r1 0 (b.toNat : Int) true, errS r1 0 (b.toNat : Int) true, by omega, fun wx hc => ?_, fun wx hc => ?_, ?_⟩
      · have := num_any g (b :: r1) 0 1 wx hc
        have g1 : headS (b :: r1) 0 1 true = [b] := by simp [headS]; omega
        have g2 : restS (b :: r1) 0 1 true = r1 := by simp [restS]; omega
        have g3 : errS (b :: r1) 0 1 true = 0 := by simp [errS]; omega
        rw [hs1, g1, g2, g3] at this
        refine this.mono ?_
        rintro e w' ⟨rfl, k1, k2⟩
        exact ⟨by rw [be_one], k1, k2⟩
      · have := bytes_any g r1 0 (b.toNat : Int) wx hc (by omega)
        rwa [show decide (0 ≤ (b.toNat : Int)) = true from by simp] at this
      · intro A2 c2 w4 ⟨h1, h2, h3⟩
        by_cases hs : r1.length < b.toNat
        · have hs' : ¬ (b.toNat : Int) ≤ (r1.length : Int) := by omega
          have e : nxL f (b :: r1) = .bad 10 := by unfold nxL; simp only; rw [if_pos hs]
          rw [e]
          exact ⟨(f.toNat : Int), A2, _, c2, by rw [show errS r1 0 (b.toNat : Int) true = 10 by simp [errS]; omega], by decide, h3⟩
        · have hs' : (b.toNat : Int) ≤ (r1.length : Int) := by omega
          have e : nxL f (b :: r1) = .item ⟨f, r1.take b.toNat⟩ (r1.drop b.toNat) := by unfold nxL; simp only; rw [if_neg hs]
          have k1 : headS r1 0 (b.toNat : Int) true = r1.take b.toNat := by simp only [headS, hs', and_true, if_true, Int.toNat_natCast]
          have k2 : restS r1 0 (b.toNat : Int) true = r1.drop b.toNat := by simp only [restS, hs', and_true, if_true, Int.toNat_natCast]
          have k3 : errS r1 0 (b.toNat : Int) true = 0 := by simp [errS]; omega
          rw [k1] at h1
          rw [k2, k3] at h2
          rw [e, k1, k3]
          exact ⟨A2, c2, rfl, h1, h2, h3⟩
  have HF := Lib.hid H0
  have HB := Lib.hid HC
  have HN := Lib.hid HN0
  clear H0 HC HN0
  have HCUT := Lib.hid (h.alloc (.cells #[.int .u8 0, .slice none 0 0] 68))
  have hbx2 : (w.alloc (.cells #[.int .u8 0, .slice none 0 0] 68)).cell? ⟨bx, 0, none⟩ = some (.pointer (some ⟨g, 0, none⟩)) := (World.cell?_alloc_lt w _ ⟨bx, 0, none⟩ hblt).trans hbx
  have HW := Lib.hid (Whole.new w 68 #[.int .u8 0, .slice none 0 0])
  clear h hbx
  generalize f.toNat = x at *
  have hz : (w.alloc (.cells #[.int .u8 0, .slice none 0 0] 68)).heap.size = w.heap.size + 1 := by simp
  have HZ := Lib.hid hz
  clear hz
  go_enter Try.func94, Try.ntmps94
  go_wp2_with fail
  refine (HN.out _ HCUT.out).mono ?_
  rintro e w1 ⟨rfl, cut1, g1⟩
  have hbx3 := keep_bx g1 hbx2 hne
  have HW1 := Lib.hid (HW.out.grown g1 (by simp; omega))
  have HCUT1 := Lib.hid cut1
  have HG1 := Lib.hid g1
  clear cut1 g1 hbx2 HW HCUT
  go_wp2_with fail
  go_region_held3 (fun w' => w'.cell? ⟨bx, 0, none⟩ = some (.pointer (some ⟨g, 0, none⟩)))
    (first | exact hbx3 | exact keep_bx g2 hbx3 hne | exact keep_set2 (keep_bx g2 hbx3 hne) hne2 _ _ | go_keep)
    (first
      | (go_at_call 29; refine (HB.out _ ?_).mono ?_; (first | exact HCUT1.out | exact HCUT1.out.drew); rintro e w2 ⟨A2, c2, rfl, own2, cut2, g2⟩; have hq := HW1.out.drew.grown g2 (by simp; omega); have q0 := hq.cell 0; have q1 := hq.cell 1; have q2 := hq.free 0; have q3 := hq.free 1)
      | (go_at_call 32; refine (err_any _ _ _ _ cut2).mono ?_; rintro e w3 ⟨rfl, rfl⟩))
  have own2' : w2.ownsRow (w.heap.size + 1) 5 1 (.slice A2 hd.length c2) hd.length (u8s hd) := own_base own2 (by have := HG1.out.size; rw [HZ.out] at this; exact this)
  have HG := Lib.hid (HF.out A2 c2 _ (read_end own2' cut2 (grown_from HG1.out (grown_drew' g2)) hg (.int .u8 (x : Int)) (.slice A2 hd.length c2)))
  clear own2 own2' cut2 g2 hq HF HB HCUT1 HW1 hbx3 HN HG1
  go_wp2
  exact bodyPost_ret (v := .tuple #[.agg #[.int .u8 (x : Int), .slice A2 hd.length c2], .bool false, .int .i64 er]) (by simp [results, Try.results94, go_sem, q0, q1]) rfl HG.out
end Go.Proofs.Yticnaljfnjiofaa
/-
  The contract of package ext's Parse.
-/
namespace Go.Proofs.Yticnaljfnjiofaa
open Go.RowKit
set_option maxRecDepth 100000

theorem info_item : (Try.prog.info? 68).map (fun i => (i.zero, i.size, i.bytes)) = some (some (.agg #[.int .u8 0, .slice none 0 0]), 2, 32) := by kernel_rfl

/-- Two rows of elements of other types lie in other blocks. -/
theorem own_apart {w : World} {b b' : Nat} {e e' : TypeId} {z z' n n' : Nat} {v v' : Value} {xs xs' : List Value} (h : w.ownsRow b e z v n xs) (h' : w.ownsRow b' e' z' v' n' xs') (hne : e ≠ e') : v.ownBlock = none ∨ v.ownBlock ≠ v'.ownBlock := by
  rcases h.2 with ⟨rfl, _⟩ | ⟨g, cap, cur, rfl, _, hh, _⟩
  · exact .inl rfl
  · right
    rcases h'.2 with ⟨rfl, _⟩ | ⟨g', cap', cur', rfl, _, hh', _⟩
    · simp [Value.ownBlock]
    · intro he
      have : g = g' := by simpa [Value.ownBlock] using he
      subst this
      rw [hh] at hh'
      injection hh' with hh'
      injection hh' with _ ht
      exact hne ht
theorem own_not {w : World} {b : Nat} {e : TypeId} {z n : Nat} {v : Value} {xs : List Value} {g : Nat} (h : w.ownsRow b e z v n xs) (hg : g < b) : v.ownBlock = none ∨ v.ownBlock ≠ some g := by
  right
  intro he
  have := (h.lt g he).1
  omega
theorem Whole.cut_ne {w : World} {g bx : Nat} {lo : Nat} {l : List UInt8} {e : Int} {u : Value} (hw : Whole w bx 81 #[u]) (h : CutAt w lo g l e) : bx ≠ g := by
  rintro rfl
  obtain ⟨A, n, c, h1, _⟩ := h
  have a : w.heap[bx]? = some (.cells #[u] 81 (0, 0)) := hw
  have b : w.heap[bx]? = some (.cells #[.slice A n c, .int .i64 e] 116 (0, 0)) := h1
  rw [a] at b
  injection b with b
  injection b with _ b
  exact absurd b (by decide)

/-- How many bytes are left, as memory has it. -/
def leftLen (w : World) (g : Nat) : Nat := match w.cell? ⟨g, 0, none⟩ with
  | some (.slice _ n _) => n
  | _ => 0
theorem cut_left {w : World} {lo g : Nat} {l : List UInt8} {e : Int} (h : CutAt w lo g l e) : leftLen w g = l.length := by
  obtain ⟨A, n, c, h1, h2, _⟩ := h
  have := h2.1
  rw [u8s_length] at this
  unfold leftLen
  rw [h1.cell 0]
  simp
  omega

/-- What stands at the head of a round: what was read, what is left, and what all comes to. -/
def PSt (nx : UInt8 → List UInt8 → Nx) (R : List It × Int) (w : World) (lo base g bx : Nat) (v : Value) (wr : World) (ps : List Ip) (rest : List UInt8) : Prop :=
  wr.ownsRow base 68 2 v ps.length (ipC ps) ∧ (∀ p ∈ ps, wr.ownsRow base 5 1 (.slice p.A p.it.d.length p.c) p.it.d.length (u8s p.it.d) ∧ p.it.d.length ≤ 65536) ∧
  CutAt wr lo g rest 0 ∧ Whole wr bx 81 #[.pointer (some ⟨g, 0, none⟩)] ∧ Below w.heap.size w wr ∧ pr nx (ps.map Ip.it) rest = R ∧ ps.length ≤ 14 ∧ rest.length ≤ 65536 ∧ base ≤ wr.heap.size ∧ g < base ∧ bx < base ∧ w.heap.size ≤ base ∧ w.heap.size ≤ g

/-- Items lie in blocks from B on. -/
def AtIts (B : Nat) (A : Option Addr) (ps : List Ip) : Prop := (∀ a, A = some a → B ≤ a.block) ∧ ∀ p ∈ ps, ∀ a, p.A = some a → B ≤ a.block
/-- What Parse tells: the items and the error R. -/
def ParsedN (R : List It × Int) (w : World) (e : Ending) (w' : World) : Prop :=
  ∃ A c ps, e = .returned (.tuple #[.slice A ps.length c, .int .i64 R.2]) ∧ ps.map Ip.it = R.1 ∧ Its w' A ps ∧ Below w.heap.size w w' ∧ AtIts w.heap.size A ps
theorem ParsedN.none (w : World) (er : Int) {w' : World} (hb : Below w.heap.size w w') : ParsedN ([], er) w (.returned (.tuple #[.slice none 0 0, .int .i64 er])) w' :=
  ⟨.none, 0, [], rfl, rfl, ⟨Row.nil, by simp⟩, hb, fun a h => (by cases h), by simp⟩
theorem PSt.done {nx : UInt8 → List UInt8 → Nx} {R : List It × Int} {w : World} {lo base g bx : Nat} {A : Option Addr} {c n : Nat} {wr wr' : World} {ps : List Ip} {rest : List UInt8} (h : PSt nx R w lo base g bx (.slice A n c) wr ps rest) (hn : n = ps.length) (hR : pr nx (ps.map Ip.it) rest = (ps.map Ip.it, 0))
    (hg : wr.grownBy wr' (some g)) : ParsedN R w (.returned (.tuple #[.slice A ps.length c, .int .i64 0])) wr' := by
  subst hn
  obtain ⟨h1, h2, h3, h4, h5, h6, _, _, h9, h10, h11, h12, h13⟩ := h
  have k1 := h1.kept hg (own_not h1 h10)
  refine ⟨A, c, ps, by rw [← h6, hR], by rw [← h6, hR], ⟨Row.of_own k1, fun p hp => ?_⟩, h5.grown hg h5.size (fun q hq => by injection hq with hq; omega), fun a ha => Nat.le_trans h12 (own_lo h1 a ha), fun p hp a ha => Nat.le_trans h12 (own_lo (h2 p hp).1 a ha)⟩
  have := (h2 p hp).1
  exact ⟨Row.of_own (this.kept hg (own_not this h10)), by have := (h2 p hp).2; unfold maxLen; omega⟩
/-- One item more. -/
theorem PSt.step {nx : UInt8 → List UInt8 → Nx} {R : List It × Int} {w : World} {lo base g bx : Nat} {v v' : Value} {wr w2 w4 : World} {ps : List Ip} {rest r' : List UInt8} {i : It} {A2 : Option Addr} {c2 : Nat} {o o' : Obj}
    (h : PSt nx R w lo base g bx v wr ps rest) (hg : wr.grownBy w2 (some g)) (own2 : w2.ownsRow wr.heap.size 5 1 (.slice A2 i.d.length c2) i.d.length (u8s i.d)) (cut2 : CutAt w2 lo g r' 0)
    (hl : ps.length ≠ 14) (hr' : r'.length ≤ 65536) (hi : i.d.length ≤ 65536) (hR : pr nx (ps.map Ip.it) rest = pr nx (ps.map Ip.it ++ [i]) r')
    (own4 : w4.ownsRow base 68 2 v' (ps.length + 1) (ipC ps ++ [.int .u8 (i.id.toNat : Int), .slice A2 i.d.length c2])) (hg4 : ((w2.alloc o).alloc o').grownBy w4 v.ownBlock) :
    PSt nx R w lo base g bx v' w4 (ps ++ [⟨i, A2, c2⟩]) r' := by
  obtain ⟨h1, h2, h3, h4, h5, h6, h7, h8, h9, h10, h11, h12, h13⟩ := h
  have k1 := h1.kept hg (own_not h1 h10)
  have b2 : Below w2.heap.size w2 ((w2.alloc o).alloc o') := ((Below.refl _ _).alloc (Nat.le_refl _) _).alloc (by simp) _
  have z2 := hg.size
  have far : ∀ q, v.ownBlock = some q → base ≤ q := fun q hq => (h1.lt q hq).1
  have keep : ∀ {p : Ip}, w2.ownsRow base 5 1 (.slice p.A p.it.d.length p.c) p.it.d.length (u8s p.it.d) → w4.ownsRow base 5 1 (.slice p.A p.it.d.length p.c) p.it.d.length (u8s p.it.d) := by
    intro p hp
    exact (own_below hp b2 (Nat.le_refl _)).kept hg4 (own_apart hp k1 (by decide))
  refine ⟨by rw [ipC_snoc]; simpa [Ip.cells] using own4, fun p hp => ?_, ?_, ?_, ?_, ?_, by simp; omega, hr', ?_, h10, h11, h12, h13⟩
  · rcases List.mem_append.1 hp with hp | hp
    · have := (h2 p hp).1
      exact ⟨keep (this.kept hg (own_not this h10)), (h2 p hp).2⟩
    · simp at hp
      subst hp
      exact ⟨keep (p := ⟨i, A2, c2⟩) (own_base own2 h9), hi⟩
  · exact ((cut2.alloc _).alloc _).grown hg4 (fun q hq => by have := far q hq; omega)
  · have hbg := h4.cut_ne h3
    exact (((h4.grown hg (by simpa using hbg)).alloc _).alloc _).grown hg4 (fun e => by have := far _ e.symm; omega)
  · have B2 := h5.grown hg h5.size (fun q hq => by injection hq with hq; omega)
    exact ((B2.alloc B2.size _).alloc (by have := B2.size; simp; omega) _).grown hg4 (by have := B2.size; simp; omega) (fun q hq => by have := far q hq; omega)
  · rw [← h6, hR]
    simp
  · have := hg4.size
    simp at this
    omega
/-- What is left of the state where a nought was taken. -/
theorem PSt.skip {nx : UInt8 → List UInt8 → Nx} {R : List It × Int} {w : World} {lo base g bx : Nat} {v : Value} {wr w2 : World} {ps : List Ip} {r r' : List UInt8}
    (h : PSt nx R w lo base g bx v wr ps r) (hg : wr.grownBy w2 (some g)) (cut2 : CutAt w2 lo g r' 0) (hl : r'.length ≤ 65536) (hR : pr nx (ps.map Ip.it) r = pr nx (ps.map Ip.it) r') : PSt nx R w lo base g bx v w2 ps r' := by
  obtain ⟨h1, h2, h3, h4, h5, h6, h7, h8, h9, h10, h11, h12, h13⟩ := h
  have hbg := h4.cut_ne h3
  exact ⟨h1.kept hg (own_not h1 h10), fun p hp => ⟨((h2 p hp).1).kept hg (own_not (h2 p hp).1 h10), (h2 p hp).2⟩, cut2, h4.grown hg (by simpa using hbg), h5.grown hg h5.size (fun q hq => by injection hq with hq; omega), by rw [← h6, hR], h7, hl, by have := hg.size; omega, h10, h11, h12, h13⟩

theorem readerOf_short (g : Nat) (w : World) : Calls Try.prog 85 #[.int .u16 48862, .pointer (some ⟨g, 0, none⟩)] w fun e w' => e = .returned (.func (.func 93) #[] #[.pointer (some ⟨w.heap.size, 0, none⟩)]) ∧ w' = w.alloc (.cells #[.pointer (some ⟨g, 0, none⟩)] 81) := by
  go_enter Try.func85, Try.ntmps85
  go_wp2
  go_ret
  exact ⟨rfl, rfl⟩
theorem readerOf_long (p : Int) (h1 : 4096 ≤ p) (h2 : p ≤ 4111) (g : Nat) (w : World) : Calls Try.prog 85 #[.int .u16 p, .pointer (some ⟨g, 0, none⟩)] w fun e w' => e = .returned (.func (.func 94) #[] #[.pointer (some ⟨w.heap.size, 0, none⟩)]) ∧ w' = w.alloc (.cells #[.pointer (some ⟨g, 0, none⟩)] 81) := by
  have h0 : ¬ p = 48862 := by omega
  go_enter Try.func85, Try.ntmps85
  go_wp2
  go_ret
  exact ⟨rfl, rfl⟩
theorem readerOf_none (p : Int) (h0 : ¬ p = 48862) (h : p < 4096 ∨ 4111 < p) (g : Nat) (w : World) : Calls Try.prog 85 #[.int .u16 p, .pointer (some ⟨g, 0, none⟩)] w fun e w' => e = .returned .nilFunc ∧ w' = w.alloc (.cells #[.pointer (some ⟨g, 0, none⟩)] 81) := by
  rcases h with h | h
  · go_enter Try.func85, Try.ntmps85
    go_wp2
    go_ret
    exact ⟨rfl, rfl⟩
  · have h1 : 4096 ≤ p := by omega
    have h2 : ¬ p ≤ 4111 := by omega
    go_enter Try.func85, Try.ntmps85
    go_wp2
    go_ret
    exact ⟨rfl, rfl⟩

set_option maxRecDepth 100000 in
theorem parse_S (A : Option Addr) (c : Nat) (b : List UInt8) (w : World) (h : Row w w.heap.size 1 A b.length (u8s b)) (hl : b.length ≤ 65536) :
    Calls Try.prog 64 #[.int .u16 48862, .slice A b.length c] w (ParsedN (pr nxS [] b) w) := by
  obtain ⟨R, hR⟩ : ∃ R, R = pr nxS [] b := ⟨_, rfl⟩
  rw [← hR]
  go_enter Try.func64, Try.ntmps64
  go_wp2_with fail
  refine (new_any A b.length c b w h (by omega)).mono ?_
  rintro e w1 ⟨g, rfl, hg0, cut1, b1⟩
  clear h
  go_wp2_with fail
  refine (readerOf_short g w1).mono ?_
  rintro e w2 ⟨rfl, rfl⟩
  obtain ⟨bx, hbx⟩ : ∃ bx, bx = w1.heap.size := ⟨_, rfl⟩
  have hst : PSt nxS R w w.heap.size (bx + 1) g bx (.slice none 0 0) (w1.alloc (.cells #[.pointer (some ⟨g, 0, none⟩)] 81)) [] b :=
    ⟨World.ownsRow_nil _ _ _ _, by simp, cut1.alloc _, by rw [hbx]; exact Whole.new _ _ _, b1.alloc b1.size _, hR.symm, by simp, hl, by simp [hbx], by have := cut1.lt; omega, by omega, by have := b1.size; omega, hg0⟩
  rw [← hbx]
  have HST := Lib.hid hst
  have hnil : ∀ w, (binOp .eql 162 (.func (.func 93) #[] #[.pointer (some ⟨bx, 0, none⟩)]) .nilFunc).run Try.prog w = .ok (.bool false) w := fun w => by rfl
  clear hst hR cut1 b1 hbx
  go_wp2_with fail
  clear hnil
  go_loopw [8] (fun v wr => ∃ ps rest, PSt nxS R w w.heap.size (bx + 1) g bx v wr ps rest) (fun _ wr => leftLen wr g)
  case atStart => exact ⟨[], b, HST.out⟩
  case round =>
    clear HST
    obtain ⟨ps, rest, hst⟩ := hrel
    have hst0 := hst
    obtain ⟨h1, h2, h3, h4, h5, h6, h7, h8, h9, h10, h11, h12, h13⟩ := hst0
    obtain ⟨Av, cv, rfl⟩ := own_form h1
    have HST := Lib.hid hst
    have hleft := Lib.hid (cut_left h3)
    have HC := Lib.hid h3
    have HW := Lib.hid h4
    have H6 := Lib.hid h6
    have hbg := h4.cut_ne h3
    obtain ⟨wo, rfl⟩ : ∃ wo : World, wo = wr := ⟨_, rfl⟩
    clear h1 h2 h3 h4 h5 h6 h13 hst
    cases rest with
    | nil =>
      have HF := Lib.hid (HST.out.done rfl pr_nil (World.grownBy.refl wo _))
      go_wp2_with (go_at_call 28; refine (left_any g _ _ _ HC.out).mono ?_; rintro e w' ⟨rfl, rfl⟩)
      go_ret2
      exact HF.out
    | cons f r =>
      have hp : (0 : Int) < ((f :: r).length : Int) := by simp only [List.length_cons]; omega
      have hf256 := f.toNat_lt
      have CN : Calls Try.prog 30 #[.pointer (some ⟨g, 0, none⟩), .int .i64 1] wo fun e w' => e = .returned (.int .u64 (f.toNat : Int)) ∧ CutAt w' w.heap.size g r 0 ∧ wo.grownBy w' (some g) := by
        have := num_any g (f :: r) 0 1 wo HC.out
        have g1 : headS (f :: r) 0 1 true = [f] := by simp [headS]; omega
        have g2 : restS (f :: r) 0 1 true = r := by simp [restS]; omega
        have g3 : errS (f :: r) 0 1 true = 0 := by simp [errS]; omega
        rw [show sizeB 1 = true by decide, g1, g2, g3] at this
        refine this.mono ?_
        rintro e w' ⟨rfl, k1, k2⟩
        exact ⟨by rw [be_one], k1, k2⟩
      have CL := left_any g _ _ _ HC.out
      simp only [List.length_cons] at h8
      go_wp2_with (go_at_call 28; refine CL.mono ?_; rintro e w' ⟨rfl, rfl⟩)
      refine CN.mono ?_
      rintro e w2 ⟨rfl, cut2, g2⟩
      clear CN CL
      have hne := HC.out.lt
      have hbx2 := keep_bx g2 (HW.out.cell 0) hbg
      have z2 := g2.size
      have hcl2 := Lib.hid (cut_left cut2)
      by_cases hf0 : f = 0
      · subst hf0
        have HS := Lib.hid (HST.out.skip g2 cut2 (by omega) (pr_zero nxS_shr))
        have hx : ((0 : UInt8).toNat : Int) = 0 := rfl
        rw [hx]
        clear g2 cut2 hbx2 hx
        go_wp2
        go_roundw
        case rel => exact ⟨ps, r, HS.out⟩
        case measure => rw [hcl2.out, hleft.out]; simp
      · have hfn : ¬ (f.toNat : Int) = 0 := fun e => hf0 (UInt8.toNat_inj.1 (by rw [show (0 : UInt8).toNat = 0 from rfl]; omega))
        have CR := readS_any f r g bx w2 hbx2 (by omega) hbg cut2 (by omega)
        have HG2 := Lib.hid g2
        have hshr := Lib.hid (nxS_shr f r)
        clear g2 cut2 hbx2
        go_wp2_with fail
        refine CR.mono ?_
        rintro e w3 hr
        clear CR
        cases hn : nxS f r with
        | stop =>
          rw [hn] at hr
          obtain ⟨u, A2, n2, c2, rfl, g3⟩ := hr
          have HF := Lib.hid (fun o => HST.out.done rfl (pr_stop hf0 hn) (grown_from (grown_from HG2.out g3) (grown_alloc w3 o _)))
          clear g3 hn
          go_wp2
          go_ret2
          exact HF.out _
        | bad er =>
          rw [hn] at hr
          obtain ⟨u, A2, n2, c2, rfl, her, g3⟩ := hr
          have HF := Lib.hid (fun o => show ParsedN R w (.returned (.tuple #[.slice none 0 0, .int .i64 er])) (w3.alloc o) from by
            rw [← H6.out, pr_bad hf0 hn]
            have h5 := HST.out.2.2.2.2.1
            exact ParsedN.none w er (h5.grown (grown_from (grown_from HG2.out g3) (grown_alloc w3 o _)) h5.size (fun q hq => by injection hq with hq; have := HST.out.2.2.2.2.2.2.2.2.2.2.2.2; omega)))
          have her' : ¬ er = 0 := her
          clear g3 hn her
          go_wp2
          go_ret2
          exact HF.out _
        | item i r' =>
          rw [hn] at hr
          obtain ⟨A2, c2, rfl, own3, cut3, g3⟩ := hr
          by_cases h14 : ps.length = 14
          · have HF := Lib.hid (fun o => show ParsedN R w (.returned (.tuple #[.slice none 0 0, .int .i64 13])) (w3.alloc o) from by
              rw [← H6.out, pr_full hf0 hn (by simpa using h14)]
              have h5 := HST.out.2.2.2.2.1
              exact ParsedN.none w 13 (h5.grown (grown_from (grown_from HG2.out g3) (grown_alloc w3 o _)) h5.size (fun q hq => by injection hq with hq; have := HST.out.2.2.2.2.2.2.2.2.2.2.2.2; omega)))
            have h14' : (ps.length : Int) = 14 := by omega
            clear g3 hn own3 cut3
            go_wp2
            go_ret2
            exact HF.out _
          · have h14' : ¬ (ps.length : Int) = 14 := by omega
            have hs := hshr.out i r' hn
            have own3' := own_base own3 z2
            have gall := grown_from HG2.out g3
            have hR := pr_item nxS_shr hf0 hn (acc := ps.map Ip.it) (by simpa using h14)
            have HST3 := Lib.hid (fun v' w4 o o' k4 kg => HST.out.step (v' := v') (w4 := w4) (o := o) (o' := o') gall own3' cut3 h14 (by omega) (by omega) hR k4 kg)
            have HST3' := Lib.hid (fun w4 (k : CutAt w4 w.heap.size g r' 0) => cut_left k)
            have ownl := Lib.hid (HST.out.1.kept gall (own_not HST.out.1 h10))
            have hsz := gall.size
            clear own3 own3' cut3 gall hR hn g3
            go_wp2_with (at_builtin; go_loud (refine wpl_append _ rfl (.tmp 46) (.tmp 48) 30 rfl (bx + 1) 68 (.agg #[.int .u8 0, .slice none 0 0]) 2 32 Try.underlying30 info_item rfl (by decide) _ _ _ rfl ((ownl.out.alloc _).alloc _) _ _ 1 1 [.int .u8 (i.id.toNat : Int), .slice A2 i.d.length c2] rfl (Row.fresh2 _ _ _ _ 2 1 _ rfl rfl) (by simp [Value.oneCell']) ?c1 ?c2 ?c3 ?_))
            case c1 => unfold maxLen; omega
            case c2 => omega
            case c3 => simp; omega
            intro v4 w4 own4 g4 _
            have HS := Lib.hid (HST3.out v4 w4 _ _ own4 g4)
            clear own4 g4
            have hcl := HST3'.out w4 HS.out.2.2.1
            have HCL := Lib.hid hcl
            clear hcl
            go_wp2
            go_roundw
            case rel => exact ⟨_, _, HS.out⟩
            case measure => rw [HCL.out, hleft.out]; have := hs.1; simp; omega
set_option maxRecDepth 100000 in
theorem parse_L (p : Int) (hp1 : 4096 ≤ p) (hp2 : p ≤ 4111) (A : Option Addr) (c : Nat) (b : List UInt8) (w : World) (h : Row w w.heap.size 1 A b.length (u8s b)) (hl : b.length ≤ 65536) :
    Calls Try.prog 64 #[.int .u16 p, .slice A b.length c] w (ParsedN (pr nxL [] b) w) := by
  obtain ⟨R, hR⟩ : ∃ R, R = pr nxL [] b := ⟨_, rfl⟩
  rw [← hR]
  go_enter Try.func64, Try.ntmps64
  go_wp2_with fail
  refine (new_any A b.length c b w h (by omega)).mono ?_
  rintro e w1 ⟨g, rfl, hg0, cut1, b1⟩
  clear h
  go_wp2_with fail
  refine (readerOf_long p hp1 hp2 g w1).mono ?_
  rintro e w2 ⟨rfl, rfl⟩
  obtain ⟨bx, hbx⟩ : ∃ bx, bx = w1.heap.size := ⟨_, rfl⟩
  have hst : PSt nxL R w w.heap.size (bx + 1) g bx (.slice none 0 0) (w1.alloc (.cells #[.pointer (some ⟨g, 0, none⟩)] 81)) [] b :=
    ⟨World.ownsRow_nil _ _ _ _, by simp, cut1.alloc _, by rw [hbx]; exact Whole.new _ _ _, b1.alloc b1.size _, hR.symm, by simp, hl, by simp [hbx], by have := cut1.lt; omega, by omega, by have := b1.size; omega, hg0⟩
  rw [← hbx]
  have HST := Lib.hid hst
  have hnil : ∀ w, (binOp .eql 162 (.func (.func 94) #[] #[.pointer (some ⟨bx, 0, none⟩)]) .nilFunc).run Try.prog w = .ok (.bool false) w := fun w => by rfl
  clear hst hR cut1 b1 hbx
  go_wp2_with fail
  clear hnil
  go_loopw [8] (fun v wr => ∃ ps rest, PSt nxL R w w.heap.size (bx + 1) g bx v wr ps rest) (fun _ wr => leftLen wr g)
  case atStart => exact ⟨[], b, HST.out⟩
  case round =>
    clear HST
    obtain ⟨ps, rest, hst⟩ := hrel
    have hst0 := hst
    obtain ⟨h1, h2, h3, h4, h5, h6, h7, h8, h9, h10, h11, h12, h13⟩ := hst0
    obtain ⟨Av, cv, rfl⟩ := own_form h1
    have HST := Lib.hid hst
    have hleft := Lib.hid (cut_left h3)
    have HC := Lib.hid h3
    have HW := Lib.hid h4
    have H6 := Lib.hid h6
    have hbg := h4.cut_ne h3
    obtain ⟨wo, rfl⟩ : ∃ wo : World, wo = wr := ⟨_, rfl⟩
    clear h1 h2 h3 h4 h5 h6 h13 hst
    cases rest with
    | nil =>
      have HF := Lib.hid (HST.out.done rfl pr_nil (World.grownBy.refl wo _))
      go_wp2_with (go_at_call 28; refine (left_any g _ _ _ HC.out).mono ?_; rintro e w' ⟨rfl, rfl⟩)
      go_ret2
      exact HF.out
    | cons f r =>
      have hpl : (0 : Int) < ((f :: r).length : Int) := by simp only [List.length_cons]; omega
      have hf256 := f.toNat_lt
      have CN : Calls Try.prog 30 #[.pointer (some ⟨g, 0, none⟩), .int .i64 1] wo fun e w' => e = .returned (.int .u64 (f.toNat : Int)) ∧ CutAt w' w.heap.size g r 0 ∧ wo.grownBy w' (some g) := by
        have := num_any g (f :: r) 0 1 wo HC.out
        have g1 : headS (f :: r) 0 1 true = [f] := by simp [headS]; omega
        have g2 : restS (f :: r) 0 1 true = r := by simp [restS]; omega
        have g3 : errS (f :: r) 0 1 true = 0 := by simp [errS]; omega
        rw [show sizeB 1 = true by decide, g1, g2, g3] at this
        refine this.mono ?_
        rintro e w' ⟨rfl, k1, k2⟩
        exact ⟨by rw [be_one], k1, k2⟩
      have CL := left_any g _ _ _ HC.out
      simp only [List.length_cons] at h8
      go_wp2_with (go_at_call 28; refine CL.mono ?_; rintro e w' ⟨rfl, rfl⟩)
      refine CN.mono ?_
      rintro e w2 ⟨rfl, cut2, g2⟩
      clear CN CL
      have hne := HC.out.lt
      have hbx2 := keep_bx g2 (HW.out.cell 0) hbg
      have z2 := g2.size
      have hcl2 := Lib.hid (cut_left cut2)
      by_cases hf0 : f = 0
      · subst hf0
        have HS := Lib.hid (HST.out.skip g2 cut2 (by omega) (pr_zero nxL_shr))
        have hx : ((0 : UInt8).toNat : Int) = 0 := rfl
        rw [hx]
        clear g2 cut2 hbx2 hx
        go_wp2
        go_roundw
        case rel => exact ⟨ps, r, HS.out⟩
        case measure => rw [hcl2.out, hleft.out]; simp
      · have hfn : ¬ (f.toNat : Int) = 0 := fun e => hf0 (UInt8.toNat_inj.1 (by rw [show (0 : UInt8).toNat = 0 from rfl]; omega))
        have CR := readL_any f r g bx w2 hbx2 (by omega) hbg cut2 (by omega)
        have HG2 := Lib.hid g2
        have hshr := Lib.hid (nxL_shr f r)
        clear g2 cut2 hbx2
        go_wp2_with fail
        refine CR.mono ?_
        rintro e w3 hr
        clear CR
        cases hn : nxL f r with
        | stop =>
          rw [hn] at hr
          obtain ⟨u, A2, n2, c2, rfl, g3⟩ := hr
          have HF := Lib.hid (fun o => HST.out.done rfl (pr_stop hf0 hn) (grown_from (grown_from HG2.out g3) (grown_alloc w3 o _)))
          clear g3 hn
          go_wp2
          go_ret2
          exact HF.out _
        | bad er =>
          rw [hn] at hr
          obtain ⟨u, A2, n2, c2, rfl, her, g3⟩ := hr
          have HF := Lib.hid (fun o => show ParsedN R w (.returned (.tuple #[.slice none 0 0, .int .i64 er])) (w3.alloc o) from by
            rw [← H6.out, pr_bad hf0 hn]
            have h5 := HST.out.2.2.2.2.1
            exact ParsedN.none w er (h5.grown (grown_from (grown_from HG2.out g3) (grown_alloc w3 o _)) h5.size (fun q hq => by injection hq with hq; have := HST.out.2.2.2.2.2.2.2.2.2.2.2.2; omega)))
          have her' : ¬ er = 0 := her
          clear g3 hn her
          go_wp2
          go_ret2
          exact HF.out _
        | item i r' =>
          rw [hn] at hr
          obtain ⟨A2, c2, rfl, own3, cut3, g3⟩ := hr
          by_cases h14 : ps.length = 14
          · have HF := Lib.hid (fun o => show ParsedN R w (.returned (.tuple #[.slice none 0 0, .int .i64 13])) (w3.alloc o) from by
              rw [← H6.out, pr_full hf0 hn (by simpa using h14)]
              have h5 := HST.out.2.2.2.2.1
              exact ParsedN.none w 13 (h5.grown (grown_from (grown_from HG2.out g3) (grown_alloc w3 o _)) h5.size (fun q hq => by injection hq with hq; have := HST.out.2.2.2.2.2.2.2.2.2.2.2.2; omega)))
            have h14' : (ps.length : Int) = 14 := by omega
            clear g3 hn own3 cut3
            go_wp2
            go_ret2
            exact HF.out _
          · have h14' : ¬ (ps.length : Int) = 14 := by omega
            have hs := hshr.out i r' hn
            have own3' := own_base own3 z2
            have gall := grown_from HG2.out g3
            have hR := pr_item nxL_shr hf0 hn (acc := ps.map Ip.it) (by simpa using h14)
            have HST3 := Lib.hid (fun v' w4 o o' k4 kg => HST.out.step (v' := v') (w4 := w4) (o := o) (o' := o') gall own3' cut3 h14 (by omega) (by omega) hR k4 kg)
            have HST3' := Lib.hid (fun w4 (k : CutAt w4 w.heap.size g r' 0) => cut_left k)
            have ownl := Lib.hid (HST.out.1.kept gall (own_not HST.out.1 h10))
            have hsz := gall.size
            clear own3 own3' cut3 gall hR hn g3
            go_wp2_with (at_builtin; go_loud (refine wpl_append _ rfl (.tmp 46) (.tmp 48) 30 rfl (bx + 1) 68 (.agg #[.int .u8 0, .slice none 0 0]) 2 32 Try.underlying30 info_item rfl (by decide) _ _ _ rfl ((ownl.out.alloc _).alloc _) _ _ 1 1 [.int .u8 (i.id.toNat : Int), .slice A2 i.d.length c2] rfl (Row.fresh2 _ _ _ _ 2 1 _ rfl rfl) (by simp [Value.oneCell']) ?c1 ?c2 ?c3 ?_))
            case c1 => unfold maxLen; omega
            case c2 => omega
            case c3 => simp; omega
            intro v4 w4 own4 g4 _
            have HS := Lib.hid (HST3.out v4 w4 _ _ own4 g4)
            clear own4 g4
            have hcl := HST3'.out w4 HS.out.2.2.1
            have HCL := Lib.hid hcl
            clear hcl
            go_wp2
            go_roundw
            case rel => exact ⟨_, _, HS.out⟩
            case measure => rw [HCL.out, hleft.out]; have := hs.1; simp; omega

theorem parse_anyN (p : Int) (A : Option Addr) (c : Nat) (b : List UInt8) (w : World) (h : Row w w.heap.size 1 A b.length (u8s b)) (hl : b.length ≤ 65536) :
    Calls Try.prog 64 #[.int .u16 p, .slice A b.length c] w (ParsedN (parseL p b) w) := by
  unfold parseL
  by_cases h0 : p = 48862
  · rw [if_pos h0, h0]
    exact parse_S A c b w h hl
  by_cases h1 : 4096 ≤ p ∧ p ≤ 4111
  · rw [if_neg h0, if_pos h1]
    exact parse_L p h1.1 h1.2 A c b w h hl
  rw [if_neg h0, if_neg h1]
  have C := fun g wx => readerOf_none p h0 (by omega) g wx
  have HC := Lib.hid C
  clear C h0 h1
  go_enter Try.func64, Try.ntmps64
  go_wp2_with fail
  refine (new_any A b.length c b w h (by omega)).mono ?_
  rintro e w1 ⟨g, rfl, hg0, cut1, b1⟩
  clear h cut1
  go_wp2_with fail
  refine (HC.out g w1).mono ?_
  rintro e w2 ⟨rfl, rfl⟩
  have HF := Lib.hid (ParsedN.none w 0 (b1.alloc b1.size (.cells #[.pointer (some ⟨g, 0, none⟩)] 81)))
  clear b1
  have hnil : ∀ w, (binOp .eql 162 .nilFunc .nilFunc).run Try.prog w = .ok (.bool true) w := fun w => by rfl
  go_wp2
  go_ret2
  exact HF.out
/-- The same, without where the items lie. -/
def Parsed (R : List It × Int) (w : World) (e : Ending) (w' : World) : Prop :=
  ∃ A c ps, e = .returned (.tuple #[.slice A ps.length c, .int .i64 R.2]) ∧ ps.map Ip.it = R.1 ∧ Its w' A ps ∧ Below w.heap.size w w'
theorem parse_any (p : Int) (A : Option Addr) (c : Nat) (b : List UInt8) (w : World) (h : Row w w.heap.size 1 A b.length (u8s b)) (hl : b.length ≤ 65536) :
    Calls Try.prog 64 #[.int .u16 p, .slice A b.length c] w (Parsed (parseL p b) w) :=
  (parse_anyN p A c b w h hl).mono fun _ _ ⟨A, c, ps, h1, h2, h3, h4, _⟩ => ⟨A, c, ps, h1, h2, h3, h4⟩
end Go.Proofs.Yticnaljfnjiofaa
