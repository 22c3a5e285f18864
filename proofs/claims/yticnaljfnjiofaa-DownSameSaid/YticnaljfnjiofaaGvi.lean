/-
  Several texts in one (VpI, VpW): what each of them says stands at its head.
-/
import Derived.Test.YticnaljfnjiofaaGvf
import Derived.Test.YticnaljfnjiofaaGvl
import Derived.RegionTactic
import Derived.Deep.CutBlock
import Derived.Deep.DeepCutAuto
import Derived.Deep.RegionHeld3
/-
  The contract of vp8's Parse.
-/
namespace Go.Proofs.Yticnaljfnjiofaa
open Go.RowKit

/-- What Parse tells. -/
def ParseTold (b : List UInt8) (w : World) (e : Ending) (w' : World) : Prop :=
  (parseS b = none ∧ e = .returned (.tuple #[.agg dsc0.cells, .int .i64 0, .int .i64 10]) ∨
    ∃ d r, parseS b = some (d, r) ∧ e = .returned (.tuple #[.agg d.cells, .int .i64 ((b.length : Int) - r.length), .int .i64 0])) ∧ Below w.heap.size w w'

/-- All cells of a block are written, one behind the other. -/
theorem whole_all {w : World} {r : Nat} {t : TypeId} {x0 x1 x2 x3 x4 x5 x6 x7 x8 x9 x10 x11 x12 x13 : Value} (h : Whole w r t #[x0, x1, x2, x3, x4, x5, x6, x7, x8, x9, x10, x11, x12, x13]) (u0 u1 u2 u3 u4 u5 u6 u7 u8 u9 u10 u11 u12 u13 : Value) :
    Whole ((((((((((((((w.setCell ⟨r, 0, none⟩ (u0)).setCell ⟨r, 1, none⟩ (u1)).setCell ⟨r, 2, none⟩ (u2)).setCell ⟨r, 3, none⟩ (u3)).setCell ⟨r, 4, none⟩ (u4)).setCell ⟨r, 5, none⟩ (u5)).setCell ⟨r, 6, none⟩ (u6)).setCell ⟨r, 7, none⟩ (u7)).setCell ⟨r, 8, none⟩ (u8)).setCell ⟨r, 9, none⟩ (u9)).setCell ⟨r, 10, none⟩ (u10)).setCell ⟨r, 11, none⟩ (u11)).setCell ⟨r, 12, none⟩ (u12)).setCell ⟨r, 13, none⟩ (u13)) r t #[u0, u1, u2, u3, u4, u5, u6, u7, u8, u9, u10, u11, u12, u13] := by
  have h : Whole _ r t #[u0, x1, x2, x3, x4, x5, x6, x7, x8, x9, x10, x11, x12, x13] := h.set 0 u0
  have h : Whole _ r t #[u0, u1, x2, x3, x4, x5, x6, x7, x8, x9, x10, x11, x12, x13] := h.set 1 u1
  have h : Whole _ r t #[u0, u1, u2, x3, x4, x5, x6, x7, x8, x9, x10, x11, x12, x13] := h.set 2 u2
  have h : Whole _ r t #[u0, u1, u2, u3, x4, x5, x6, x7, x8, x9, x10, x11, x12, x13] := h.set 3 u3
  have h : Whole _ r t #[u0, u1, u2, u3, u4, x5, x6, x7, x8, x9, x10, x11, x12, x13] := h.set 4 u4
  have h : Whole _ r t #[u0, u1, u2, u3, u4, u5, x6, x7, x8, x9, x10, x11, x12, x13] := h.set 5 u5
  have h : Whole _ r t #[u0, u1, u2, u3, u4, u5, u6, x7, x8, x9, x10, x11, x12, x13] := h.set 6 u6
  have h : Whole _ r t #[u0, u1, u2, u3, u4, u5, u6, u7, x8, x9, x10, x11, x12, x13] := h.set 7 u7
  have h : Whole _ r t #[u0, u1, u2, u3, u4, u5, u6, u7, u8, x9, x10, x11, x12, x13] := h.set 8 u8
  have h : Whole _ r t #[u0, u1, u2, u3, u4, u5, u6, u7, u8, u9, x10, x11, x12, x13] := h.set 9 u9
  have h : Whole _ r t #[u0, u1, u2, u3, u4, u5, u6, u7, u8, u9, u10, x11, x12, x13] := h.set 10 u10
  have h : Whole _ r t #[u0, u1, u2, u3, u4, u5, u6, u7, u8, u9, u10, u11, x12, x13] := h.set 11 u11
  have h : Whole _ r t #[u0, u1, u2, u3, u4, u5, u6, u7, u8, u9, u10, u11, u12, x13] := h.set 12 u12
  have h : Whole _ r t #[u0, u1, u2, u3, u4, u5, u6, u7, u8, u9, u10, u11, u12, u13] := h.set 13 u13
  exact h
theorem below_all {b : Nat} {w0 w : World} {r : Nat} (h : Below b w0 w) (hr : b ≤ r) (u0 u1 u2 u3 u4 u5 u6 u7 u8 u9 u10 u11 u12 u13 : Value) : Below b w0 ((((((((((((((w.setCell ⟨r, 0, none⟩ (u0)).setCell ⟨r, 1, none⟩ (u1)).setCell ⟨r, 2, none⟩ (u2)).setCell ⟨r, 3, none⟩ (u3)).setCell ⟨r, 4, none⟩ (u4)).setCell ⟨r, 5, none⟩ (u5)).setCell ⟨r, 6, none⟩ (u6)).setCell ⟨r, 7, none⟩ (u7)).setCell ⟨r, 8, none⟩ (u8)).setCell ⟨r, 9, none⟩ (u9)).setCell ⟨r, 10, none⟩ (u10)).setCell ⟨r, 11, none⟩ (u11)).setCell ⟨r, 12, none⟩ (u12)).setCell ⟨r, 13, none⟩ (u13)) := by
  have h := h.setCell (p := ⟨r, 0, none⟩) hr u0
  have h := h.setCell (p := ⟨r, 1, none⟩) hr u1
  have h := h.setCell (p := ⟨r, 2, none⟩) hr u2
  have h := h.setCell (p := ⟨r, 3, none⟩) hr u3
  have h := h.setCell (p := ⟨r, 4, none⟩) hr u4
  have h := h.setCell (p := ⟨r, 5, none⟩) hr u5
  have h := h.setCell (p := ⟨r, 6, none⟩) hr u6
  have h := h.setCell (p := ⟨r, 7, none⟩) hr u7
  have h := h.setCell (p := ⟨r, 8, none⟩) hr u8
  have h := h.setCell (p := ⟨r, 9, none⟩) hr u9
  have h := h.setCell (p := ⟨r, 10, none⟩) hr u10
  have h := h.setCell (p := ⟨r, 11, none⟩) hr u11
  have h := h.setCell (p := ⟨r, 12, none⟩) hr u12
  have h := h.setCell (p := ⟨r, 13, none⟩) hr u13
  exact h

theorem cut_drew {w : World} {lo g : Nat} {l : List UInt8} {e : Int} (h : CutAt w lo g l e) : CutAt w.drew lo g l e := h
theorem bitF (x : Nat) (h : x < 256) : (bits .and .u8 (x : Int) 128 != 0) = decide (128 ≤ x) ∧ (bits .and .u8 (x : Int) 32 != 0) = bitN x 32 ∧ (bits .and .u8 (x : Int) 16 != 0) = bitN x 16 := by
  have : ∀ x : Nat, x < 256 → (bits .and .u8 (x : Int) 128 != 0) = decide (128 ≤ x) ∧ (bits .and .u8 (x : Int) 32 != 0) = bitN x 32 ∧ (bits .and .u8 (x : Int) 16 != 0) = bitN x 16 := by decide +kernel
  exact this x h

set_option maxRecDepth 100000 in
set_option maxHeartbeats 1600000 in
theorem vparse_any (A : Option Addr) (c : Nat) (b : List UInt8) (w : World) (h : Row w w.heap.size 1 A b.length (u8s b)) (hl : b.length ≤ 100000) :
    Calls Try.prog 14 #[.slice A b.length c] w (ParseTold b w) := by
  have HP := Lib.hid (code_parse b)
  obtain ⟨q1, q2, q3⟩ := bitF _ (rd_lt b 0)
  have hv := rd_lt b 0
  have hcs : codeS b = if 128 ≤ rdN b 0 then VS.all (firstD (rdN b 0)) (rdL b 0) (rdE b 0) else ⟨firstD (rdN b 0), rdL b 0, rdE b 0, 0⟩ := rfl
  have HCS := Lib.hid hcs
  have H0 := Lib.hid (h.alloc (Nat.le_refl _) (.cells dsc0.cells 46))
  obtain ⟨w0, hw0⟩ : ∃ w0, w0 = w.alloc (.cells dsc0.cells 46) := ⟨_, rfl⟩
  have hR := Whole.new w 46 dsc0.cells
  have hB0 := (Below.refl _ w).alloc (Nat.le_refl _) (.cells dsc0.cells 46)
  rw [← hw0] at H0 hR hB0
  have HW0 := Lib.hid hw0
  have HR := Lib.hid hR
  have HB0 := Lib.hid hB0
  have hz : w0.heap.size = w.heap.size + 1 := by rw [hw0]; simp
  have HZ := Lib.hid hz
  obtain ⟨n, hn⟩ : ∃ n, n = b.length := ⟨_, rfl⟩
  rw [← hn] at H0 hl ⊢
  have HN := Lib.hid hn
  clear hcs hw0 hR hB0 h hz hn
  go_enter Try.func14, Try.ntmps14
  go_wp2_with fail
  have hw : w.alloc (.cells #[.bool false, .bool false, .bool false, .int .u8 0, .bool false, .bool false, .int .u16 0, .bool false, .int .u8 0, .bool false, .int .u8 0, .bool false, .bool false, .int .u8 0] 46) = w0 := HW0.out.symm
  rw [hw]
  clear hw HW0
  refine (new_any A n c b w0 (H0.out.more (by have := HZ.out; omega)) (by omega)).mono ?_
  rintro en w1 ⟨g, rfl, hg, c1, b1⟩
  have HR1 := Lib.hid (HR.out.below b1 (by have := HZ.out; omega))
  have HB1 := Lib.hid (HB0.out.trans (b1.mono HB0.out.size))
  have HC1 := Lib.hid c1
  have hg0 : w.heap.size < g := by have := HZ.out; omega
  have HLT1 := Lib.hid c1.lt
  have C := Lib.hid (fun wx (hc : CutAt wx w0.heap.size g b 0) => num1_any (lo := w0.heap.size) g b 0 wx hc)
  generalize rdN b 0 = f at *
  generalize rdL b 0 = l1 at *
  generalize rdE b 0 = e1 at *
  clear b1 c1 hg HR HB0 H0
  go_wp2_with fail
  refine (C.out _ HC1.out).mono ?_
  rintro en w2 ⟨rfl, c2, g2⟩
  have HR2 := Lib.hid (HR1.out.grown g2 (by simp; omega))
  have HB2 := Lib.hid (HB1.out.grown g2 HB1.out.size (fun k hk => by injection hk with hk; omega))
  have HC2 := Lib.hid c2
  clear c2 g2 HR1 HB1 HC1 HLT1 C
  have hgl := HC2.out.lt
  have HGL := Lib.hid hgl
  clear hgl
  obtain ⟨gd, hgd⟩ : ∃ gd, gd = w2.heap.size := ⟨_, rfl⟩
  have hggd : g < gd := by have := HGL.out; omega
  have hwgd : w.heap.size < gd := by omega
  have HGD := Lib.hid hgd
  have HD := Lib.hid (show Whole (w2.alloc (.cells (firstD f).cells 46)) gd 46 (firstD f).cells by rw [hgd]; exact Whole.new _ _ _)
  have HC3 := Lib.hid (HC2.out.alloc (.cells (firstD f).cells 46))
  have HR3 := Lib.hid (HR2.out.alloc (.cells (firstD f).cells 46))
  have HB3 := Lib.hid (HB2.out.alloc HB2.out.size (.cells (firstD f).cells 46))
  obtain ⟨w3, hw3⟩ : ∃ w3, w3 = w2.alloc (.cells (firstD f).cells 46) := ⟨_, rfl⟩
  rw [← hw3] at HD HC3 HR3 HB3
  have HW3 := Lib.hid hw3
  have hff : firstD f = ⟨decide (128 ≤ f), bitN f 32, bitN f 16, f % 8, false, false, 0, false, 0, false, 0, false, false, 0⟩ := rfl
  have HFF := Lib.hid hff
  clear hgd hw3 hff HR2 HB2 HC2
  go_upto_if 26 with fail
  have hw : w2.alloc (.cells #[.bool (decide (128 ≤ f)), .bool (bitN f 32), .bool (bitN f 16), .int .u8 ((f : Int) % 8), .bool false, .bool false, .int .u16 0, .bool false, .int .u8 0, .bool false, .int .u8 0, .bool false, .bool false, .int .u8 0] 46) = w3 := by rw [HW3.out]; rfl
  rw [hw, ← HGD.out]
  clear hw HW3 HGD HGL
  go_cut [] (fun wx => Whole wx gd 46 (codeS b).d.cells ∧ CutAt wx w0.heap.size g (codeS b).l (codeS b).e ∧ Whole wx w.heap.size 46 dsc0.cells ∧ Below w.heap.size w wx)
  case first =>
    by_cases hf : 128 ≤ f
    · have e1 : codeS b = VS.all (firstD f) l1 e1 := by rw [HCS.out, if_pos hf]
      have HE := Lib.hid e1
      clear e1 HFF
      go_wp2_with fail
      refine (vtake_any (firstD f) l1 _ w3 HD.out HC3.out hggd).mono ?_
      rintro en w4 ⟨rfl, d4, c4, b4⟩
      have HRel := Lib.hid (show Whole w4 gd 46 (codeS b).d.cells ∧ CutAt w4 w0.heap.size g (codeS b).l (codeS b).e ∧ Whole w4 w.heap.size 46 dsc0.cells ∧ Below w.heap.size w w4 from
        ⟨by rw [HE.out]; exact d4, by rw [HE.out]; exact c4, HR3.out.but b4 (by unfold two; omega), HB3.out.trans (b4.below HB3.out.size (by unfold two; omega))⟩)
      clear d4 c4 b4
      go_wp2_with fail
      go_meet
      exact HRel.out
    · have e1 : codeS b = ⟨firstD f, l1, e1, 0⟩ := by rw [HCS.out, if_neg hf]
      have HE := Lib.hid e1
      clear e1 HFF
      go_wp2_with fail
      go_meet
      exact ⟨by rw [HE.out]; exact HD.out, by rw [HE.out]; exact HC3.out, HR3.out, HB3.out⟩
  case rest =>
  obtain ⟨d4, c4, r4, b4⟩ := hcut
  generalize codeS b = cs at *
  clear HCS HD HC3 HR3 HB3 HFF q1 q2 q3
  have HB4 := Lib.hid b4
  have HC4 := Lib.hid c4
  have HR4 := Lib.hid r4
  have mm0 := r4.free 0
  have rr0 : wc.cell? ⟨w.heap.size, 0, none⟩ = some (.bool false) := r4.cell 0
  have mm1 := r4.free 1
  have rr1 : wc.cell? ⟨w.heap.size, 1, none⟩ = some (.bool false) := r4.cell 1
  have mm2 := r4.free 2
  have rr2 : wc.cell? ⟨w.heap.size, 2, none⟩ = some (.bool false) := r4.cell 2
  have mm3 := r4.free 3
  have rr3 : wc.cell? ⟨w.heap.size, 3, none⟩ = some (.int .u8 0) := r4.cell 3
  have mm4 := r4.free 4
  have rr4 : wc.cell? ⟨w.heap.size, 4, none⟩ = some (.bool false) := r4.cell 4
  have mm5 := r4.free 5
  have rr5 : wc.cell? ⟨w.heap.size, 5, none⟩ = some (.bool false) := r4.cell 5
  have mm6 := r4.free 6
  have rr6 : wc.cell? ⟨w.heap.size, 6, none⟩ = some (.int .u16 0) := r4.cell 6
  have mm7 := r4.free 7
  have rr7 : wc.cell? ⟨w.heap.size, 7, none⟩ = some (.bool false) := r4.cell 7
  have mm8 := r4.free 8
  have rr8 : wc.cell? ⟨w.heap.size, 8, none⟩ = some (.int .u8 0) := r4.cell 8
  have mm9 := r4.free 9
  have rr9 : wc.cell? ⟨w.heap.size, 9, none⟩ = some (.bool false) := r4.cell 9
  have mm10 := r4.free 10
  have rr10 : wc.cell? ⟨w.heap.size, 10, none⟩ = some (.int .u8 0) := r4.cell 10
  have mm11 := r4.free 11
  have rr11 : wc.cell? ⟨w.heap.size, 11, none⟩ = some (.bool false) := r4.cell 11
  have mm12 := r4.free 12
  have rr12 : wc.cell? ⟨w.heap.size, 12, none⟩ = some (.bool false) := r4.cell 12
  have mm13 := r4.free 13
  have rr13 : wc.cell? ⟨w.heap.size, 13, none⟩ = some (.int .u8 0) := r4.cell 13

  cases hp : parseS b with
  | none =>
    have he : cs.e = 10 := by have := HP.out; rw [hp] at this; exact this
    have HF := Lib.hid (show ∀ w', Below w.heap.size w w' → ParseTold b w (.returned (.tuple #[.agg dsc0.cells, .int .i64 0, .int .i64 10])) w' from fun w' hb => ⟨.inl ⟨hp, rfl⟩, hb⟩)
    rw [he] at HC4
    clear b4 c4 d4 r4 he hp HP
    go_wp2_with (go_at_call 32; refine (err_any _ _ _ _ HC4.out).mono ?_; rintro e w' ⟨rfl, rfl⟩)
    have hWe := Lib.hid (whole_all HR4.out (.bool false) (.bool false) (.bool false) (.int .u8 0) (.bool false) (.bool false) (.int .u16 0) (.bool false) (.int .u8 0) (.bool false) (.int .u8 0) (.bool false) (.bool false) (.int .u8 0))
    have hBe := Lib.hid (below_all HB4.out (Nat.le_refl _) (.bool false) (.bool false) (.bool false) (.int .u8 0) (.bool false) (.bool false) (.int .u16 0) (.bool false) (.int .u8 0) (.bool false) (.int .u8 0) (.bool false) (.bool false) (.int .u8 0))
    obtain ⟨we, hwe⟩ : ∃ we, we = ((((((((((((((wc.setCell ⟨w.heap.size, 0, none⟩ (.bool false)).setCell ⟨w.heap.size, 1, none⟩ (.bool false)).setCell ⟨w.heap.size, 2, none⟩ (.bool false)).setCell ⟨w.heap.size, 3, none⟩ (.int .u8 0)).setCell ⟨w.heap.size, 4, none⟩ (.bool false)).setCell ⟨w.heap.size, 5, none⟩ (.bool false)).setCell ⟨w.heap.size, 6, none⟩ (.int .u16 0)).setCell ⟨w.heap.size, 7, none⟩ (.bool false)).setCell ⟨w.heap.size, 8, none⟩ (.int .u8 0)).setCell ⟨w.heap.size, 9, none⟩ (.bool false)).setCell ⟨w.heap.size, 10, none⟩ (.int .u8 0)).setCell ⟨w.heap.size, 11, none⟩ (.bool false)).setCell ⟨w.heap.size, 12, none⟩ (.bool false)).setCell ⟨w.heap.size, 13, none⟩ (.int .u8 0)) := ⟨_, rfl⟩
    rw [← hwe] at hWe hBe ⊢
    have e0 : we.cell? ⟨w.heap.size, 0, none⟩ = some (.bool false) := hWe.out.cell 0
    have e1 : we.cell? ⟨w.heap.size, 1, none⟩ = some (.bool false) := hWe.out.cell 1
    have e2 : we.cell? ⟨w.heap.size, 2, none⟩ = some (.bool false) := hWe.out.cell 2
    have e3 : we.cell? ⟨w.heap.size, 3, none⟩ = some (.int .u8 0) := hWe.out.cell 3
    have e4 : we.cell? ⟨w.heap.size, 4, none⟩ = some (.bool false) := hWe.out.cell 4
    have e5 : we.cell? ⟨w.heap.size, 5, none⟩ = some (.bool false) := hWe.out.cell 5
    have e6 : we.cell? ⟨w.heap.size, 6, none⟩ = some (.int .u16 0) := hWe.out.cell 6
    have e7 : we.cell? ⟨w.heap.size, 7, none⟩ = some (.bool false) := hWe.out.cell 7
    have e8 : we.cell? ⟨w.heap.size, 8, none⟩ = some (.int .u8 0) := hWe.out.cell 8
    have e9 : we.cell? ⟨w.heap.size, 9, none⟩ = some (.bool false) := hWe.out.cell 9
    have e10 : we.cell? ⟨w.heap.size, 10, none⟩ = some (.int .u8 0) := hWe.out.cell 10
    have e11 : we.cell? ⟨w.heap.size, 11, none⟩ = some (.bool false) := hWe.out.cell 11
    have e12 : we.cell? ⟨w.heap.size, 12, none⟩ = some (.bool false) := hWe.out.cell 12
    have e13 : we.cell? ⟨w.heap.size, 13, none⟩ = some (.int .u8 0) := hWe.out.cell 13
    exact bodyPost_ret (v := .tuple #[.agg #[.bool false, .bool false, .bool false, .int .u8 0, .bool false, .bool false, .int .u16 0, .bool false, .int .u8 0, .bool false, .int .u8 0, .bool false, .bool false, .int .u8 0], .int .i64 0, .int .i64 10]) (by simp [results, Try.results14, go_sem, e0, e1, e2, e3, e4, e5, e6, e7, e8, e9, e10, e11, e12, e13]) rfl (HF.out we hBe.out)
  | some x =>
    obtain ⟨d, r⟩ := x
    have hh := HP.out
    rw [hp] at hh
    obtain ⟨h1, h2, h3⟩ := hh
    have HF := Lib.hid (show ∀ w', Below w.heap.size w w' → ParseTold b w (.returned (.tuple #[.agg d.cells, .int .i64 ((b.length : Int) - r.length), .int .i64 0])) w' from fun w' hb => ⟨.inr ⟨d, r, hp, rfl⟩, hb⟩)
    rw [h3, h2] at HC4
    have hrl : r.length ≤ n := by
      obtain ⟨pre, hpre, _⟩ := parse_size hp
      rw [HN.out, hpre]
      simp
    have hww : IntKind.i64.wrap ((n : Int) - (r.length : Int)) = (n : Int) - (r.length : Int) := IntWalk.i64_in _ (by omega)
    rw [h1] at d4
    have kk0 : wc.cell? ⟨gd, 0, none⟩ = some (.bool d.more) := d4.cell 0
    have kk1 : wc.cell? ⟨gd, 1, none⟩ = some (.bool d.lone) := d4.cell 1
    have kk2 : wc.cell? ⟨gd, 2, none⟩ = some (.bool d.start) := d4.cell 2
    have kk3 : wc.cell? ⟨gd, 3, none⟩ = some (.int .u8 (d.part : Int)) := d4.cell 3
    have kk4 : wc.cell? ⟨gd, 4, none⟩ = some (.bool d.hasPic) := d4.cell 4
    have kk5 : wc.cell? ⟨gd, 5, none⟩ = some (.bool d.wide) := d4.cell 5
    have kk6 : wc.cell? ⟨gd, 6, none⟩ = some (.int .u16 (d.pic : Int)) := d4.cell 6
    have kk7 : wc.cell? ⟨gd, 7, none⟩ = some (.bool d.hasTl0) := d4.cell 7
    have kk8 : wc.cell? ⟨gd, 8, none⟩ = some (.int .u8 (d.tl0 : Int)) := d4.cell 8
    have kk9 : wc.cell? ⟨gd, 9, none⟩ = some (.bool d.hasTid) := d4.cell 9
    have kk10 : wc.cell? ⟨gd, 10, none⟩ = some (.int .u8 (d.tid : Int)) := d4.cell 10
    have kk11 : wc.cell? ⟨gd, 11, none⟩ = some (.bool d.sync) := d4.cell 11
    have kk12 : wc.cell? ⟨gd, 12, none⟩ = some (.bool d.hasKey) := d4.cell 12
    have kk13 : wc.cell? ⟨gd, 13, none⟩ = some (.int .u8 (d.key : Int)) := d4.cell 13
    clear b4 c4 d4 r4 h1 h2 h3 hp HP
    go_wp2_with (go_at_call 32; refine (err_any _ _ _ _ HC4.out).mono ?_; rintro e w' ⟨rfl, rfl⟩)
    go_upto_region 8 with fail
    go_region_with (go_at_call 28; refine (left_any _ _ _ _ (by first | exact HC4.out | exact cut_drew HC4.out)).mono ?_; rintro e w' ⟨rfl, rfl⟩)
    all_goals
      go_wp2
      have hWe := Lib.hid (whole_all HR4.out (.bool d.more) (.bool d.lone) (.bool d.start) (.int .u8 (d.part : Int)) (.bool d.hasPic) (.bool d.wide) (.int .u16 (d.pic : Int)) (.bool d.hasTl0) (.int .u8 (d.tl0 : Int)) (.bool d.hasTid) (.int .u8 (d.tid : Int)) (.bool d.sync) (.bool d.hasKey) (.int .u8 (d.key : Int)))
      have hBe := Lib.hid (below_all HB4.out (Nat.le_refl _) (.bool d.more) (.bool d.lone) (.bool d.start) (.int .u8 (d.part : Int)) (.bool d.hasPic) (.bool d.wide) (.int .u16 (d.pic : Int)) (.bool d.hasTl0) (.int .u8 (d.tl0 : Int)) (.bool d.hasTid) (.int .u8 (d.tid : Int)) (.bool d.sync) (.bool d.hasKey) (.int .u8 (d.key : Int)))
      obtain ⟨we, hwe⟩ : ∃ we, we = ((((((((((((((wc.setCell ⟨w.heap.size, 0, none⟩ (.bool d.more)).setCell ⟨w.heap.size, 1, none⟩ (.bool d.lone)).setCell ⟨w.heap.size, 2, none⟩ (.bool d.start)).setCell ⟨w.heap.size, 3, none⟩ (.int .u8 (d.part : Int))).setCell ⟨w.heap.size, 4, none⟩ (.bool d.hasPic)).setCell ⟨w.heap.size, 5, none⟩ (.bool d.wide)).setCell ⟨w.heap.size, 6, none⟩ (.int .u16 (d.pic : Int))).setCell ⟨w.heap.size, 7, none⟩ (.bool d.hasTl0)).setCell ⟨w.heap.size, 8, none⟩ (.int .u8 (d.tl0 : Int))).setCell ⟨w.heap.size, 9, none⟩ (.bool d.hasTid)).setCell ⟨w.heap.size, 10, none⟩ (.int .u8 (d.tid : Int))).setCell ⟨w.heap.size, 11, none⟩ (.bool d.sync)).setCell ⟨w.heap.size, 12, none⟩ (.bool d.hasKey)).setCell ⟨w.heap.size, 13, none⟩ (.int .u8 (d.key : Int))) := ⟨_, rfl⟩
      rw [← hwe] at hWe hBe ⊢
      have e0 : we.cell? ⟨w.heap.size, 0, none⟩ = some (.bool d.more) := hWe.out.cell 0
      have e1 : we.cell? ⟨w.heap.size, 1, none⟩ = some (.bool d.lone) := hWe.out.cell 1
      have e2 : we.cell? ⟨w.heap.size, 2, none⟩ = some (.bool d.start) := hWe.out.cell 2
      have e3 : we.cell? ⟨w.heap.size, 3, none⟩ = some (.int .u8 (d.part : Int)) := hWe.out.cell 3
      have e4 : we.cell? ⟨w.heap.size, 4, none⟩ = some (.bool d.hasPic) := hWe.out.cell 4
      have e5 : we.cell? ⟨w.heap.size, 5, none⟩ = some (.bool d.wide) := hWe.out.cell 5
      have e6 : we.cell? ⟨w.heap.size, 6, none⟩ = some (.int .u16 (d.pic : Int)) := hWe.out.cell 6
      have e7 : we.cell? ⟨w.heap.size, 7, none⟩ = some (.bool d.hasTl0) := hWe.out.cell 7
      have e8 : we.cell? ⟨w.heap.size, 8, none⟩ = some (.int .u8 (d.tl0 : Int)) := hWe.out.cell 8
      have e9 : we.cell? ⟨w.heap.size, 9, none⟩ = some (.bool d.hasTid) := hWe.out.cell 9
      have e10 : we.cell? ⟨w.heap.size, 10, none⟩ = some (.int .u8 (d.tid : Int)) := hWe.out.cell 10
      have e11 : we.cell? ⟨w.heap.size, 11, none⟩ = some (.bool d.sync) := hWe.out.cell 11
      have e12 : we.cell? ⟨w.heap.size, 12, none⟩ = some (.bool d.hasKey) := hWe.out.cell 12
      have e13 : we.cell? ⟨w.heap.size, 13, none⟩ = some (.int .u8 (d.key : Int)) := hWe.out.cell 13
      exact bodyPost_ret (v := .tuple #[.agg #[.bool d.more, .bool d.lone, .bool d.start, .int .u8 (d.part : Int), .bool d.hasPic, .bool d.wide, .int .u16 (d.pic : Int), .bool d.hasTl0, .int .u8 (d.tl0 : Int), .bool d.hasTid, .int .u8 (d.tid : Int), .bool d.sync, .bool d.hasKey, .int .u8 (d.key : Int)], .int .i64 ((n : Int) - r.length), .int .i64 0]) (by simp [results, Try.results14, go_sem, e0, e1, e2, e3, e4, e5, e6, e7, e8, e9, e10, e11, e12, e13]) rfl (by rw [HN.out]; exact HF.out _ ⟨hBe.out.os, hBe.out.tape, hBe.out.output, hBe.out.size, hBe.out.block⟩)
end Go.Proofs.Yticnaljfnjiofaa
/-
  What Parse tells, as a plain triple.
-/
namespace Go.Proofs.Yticnaljfnjiofaa
open Go.RowKit

/-- What Parse tells: the descriptor, how many bytes it has, the error. -/
def pT (b : List UInt8) : Dsc × Int × Int :=
  match parseS b with
  | none => (dsc0, 0, 10)
  | some (d, r) => (d, (b.length : Int) - r.length, 0)
theorem told_eq {b : List UInt8} {w w' : World} {e : Ending} (h : ParseTold b w e w') : e = .returned (.tuple #[.agg (pT b).1.cells, .int .i64 (pT b).2.1, .int .i64 (pT b).2.2]) ∧ Below w.heap.size w w' := by
  obtain ⟨h1, h2⟩ := h
  refine ⟨?_, h2⟩
  unfold pT
  rcases h1 with ⟨hp, rfl⟩ | ⟨d, r, hp, rfl⟩ <;> rw [hp]
theorem pT_none {b : List UInt8} (h : parseS b = none) : pT b = (dsc0, 0, 10) := by unfold pT; rw [h]
theorem pT_some {b r : List UInt8} {d : Dsc} (h : parseS b = some (d, r)) : pT b = (d, (b.length : Int) - r.length, 0) := by unfold pT; rw [h]
end Go.Proofs.Yticnaljfnjiofaa
