/-
  Several texts in one (VpF, VpG, VpH, VpQ): what each of them says stands at its head.
-/
import Derived.Test.YticnaljfnjiofaaGoc
import Derived.Test.YticnaljfnjiofaaVpD
import Derived.IntWalk
/-
  Contracts of the closures that vp8.Parse reads by.
-/
namespace Go.Proofs.Yticnaljfnjiofaa
open Go.RowKit
variable {lo g gd bd bc gl : Nat}

theorem TAt.setx {w : World} {s : VS} (h : TAt w lo g gd bd bc gl s) (v : Nat) (hv : v < 256) : TAt (w.setCell ⟨gl, 0, none⟩ (.int .u8 (v : Int))) lo g gd bd bc gl { s with x := v } := by
  obtain ⟨h1, h2, h3, h4, h5, h6, o1, o2, o3, o4, o5⟩ := h
  exact ⟨h1.far (by simp; omega) _, h2.far (p := ⟨gl, 0, none⟩) (by simp; omega) _, by simpa using h3.set 0 (.int .u8 (v : Int)), h4.far (by simp; omega) _, h5.far (by simp; omega) _, hv, o1, o2, o3, o4, by simpa using o5⟩
theorem TAt.setd {w : World} {s : VS} (h : TAt w lo g gd bd bc gl s) (d' : Dsc) (j : Nat) (u : Value) (e : s.d.cells.setIfInBounds j u = d'.cells) : TAt (w.setCell ⟨gd, j, none⟩ u) lo g gd bd bc gl { s with d := d' } := by
  obtain ⟨h1, h2, h3, h4, h5, h6, o1, o2, o3, o4, o5⟩ := h
  exact ⟨by rw [← e]; exact h1.set j u, h2.far (p := ⟨gd, j, none⟩) (by simp; omega) _, h3.far (by simp; omega) _, h4.far (by simp; omega) _, h5.far (by simp; omega) _, h6, o1, o2, o3, o4, by simpa using o5⟩
theorem TAt.drew {w : World} {s : VS} (h : TAt w lo g gd bd bc gl s) : TAt w.drew lo g gd bd bc gl s := ⟨h.d, h.c, h.x, h.pd, h.pc, h.xl, h.o1, h.o2, h.o3, h.o4, h.o5⟩
theorem keepx {w : World} {b : Nat} {t : TypeId} {u : Value} (h : Whole w b t #[u]) {p : Addr} (hp : b ≠ p.block) {x : Value} : (w.setCell p x).cell? ⟨b, 0, none⟩ = some u := (h.far hp x).cell 0
theorem keepx2 {w : World} {b : Nat} {t : TypeId} {u : Value} (h : Whole w b t #[u]) {p q : Addr} (hp : b ≠ p.block) (hq : b ≠ q.block) {x y : Value} : ((w.setCell p x).setCell q y).cell? ⟨b, 0, none⟩ = some u := ((h.far hp x).far hq y).cell 0
def three (g gd gl k : Nat) : Prop := k = g ∨ k = gd ∨ k = gl
theorem three_g : three g gd gl g := .inl rfl
theorem three_d : three g gd gl gd := .inr (.inl rfl)
theorem three_l : three g gd gl gl := .inr (.inr rfl)

theorem f3_any (s : VS) (w : World) (h : TAt w lo g gd bd bc gl s) :
    Calls Try.prog 68 #[.pointer (some ⟨bc, 0, none⟩), .pointer (some ⟨gl, 0, none⟩)] w (Stepped lo g gd bd bc gl s.s3 w) := by
  have hpc : w.cell? ⟨bc, 0, none⟩ = some (.pointer (some ⟨g, 0, none⟩)) := h.pc.cell 0
  have H := Lib.hid h
  have hv := rd_lt s.l s.e
  have HS := Lib.hid (show s.s3 = { s with x := rdN s.l s.e, l := rdL s.l s.e, e := rdE s.l s.e } from rfl)
  generalize s.s3 = s' at HS ⊢
  clear h
  go_enter Try.func68, Try.ntmps68
  go_wp2_with fail
  refine (num1_any g s.l s.e w H.out.c).mono ?_
  rintro e w1 ⟨rfl, hc1, hg1⟩
  have H1 := H.out.num hc1 hg1
  have hx0 : w1.cell? ⟨gl, 0, none⟩ = some (.int .u8 (s.x : Int)) := H1.x.cell 0
  have hf0 := H1.x.free 0
  have HF := Lib.hid (show Stepped lo g gd bd bc gl s' w (.returned (.tuple #[])) (w1.setCell ⟨gl, 0, none⟩ (.int .u8 (rdN s.l s.e : Int))) from ⟨rfl, by rw [HS.out]; exact H1.setx _ hv, (but_grown hg1 (S := three g gd gl) three_g).set (.inl three_l) _⟩)
  clear H1 hc1 hg1
  generalize rdN s.l s.e = v at *
  go_wp2
  exact bodyPost_end (v := .tuple #[]) (by simp [results, Try.results68, go_sem]) rfl HF.out

set_option maxRecDepth 100000 in
theorem f2_any (s : VS) (w : World) (h : TAt w lo g gd bd bc gl s) :
    Calls Try.prog 67 #[.pointer (some ⟨bc, 0, none⟩), .pointer (some ⟨bd, 0, none⟩)] w (Stepped lo g gd bd bc gl s.s2 w) := by
  have hpc : w.cell? ⟨bc, 0, none⟩ = some (.pointer (some ⟨g, 0, none⟩)) := h.pc.cell 0
  have hpd : w.cell? ⟨bd, 0, none⟩ = some (.pointer (some ⟨gd, 0, none⟩)) := h.pd.cell 0
  have o1 := h.o1
  have o2 := h.o2
  have o3 := h.o3
  have H := Lib.hid h
  have hv := rd_lt s.l s.e
  have HS := Lib.hid (show s.s2 = { s with d := { s.d with hasTl0 := true, tl0 := rdN s.l s.e }, l := rdL s.l s.e, e := rdE s.l s.e } from rfl)
  generalize s.s2 = s' at HS ⊢
  clear h
  go_enter Try.func67, Try.ntmps67
  go_wp2_with fail
  have T3 := Lib.hid (show ∀ w1, CutAt w1 lo g (rdL s.l s.e) (rdE s.l s.e) → w.grownBy w1 (some g) → TAt w1 lo g gd bd bc gl { s with l := rdL s.l s.e, e := rdE s.l s.e } ∧ Stepped lo g gd bd bc gl s' w (.returned (.tuple #[])) ((w1.setCell ⟨gd, 7, none⟩ (.bool true)).setCell ⟨gd, 8, none⟩ (.int .u8 (rdN s.l s.e : Int))) from fun w1 h1 h2 =>
    ⟨H.out.num h1 h2, rfl, by rw [HS.out]; exact ((H.out.num h1 h2).setd { s.d with hasTl0 := true } 7 (.bool true) rfl).setd { s.d with hasTl0 := true, tl0 := rdN s.l s.e } 8 (.int .u8 (rdN s.l s.e : Int)) rfl, ((but_grown h2 (S := three g gd gl) three_g).set (.inl three_d) _).set (.inl three_d) _⟩)
  have HC := Lib.hid H.out.c
  have C := Lib.hid (fun wx (hc : CutAt wx lo g s.l s.e) => num1_any (lo := lo) g s.l s.e wx hc)
  generalize rdN s.l s.e = v at *
  generalize rdL s.l s.e = l1 at *
  generalize rdE s.l s.e = e1 at *
  clear H HS
  have hw : IntKind.u8.wrap (v : Int) = (v : Int) := IntWalk.u8_in _ (by omega)
  go_region_held3 (fun w' => w'.cell? ⟨bd, 0, none⟩ = some (.pointer (some ⟨gd, 0, none⟩)) ∧ w'.cell? ⟨bc, 0, none⟩ = some (.pointer (some ⟨g, 0, none⟩)))
    (first | exact ⟨hpd, hpc⟩ | exact ⟨hT.1.pd.cell 0, hT.1.pc.cell 0⟩ | exact ⟨(keepx hT.1.pd (by simp; omega)), keepx hT.1.pc (by simp; omega)⟩ | exact ⟨keepx2 hT.1.pd (by simp; omega) (by simp; omega), keepx2 hT.1.pc (by simp; omega) (by simp; omega)⟩ | go_keep)
    (first
      | (go_at_call 30; refine (C.out _ ?_).mono ?_; (first | exact HC.out | exact HC.out.drew); rintro e w1 ⟨rfl, hc1, hg1⟩; have hT := T3.out w1 hc1 (grown_drew' hg1); have q0 : w1.cell? ⟨gd, 7, none⟩ = some (.bool s.d.hasTl0) := hT.1.d.cell 7; have q1 : w1.cell? ⟨gd, 8, none⟩ = some (.int .u8 (s.d.tl0 : Int)) := hT.1.d.cell 8; have q2 := hT.1.d.free 7; have q3 := hT.1.d.free 8))
  have HF := Lib.hid hT.2
  clear hT T3 HC C q0 q1 q2 q3 hc1 hg1
  go_wp2
  exact bodyPost_end (v := .tuple #[]) (by simp [results, Try.results67, go_sem]) rfl HF.out

/-- The bits that the last byte is asked for. -/
theorem bit5 (x : Nat) (h : x < 256) : (bits .and .u8 (x : Int) 32 != 0) = bitN x 32 := by
  have : ∀ x : Nat, x < 256 → (bits .and .u8 (x : Int) 32 != 0) = bitN x 32 := by decide +kernel
  exact this x h

set_option maxRecDepth 100000 in
theorem f5_any (s : VS) (w : World) (h : TAt w lo g gd bd bc gl s) :
    Calls Try.prog 70 #[.pointer (some ⟨gl, 0, none⟩), .pointer (some ⟨bd, 0, none⟩)] w (Stepped lo g gd bd bc gl s.s5 w) := by
  have hpx : w.cell? ⟨gl, 0, none⟩ = some (.int .u8 (s.x : Int)) := h.x.cell 0
  have hpd : w.cell? ⟨bd, 0, none⟩ = some (.pointer (some ⟨gd, 0, none⟩)) := h.pd.cell 0
  have q0 : w.cell? ⟨gd, 12, none⟩ = some (.bool s.d.hasKey) := h.d.cell 12
  have q1 : w.cell? ⟨gd, 13, none⟩ = some (.int .u8 (s.d.key : Int)) := h.d.cell 13
  have q2 := h.d.free 12
  have q3 := h.d.free 13
  have o1 := h.o1
  have o2 := h.o2
  have o3 := h.o3
  have o4 := h.o4
  have hx := h.xl
  have HF := Lib.hid (show Stepped lo g gd bd bc gl s.s5 w (.returned (.tuple #[])) (((w.setCell ⟨gd, 12, none⟩ (.bool true)).setCell ⟨gd, 13, none⟩ (.int .u8 ((s.x : Int) % 32))).drew) from
    ⟨rfl, ((h.setd { s.d with hasKey := true } 12 (.bool true) rfl).setd { s.d with hasKey := true, key := s.x % 32 } 13 (.int .u8 ((s.x : Int) % 32)) (by simp [Dsc.cells])).drew, (((But.refl (three g gd gl) w).set (.inl three_d) _).set (.inl three_d) _).drew⟩)
  generalize s.s5 = s' at HF ⊢
  generalize s.x = x at *
  clear h
  go_enter Try.func70, Try.ntmps70
  go_wp2_with fail
  go_region
  go_wp2
  exact bodyPost_end (v := .tuple #[]) (by simp [results, Try.results70, go_sem]) rfl HF.out

set_option maxRecDepth 100000 in
theorem f4_any (s : VS) (w : World) (h : TAt w lo g gd bd bc gl s) :
    Calls Try.prog 69 #[.pointer (some ⟨gl, 0, none⟩), .pointer (some ⟨bd, 0, none⟩)] w (Stepped lo g gd bd bc gl s.s4 w) := by
  have hpx : w.cell? ⟨gl, 0, none⟩ = some (.int .u8 (s.x : Int)) := h.x.cell 0
  have hpd : w.cell? ⟨bd, 0, none⟩ = some (.pointer (some ⟨gd, 0, none⟩)) := h.pd.cell 0
  have q0 : w.cell? ⟨gd, 9, none⟩ = some (.bool s.d.hasTid) := h.d.cell 9
  have q1 : w.cell? ⟨gd, 10, none⟩ = some (.int .u8 (s.d.tid : Int)) := h.d.cell 10
  have q4 : w.cell? ⟨gd, 11, none⟩ = some (.bool s.d.sync) := h.d.cell 11
  have q2 := h.d.free 9
  have q3 := h.d.free 10
  have q5 := h.d.free 11
  have o1 := h.o1
  have o2 := h.o2
  have o3 := h.o3
  have o4 := h.o4
  have hx := h.xl
  have hb := bit5 s.x h.xl
  have HF := Lib.hid (show Stepped lo g gd bd bc gl s.s4 w (.returned (.tuple #[])) ((((w.setCell ⟨gd, 9, none⟩ (.bool true)).setCell ⟨gd, 10, none⟩ (.int .u8 ((s.x : Int) / 64))).setCell ⟨gd, 11, none⟩ (.bool (bitN s.x 32))).drew) from
    ⟨rfl, (((h.setd { s.d with hasTid := true } 9 (.bool true) rfl).setd { s.d with hasTid := true, tid := s.x / 64 } 10 (.int .u8 ((s.x : Int) / 64)) (by simp [Dsc.cells])).setd { s.d with hasTid := true, tid := s.x / 64, sync := bitN s.x 32 } 11 (.bool (bitN s.x 32)) rfl).drew, ((((But.refl (three g gd gl) w).set (.inl three_d) _).set (.inl three_d) _).set (.inl three_d) _).drew⟩)
  generalize s.s4 = s' at HF ⊢
  generalize bitN s.x 32 = bb at *
  generalize s.x = x at *
  clear h
  go_enter Try.func69, Try.ntmps69
  go_wp2_with fail
  go_region
  go_wp2
  exact bodyPost_end (v := .tuple #[]) (by simp [results, Try.results69, go_sem]) rfl HF.out
end Go.Proofs.Yticnaljfnjiofaa
/-
  Contracts of vp8's takePic, of the closure that calls it, and of fields.
-/
namespace Go.Proofs.Yticnaljfnjiofaa
open Go.RowKit
variable {lo g gd bd bc gl : Nat}

theorem w128 (x : Nat) (h : x < 256) : bits .and .u16 (x : Int) 128 = if x < 128 then 0 else 128 := by
  have : ∀ x : Nat, x < 256 → bits .and .u16 (x : Int) 128 = if x < 128 then 0 else 128 := by decide +kernel
  exact this x h
theorem join16 (a b : Nat) (ha : a < 128) (hb : b < 256) : bits .or .u16 ((a : Int) * 256) (b : Int) = ((a * 256 + b : Nat) : Int) := by
  have e : (a : Int) * 256 = ((a * 256 : Nat) : Int) := by omega
  rw [e, u16_or_nat _ _ (by omega) (by omega)]
  have := or_low 8 a b hb
  rw [show (2 : Nat) ^ 8 = 256 from rfl] at this
  rw [this]

/-- What takePic tells. -/
def PicTold (lo g : Nat) (l : List UInt8) (e : Int) (w : World) (en : Ending) (w' : World) : Prop :=
  en = .returned (.tuple #[.bool (picW l e), .int .u16 (picX l e : Int)]) ∧ CutAt w' lo g (picL l e) (picE l e) ∧ w.grownBy w' (some g)

set_option maxRecDepth 100000 in
theorem takePic_any (l : List UInt8) (e : Int) (w : World) (h : CutAt w lo g l e) :
    Calls Try.prog 66 #[.pointer (some ⟨g, 0, none⟩)] w (PicTold lo g l e w) := by
  have hv := rd_lt l e
  by_cases h8 : 128 ≤ rdN l e
  · have HF := Lib.hid (show ∀ w', CutAt w' lo g (rdL (rdL l e) (rdE l e)) (rdE (rdL l e) (rdE l e)) → w.grownBy w' (some g) → PicTold lo g l e w (.returned (.tuple #[.bool true, .int .u16 (((rdN l e % 128) * 256 + rdN (rdL l e) (rdE l e) : Nat) : Int)])) w' from fun w' h1 h2 =>
      ⟨by unfold picW picX; rw [if_pos h8]; simp [h8], by unfold picL picE; rw [if_pos h8, if_pos h8]; exact h1, h2⟩)
    have hq := rd_lt (rdL l e) (rdE l e)
    have C := Lib.hid (fun wx (hc : CutAt wx lo g l e) => num1_any (lo := lo) g l e wx hc)
    have D := Lib.hid (fun wx (hc : CutAt wx lo g (rdL l e) (rdE l e)) => num1_any (lo := lo) g (rdL l e) (rdE l e) wx hc)
    have hA := w128 _ hv
    rw [if_neg (by omega)] at hA
    have hB := and7 (rdN l e) (by omega)
    have hB' : bits .and .u16 (rdN l e : Int) 127 = ((rdN l e % 128 : Nat) : Int) := by rw [hB]; rfl
    have hJ := join16 (rdN l e % 128) (rdN (rdL l e) (rdE l e)) (by omega) hq
    have hm : rdN l e % 128 < 128 := by omega
    have hw1 : IntKind.u16.wrap (rdN l e : Int) = (rdN l e : Int) := IntWalk.u16_in _ (by omega)
    have hw2 : IntKind.u16.wrap (rdN (rdL l e) (rdE l e) : Int) = (rdN (rdL l e) (rdE l e) : Int) := IntWalk.u16_in _ (by omega)
    clear hB
    generalize rdN (rdL l e) (rdE l e) = q at *
    generalize rdL (rdL l e) (rdE l e) = l2 at *
    generalize rdE (rdL l e) (rdE l e) = e2 at *
    generalize rdL l e = l1 at *
    generalize rdE l e = e1 at *
    generalize rdN l e % 128 = m at *
    generalize rdN l e = v at *
    have HCUT := Lib.hid h
    clear h
    go_enter Try.func66, Try.ntmps66
    go_wp2_with fail
    refine (C.out _ HCUT.out).mono ?_
    rintro en w1 ⟨rfl, c1, g1⟩
    have HC1 := Lib.hid c1
    have HG1 := Lib.hid g1
    clear c1 g1 HCUT C
    go_wp2_with fail
    refine (D.out _ HC1.out).mono ?_
    rintro en w2 ⟨rfl, c2, g2⟩
    have HG := Lib.hid (HF.out w2 c2 (only_trans HG1.out g2))
    clear HF c2 g2 HC1 HG1 D
    go_wp2
    go_ret2
    exact HG.out
  · have HF := Lib.hid (show ∀ w', CutAt w' lo g (rdL l e) (rdE l e) → w.grownBy w' (some g) → PicTold lo g l e w (.returned (.tuple #[.bool false, .int .u16 (rdN l e : Int)])) w' from fun w' h1 h2 =>
      ⟨by unfold picW picX; rw [if_neg h8]; simp [h8], by unfold picL picE; rw [if_neg h8, if_neg h8]; exact h1, h2⟩)
    have C := Lib.hid (fun wx (hc : CutAt wx lo g l e) => num1_any (lo := lo) g l e wx hc)
    have hA := w128 _ hv
    rw [if_pos (by omega)] at hA
    have hw1 : IntKind.u16.wrap (rdN l e : Int) = (rdN l e : Int) := IntWalk.u16_in _ (by omega)
    generalize rdL l e = l1 at *
    generalize rdE l e = e1 at *
    generalize rdN l e = v at *
    have HCUT := Lib.hid h
    clear h
    go_enter Try.func66, Try.ntmps66
    go_wp2_with fail
    refine (C.out _ HCUT.out).mono ?_
    rintro en w1 ⟨rfl, c1, g1⟩
    have HG := Lib.hid (HF.out w1 c1 g1)
    clear c1 g1 HCUT C HF
    go_wp2
    go_ret2
    exact HG.out

set_option maxRecDepth 100000 in
theorem f1_any (s : VS) (w : World) (h : TAt w lo g gd bd bc gl s) :
    Calls Try.prog 65 #[.pointer (some ⟨bd, 0, none⟩), .pointer (some ⟨bc, 0, none⟩)] w (Stepped lo g gd bd bc gl s.s1 w) := by
  have hpc : w.cell? ⟨bc, 0, none⟩ = some (.pointer (some ⟨g, 0, none⟩)) := h.pc.cell 0
  have hpd : w.cell? ⟨bd, 0, none⟩ = some (.pointer (some ⟨gd, 0, none⟩)) := h.pd.cell 0
  have q0 : w.cell? ⟨gd, 4, none⟩ = some (.bool s.d.hasPic) := h.d.cell 4
  have q1 := h.d.free 4
  have o1 := h.o1
  have o2 := h.o2
  have o3 := h.o3
  have HS := Lib.hid (show s.s1 = { s with d := { s.d with hasPic := true, wide := picW s.l s.e, pic := picX s.l s.e }, l := picL s.l s.e, e := picE s.l s.e } from rfl)
  generalize s.s1 = s' at HS ⊢
  have H1 := Lib.hid (h.setd { s.d with hasPic := true } 4 (.bool true) rfl)
  have HB1 := Lib.hid ((But.refl (three g gd gl) w).set (p := ⟨gd, 4, none⟩) (.inl three_d) (.bool true))
  clear h
  go_enter Try.func65, Try.ntmps65
  go_wp2_with fail
  obtain ⟨wq, hwq⟩ : ∃ wq, wq = w.setCell ⟨gd, 4, none⟩ (.bool true) := ⟨_, rfl⟩
  rw [← hwq] at H1 HB1 ⊢
  have hpc' : wq.cell? ⟨bc, 0, none⟩ = some (.pointer (some ⟨g, 0, none⟩)) := H1.out.pc.cell 0
  have hpd' : wq.cell? ⟨bd, 0, none⟩ = some (.pointer (some ⟨gd, 0, none⟩)) := H1.out.pd.cell 0
  clear hwq q0 q1 hpc hpd
  have T3 := Lib.hid (show ∀ w1, CutAt w1 lo g (picL s.l s.e) (picE s.l s.e) → wq.grownBy w1 (some g) → TAt w1 lo g gd bd bc gl { s with d := { s.d with hasPic := true }, l := picL s.l s.e, e := picE s.l s.e } ∧ Stepped lo g gd bd bc gl s' w (.returned (.tuple #[])) ((w1.setCell ⟨gd, 5, none⟩ (.bool (picW s.l s.e))).setCell ⟨gd, 6, none⟩ (.int .u16 (picX s.l s.e : Int))) from fun w1 h1 h2 =>
    ⟨H1.out.num h1 h2, rfl, by rw [HS.out]; exact ((H1.out.num h1 h2).setd { s.d with hasPic := true, wide := picW s.l s.e } 5 (.bool (picW s.l s.e)) rfl).setd { s.d with hasPic := true, wide := picW s.l s.e, pic := picX s.l s.e } 6 (.int .u16 (picX s.l s.e : Int)) rfl, (((HB1.out.trans (but_grown h2 (S := three g gd gl) three_g)).set (.inl three_d) _).set (.inl three_d) _)⟩)
  have HC := Lib.hid H1.out.c
  have C := Lib.hid (fun wx (hc : CutAt wx lo g s.l s.e) => takePic_any (lo := lo) (g := g) s.l s.e wx hc)
  unfold PicTold at C
  generalize picW s.l s.e = v1 at *
  generalize picX s.l s.e = v2 at *
  generalize picL s.l s.e = l1 at *
  generalize picE s.l s.e = e1 at *
  clear H1 HS HB1
  go_region_held3 (fun w' => w'.cell? ⟨bd, 0, none⟩ = some (.pointer (some ⟨gd, 0, none⟩)) ∧ w'.cell? ⟨bc, 0, none⟩ = some (.pointer (some ⟨g, 0, none⟩)))
    (first | exact ⟨hpd', hpc'⟩ | exact ⟨hT.1.pd.cell 0, hT.1.pc.cell 0⟩ | exact ⟨(keepx hT.1.pd (by simp; omega)), keepx hT.1.pc (by simp; omega)⟩ | exact ⟨keepx2 hT.1.pd (by simp; omega) (by simp; omega), keepx2 hT.1.pc (by simp; omega) (by simp; omega)⟩ | go_keep)
    (first
      | (go_at_call 66; refine (C.out _ ?_).mono ?_; (first | exact HC.out | exact HC.out.drew); rintro e w1 ⟨rfl, hc1, hg1⟩; have hT := T3.out w1 hc1 (grown_drew' hg1); have q0 : w1.cell? ⟨gd, 5, none⟩ = some (.bool s.d.wide) := hT.1.d.cell 5; have q1 : w1.cell? ⟨gd, 6, none⟩ = some (.int .u16 (s.d.pic : Int)) := hT.1.d.cell 6; have q2 := hT.1.d.free 5; have q3 := hT.1.d.free 6))
  have HF := Lib.hid hT.2
  clear hT T3 HC C q0 q1 q2 q3 hc1 hg1
  go_wp2
  exact bodyPost_end (v := .tuple #[]) (by simp [results, Try.results65, go_sem]) rfl HF.out
end Go.Proofs.Yticnaljfnjiofaa
/-
  Contracts of vp8's fields, and of the loop that reads by them.
-/
namespace Go.Proofs.Yticnaljfnjiofaa
open Go.RowKit
variable {lo g gd bd bc gl : Nat}

/-- The row of readings. -/
def fieldC (bd bc gl : Nat) : Array Value :=
  #[.int .u8 128, .func (.func 65) #[] #[.pointer (some ⟨bd, 0, none⟩), .pointer (some ⟨bc, 0, none⟩)],
    .int .u8 64, .func (.func 67) #[] #[.pointer (some ⟨bc, 0, none⟩), .pointer (some ⟨bd, 0, none⟩)],
    .int .u8 48, .func (.func 68) #[] #[.pointer (some ⟨bc, 0, none⟩), .pointer (some ⟨gl, 0, none⟩)],
    .int .u8 32, .func (.func 69) #[] #[.pointer (some ⟨gl, 0, none⟩), .pointer (some ⟨bd, 0, none⟩)],
    .int .u8 16, .func (.func 70) #[] #[.pointer (some ⟨gl, 0, none⟩), .pointer (some ⟨bd, 0, none⟩)]]

set_option maxRecDepth 100000 in
theorem fields_any (d : Dsc) (l : List UInt8) (e : Int) (w : World) (hd : Whole w gd 46 d.cells) (hc : CutAt w lo g l e) (hg : g < gd) :
    Calls Try.prog 48 #[.pointer (some ⟨gd, 0, none⟩), .pointer (some ⟨g, 0, none⟩)] w fun en w' => en = .returned (.slice (some ⟨w.heap.size + 3, 0, none⟩) 5 5) ∧ TAt w' lo g gd w.heap.size (w.heap.size + 1) (w.heap.size + 2) ⟨d, l, e, 0⟩ ∧
      Whole w' (w.heap.size + 3) 127 (fieldC w.heap.size (w.heap.size + 1) (w.heap.size + 2)) ∧ Below w.heap.size w w' := by

  have HD := Lib.hid hd
  have HC := Lib.hid hc
  clear hd hc
  go_enter Try.func48, Try.ntmps48
  go_wp2
  go_ret
  refine ⟨rfl, ⟨(((HD.out.alloc _).alloc _).alloc _).alloc _, (((HC.out.alloc _).alloc _).alloc _).alloc _, ?_, ?_, ?_, (by show 0 < 256; omega), hg, HD.out.lt, by omega, by omega, by simp⟩, ?_, (((Below.refl _ _).alloc (Nat.le_refl _) _).alloc (by simp) _).alloc (by simp; omega) _ |>.alloc (by simp; omega) _⟩
  · have := (Whole.new ((w.alloc (.cells #[.pointer (some ⟨gd, 0, none⟩)] 123)).alloc (.cells #[.pointer (some ⟨g, 0, none⟩)] 81)) 5 #[.int .u8 0]).alloc (.cells (fieldC w.heap.size (w.heap.size + 1) (w.heap.size + 2)) 127)
    simp only [World.size_alloc] at this
    exact this
  · exact (((Whole.new w 123 #[.pointer (some ⟨gd, 0, none⟩)]).alloc _).alloc _).alloc _
  · have := ((Whole.new (w.alloc (.cells #[.pointer (some ⟨gd, 0, none⟩)] 123)) 81 #[.pointer (some ⟨g, 0, none⟩)]).alloc (.cells #[.int .u8 0] 5)).alloc (.cells (fieldC w.heap.size (w.heap.size + 1) (w.heap.size + 2)) 127)
    simp only [World.size_alloc] at this
    exact this
  · have := Whole.new (((w.alloc (.cells #[.pointer (some ⟨gd, 0, none⟩)] 123)).alloc (.cells #[.pointer (some ⟨g, 0, none⟩)] 81)).alloc (.cells #[.int .u8 0] 5)) 127 (fieldC w.heap.size (w.heap.size + 1) (w.heap.size + 2))
    simp only [World.size_alloc] at this
    exact this

theorem store_func {P : Program} (w : World) (a : Value) (f : Fn) (xs : Array Value) (t : TypeId) (m : Mode) : (store ⟨w.heap.size, 1, none⟩ (.func f #[] xs) m).run P (w.alloc (.cells #[a, .nilFunc] t)) = .ok () (w.alloc (.cells #[a, .func f #[] xs] t)) := by
  rw [run_store P _ _ _ m rfl, World.cell?_alloc_new, World.setCell_alloc_new, World.frozen?_alloc_new]
  rfl
theorem TAt.alloc {w : World} {s : VS} (h : TAt w lo g gd bd bc gl s) (o : Obj) : TAt (w.alloc o) lo g gd bd bc gl s :=
  ⟨h.d.alloc o, h.c.alloc o, h.x.alloc o, h.pd.alloc o, h.pc.alloc o, h.xl, h.o1, h.o2, h.o3, h.o4, by have := h.o5; simp; omega⟩

theorem bitA (x : Nat) (h : x < 256) : (bits .and .u8 (x : Int) 128 != 0) = bitN x 128 ∧ (bits .and .u8 (x : Int) 64 != 0) = bitN x 64 ∧ (bits .and .u8 (x : Int) 48 != 0) = (bitN x 32 || bitN x 16) ∧ (bits .and .u8 (x : Int) 32 != 0) = bitN x 32 ∧ (bits .and .u8 (x : Int) 16 != 0) = bitN x 16 := by
  have : ∀ x : Nat, x < 256 → (bits .and .u8 (x : Int) 128 != 0) = bitN x 128 ∧ (bits .and .u8 (x : Int) 64 != 0) = bitN x 64 ∧ (bits .and .u8 (x : Int) 48 != 0) = (bitN x 32 || bitN x 16) ∧ (bits .and .u8 (x : Int) 32 != 0) = bitN x 32 ∧ (bits .and .u8 (x : Int) 16 != 0) = bitN x 16 := by decide +kernel
  exact this x h

/-- Behind all reads: the descriptor, what is left, what went wrong. -/
def VS.all (d : Dsc) (l : List UInt8) (e : Int) : VS := VS.a5 (rdN l e) ⟨d, rdL l e, rdE l e, 0⟩
def two (g gd k : Nat) : Prop := k = g ∨ k = gd
/-- What take comes to. -/
def Taken (lo g gd : Nat) (s : VS) (w : World) (e : Ending) (w' : World) : Prop :=
  e = .returned (.tuple #[]) ∧ Whole w' gd 46 s.d.cells ∧ CutAt w' lo g s.l s.e ∧ But (two g gd) w w'

set_option maxRecDepth 100000 in
set_option maxHeartbeats 1600000 in
theorem vtake_any (d : Dsc) (l : List UInt8) (e : Int) (w : World) (hd : Whole w gd 46 d.cells) (hc : CutAt w lo g l e) (hg : g < gd) :
    Calls Try.prog 31 #[.pointer (some ⟨gd, 0, none⟩), .pointer (some ⟨g, 0, none⟩)] w (Taken lo g gd (VS.all d l e) w) := by
  have ht := rd_lt l e
  obtain ⟨t1, t2, t3, t4, t5⟩ := bitA _ ht
  have HALL := Lib.hid (show VS.all d l e = VS.a5 (rdN l e) ⟨d, rdL l e, rdE l e, 0⟩ from rfl)
  generalize VS.all d l e = fin at HALL ⊢
  have C := Lib.hid (fun wx (hc : CutAt wx lo g l e) => num1_any (lo := lo) g l e wx hc)
  generalize rdN l e = t at *
  generalize rdL l e = l1 at *
  generalize rdE l e = e1 at *
  obtain ⟨s, hs⟩ : ∃ s : VS, s = ⟨d, l1, e1, 0⟩ := ⟨_, rfl⟩
  rw [← hs] at HALL
  have HS := Lib.hid hs
  have HT := Lib.hid t1
  have HT2 := Lib.hid t2
  have HT3 := Lib.hid t3
  have HT4 := Lib.hid t4
  have HT5 := Lib.hid t5
  have HD := Lib.hid hd
  have HC := Lib.hid hc
  clear t1 t2 t3 t4 t5 hs hd hc
  go_enter Try.func31, Try.ntmps31
  go_wp2_with fail
  refine (C.out _ HC.out).mono ?_
  rintro en w1 ⟨rfl, c1, g1⟩
  have HD1 := Lib.hid (HD.out.grown g1 (by simp; omega))
  have HC1 := Lib.hid c1
  have HG1 := Lib.hid g1
  clear c1 g1 HD HC C
  go_wp2_with fail
  refine (fields_any d l1 e1 w1 HD1.out HC1.out hg).mono ?_
  rintro en w2 ⟨rfl, hT, hF, hB⟩
  rw [← HS.out] at hT
  have HB0 := Lib.hid (show But (two g gd) w w2 from (but_grown HG1.out (S := two g gd) (.inl rfl)).trans (but_of_below hB))
  have hbd : w.heap.size ≤ w1.heap.size := HG1.out.size
  obtain ⟨bd, hbd'⟩ : ∃ bd, bd = w1.heap.size := ⟨_, rfl⟩
  rw [← hbd'] at hT hF ⊢
  rw [← hbd'] at hbd
  have hgs : bd + 2 < bd + 3 := by omega
  generalize bd + 3 = gs at hF hgs ⊢
  generalize hgl : bd + 2 = gl at hT hF hgs
  generalize bd + 1 = bc at hT hF
  have HGL := Lib.hid (show w.heap.size ≤ gl by omega)
  clear HD1 HC1 HG1 hB hbd' hbd hgl
  go_wp2_with fail
  go_loopw [14] (fun i wr => ∃ k : Nat, k ≤ 5 ∧ i = .int .i64 k ∧ TAt wr lo g gd bd bc gl (s.at t k) ∧ Whole wr gs 127 (fieldC bd bc gl) ∧ But (three g gd gl) w2 wr) (fun i _ => 5 - (intOf i).toNat)
  case atStart => exact ⟨0, by omega, rfl, hT, hF, But.refl _ _⟩
  case round =>
    clear hT hF
    obtain ⟨k, hk, rfl, hT, hF, hB⟩ := hrel
    have hgg : ¬ three g gd gl gs := by
      have := hT.o1
      have := hT.o2
      have := hT.o3
      have := hT.o4
      unfold three
      omega
    have HGG := Lib.hid hgg
    have hgw : gs < wr.heap.size := hF.lt
    clear hgg
    by_cases hlt : k < 5
    · obtain rfl | rfl | rfl | rfl | rfl : k = 0 ∨ k = 1 ∨ k = 2 ∨ k = 3 ∨ k = 4 := by omega
      · have q0 : wr.cell? ⟨gs, 0, none⟩ = some (.int .u8 128) := hF.cell 0
        have q1 : wr.cell? ⟨gs, 1, none⟩ = some (.func (.func 65) #[] #[.pointer (some ⟨bd, 0, none⟩), .pointer (some ⟨bc, 0, none⟩)]) := hF.cell 1
        have hst := store_func (P := Try.prog) wr (.int .u8 128) (.func 65) #[.pointer (some ⟨bd, 0, none⟩), .pointer (some ⟨bc, 0, none⟩)] 127
        have hb := HT.out
        have HTT := Lib.hid (hT.alloc (.cells #[.int .u8 128, .func (.func 65) #[] #[.pointer (some ⟨bd, 0, none⟩), .pointer (some ⟨bc, 0, none⟩)]] 127))
        have HFF := Lib.hid (hF.alloc (.cells #[.int .u8 128, .func (.func 65) #[] #[.pointer (some ⟨bd, 0, none⟩), .pointer (some ⟨bc, 0, none⟩)]] 127))
        have HBB := Lib.hid (hB.alloc (.cells #[.int .u8 128, .func (.func 65) #[] #[.pointer (some ⟨bd, 0, none⟩), .pointer (some ⟨bc, 0, none⟩)]] 127))
        have HU := Lib.hid (show s.at t 1 = if bitN t 128 = true then (s.at t 0).s1 else s.at t 0 from rfl)
        clear hT hF hB
        cases hc : bitN t 128 with
        | true =>
          rw [hc] at hb
          have hu := HU.out
          rw [hc, if_pos rfl] at hu
          have HV := Lib.hid hu
          clear hc HU hu
          go_wp2_with (go_at_call 65; refine (f1_any _ _ HTT.out).mono ?_; rintro e w4 ⟨rfl, hT4, hB4⟩)
          go_roundw
          case rel => exact ⟨1, by omega, rfl, by rw [HV.out]; exact hT4, HFF.out.but hB4 HGG.out, HBB.out.trans hB4⟩
          case measure => simp [intOf]
        | false =>
          rw [hc] at hb
          have hu := HU.out
          rw [hc, if_neg (by decide)] at hu
          have HV := Lib.hid hu
          clear hc HU hu
          go_wp2
          go_roundw
          case rel => exact ⟨1, by omega, rfl, by rw [HV.out]; exact HTT.out, HFF.out, HBB.out⟩
          case measure => simp [intOf]
      · have q0 : wr.cell? ⟨gs, 2, none⟩ = some (.int .u8 64) := hF.cell 2
        have q1 : wr.cell? ⟨gs, 3, none⟩ = some (.func (.func 67) #[] #[.pointer (some ⟨bc, 0, none⟩), .pointer (some ⟨bd, 0, none⟩)]) := hF.cell 3
        have hst := store_func (P := Try.prog) wr (.int .u8 64) (.func 67) #[.pointer (some ⟨bc, 0, none⟩), .pointer (some ⟨bd, 0, none⟩)] 127
        have hb := HT2.out
        have HTT := Lib.hid (hT.alloc (.cells #[.int .u8 64, .func (.func 67) #[] #[.pointer (some ⟨bc, 0, none⟩), .pointer (some ⟨bd, 0, none⟩)]] 127))
        have HFF := Lib.hid (hF.alloc (.cells #[.int .u8 64, .func (.func 67) #[] #[.pointer (some ⟨bc, 0, none⟩), .pointer (some ⟨bd, 0, none⟩)]] 127))
        have HBB := Lib.hid (hB.alloc (.cells #[.int .u8 64, .func (.func 67) #[] #[.pointer (some ⟨bc, 0, none⟩), .pointer (some ⟨bd, 0, none⟩)]] 127))
        have HU := Lib.hid (show s.at t 2 = if bitN t 64 = true then (s.at t 1).s2 else s.at t 1 from rfl)
        clear hT hF hB
        cases hc : bitN t 64 with
        | true =>
          rw [hc] at hb
          have hu := HU.out
          rw [hc, if_pos rfl] at hu
          have HV := Lib.hid hu
          clear hc HU hu
          go_wp2_with (go_at_call 67; refine (f2_any _ _ HTT.out).mono ?_; rintro e w4 ⟨rfl, hT4, hB4⟩)
          go_roundw
          case rel => exact ⟨2, by omega, rfl, by rw [HV.out]; exact hT4, HFF.out.but hB4 HGG.out, HBB.out.trans hB4⟩
          case measure => simp [intOf]
        | false =>
          rw [hc] at hb
          have hu := HU.out
          rw [hc, if_neg (by decide)] at hu
          have HV := Lib.hid hu
          clear hc HU hu
          go_wp2
          go_roundw
          case rel => exact ⟨2, by omega, rfl, by rw [HV.out]; exact HTT.out, HFF.out, HBB.out⟩
          case measure => simp [intOf]
      · have q0 : wr.cell? ⟨gs, 4, none⟩ = some (.int .u8 48) := hF.cell 4
        have q1 : wr.cell? ⟨gs, 5, none⟩ = some (.func (.func 68) #[] #[.pointer (some ⟨bc, 0, none⟩), .pointer (some ⟨gl, 0, none⟩)]) := hF.cell 5
        have hst := store_func (P := Try.prog) wr (.int .u8 48) (.func 68) #[.pointer (some ⟨bc, 0, none⟩), .pointer (some ⟨gl, 0, none⟩)] 127
        have hb := HT3.out
        have HTT := Lib.hid (hT.alloc (.cells #[.int .u8 48, .func (.func 68) #[] #[.pointer (some ⟨bc, 0, none⟩), .pointer (some ⟨gl, 0, none⟩)]] 127))
        have HFF := Lib.hid (hF.alloc (.cells #[.int .u8 48, .func (.func 68) #[] #[.pointer (some ⟨bc, 0, none⟩), .pointer (some ⟨gl, 0, none⟩)]] 127))
        have HBB := Lib.hid (hB.alloc (.cells #[.int .u8 48, .func (.func 68) #[] #[.pointer (some ⟨bc, 0, none⟩), .pointer (some ⟨gl, 0, none⟩)]] 127))
        have HU := Lib.hid (show s.at t 3 = if (bitN t 32 || bitN t 16) = true then (s.at t 2).s3 else s.at t 2 from rfl)
        clear hT hF hB
        cases hc : (bitN t 32 || bitN t 16) with
        | true =>
          rw [hc] at hb
          have hu := HU.out
          rw [hc, if_pos rfl] at hu
          have HV := Lib.hid hu
          clear hc HU hu
          go_wp2_with (go_at_call 68; refine (f3_any _ _ HTT.out).mono ?_; rintro e w4 ⟨rfl, hT4, hB4⟩)
          go_roundw
          case rel => exact ⟨3, by omega, rfl, by rw [HV.out]; exact hT4, HFF.out.but hB4 HGG.out, HBB.out.trans hB4⟩
          case measure => simp [intOf]
        | false =>
          rw [hc] at hb
          have hu := HU.out
          rw [hc, if_neg (by decide)] at hu
          have HV := Lib.hid hu
          clear hc HU hu
          go_wp2
          go_roundw
          case rel => exact ⟨3, by omega, rfl, by rw [HV.out]; exact HTT.out, HFF.out, HBB.out⟩
          case measure => simp [intOf]
      · have q0 : wr.cell? ⟨gs, 6, none⟩ = some (.int .u8 32) := hF.cell 6
        have q1 : wr.cell? ⟨gs, 7, none⟩ = some (.func (.func 69) #[] #[.pointer (some ⟨gl, 0, none⟩), .pointer (some ⟨bd, 0, none⟩)]) := hF.cell 7
        have hst := store_func (P := Try.prog) wr (.int .u8 32) (.func 69) #[.pointer (some ⟨gl, 0, none⟩), .pointer (some ⟨bd, 0, none⟩)] 127
        have hb := HT4.out
        have HTT := Lib.hid (hT.alloc (.cells #[.int .u8 32, .func (.func 69) #[] #[.pointer (some ⟨gl, 0, none⟩), .pointer (some ⟨bd, 0, none⟩)]] 127))
        have HFF := Lib.hid (hF.alloc (.cells #[.int .u8 32, .func (.func 69) #[] #[.pointer (some ⟨gl, 0, none⟩), .pointer (some ⟨bd, 0, none⟩)]] 127))
        have HBB := Lib.hid (hB.alloc (.cells #[.int .u8 32, .func (.func 69) #[] #[.pointer (some ⟨gl, 0, none⟩), .pointer (some ⟨bd, 0, none⟩)]] 127))
        have HU := Lib.hid (show s.at t 4 = if bitN t 32 = true then (s.at t 3).s4 else s.at t 3 from rfl)
        clear hT hF hB
        cases hc : bitN t 32 with
        | true =>
          rw [hc] at hb
          have hu := HU.out
          rw [hc, if_pos rfl] at hu
          have HV := Lib.hid hu
          clear hc HU hu
          go_wp2_with (go_at_call 69; refine (f4_any _ _ HTT.out).mono ?_; rintro e w4 ⟨rfl, hT4, hB4⟩)
          go_roundw
          case rel => exact ⟨4, by omega, rfl, by rw [HV.out]; exact hT4, HFF.out.but hB4 HGG.out, HBB.out.trans hB4⟩
          case measure => simp [intOf]
        | false =>
          rw [hc] at hb
          have hu := HU.out
          rw [hc, if_neg (by decide)] at hu
          have HV := Lib.hid hu
          clear hc HU hu
          go_wp2
          go_roundw
          case rel => exact ⟨4, by omega, rfl, by rw [HV.out]; exact HTT.out, HFF.out, HBB.out⟩
          case measure => simp [intOf]
      · have q0 : wr.cell? ⟨gs, 8, none⟩ = some (.int .u8 16) := hF.cell 8
        have q1 : wr.cell? ⟨gs, 9, none⟩ = some (.func (.func 70) #[] #[.pointer (some ⟨gl, 0, none⟩), .pointer (some ⟨bd, 0, none⟩)]) := hF.cell 9
        have hst := store_func (P := Try.prog) wr (.int .u8 16) (.func 70) #[.pointer (some ⟨gl, 0, none⟩), .pointer (some ⟨bd, 0, none⟩)] 127
        have hb := HT5.out
        have HTT := Lib.hid (hT.alloc (.cells #[.int .u8 16, .func (.func 70) #[] #[.pointer (some ⟨gl, 0, none⟩), .pointer (some ⟨bd, 0, none⟩)]] 127))
        have HFF := Lib.hid (hF.alloc (.cells #[.int .u8 16, .func (.func 70) #[] #[.pointer (some ⟨gl, 0, none⟩), .pointer (some ⟨bd, 0, none⟩)]] 127))
        have HBB := Lib.hid (hB.alloc (.cells #[.int .u8 16, .func (.func 70) #[] #[.pointer (some ⟨gl, 0, none⟩), .pointer (some ⟨bd, 0, none⟩)]] 127))
        have HU := Lib.hid (show s.at t 5 = if bitN t 16 = true then (s.at t 4).s5 else s.at t 4 from rfl)
        clear hT hF hB
        cases hc : bitN t 16 with
        | true =>
          rw [hc] at hb
          have hu := HU.out
          rw [hc, if_pos rfl] at hu
          have HV := Lib.hid hu
          clear hc HU hu
          go_wp2_with (go_at_call 70; refine (f5_any _ _ HTT.out).mono ?_; rintro e w4 ⟨rfl, hT4, hB4⟩)
          go_roundw
          case rel => exact ⟨5, by omega, rfl, by rw [HV.out]; exact hT4, HFF.out.but hB4 HGG.out, HBB.out.trans hB4⟩
          case measure => simp [intOf]
        | false =>
          rw [hc] at hb
          have hu := HU.out
          rw [hc, if_neg (by decide)] at hu
          have HV := Lib.hid hu
          clear hc HU hu
          go_wp2
          go_roundw
          case rel => exact ⟨5, by omega, rfl, by rw [HV.out]; exact HTT.out, HFF.out, HBB.out⟩
          case measure => simp [intOf]
    · obtain rfl : k = 5 := by omega
      have HF := Lib.hid (show Taken lo g gd fin w (.returned (.tuple #[])) wr from ⟨rfl, by rw [HALL.out]; exact hT.d, by rw [HALL.out]; exact hT.c, ((HB0.out.mono (S' := three g gd gl) (fun k _ h => h.elim .inl (fun h => .inr (.inl h)))).trans hB).mono (fun k hk h => by
        have := HGL.out
        unfold three at h
        unfold two
        omega)⟩)
      clear hT hF hB
      go_wp2
      exact bodyPost_end (v := .tuple #[]) (by simp [results, Try.results31, go_sem]) rfl HF.out
end Go.Proofs.Yticnaljfnjiofaa
/-
  What the program reads, read by read, is what the bytes begin with.
-/
namespace Go.Proofs.Yticnaljfnjiofaa
open Go.RowKit

theorem s1_err (s : VS) (h : s.e = 10) : s.s1.e = 10 := by
  have r1 := rd_err s.l (e := s.e) (by rw [h]; decide)
  show picE s.l s.e = 10
  unfold picE
  rw [r1.1, if_neg (by decide), r1.2.2, h]
theorem a1_err (t : Nat) (s : VS) (h : s.e = 10) : (s.a1 t).e = 10 := by
  unfold VS.a1
  split
  · exact s1_err s h
  · exact h
theorem a2_err (t : Nat) (s : VS) (h : (s.a1 t).e = 10) : (s.a2 t).e = 10 := by
  unfold VS.a2
  split
  · show rdE _ _ = 10
    rw [(rd_err _ (by rw [h]; decide)).2.2, h]
  · exact h
theorem a3_err (t : Nat) (s : VS) (h : (s.a2 t).e = 10) : (s.a3 t).e = 10 := by
  unfold VS.a3
  split
  · show rdE _ _ = 10
    rw [(rd_err _ (by rw [h]; decide)).2.2, h]
  · exact h
theorem a5_e (t : Nat) (s : VS) : (s.a5 t).e = (s.a3 t).e ∧ (s.a5 t).l = (s.a3 t).l := by
  unfold VS.a5 VS.a4
  constructor <;> split <;> split <;> rfl

theorem a1_ok (t : Nat) (d : Dsc) (l : List UInt8) : match stPic t d l with
    | none => (VS.a1 t ⟨d, l, 0, 0⟩).e = 10
    | some (d', l') => VS.a1 t ⟨d, l, 0, 0⟩ = ⟨d', l', 0, 0⟩ := by
  unfold stPic VS.a1
  cases hb : bitN t 128 with
  | false => simp
  | true =>
    simp only [if_true]
    cases l with
    | nil =>
      show picE [] 0 = 10
      unfold picE
      rw [rd_nil.1, if_neg (by decide), rd_nil.2.2]
    | cons p r =>
      have h1 := rd_cons p r
      by_cases hp : p.toNat < 128
      · simp only [takePicS, if_pos hp, Option.map_some]
        simp only [VS.s1, picW, picX, picL, picE, h1.1, h1.2.1, h1.2.2, show ¬ 128 ≤ p.toNat by omega, decide_false, if_false]
      · cases r with
        | nil =>
          simp only [takePicS, if_neg hp, Option.map_none]
          show picE [p] 0 = 10
          unfold picE
          rw [h1.1, if_pos (by omega), h1.2.1, h1.2.2, rd_nil.2.2]
        | cons q r =>
          have h2 := rd_cons q r
          have hp2 := p.toNat_lt
          simp only [takePicS, if_neg hp, Option.map_some]
          simp only [VS.s1, picW, picX, picL, picE, h1.1, h1.2.1, h1.2.2, h2.1, h2.2.1, h2.2.2, show 128 ≤ p.toNat by omega, decide_true, if_true, show p.toNat % 128 = p.toNat - 128 by omega]
theorem a2_ok (t : Nat) (s : VS) (d : Dsc) (l : List UInt8) (h : s.a1 t = ⟨d, l, 0, 0⟩) : match stTl0 t d l with
    | none => (s.a2 t).e = 10
    | some (d', l') => s.a2 t = ⟨d', l', 0, 0⟩ := by
  unfold stTl0 VS.a2
  rw [h]
  cases hb : bitN t 64 with
  | false => simp
  | true =>
    simp only [if_true]
    cases l with
    | nil => exact rd_nil.2.2
    | cons p r =>
      have h1 := rd_cons p r
      simp only [VS.s2, h1.1, h1.2.1, h1.2.2]
theorem a5_ok (t : Nat) (s : VS) (d : Dsc) (l : List UInt8) (h : s.a2 t = ⟨d, l, 0, 0⟩) : match stLast t d l with
    | none => (s.a5 t).e = 10
    | some (d', l') => (s.a5 t).d = d' ∧ (s.a5 t).l = l' ∧ (s.a5 t).e = 0 := by
  have h5 := a5_e t s
  cases hb : (bitN t 32 || bitN t 16) with
  | false =>
    have e3 : s.a3 t = ⟨d, l, 0, 0⟩ := by unfold VS.a3; rw [hb, h]; simp
    rw [e3] at h5
    unfold stLast
    rw [hb]
    simp only [Bool.or_eq_false_iff] at hb
    refine ⟨?_, h5.2, h5.1⟩
    unfold VS.a5 VS.a4
    rw [hb.1, hb.2, e3]
    rfl
  | true =>
    unfold stLast
    rw [hb]
    cases l with
    | nil =>
      have e3 : (s.a3 t).e = 10 := by unfold VS.a3; rw [hb, h]; exact rd_nil.2.2
      show (s.a5 t).e = 10
      rw [h5.1, e3]
    | cons x r =>
      have h1 := rd_cons x r
      have e3 : s.a3 t = ⟨d, r, 0, x.toNat⟩ := by unfold VS.a3; rw [hb, h]; simp [VS.s3, h1.1, h1.2.1, h1.2.2]
      rw [e3] at h5
      refine ⟨?_, h5.2, h5.1⟩
      unfold VS.a5 VS.a4 setKey setTid
      rw [e3]
      split <;> split <;> rfl

/-- What Parse comes to. -/
def codeS (b : List UInt8) : VS := if 128 ≤ rdN b 0 then VS.all (firstD (rdN b 0)) (rdL b 0) (rdE b 0) else ⟨firstD (rdN b 0), rdL b 0, rdE b 0, 0⟩
theorem code_parse (b : List UInt8) : match parseS b with
    | none => (codeS b).e = 10
    | some (d, r) => (codeS b).d = d ∧ (codeS b).l = r ∧ (codeS b).e = 0 := by
  unfold codeS
  cases b with
  | nil =>
    show (if 128 ≤ rdN [] 0 then _ else _ : VS).e = 10
    rw [rd_nil.1, if_neg (by decide)]
    exact rd_nil.2.2
  | cons f r =>
    have h1 := rd_cons f r
    rw [h1.1, h1.2.1, h1.2.2]
    by_cases hf : f.toNat < 128
    · simp only [parseS, if_pos hf, if_neg (show ¬ 128 ≤ f.toNat by omega)]
      exact ⟨trivial, trivial, trivial⟩
    · rw [if_pos (by omega)]
      cases r with
      | nil =>
        simp only [parseS, if_neg hf]
        unfold VS.all
        rw [(a5_e _ _).1]
        exact a3_err _ _ (a2_err _ _ (a1_err _ _ rd_nil.2.2))
      | cons t r =>
        have h2 := rd_cons t r
        simp only [parseS, if_neg hf]
        unfold VS.all moreS
        rw [h2.1, h2.2.1, h2.2.2]
        have A1 := a1_ok t.toNat (firstD f.toNat) r
        cases hp : stPic t.toNat (firstD f.toNat) r with
        | none =>
          rw [hp] at A1
          simp only [Option.bind_none]
          rw [(a5_e _ _).1]
          exact a3_err _ _ (a2_err _ _ A1)
        | some x =>
          obtain ⟨d1, l1⟩ := x
          rw [hp] at A1
          simp only [Option.bind_some]
          have A2 := a2_ok t.toNat ⟨firstD f.toNat, r, 0, 0⟩ d1 l1 A1
          cases hq : stTl0 t.toNat d1 l1 with
          | none =>
            rw [hq] at A2
            simp only [Option.bind_none]
            rw [(a5_e _ _).1]
            exact a3_err _ _ A2
          | some y =>
            obtain ⟨d2, l2⟩ := y
            rw [hq] at A2
            simp only [Option.bind_some]
            exact a5_ok t.toNat ⟨firstD f.toNat, r, 0, 0⟩ d2 l2 A2
end Go.Proofs.Yticnaljfnjiofaa
