/-
  Contracts of the closures that vp8.Parse reads by.
-/
import Derived.Test.YtliiodjcpkabmaaVpD
import Derived.IntWalk
namespace Go.Proofs.Ytliiodjcpkabmaa
open Go.RowKit
variable {lo g gd bd bc gl : Nat}

theorem TAt.setx {w : World} {s : VS} (h : TAt w lo g gd bd bc gl s) (v : Nat) (hv : v < 256) : TAt (w.setCell ⟨gl, 0, none⟩ (.int .u8 (v : Int))) lo g gd bd bc gl { s with x := v } := by
  obtain ⟨h1, h2, h3, h4, h5, h6, o1, o2, o3, o4, o5⟩ := h
  exact ⟨h1.far (by simp; omega) _, h2.far (p := ⟨gl, 0, none⟩) (by simp; omega) _, by simpa using h3.set 0 (.int .u8 (v : Int)), h4.far (by simp; omega) _, h5.far (by simp; omega) _, hv, o1, o2, o3, o4, by simpa using o5⟩
theorem TAt.setd {w : World} {s : VS} (h : TAt w lo g gd bd bc gl s) (d' : Dsc) (j : Nat) (u : Value) (e : s.d.cells.setIfInBounds j u = d'.cells) : TAt (w.setCell ⟨gd, j, none⟩ u) lo g gd bd bc gl { s with d := d' } := by
  obtain ⟨h1, h2, h3, h4, h5, h6, o1, o2, o3, o4, o5⟩ := h
  exact ⟨by rw [← e]; exact h1.set j u, h2.far (p := ⟨gd, j, none⟩) (by simp; omega) _, h3.far (by simp; omega) _, h4.far (by simp; omega) _, h5.far (by simp; omega) _, h6, o1, o2, o3, o4, by simpa using o5⟩
theorem TAt.drew {w : World} {s : VS} (h : TAt w lo g gd bd bc gl s) : TAt w.drew lo g gd bd bc gl s := ⟨h.d, h.c, h.x, h.pd, h.pc, h.xl, h.o1, h.o2, h.o3, h.o4, h.o5⟩
theorem grown_drew' {w w' : World} {row : Option Nat} (h : w.drew.grownBy w' row) : w.grownBy w' row := ⟨h.os, h.tape, h.output, h.size, h.block⟩
theorem CutAt.drew {w : World} {l : List UInt8} {e : Int} (h : CutAt w lo g l e) : CutAt w.drew lo g l e := h
theorem keepx {w : World} {b : Nat} {t : TypeId} {u : Value} (h : Whole w b t #[u]) {p : Addr} (hp : b ≠ p.block) {x : Value} : (w.setCell p x).cell? ⟨b, 0, none⟩ = some u := (h.far hp x).cell 0
theorem keepx2 {w : World} {b : Nat} {t : TypeId} {u : Value} (h : Whole w b t #[u]) {p q : Addr} (hp : b ≠ p.block) (hq : b ≠ q.block) {x y : Value} : ((w.setCell p x).setCell q y).cell? ⟨b, 0, none⟩ = some u := ((h.far hp x).far hq y).cell 0
def three (g gd gl k : Nat) : Prop := k = g ∨ k = gd ∨ k = gl
theorem three_g : three g gd gl g := .inl rfl
theorem three_d : three g gd gl gd := .inr (.inl rfl)
theorem three_l : three g gd gl gl := .inr (.inr rfl)

theorem f3_any (s : VS) (w : World) (h : TAt w lo g gd bd bc gl s) :
    Calls Try.prog 36 #[.pointer (some ⟨bc, 0, none⟩), .pointer (some ⟨gl, 0, none⟩)] w (Stepped lo g gd bd bc gl s.s3 w) := by
  have hpc : w.cell? ⟨bc, 0, none⟩ = some (.pointer (some ⟨g, 0, none⟩)) := h.pc.cell 0
  have H := Lib.hid h
  have hv := rd_lt s.l s.e
  have HS := Lib.hid (show s.s3 = { s with x := rdN s.l s.e, l := rdL s.l s.e, e := rdE s.l s.e } from rfl)
  generalize s.s3 = s' at HS ⊢
  clear h
  go_enter Try.func36, Try.ntmps36
  go_wp2_with fail
  refine (num1_any g s.l s.e w H.out.c).mono ?_
  rintro e w1 ⟨rfl, hc1, hg1⟩
  have H1 := H.out.num hc1 hg1
  have hx0 : w1.cell? ⟨gl, 0, none⟩ = some (.int .u8 (s.x : Int)) := H1.x.cell 0
  have hf0 := H1.x.free 0
  have HF := Lib.hid (show Stepped lo g gd bd bc gl s' w (.returned (.tuple #[])) (w1.setCell ⟨gl, 0, none⟩ (.int .u8 (rdN s.l s.e : Int))) from ⟨rfl, by rw [HS.out]; exact H1.setx _ hv, (but_grown hg1 (S := three g gd gl) three_g).set (.inl three_l) _⟩)
  clear H1 hc1 hg1
  generalize rdN s.l s.e = v at *
  go_wp2
  exact bodyPost_end (v := .tuple #[]) (by simp [results, Try.results36, go_sem]) rfl HF.out

set_option maxRecDepth 100000 in
theorem f2_any (s : VS) (w : World) (h : TAt w lo g gd bd bc gl s) :
    Calls Try.prog 35 #[.pointer (some ⟨bc, 0, none⟩), .pointer (some ⟨bd, 0, none⟩)] w (Stepped lo g gd bd bc gl s.s2 w) := by
  have hpc : w.cell? ⟨bc, 0, none⟩ = some (.pointer (some ⟨g, 0, none⟩)) := h.pc.cell 0
  have hpd : w.cell? ⟨bd, 0, none⟩ = some (.pointer (some ⟨gd, 0, none⟩)) := h.pd.cell 0
  have o1 := h.o1
  have o2 := h.o2
  have o3 := h.o3
  have H := Lib.hid h
  have hv := rd_lt s.l s.e
  have HS := Lib.hid (show s.s2 = { s with d := { s.d with hasTl0 := true, tl0 := rdN s.l s.e }, l := rdL s.l s.e, e := rdE s.l s.e } from rfl)
  generalize s.s2 = s' at HS ⊢
  clear h
  go_enter Try.func35, Try.ntmps35
  go_wp2_with fail
  have T3 := Lib.hid (show ∀ w1, CutAt w1 lo g (rdL s.l s.e) (rdE s.l s.e) → w.grownBy w1 (some g) → TAt w1 lo g gd bd bc gl { s with l := rdL s.l s.e, e := rdE s.l s.e } ∧ Stepped lo g gd bd bc gl s' w (.returned (.tuple #[])) ((w1.setCell ⟨gd, 7, none⟩ (.bool true)).setCell ⟨gd, 8, none⟩ (.int .u8 (rdN s.l s.e : Int))) from fun w1 h1 h2 =>
    ⟨H.out.num h1 h2, rfl, by rw [HS.out]; exact ((H.out.num h1 h2).setd { s.d with hasTl0 := true } 7 (.bool true) rfl).setd { s.d with hasTl0 := true, tl0 := rdN s.l s.e } 8 (.int .u8 (rdN s.l s.e : Int)) rfl, ((but_grown h2 (S := three g gd gl) three_g).set (.inl three_d) _).set (.inl three_d) _⟩)
  have HC := Lib.hid H.out.c
  have C := Lib.hid (fun wx (hc : CutAt wx lo g s.l s.e) => num1_any (lo := lo) g s.l s.e wx hc)
  generalize rdN s.l s.e = v at *
  generalize rdL s.l s.e = l1 at *
  generalize rdE s.l s.e = e1 at *
  clear H HS
  have hw : IntKind.u8.wrap (v : Int) = (v : Int) := IntWalk.u8_in _ (by omega)
  go_region_held3 (fun w' => w'.cell? ⟨bd, 0, none⟩ = some (.pointer (some ⟨gd, 0, none⟩)) ∧ w'.cell? ⟨bc, 0, none⟩ = some (.pointer (some ⟨g, 0, none⟩)))
    (first | exact ⟨hpd, hpc⟩ | exact ⟨hT.1.pd.cell 0, hT.1.pc.cell 0⟩ | exact ⟨(keepx hT.1.pd (by simp; omega)), keepx hT.1.pc (by simp; omega)⟩ | exact ⟨keepx2 hT.1.pd (by simp; omega) (by simp; omega), keepx2 hT.1.pc (by simp; omega) (by simp; omega)⟩ | go_keep)
    (first
      | (go_at_call 20; refine (C.out _ ?_).mono ?_; (first | exact HC.out | exact HC.out.drew); rintro e w1 ⟨rfl, hc1, hg1⟩; have hT := T3.out w1 hc1 (grown_drew' hg1); have q0 : w1.cell? ⟨gd, 7, none⟩ = some (.bool s.d.hasTl0) := hT.1.d.cell 7; have q1 : w1.cell? ⟨gd, 8, none⟩ = some (.int .u8 (s.d.tl0 : Int)) := hT.1.d.cell 8; have q2 := hT.1.d.free 7; have q3 := hT.1.d.free 8))
  have HF := Lib.hid hT.2
  clear hT T3 HC C q0 q1 q2 q3 hc1 hg1
  go_wp2
  exact bodyPost_end (v := .tuple #[]) (by simp [results, Try.results35, go_sem]) rfl HF.out

/-- The bits that the last byte is asked for. -/
theorem bit5 (x : Nat) (h : x < 256) : (bits .and .u8 (x : Int) 32 != 0) = bitN x 32 := by
  have : ∀ x : Nat, x < 256 → (bits .and .u8 (x : Int) 32 != 0) = bitN x 32 := by decide +kernel
  exact this x h

set_option maxRecDepth 100000 in
theorem f5_any (s : VS) (w : World) (h : TAt w lo g gd bd bc gl s) :
    Calls Try.prog 38 #[.pointer (some ⟨gl, 0, none⟩), .pointer (some ⟨bd, 0, none⟩)] w (Stepped lo g gd bd bc gl s.s5 w) := by
  have hpx : w.cell? ⟨gl, 0, none⟩ = some (.int .u8 (s.x : Int)) := h.x.cell 0
  have hpd : w.cell? ⟨bd, 0, none⟩ = some (.pointer (some ⟨gd, 0, none⟩)) := h.pd.cell 0
  have q0 : w.cell? ⟨gd, 12, none⟩ = some (.bool s.d.hasKey) := h.d.cell 12
  have q1 : w.cell? ⟨gd, 13, none⟩ = some (.int .u8 (s.d.key : Int)) := h.d.cell 13
  have q2 := h.d.free 12
  have q3 := h.d.free 13
  have o1 := h.o1
  have o2 := h.o2
  have o3 := h.o3
  have o4 := h.o4
  have hx := h.xl
  have HF := Lib.hid (show Stepped lo g gd bd bc gl s.s5 w (.returned (.tuple #[])) (((w.setCell ⟨gd, 12, none⟩ (.bool true)).setCell ⟨gd, 13, none⟩ (.int .u8 ((s.x : Int) % 32))).drew) from
    ⟨rfl, ((h.setd { s.d with hasKey := true } 12 (.bool true) rfl).setd { s.d with hasKey := true, key := s.x % 32 } 13 (.int .u8 ((s.x : Int) % 32)) (by simp [Dsc.cells])).drew, (((But.refl (three g gd gl) w).set (.inl three_d) _).set (.inl three_d) _).drew⟩)
  generalize s.s5 = s' at HF ⊢
  generalize s.x = x at *
  clear h
  go_enter Try.func38, Try.ntmps38
  go_wp2_with fail
  go_region
  go_wp2
  exact bodyPost_end (v := .tuple #[]) (by simp [results, Try.results38, go_sem]) rfl HF.out

set_option maxRecDepth 100000 in
theorem f4_any (s : VS) (w : World) (h : TAt w lo g gd bd bc gl s) :
    Calls Try.prog 37 #[.pointer (some ⟨gl, 0, none⟩), .pointer (some ⟨bd, 0, none⟩)] w (Stepped lo g gd bd bc gl s.s4 w) := by
  have hpx : w.cell? ⟨gl, 0, none⟩ = some (.int .u8 (s.x : Int)) := h.x.cell 0
  have hpd : w.cell? ⟨bd, 0, none⟩ = some (.pointer (some ⟨gd, 0, none⟩)) := h.pd.cell 0
  have q0 : w.cell? ⟨gd, 9, none⟩ = some (.bool s.d.hasTid) := h.d.cell 9
  have q1 : w.cell? ⟨gd, 10, none⟩ = some (.int .u8 (s.d.tid : Int)) := h.d.cell 10
  have q4 : w.cell? ⟨gd, 11, none⟩ = some (.bool s.d.sync) := h.d.cell 11
  have q2 := h.d.free 9
  have q3 := h.d.free 10
  have q5 := h.d.free 11
  have o1 := h.o1
  have o2 := h.o2
  have o3 := h.o3
  have o4 := h.o4
  have hx := h.xl
  have hb := bit5 s.x h.xl
  have HF := Lib.hid (show Stepped lo g gd bd bc gl s.s4 w (.returned (.tuple #[])) ((((w.setCell ⟨gd, 9, none⟩ (.bool true)).setCell ⟨gd, 10, none⟩ (.int .u8 ((s.x : Int) / 64))).setCell ⟨gd, 11, none⟩ (.bool (bitN s.x 32))).drew) from
    ⟨rfl, (((h.setd { s.d with hasTid := true } 9 (.bool true) rfl).setd { s.d with hasTid := true, tid := s.x / 64 } 10 (.int .u8 ((s.x : Int) / 64)) (by simp [Dsc.cells])).setd { s.d with hasTid := true, tid := s.x / 64, sync := bitN s.x 32 } 11 (.bool (bitN s.x 32)) rfl).drew, ((((But.refl (three g gd gl) w).set (.inl three_d) _).set (.inl three_d) _).set (.inl three_d) _).drew⟩)
  generalize s.s4 = s' at HF ⊢
  generalize bitN s.x 32 = bb at *
  generalize s.x = x at *
  clear h
  go_enter Try.func37, Try.ntmps37
  go_wp2_with fail
  go_region
  go_wp2
  exact bodyPost_end (v := .tuple #[]) (by simp [results, Try.results37, go_sem]) rfl HF.out
end Go.Proofs.Ytliiodjcpkabmaa
