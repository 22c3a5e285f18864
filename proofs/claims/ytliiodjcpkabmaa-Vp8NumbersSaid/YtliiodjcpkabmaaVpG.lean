/-
  Contracts of vp8's takePic, of the closure that calls it, and of fields.
-/
import Derived.Test.YtliiodjcpkabmaaVpF
namespace Go.Proofs.Ytliiodjcpkabmaa
open Go.RowKit
variable {lo g gd bd bc gl : Nat}

theorem w128 (x : Nat) (h : x < 256) : bits .and .u16 (x : Int) 128 = if x < 128 then 0 else 128 := by
  have : ∀ x : Nat, x < 256 → bits .and .u16 (x : Int) 128 = if x < 128 then 0 else 128 := by decide +kernel
  exact this x h
theorem join16 (a b : Nat) (ha : a < 128) (hb : b < 256) : bits .or .u16 ((a : Int) * 256) (b : Int) = ((a * 256 + b : Nat) : Int) := by
  have e : (a : Int) * 256 = ((a * 256 : Nat) : Int) := by omega
  rw [e, u16_or_nat _ _ (by omega) (by omega)]
  have := or_low 8 a b hb
  rw [show (2 : Nat) ^ 8 = 256 from rfl] at this
  rw [this]

/-- What takePic tells. -/
def PicTold (lo g : Nat) (l : List UInt8) (e : Int) (w : World) (en : Ending) (w' : World) : Prop :=
  en = .returned (.tuple #[.bool (picW l e), .int .u16 (picX l e : Int)]) ∧ CutAt w' lo g (picL l e) (picE l e) ∧ w.grownBy w' (some g)

set_option maxRecDepth 100000 in
theorem takePic_any (l : List UInt8) (e : Int) (w : World) (h : CutAt w lo g l e) :
    Calls Try.prog 34 #[.pointer (some ⟨g, 0, none⟩)] w (PicTold lo g l e w) := by
  have hv := rd_lt l e
  by_cases h8 : 128 ≤ rdN l e
  · have HF := Lib.hid (show ∀ w', CutAt w' lo g (rdL (rdL l e) (rdE l e)) (rdE (rdL l e) (rdE l e)) → w.grownBy w' (some g) → PicTold lo g l e w (.returned (.tuple #[.bool true, .int .u16 (((rdN l e % 128) * 256 + rdN (rdL l e) (rdE l e) : Nat) : Int)])) w' from fun w' h1 h2 =>
      ⟨by unfold picW picX; rw [if_pos h8]; simp [h8], by unfold picL picE; rw [if_pos h8, if_pos h8]; exact h1, h2⟩)
    have hq := rd_lt (rdL l e) (rdE l e)
    have C := Lib.hid (fun wx (hc : CutAt wx lo g l e) => num1_any (lo := lo) g l e wx hc)
    have D := Lib.hid (fun wx (hc : CutAt wx lo g (rdL l e) (rdE l e)) => num1_any (lo := lo) g (rdL l e) (rdE l e) wx hc)
    have hA := w128 _ hv
    rw [if_neg (by omega)] at hA
    have hB := and7 (rdN l e) (by omega)
    have hB' : bits .and .u16 (rdN l e : Int) 127 = ((rdN l e % 128 : Nat) : Int) := by rw [hB]; rfl
    have hJ := join16 (rdN l e % 128) (rdN (rdL l e) (rdE l e)) (by omega) hq
    have hm : rdN l e % 128 < 128 := by omega
    have hw1 : IntKind.u16.wrap (rdN l e : Int) = (rdN l e : Int) := IntWalk.u16_in _ (by omega)
    have hw2 : IntKind.u16.wrap (rdN (rdL l e) (rdE l e) : Int) = (rdN (rdL l e) (rdE l e) : Int) := IntWalk.u16_in _ (by omega)
    clear hB
    generalize rdN (rdL l e) (rdE l e) = q at *
    generalize rdL (rdL l e) (rdE l e) = l2 at *
    generalize rdE (rdL l e) (rdE l e) = e2 at *
    generalize rdL l e = l1 at *
    generalize rdE l e = e1 at *
    generalize rdN l e % 128 = m at *
    generalize rdN l e = v at *
    have HCUT := Lib.hid h
    clear h
    go_enter Try.func34, Try.ntmps34
    go_wp2_with fail
    refine (C.out _ HCUT.out).mono ?_
    rintro en w1 ⟨rfl, c1, g1⟩
    have HC1 := Lib.hid c1
    have HG1 := Lib.hid g1
    clear c1 g1 HCUT C
    go_wp2_with fail
    refine (D.out _ HC1.out).mono ?_
    rintro en w2 ⟨rfl, c2, g2⟩
    have HG := Lib.hid (HF.out w2 c2 (only_trans HG1.out g2))
    clear HF c2 g2 HC1 HG1 D
    go_wp2
    go_ret2
    exact HG.out
  · have HF := Lib.hid (show ∀ w', CutAt w' lo g (rdL l e) (rdE l e) → w.grownBy w' (some g) → PicTold lo g l e w (.returned (.tuple #[.bool false, .int .u16 (rdN l e : Int)])) w' from fun w' h1 h2 =>
      ⟨by unfold picW picX; rw [if_neg h8]; simp [h8], by unfold picL picE; rw [if_neg h8, if_neg h8]; exact h1, h2⟩)
    have C := Lib.hid (fun wx (hc : CutAt wx lo g l e) => num1_any (lo := lo) g l e wx hc)
    have hA := w128 _ hv
    rw [if_pos (by omega)] at hA
    have hw1 : IntKind.u16.wrap (rdN l e : Int) = (rdN l e : Int) := IntWalk.u16_in _ (by omega)
    generalize rdL l e = l1 at *
    generalize rdE l e = e1 at *
    generalize rdN l e = v at *
    have HCUT := Lib.hid h
    clear h
    go_enter Try.func34, Try.ntmps34
    go_wp2_with fail
    refine (C.out _ HCUT.out).mono ?_
    rintro en w1 ⟨rfl, c1, g1⟩
    have HG := Lib.hid (HF.out w1 c1 g1)
    clear c1 g1 HCUT C HF
    go_wp2
    go_ret2
    exact HG.out

set_option maxRecDepth 100000 in
theorem f1_any (s : VS) (w : World) (h : TAt w lo g gd bd bc gl s) :
    Calls Try.prog 33 #[.pointer (some ⟨bd, 0, none⟩), .pointer (some ⟨bc, 0, none⟩)] w (Stepped lo g gd bd bc gl s.s1 w) := by
  have hpc : w.cell? ⟨bc, 0, none⟩ = some (.pointer (some ⟨g, 0, none⟩)) := h.pc.cell 0
  have hpd : w.cell? ⟨bd, 0, none⟩ = some (.pointer (some ⟨gd, 0, none⟩)) := h.pd.cell 0
  have q0 : w.cell? ⟨gd, 4, none⟩ = some (.bool s.d.hasPic) := h.d.cell 4
  have q1 := h.d.free 4
  have o1 := h.o1
  have o2 := h.o2
  have o3 := h.o3
  have HS := Lib.hid (show s.s1 = { s with d := { s.d with hasPic := true, wide := picW s.l s.e, pic := picX s.l s.e }, l := picL s.l s.e, e := picE s.l s.e } from rfl)
  generalize s.s1 = s' at HS ⊢
  have H1 := Lib.hid (h.setd { s.d with hasPic := true } 4 (.bool true) rfl)
  have HB1 := Lib.hid ((But.refl (three g gd gl) w).set (p := ⟨gd, 4, none⟩) (.inl three_d) (.bool true))
  clear h
  go_enter Try.func33, Try.ntmps33
  go_wp2_with fail
  obtain ⟨wq, hwq⟩ : ∃ wq, wq = w.setCell ⟨gd, 4, none⟩ (.bool true) := ⟨_, rfl⟩
  rw [← hwq] at H1 HB1 ⊢
  have hpc' : wq.cell? ⟨bc, 0, none⟩ = some (.pointer (some ⟨g, 0, none⟩)) := H1.out.pc.cell 0
  have hpd' : wq.cell? ⟨bd, 0, none⟩ = some (.pointer (some ⟨gd, 0, none⟩)) := H1.out.pd.cell 0
  clear hwq q0 q1 hpc hpd
  have T3 := Lib.hid (show ∀ w1, CutAt w1 lo g (picL s.l s.e) (picE s.l s.e) → wq.grownBy w1 (some g) → TAt w1 lo g gd bd bc gl { s with d := { s.d with hasPic := true }, l := picL s.l s.e, e := picE s.l s.e } ∧ Stepped lo g gd bd bc gl s' w (.returned (.tuple #[])) ((w1.setCell ⟨gd, 5, none⟩ (.bool (picW s.l s.e))).setCell ⟨gd, 6, none⟩ (.int .u16 (picX s.l s.e : Int))) from fun w1 h1 h2 =>
    ⟨H1.out.num h1 h2, rfl, by rw [HS.out]; exact ((H1.out.num h1 h2).setd { s.d with hasPic := true, wide := picW s.l s.e } 5 (.bool (picW s.l s.e)) rfl).setd { s.d with hasPic := true, wide := picW s.l s.e, pic := picX s.l s.e } 6 (.int .u16 (picX s.l s.e : Int)) rfl, (((HB1.out.trans (but_grown h2 (S := three g gd gl) three_g)).set (.inl three_d) _).set (.inl three_d) _)⟩)
  have HC := Lib.hid H1.out.c
  have C := Lib.hid (fun wx (hc : CutAt wx lo g s.l s.e) => takePic_any (lo := lo) (g := g) s.l s.e wx hc)
  unfold PicTold at C
  generalize picW s.l s.e = v1 at *
  generalize picX s.l s.e = v2 at *
  generalize picL s.l s.e = l1 at *
  generalize picE s.l s.e = e1 at *
  clear H1 HS HB1
  go_region_held3 (fun w' => w'.cell? ⟨bd, 0, none⟩ = some (.pointer (some ⟨gd, 0, none⟩)) ∧ w'.cell? ⟨bc, 0, none⟩ = some (.pointer (some ⟨g, 0, none⟩)))
    (first | exact ⟨hpd', hpc'⟩ | exact ⟨hT.1.pd.cell 0, hT.1.pc.cell 0⟩ | exact ⟨(keepx hT.1.pd (by simp; omega)), keepx hT.1.pc (by simp; omega)⟩ | exact ⟨keepx2 hT.1.pd (by simp; omega) (by simp; omega), keepx2 hT.1.pc (by simp; omega) (by simp; omega)⟩ | go_keep)
    (first
      | (go_at_call 34; refine (C.out _ ?_).mono ?_; (first | exact HC.out | exact HC.out.drew); rintro e w1 ⟨rfl, hc1, hg1⟩; have hT := T3.out w1 hc1 (grown_drew' hg1); have q0 : w1.cell? ⟨gd, 5, none⟩ = some (.bool s.d.wide) := hT.1.d.cell 5; have q1 : w1.cell? ⟨gd, 6, none⟩ = some (.int .u16 (s.d.pic : Int)) := hT.1.d.cell 6; have q2 := hT.1.d.free 5; have q3 := hT.1.d.free 6))
  have HF := Lib.hid hT.2
  clear hT T3 HC C q0 q1 q2 q3 hc1 hg1
  go_wp2
  exact bodyPost_end (v := .tuple #[]) (by simp [results, Try.results33, go_sem]) rfl HF.out
end Go.Proofs.Ytliiodjcpkabmaa
