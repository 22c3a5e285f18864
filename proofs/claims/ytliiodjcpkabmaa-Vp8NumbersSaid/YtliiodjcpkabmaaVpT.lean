/-
  The document's example, as the laws of layer 7 run it first.
-/
import Derived.Test.YtliiodjcpkabmaaVpC
import Derived.Test.YtliiodjcpkabmaaVpJ
import Derived.Test.YtliiodjcpkabmaaVpK
import Derived.Test.YtliiodjcpkabmaaVpS
namespace Go.Proofs.Ytliiodjcpkabmaa
open Go.RowKit

set_option maxRecDepth 100000 in
set_option maxHeartbeats 1600000 in
theorem awake_any (w : World) : Calls Try.prog 10 #[] w fun e w' => e = .returned (.bool true) ∧ Below w.heap.size w w' := by
  obtain ⟨dd, hdd⟩ : ∃ dd : Dsc, dd = ⟨true, false, true, 0, true, false, 5, false, 0, false, 0, false, false, 0⟩ := ⟨_, rfl⟩
  have hR : dd.Right := by rw [hdd]; decide
  have hE : dd.enc = [144, 128, 5] := by rw [hdd]; decide
  have hF : dd.Fits := by rw [hdd]; exact ⟨by decide, by decide, by decide, by decide, by decide⟩
  have hP : parseS [144, 128, 5] = some (dd, []) := by rw [← hE]; exact parse_enc dd hR
  have hP2 : parseS [144, 128, 5, 2] = some (dd, [2]) := parse_append [2] hP
  have hb : dd.begins = true := by rw [hdd]; decide
  have hW : wholeS [144, 128, 5] = false := by unfold wholeS; rw [hP]; simp [evenS]
  have hW2 : wholeS [144, 128, 5, 2] = true := by unfold wholeS; rw [hP2]; simp only [hb]; decide
  have hWr : writeS dd 300 1 [144, 128, 5] = [144, 128, 44] := by rw [hdd]; decide
  have C1 := fun w => vput_any dd hF w
  have D := fun w => begins_any dd w
  unfold PutTold at C1
  have HDD := Lib.hid hdd
  have HR := Lib.hid hR
  have HE := Lib.hid hE
  have HP := Lib.hid hP
  have HW := Lib.hid hW
  have HW2 := Lib.hid hW2
  have HWR := Lib.hid hWr
  have HC1 := Lib.hid C1
  rw [hb] at D
  have HD := Lib.hid D
  have hcells : dd.cells = #[.bool true, .bool false, .bool true, .int .u8 0, .bool true, .bool false, .int .u16 5, .bool false, .int .u8 0, .bool false, .int .u8 0, .bool false, .bool false, .int .u8 0] := by rw [hdd]; rfl
  have HCL := Lib.hid hcells
  clear hdd hR hE hF hP hP2 hb hW hW2 hWr C1 D hcells
  go_enter Try.func10, Try.ntmps10
  go_wp2_with fail
  rw [← HCL.out]
  refine (HC1.out _).mono ?_
  rintro e w1 (⟨hn, _⟩ | ⟨_, A, c, rfl, own1, b1⟩)
  · exact absurd HR.out hn
  rw [HE.out] at own1 ⊢
  have HOWN1 := Lib.hid own1
  have HB1 := Lib.hid b1
  clear own1 b1
  go_wp2_with fail
  have c1 := vparse_any A c [144, 128, 5] w1 (Row.of_own HOWN1.out) (by simp)
  refine c1.mono ?_
  clear c1
  rintro e w2 ⟨hh, b2⟩
  obtain rfl : e = .returned (.tuple #[.agg dd.cells, .int .i64 3, .int .i64 0]) := by
    rw [HP.out] at hh
    rcases hh with ⟨h, _⟩ | ⟨d', r', h1, h2⟩
    · cases h
    · injection h1 with h1
      injection h1 with h1 h3
      subst h1 h3
      exact h2
  have HOWN2 := Lib.hid (own_below HOWN1.out b2 (Nat.le_refl _))
  have HB2 := Lib.hid (bnext HB1.out b2)
  clear hh b2 HOWN1 HB1
  rw [HCL.out]
  go_wp2_with fail
  have HD2 := Lib.hid (Whole.new w2 26 #[.bool true, .bool false, .bool true, .int .u8 0, .bool true, .bool false, .int .u16 5, .bool false, .int .u8 0, .bool false, .int .u8 0, .bool false, .bool false, .int .u8 0])
  have HOWN3 := Lib.hid (HOWN2.out.alloc (.cells #[.bool true, .bool false, .bool true, .int .u8 0, .bool true, .bool false, .int .u16 5, .bool false, .int .u8 0, .bool false, .int .u8 0, .bool false, .bool false, .int .u8 0] 26))
  have HB3 := Lib.hid (HB2.out.alloc HB2.out.size (.cells #[.bool true, .bool false, .bool true, .int .u8 0, .bool true, .bool false, .int .u16 5, .bool false, .int .u8 0, .bool false, .int .u8 0, .bool false, .bool false, .int .u8 0] 26))
  clear HOWN2 HB2
  obtain ⟨gd, hgd⟩ : ∃ gd, gd = w2.heap.size := ⟨_, rfl⟩
  obtain ⟨wX, hwX⟩ : ∃ wX, wX = w2.alloc (.cells #[.bool true, .bool false, .bool true, .int .u8 0, .bool true, .bool false, .int .u16 5, .bool false, .int .u8 0, .bool false, .int .u8 0, .bool false, .bool false, .int .u8 0] 26) := ⟨_, rfl⟩
  rw [← hgd, ← hwX] at HD2 ⊢
  rw [← hwX] at HOWN3 HB3
  clear hgd hwX
  refine (write_any A c [144, 128, 5] 300 1 (by decide) (by decide) wX (Row.of_own HOWN3.out) (by simp)).mono ?_
  rintro e w3 (⟨hn, _⟩ | ⟨d', r', A2, c2, hp, rfl, own2, b3⟩)
  · rw [HP.out] at hn
    cases hn
  obtain rfl : dd = d' := by
    rw [HP.out] at hp
    injection hp with hp
    injection hp
  rw [HWR.out] at own2
  clear hp
  have HD3 := Lib.hid (HD2.out.below b3 HD2.out.lt)
  have HOB := Lib.hid (own_below HOWN3.out b3 (Nat.le_refl _))
  have HBB := Lib.hid (bnext HB3.out b3)
  have HOC := Lib.hid own2
  clear own2 b3 HD2 HOWN3 HB3
  have k0 : w3.cell? ⟨gd, 0, none⟩ = some (.bool true) := HD3.out.cell 0
  have k1 : w3.cell? ⟨gd, 1, none⟩ = some (.bool false) := HD3.out.cell 1
  have k2 : w3.cell? ⟨gd, 2, none⟩ = some (.bool true) := HD3.out.cell 2
  have k3 : w3.cell? ⟨gd, 3, none⟩ = some (.int .u8 0) := HD3.out.cell 3
  have k4 : w3.cell? ⟨gd, 4, none⟩ = some (.bool true) := HD3.out.cell 4
  have k5 : w3.cell? ⟨gd, 5, none⟩ = some (.bool false) := HD3.out.cell 5
  have k6 : w3.cell? ⟨gd, 6, none⟩ = some (.int .u16 5) := HD3.out.cell 6
  have k7 : w3.cell? ⟨gd, 7, none⟩ = some (.bool false) := HD3.out.cell 7
  have k8 : w3.cell? ⟨gd, 8, none⟩ = some (.int .u8 0) := HD3.out.cell 8
  have k9 : w3.cell? ⟨gd, 9, none⟩ = some (.bool false) := HD3.out.cell 9
  have k10 : w3.cell? ⟨gd, 10, none⟩ = some (.int .u8 0) := HD3.out.cell 10
  have k11 : w3.cell? ⟨gd, 11, none⟩ = some (.bool false) := HD3.out.cell 11
  have k12 : w3.cell? ⟨gd, 12, none⟩ = some (.bool false) := HD3.out.cell 12
  have k13 : w3.cell? ⟨gd, 13, none⟩ = some (.int .u8 0) := HD3.out.cell 13
  have hgd3 : gd < w3.heap.size := HD3.out.lt
  have ht1 : (convert 22 9 (.slice A 3 c)).run Try.prog w3 = .ok (.string { data := #[144, 128, 5] }) w3 := run_text (P := Try.prog) w3 22 5 9 Try.underlying22 Try.underlying5 Try.underlying9 _ _ _ c [144, 128, 5] (Row.of_own HOB.out)
  have ht2 : (convert 22 9 (.slice A2 3 c2)).run Try.prog (w3.alloc (.cells #[.bool true, .bool false, .bool true, .int .u8 0, .bool true, .bool false, .int .u16 5, .bool false, .int .u8 0, .bool false, .int .u8 0, .bool false, .bool false, .int .u8 0] 26)) = .ok (.string { data := #[144, 128, 44] }) (w3.alloc (.cells #[.bool true, .bool false, .bool true, .int .u8 0, .bool true, .bool false, .int .u16 5, .bool false, .int .u8 0, .bool false, .int .u8 0, .bool false, .bool false, .int .u8 0] 26)) := run_text (P := Try.prog) _ 22 5 9 Try.underlying22 Try.underlying5 Try.underlying9 _ _ _ c2 [144, 128, 44] ((Row.of_own HOC.out).alloc (Nat.le_refl _) _)
  obtain ⟨gg, cap, hv, hgb, hgl⟩ := HOB.out.form (by decide)
  obtain ⟨rfl, rfl⟩ : A = some ⟨gg, 0, none⟩ ∧ c = cap := by
    injection hv with h1 h2 h3
    exact ⟨h1, h3⟩
  obtain ⟨v5, w5, hap, own5, g5, row5⟩ := append_keep ((w3.alloc (.cells #[.bool true, .bool false, .bool true, .int .u8 0, .bool true, .bool false, .int .u16 5, .bool false, .int .u8 0, .bool false, .int .u8 0, .bool false, .bool false, .int .u8 0] 26)).alloc (.cells #[.int .u8 2] 5)) ((HOB.out.alloc _).alloc _) ⟨w3.heap.size + 1, 0, none⟩ 1 1 [.int .u8 2] rfl (fun j u hu => by
    match j, hu with
    | 0, hu =>
      simp at hu
      subst hu
      have := (Whole.new (w3.alloc (.cells #[.bool true, .bool false, .bool true, .int .u8 0, .bool true, .bool false, .int .u16 5, .bool false, .int .u8 0, .bool false, .int .u8 0, .bool false, .bool false, .int .u8 0] 26)) 5 #[.int .u8 2]).cell 0
      rw [World.size_alloc] at this
      exact this) (by simp [Value.oneCell']) (by decide) (by have := HBB.out.size; simp; omega)
  have HB5 := Lib.hid (((HBB.out.alloc HBB.out.size _).alloc (by have := HBB.out.size; simp; omega) _).grown g5 (by have := HBB.out.size; simp; omega) (fun k hk => by injection hk with hk; subst hk; omega))
  obtain ⟨A5, c5, rfl⟩ := own_form own5
  have HR5 := Lib.hid (Row.of_own own5)
  have HROW := Lib.hid row5
  clear own5 row5 g5 hv
  simp only [List.length_cons, List.length_nil, Nat.zero_add, Nat.reduceAdd] at hap HR5 HROW
  rw [HCL.out] at HD
  go_wp2_with (first | (go_at_call 14; refine (HD.out _).mono ?_; rintro e w' ⟨rfl, rfl⟩) | (at_builtin; go_loud (refine wpl_run _ (by first | rfl | kernel_rfl) (.tmp 58) (.tmp 59) 22 rfl _ _ _ _ rfl rfl hap ?_)))
  refine (whole_any A5 c5 [144, 128, 5, 2] w5 HR5.out (by simp)).mono ?_
  rintro e w6 ⟨rfl, b6⟩
  rw [HW2.out]
  have HB6 := Lib.hid (HB5.out.trans (b6.mono HB5.out.size))
  have HROW6 := Lib.hid ((HROW.out.below b6 (Nat.le_refl _)).more b6.size)
  clear b6
  go_wp2_with fail
  refine (whole_any _ c [144, 128, 5] w6 HROW6.out (by simp)).mono ?_
  rintro e w7 ⟨rfl, b7⟩
  rw [HW.out]
  have HB7 := Lib.hid (HB6.out.trans (b7.mono HB6.out.size))
  clear b7
  go_wp2
  go_ret
  exact ⟨rfl, HB7.out⟩
end Go.Proofs.Ytliiodjcpkabmaa
