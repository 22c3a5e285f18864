/-
  Vp8Numbers: Tl0 false, wide false, Pic true.
-/
import Derived.Test.YtliiodjcpkabmaaVNd
import Derived.Test.YtliiodjcpkabmaaVpT
import Derived.Test.YtliiodjcpkabmaaVpO
import Derived.Test.YtliiodjcpkabmaaVpW
import Derived.Test.YtliiodjcpkabmaaVpY
import Derived.BigQuiet
import Derived.Deep.CutBlock
import Derived.Deep.DeepCutAuto
namespace Go.Proofs.Ytliiodjcpkabmaa.VNumbers
open Go.ChangeShapes Go.WideShapes Go.ChangeAt Go.RowKit
set_option linter.unusedSimpArgs false

set_option maxRecDepth 1000000 in
set_option maxHeartbeats 25600000 in
theorem walk_1 (w : World) (A : Option Addr) (c : Nat) (l : List UInt8) (hl : l.length ≤ maxLen) (hr : Row w w.heap.size 1 A l.length (u8s l)) (hcap : l.length ≤ c) (pic0 : Int) (hp : (Lit.int .u16 pic0).wf = true) (tl00 : Int) (ht : (Lit.int .u8 tl00).wf = true) (h3 : ¬ 300 < l.length) (d : Dsc) (r : List UInt8) (hps : parseS l = some (d, r)) (hx : d.hasTl0 = false ∧ d.wide = false ∧ d.hasPic = true) :
    Calls Try.prog 6 #[.slice A l.length c, .int .u16 pic0, .int .u8 tl00] w fun e w' => e = .returned (.bool true) ∧ Below w.heap.size w w' := by
  unfold maxLen at hl
  obtain ⟨hp0, hp1⟩ := wf_u16 hp
  obtain ⟨ht0, ht1⟩ := wf_u8 ht
  obtain ⟨pic, rfl⟩ := Int.eq_ofNat_of_zero_le hp0
  obtain ⟨tl0, rfl⟩ := Int.eq_ofNat_of_zero_le ht0
  have h3' : ¬ (300 : Int) < (l.length : Int) := by omega
  have htl : tl0 < 256 := by omega
  have hpp : pic < 65536 := by omega
  have HTL := Lib.hid (And.intro htl hpp)
  have CP := Lib.hid (fun wx h => vparse_any A c l wx h (by omega))
  have CW := Lib.hid (fun wx h => write_any A c l pic tl0 hpp htl wx h (by omega))
  obtain ⟨n, hn⟩ : ∃ n, n = l.length := ⟨_, rfl⟩
  rw [← hn] at hr hl h3' h3 CP CW hcap ⊢
  have HN := Lib.hid hn
  have HR := Lib.hid hr
  have HP0 := Lib.hid hp0
  clear hn hr hp ht hp0 ht0 htl hpp
  obtain ⟨N, cs, f1, f2, f3, f4, f5, f6, f7, f8⟩ := facts l r d hps pic tl0 HTL.out.1
  have HXX := Lib.hid hx
  clear hx
  have hfit := parse_fits hps
  have hup : d.upd pic tl0 = { d with pic := if d.hasPic then (if d.wide then pic % 32768 else pic % 128) else d.pic, tl0 := if d.hasTl0 then tl0 else d.tl0 } := rfl
  rw [hup] at f5
  have CQ := Lib.hid (fun A3 c3 wx h => vparse_any A3 c3 cs wx h (by rw [f2, ← HN.out]; omega))
  have CX := Lib.hid (fun A3 c3 wx h => write_any A3 c3 cs d.pic d.tl0 hfit.pic hfit.tl0 wx h (by rw [f2, ← HN.out]; omega))
  have F8 := Lib.hid (fun (e : Ending) (wx w' : World) (h : WriteTold cs d.pic d.tl0 wx e w') => wtold hfit.tl0 h)
  rw [f8] at F8
  dsimp only at F8
  rw [f2, ← HN.out] at CQ CX
  rw [← HN.out] at f1 f2
  have F1 := Lib.hid f1
  have F2 := Lib.hid f2
  have F3 := Lib.hid f3
  have F4 := Lib.hid f4
  have F5 := Lib.hid f5
  have F6 := Lib.hid f6
  have F7 := Lib.hid f7
  clear hps hup f1 f2 f3 f4 f5 f6 f7 f8 hfit h3
  obtain ⟨more, lone, start, part, hasPic, wide, pc, hasTl0, tl, hasTid, tid, sync, hasKey, key⟩ := d
  dsimp only at CX F5 F8 HXX
  go_enter Try.func6, Try.ntmps6
  go_wp2_with fail
  refine (awake_any w).mono ?_
  rintro e w1 ⟨rfl, b1⟩
  have HR1 := Lib.hid (HR.out.below b1 (Nat.le_refl _))
  have HB1 := Lib.hid b1
  clear b1 HR
  go_wp2_with fail
  refine (CP.out w1 (HR1.out.more HB1.out.size)).mono ?_
  rintro e w2 h2
  obtain ⟨rfl, b2⟩ := told_eq h2
  rw [F3.out]
  unfold Dsc.cells
  dsimp only
  have HR2 := Lib.hid (HR1.out.below b2 HB1.out.size)
  have HB2 := Lib.hid (HB1.out.trans (b2.mono HB1.out.size))
  clear b2 h2 HR1 HB1
  go_wp2_with fail
  refine (CW.out _ ((HR2.out.alloc HB2.out.size _).more (by have := HB2.out.size; simp; omega))).mono ?_
  rintro e w3 h4
  obtain ⟨⟨A3, c3, rfl, hc3, hr3⟩, b3⟩ := wtold HTL.out.1 h4
  rw [F4.out] at hr3 hc3 ⊢
  dsimp only at hr3 hc3 ⊢
  rw [F2.out] at hr3 hc3 ⊢
  obtain ⟨g1, hg1⟩ : ∃ g1, g1 = w2.heap.size := ⟨_, rfl⟩
  have HW3 := Lib.hid ((Whole.new w2 26 #[.bool more, .bool lone, .bool start, .int .u8 (part : Int), .bool hasPic, .bool wide, .int .u16 (pc : Int), .bool hasTl0, .int .u8 (tl : Int), .bool hasTid, .int .u8 (tid : Int), .bool sync, .bool hasKey, .int .u8 (key : Int)]).below b3 (by simp))
  have HB3 := Lib.hid ((HB2.out.alloc HB2.out.size _).trans (b3.mono (by have := HB2.out.size; simp; omega)))
  have HR3 := Lib.hid ((HR2.out.alloc HB2.out.size (.cells #[.bool more, .bool lone, .bool start, .int .u8 (part : Int), .bool hasPic, .bool wide, .int .u16 (pc : Int), .bool hasTl0, .int .u8 (tl : Int), .bool hasTid, .int .u8 (tid : Int), .bool sync, .bool hasKey, .int .u8 (key : Int)] 26)).below b3 (by have := HB2.out.size; simp; omega))
  have HC3 := Lib.hid hr3
  rw [← hg1] at HW3 ⊢
  clear b3 h4 hr3 HR2 HB2 hg1 CP CW
  go_wp2_with fail
  refine (CQ.out A3 c3 w3 HC3.out).mono ?_
  rintro e w4 h5
  obtain ⟨rfl, b4⟩ := told_eq h5
  rw [F5.out]
  unfold Dsc.cells
  dsimp only
  obtain ⟨P, hP⟩ : ∃ P : Nat, P = if hasPic then (if wide then pic % 32768 else pic % 128) else pc := ⟨_, rfl⟩
  obtain ⟨T, hT⟩ : ∃ T : Nat, T = if hasTl0 then tl0 else tl := ⟨_, rfl⟩
  rw [← hP, ← hT]
  have HPP := Lib.hid hP
  have HTT := Lib.hid hT
  obtain ⟨w5, hw5⟩ : ∃ w5, w5 = w4.alloc (.cells #[.bool more, .bool lone, .bool start, .int .u8 (part : Int), .bool hasPic, .bool wide, .int .u16 (P : Int), .bool hasTl0, .int .u8 (T : Int), .bool hasTid, .int .u8 (tid : Int), .bool sync, .bool hasKey, .int .u8 (key : Int)] 26) := ⟨_, rfl⟩
  obtain ⟨g2, hg2⟩ : ∃ g2, g2 = w4.heap.size := ⟨_, rfl⟩
  have HW5 := Lib.hid (show Whole w5 g1 26 #[.bool more, .bool lone, .bool start, .int .u8 (part : Int), .bool hasPic, .bool wide, .int .u16 (pc : Int), .bool hasTl0, .int .u8 (tl : Int), .bool hasTid, .int .u8 (tid : Int), .bool sync, .bool hasKey, .int .u8 (key : Int)] from by rw [hw5]; exact (HW3.out.below b4 HW3.out.lt).alloc _)
  have HX5 := Lib.hid (show Whole w5 g2 26 #[.bool more, .bool lone, .bool start, .int .u8 (part : Int), .bool hasPic, .bool wide, .int .u16 (P : Int), .bool hasTl0, .int .u8 (T : Int), .bool hasTid, .int .u8 (tid : Int), .bool sync, .bool hasKey, .int .u8 (key : Int)] from by rw [hw5, hg2]; exact Whole.new _ _ _)
  have HB4 := Lib.hid (HB3.out.trans (b4.mono HB3.out.size))
  have HB5 := Lib.hid (show Below w.heap.size w w5 from by rw [hw5]; exact HB4.out.alloc HB4.out.size _)
  have HR5 := Lib.hid (show Row w5 w.heap.size 1 A n (u8s l) from by rw [hw5]; exact (HR3.out.below b4 HB3.out.size).alloc HB4.out.size _)
  have HC5 := Lib.hid (show Row w5 w5.heap.size 1 A3 n (u8s cs) from by rw [hw5]; exact ((HC3.out.below b4 (Nat.le_refl _)).alloc b4.size _).more (by have := b4.size; simp; omega))
  have HNE := Lib.hid (show g1 ≠ g2 from by have := HW3.out.lt; have := b4.size; omega)
  have hw5' := hw5.symm
  have hg2' := hg2.symm
  clear hw5 hg2 b4 h5 hP hT HW3 HB3 HB4 HR3 HC3 F3 F4 F5 CQ
  go_upto_region 11 with fail
  clear hw5' hg2'
  obtain ⟨A6, hA6⟩ : ∃ A6, A6 = if c3 = N then A3 else A3.map fun x => x.add N := ⟨_, rfl⟩
  obtain ⟨A7, hA7⟩ : ∃ A7, A7 = if c = N then A else A.map fun x => x.add N := ⟨_, rfl⟩
  have s1 := fun wx => run_from A3 n c3 N F1.out wx
  have s2 := fun wx => run_from A n c N F1.out wx
  rw [← hA6] at s1
  rw [← hA7] at s2
  have hd1 := Row.drop HC5.out F1.out hc3 hA6
  have hd2 := Row.drop HR5.out F1.out hcap hA7
  rw [← u8s_drop, F6.out] at hd1
  rw [← u8s_drop, F7.out] at hd2
  have hrl : r.length = n - N := by rw [← F6.out, List.length_drop, F2.out]
  obtain ⟨K, hK⟩ : ∃ K, K = n - N := ⟨_, rfl⟩
  obtain ⟨K3, hK3⟩ : ∃ K3, K3 = c3 - N := ⟨_, rfl⟩
  obtain ⟨K4, hK4⟩ : ∃ K4, K4 = c - N := ⟨_, rfl⟩
  rw [← hK, ← hK3] at s1
  rw [← hK, ← hK4] at s2
  have t1 := fun i => run_text (P := Try.prog) (w5.drewN i) 22 5 9 Try.underlying22 Try.underlying5 Try.underlying9 _ _ _ K3 r (show Row (w5.drewN i) _ 1 A6 r.length (u8s r) from by rw [hrl]; exact hd1)
  have t2 := fun i => run_text (P := Try.prog) (w5.drewN i) 22 5 9 Try.underlying22 Try.underlying5 Try.underlying9 _ _ _ K4 r (show Row (w5.drewN i) _ 1 A7 r.length (u8s r) from by rw [hrl]; exact hd2)
  rw [hrl, ← hK] at t1 t2
  have hNn : (N : Int) ≤ (n : Int) := by have := F1.out; omega
  clear hA6 hA7 hd1 hd2 hrl hK hK3 hK4
  go_quiet (fail)
  obtain ⟨w6, hw6⟩ : ∃ w6, w6 = w5.drewN nq := ⟨_, rfl⟩
  rw [← hw6]
  have HW6 := Lib.hid (show Whole w6 g1 26 #[.bool more, .bool lone, .bool start, .int .u8 (part : Int), .bool hasPic, .bool wide, .int .u16 (pc : Int), .bool hasTl0, .int .u8 (tl : Int), .bool hasTid, .int .u8 (tid : Int), .bool sync, .bool hasKey, .int .u8 (key : Int)] from by rw [hw6]; exact HW5.out)
  have HX6 := Lib.hid (show Whole w6 g2 26 #[.bool more, .bool lone, .bool start, .int .u8 (part : Int), .bool hasPic, .bool wide, .int .u16 (P : Int), .bool hasTl0, .int .u8 (T : Int), .bool hasTid, .int .u8 (tid : Int), .bool sync, .bool hasKey, .int .u8 (key : Int)] from by rw [hw6]; exact HX5.out)
  have HB6 := Lib.hid (show Below w.heap.size w w6 from by rw [hw6]; exact bdrewN HB5.out nq)
  have HR6 := Lib.hid (show Row w6 w.heap.size 1 A n (u8s l) from by rw [hw6]; exact HR5.out)
  have HC6 := Lib.hid (show Row w6 w6.heap.size 1 A3 n (u8s cs) from by rw [hw6]; exact HC5.out)
  rw [← HN.out] at F8
  clear hw6 s1 s2 t1 t2 hNn HW5 HX5 HB5 HR5 HC5 hc3 hcap F1 F2 F6 F7
  have k0 : w6.cell? ⟨g1, 0, none⟩ = some (.bool more) := HW6.out.cell 0
  have k1 : w6.cell? ⟨g1, 1, none⟩ = some (.bool lone) := HW6.out.cell 1
  have k2 : w6.cell? ⟨g1, 2, none⟩ = some (.bool start) := HW6.out.cell 2
  have k3 : w6.cell? ⟨g1, 3, none⟩ = some (.int .u8 (part : Int)) := HW6.out.cell 3
  have k4 : w6.cell? ⟨g1, 4, none⟩ = some (.bool hasPic) := HW6.out.cell 4
  have k5 : w6.cell? ⟨g1, 5, none⟩ = some (.bool wide) := HW6.out.cell 5
  have k6 : w6.cell? ⟨g1, 6, none⟩ = some (.int .u16 (pc : Int)) := HW6.out.cell 6
  have k7 : w6.cell? ⟨g1, 7, none⟩ = some (.bool hasTl0) := HW6.out.cell 7
  have k8 : w6.cell? ⟨g1, 8, none⟩ = some (.int .u8 (tl : Int)) := HW6.out.cell 8
  have k9 : w6.cell? ⟨g1, 9, none⟩ = some (.bool hasTid) := HW6.out.cell 9
  have k10 : w6.cell? ⟨g1, 10, none⟩ = some (.int .u8 (tid : Int)) := HW6.out.cell 10
  have k11 : w6.cell? ⟨g1, 11, none⟩ = some (.bool sync) := HW6.out.cell 11
  have k12 : w6.cell? ⟨g1, 12, none⟩ = some (.bool hasKey) := HW6.out.cell 12
  have k13 : w6.cell? ⟨g1, 13, none⟩ = some (.int .u8 (key : Int)) := HW6.out.cell 13
  have hlt := HW6.out.lt
  have hlx := HX6.out.lt
  have heq := fun wx => eql_desc wx ⟨more, lone, start, part, hasPic, wide, P, hasTl0, T, hasTid, tid, sync, hasKey, key⟩ ⟨more, lone, start, part, hasPic, wide, P, hasTl0, T, hasTid, tid, sync, hasKey, key⟩
  simp only [Dsc.eqb_self] at heq
  unfold Dsc.cells at heq
  dsimp only at heq
  have HEQ := Lib.hid heq
  clear heq
  obtain ⟨hx1, hx2, hx3⟩ := HXX.out
  subst hx1 hx2 hx3
  obtain rfl : T = tl := HTT.out
  have q1 : (pic : Int) % 128 = (P : Int) := by have h : P = pic % 128 := HPP.out; omega
  clear HTT HPP HXX
  go_wp2_with fail
  refine (CX.out A3 c3 _ ((HC6.out.alloc (Nat.le_refl _) _).more (by simp))).mono ?_
  rintro e w7 h7
  obtain ⟨⟨A8, c8, rfl, _, hr8⟩, b7⟩ := F8.out _ _ _ h7
  have HV7 := Lib.hid ((Whole.new w6 26 #[.bool more, .bool lone, .bool start, .int .u8 (part : Int), .bool true, .bool false, .int .u16 (P : Int), .bool false, .int .u8 (T : Int), .bool hasTid, .int .u8 (tid : Int), .bool sync, .bool hasKey, .int .u8 (key : Int)]).below b7 (by simp))
  have HX7 := Lib.hid ((HX6.out.alloc (.cells #[.bool more, .bool lone, .bool start, .int .u8 (part : Int), .bool true, .bool false, .int .u16 (P : Int), .bool false, .int .u8 (T : Int), .bool hasTid, .int .u8 (tid : Int), .bool sync, .bool hasKey, .int .u8 (key : Int)] 26)).below b7 (by simp; omega))
  have HB7 := Lib.hid ((HB6.out.alloc HB6.out.size _).trans (b7.mono (by have := HB6.out.size; simp; omega)))
  have hrb := (HR6.out.alloc HB6.out.size (.cells #[.bool more, .bool lone, .bool start, .int .u8 (part : Int), .bool true, .bool false, .int .u16 (P : Int), .bool false, .int .u8 (T : Int), .bool hasTid, .int .u8 (tid : Int), .bool sync, .bool hasKey, .int .u8 (key : Int)] 26)).below b7 (by have := HB6.out.size; simp; omega)
  have HRB := Lib.hid hrb
  have HR8 := Lib.hid hr8
  obtain ⟨g3, hg3⟩ : ∃ g3, g3 = w6.heap.size := ⟨_, rfl⟩
  rw [← hg3] at HV7 ⊢
  have heq := HEQ.out
  have t8 := run_text (P := Try.prog) w7 22 5 9 Try.underlying22 Try.underlying5 Try.underlying9 _ _ _ c8 l (show Row w7 w7.heap.size 1 A8 l.length (u8s l) from by rw [← HN.out]; exact HR8.out)
  have t9 := run_text (P := Try.prog) w7 22 5 9 Try.underlying22 Try.underlying5 Try.underlying9 _ _ _ c l (show Row w7 w.heap.size 1 A l.length (u8s l) from by rw [← HN.out]; exact HRB.out)
  rw [← HN.out] at t8 t9
  clear k0 k1 k2 k3 k4 k5 k6 k7 k8 k9 k10 k11 k12 k13 hlt hlx hg3 hrb hr8 b7 h7 HR6 HC6 HX6 HW6 HB6 CX F8 HEQ
  have k0 : w7.cell? ⟨g2, 0, none⟩ = some (.bool more) := HX7.out.cell 0
  have k1 : w7.cell? ⟨g2, 1, none⟩ = some (.bool lone) := HX7.out.cell 1
  have k2 : w7.cell? ⟨g2, 2, none⟩ = some (.bool start) := HX7.out.cell 2
  have k3 : w7.cell? ⟨g2, 3, none⟩ = some (.int .u8 (part : Int)) := HX7.out.cell 3
  have k4 : w7.cell? ⟨g2, 4, none⟩ = some (.bool true) := HX7.out.cell 4
  have k5 : w7.cell? ⟨g2, 5, none⟩ = some (.bool false) := HX7.out.cell 5
  have k6 : w7.cell? ⟨g2, 6, none⟩ = some (.int .u16 (P : Int)) := HX7.out.cell 6
  have k7 : w7.cell? ⟨g2, 7, none⟩ = some (.bool false) := HX7.out.cell 7
  have k8 : w7.cell? ⟨g2, 8, none⟩ = some (.int .u8 (T : Int)) := HX7.out.cell 8
  have k9 : w7.cell? ⟨g2, 9, none⟩ = some (.bool hasTid) := HX7.out.cell 9
  have k10 : w7.cell? ⟨g2, 10, none⟩ = some (.int .u8 (tid : Int)) := HX7.out.cell 10
  have k11 : w7.cell? ⟨g2, 11, none⟩ = some (.bool sync) := HX7.out.cell 11
  have k12 : w7.cell? ⟨g2, 12, none⟩ = some (.bool hasKey) := HX7.out.cell 12
  have k13 : w7.cell? ⟨g2, 13, none⟩ = some (.int .u8 (key : Int)) := HX7.out.cell 13
  have v0 : w7.cell? ⟨g3, 0, none⟩ = some (.bool more) := HV7.out.cell 0
  have v1 : w7.cell? ⟨g3, 1, none⟩ = some (.bool lone) := HV7.out.cell 1
  have v2 : w7.cell? ⟨g3, 2, none⟩ = some (.bool start) := HV7.out.cell 2
  have v3 : w7.cell? ⟨g3, 3, none⟩ = some (.int .u8 (part : Int)) := HV7.out.cell 3
  have v4 : w7.cell? ⟨g3, 4, none⟩ = some (.bool true) := HV7.out.cell 4
  have v5 : w7.cell? ⟨g3, 5, none⟩ = some (.bool false) := HV7.out.cell 5
  have v6 : w7.cell? ⟨g3, 6, none⟩ = some (.int .u16 (P : Int)) := HV7.out.cell 6
  have v7 : w7.cell? ⟨g3, 7, none⟩ = some (.bool false) := HV7.out.cell 7
  have v8 : w7.cell? ⟨g3, 8, none⟩ = some (.int .u8 (T : Int)) := HV7.out.cell 8
  have v9 : w7.cell? ⟨g3, 9, none⟩ = some (.bool hasTid) := HV7.out.cell 9
  have v10 : w7.cell? ⟨g3, 10, none⟩ = some (.int .u8 (tid : Int)) := HV7.out.cell 10
  have v11 : w7.cell? ⟨g3, 11, none⟩ = some (.bool sync) := HV7.out.cell 11
  have v12 : w7.cell? ⟨g3, 12, none⟩ = some (.bool hasKey) := HV7.out.cell 12
  have v13 : w7.cell? ⟨g3, 13, none⟩ = some (.int .u8 (key : Int)) := HV7.out.cell 13
  have hlx := HX7.out.lt
  have hlv := HV7.out.lt
  go_wp2
  go_ret
  exact ⟨by simp, HB7.out⟩

end Go.Proofs.Ytliiodjcpkabmaa.VNumbers
