/-
  Proved: Vp8Parses returns true for every slice of bytes: what Parse, Begins and Whole tell is what the document's Parse tells. Conditions: none.
-/
import Derived.Test.YtliiodjcpkabmaaVpT
import Derived.Test.YtliiodjcpkabmaaVpO
import Derived.Test.YtliiodjcpkabmaaVpU
import Derived.Test.YtliiodjcpkabmaaVpW
import Derived.Deep.RegionHeld3
namespace Go.Proofs.Ytliiodjcpkabmaa.VParses
open Go.ChangeShapes Go.WideShapes Go.ChangeAt Go.RowKit
set_option linter.unusedSimpArgs false

/-- What the document's Parse tells. -/
def rT (b : List UInt8) : Dsc × Int × Int × Int × Int :=
  match parseS b with
  | none => (dsc0, 0, 0, 0, 10)
  | some (d, r) => (d, (b.length : Int) - r.length, (d.picAt : Int), (d.tl0At : Int), 0)
theorem ref_eq {b : List UInt8} {w w' : World} {e : Ending} (h : RefParsed b w e w') : e = .returned (.tuple #[.agg (rT b).1.plain, .int .i64 (rT b).2.1, .int .i64 (rT b).2.2.1, .int .i64 (rT b).2.2.2.1, .int .i64 (rT b).2.2.2.2]) ∧ Below w.heap.size w w' := by
  obtain ⟨h1, h2⟩ := h
  refine ⟨?_, h2⟩
  unfold rT
  rcases h1 with ⟨hp, rfl⟩ | ⟨d, r, hp, rfl⟩ <;> rw [hp]
theorem ref_same (b : List UInt8) : ∃ (d : Dsc) (n e p t : Int), d.Fits ∧ pT b = (d, n, e) ∧ rT b = (d, n, p, t, e) ∧ (e = 0 ∧ (∃ r, parseS b = some (d, r) ∧ n = (b.length : Int) - r.length ∧ wholeS b = (d.begins && evenS r) ∧ r.length ≤ b.length ∧ b.drop (b.length - r.length) = r) ∨ e = 10 ∧ d = dsc0 ∧ wholeS b = false) := by
  unfold pT rT wholeS
  cases hp : parseS b with
  | none => exact ⟨dsc0, 0, 10, 0, 0, by constructor <;> decide, rfl, rfl, .inr ⟨rfl, rfl, rfl⟩⟩
  | some x =>
    obtain ⟨d, r⟩ := x
    obtain ⟨pre, h1, h2⟩ := parse_size hp
    refine ⟨d, _, _, _, _, parse_fits hp, rfl, rfl, .inl ⟨rfl, r, rfl, rfl, rfl, by rw [h1]; simp, ?_⟩⟩
    rw [h1]
    simp

set_option maxRecDepth 100000 in
set_option maxHeartbeats 6400000 in
theorem walk (w : World) (A : Option Addr) (c : Nat) (l : List UInt8) (hl : l.length ≤ maxLen) (hr : Row w w.heap.size 1 A l.length (u8s l)) :
    Calls Try.prog 3 #[.slice A l.length c] w fun e w' => e = .returned (.bool true) ∧ Below w.heap.size w w' := by
  unfold maxLen at hl
  by_cases h3 : 300 < l.length
  · have h3' : (300 : Int) < (l.length : Int) := by omega
    clear h3 hr
    go_enter Try.func3, Try.ntmps3
    go_wp2_with fail
    refine (awake_any w).mono ?_
    rintro e w1 ⟨rfl, b1⟩
    go_wp2
    go_ret
    exact ⟨rfl, b1⟩
  have h3' : ¬ (300 : Int) < (l.length : Int) := by omega
  obtain ⟨d, nn, er, pa, ta, hfit, hpt, hrt, hcase⟩ := ref_same l
  obtain ⟨n, hn⟩ : ∃ n, n = l.length := ⟨_, rfl⟩
  obtain ⟨bg, hbg⟩ : ∃ bg, bg = d.begins := ⟨_, rfl⟩
  have CP := fun wx h => vparse_any A c l wx h (by omega)
  have CW := fun wx h => whole_any A c l wx h (by omega)
  have CR := fun wx => refParse_any l wx (by omega)
  have CO := fun wx => of_any d hfit wx
  have CB := fun wx => begins_any d wx
  rw [← hbg] at CB hcase
  have CT := fun wx (h : Row wx w.heap.size 1 A l.length (u8s l)) => run_text (P := Try.prog) wx 22 5 9 Try.underlying22 Try.underlying5 Try.underlying9 _ _ _ c l h
  rw [← hn] at hr hl h3' h3 CP CW CT hcase ⊢
  have HN := Lib.hid hn
  have HCP := Lib.hid CP
  have HCW := Lib.hid CW
  have HCR := Lib.hid CR
  have HCO := Lib.hid CO
  have HCB := Lib.hid CB
  have HCT := Lib.hid CT
  have HR := Lib.hid hr
  have HPT := Lib.hid hpt
  have HRT := Lib.hid hrt
  have HCASE := Lib.hid hcase
  have HBG := Lib.hid (show bg = (d.start && decide (d.part = 0)) from hbg)
  have heq := fun wx => neq_plain wx d d
  rw [Dsc.eqb_self, Bool.not_true] at heq
  clear hbg hn CP CW CR CO CB CT hr hpt hrt hcase hfit h3
  go_enter Try.func3, Try.ntmps3
  go_wp2_with fail
  refine (awake_any w).mono ?_
  rintro e w1 ⟨rfl, b1⟩
  have HR1 := Lib.hid (HR.out.below b1 (Nat.le_refl _))
  have HB1 := Lib.hid b1
  clear b1 HR
  go_wp2_with fail
  refine (HCP.out w1 (HR1.out.more HB1.out.size)).mono ?_
  rintro e w2 h2
  obtain ⟨rfl, b2⟩ := told_eq h2
  rw [HPT.out]
  have HB2 := Lib.hid (HB1.out.trans (b2.mono HB1.out.size))
  have HR2 := Lib.hid (HR1.out.below b2 HB1.out.size)
  clear b2 h2 HR1 HB1 HPT HCP
  obtain ⟨more, lone, start, part, hasPic, wide, pic, hasTl0, tl0, hasTid, tid, sync, hasKey, key⟩ := d
  unfold Dsc.cells Dsc.plain at HCO
  unfold Dsc.cells at HCB ⊢
  unfold Dsc.plain at heq
  dsimp only at HCO HCB heq ⊢
  have ht := HCT.out (w2.alloc (.cells #[.bool more, .bool lone, .bool start, .int .u8 (part : Int), .bool hasPic, .bool wide, .int .u16 (pic : Int), .bool hasTl0, .int .u8 (tl0 : Int), .bool hasTid, .int .u8 (tid : Int), .bool sync, .bool hasKey, .int .u8 (key : Int)] 26)) (HR2.out.alloc HB2.out.size _)
  clear HCT
  go_wp2_with fail
  refine (HCR.out _).mono ?_
  rintro e w3 h4
  obtain ⟨rfl, b3⟩ := ref_eq h4
  rw [HRT.out]
  unfold Dsc.plain
  dsimp only
  have HW3 := Lib.hid ((Whole.new w2 26 #[.bool more, .bool lone, .bool start, .int .u8 (part : Int), .bool hasPic, .bool wide, .int .u16 (pic : Int), .bool hasTl0, .int .u8 (tl0 : Int), .bool hasTid, .int .u8 (tid : Int), .bool sync, .bool hasKey, .int .u8 (key : Int)]).below b3 (by simp))
  have HB3 := Lib.hid ((HB2.out.alloc HB2.out.size (.cells #[.bool more, .bool lone, .bool start, .int .u8 (part : Int), .bool hasPic, .bool wide, .int .u16 (pic : Int), .bool hasTl0, .int .u8 (tl0 : Int), .bool hasTid, .int .u8 (tid : Int), .bool sync, .bool hasKey, .int .u8 (key : Int)] 26)).trans (b3.mono (by have := HB2.out.size; simp; omega)))
  have HR3 := Lib.hid ((HR2.out.alloc HB2.out.size (.cells #[.bool more, .bool lone, .bool start, .int .u8 (part : Int), .bool hasPic, .bool wide, .int .u16 (pic : Int), .bool hasTl0, .int .u8 (tl0 : Int), .bool hasTid, .int .u8 (tid : Int), .bool sync, .bool hasKey, .int .u8 (key : Int)] 26)).below b3 (by have := HB2.out.size; simp; omega))
  obtain ⟨g1, hg1⟩ : ∃ g1, g1 = w2.heap.size := ⟨_, rfl⟩
  rw [← hg1] at HW3 ⊢
  have HG1 := Lib.hid (show w.heap.size ≤ g1 from by rw [hg1]; exact HB2.out.size)
  clear b3 h4 ht HR2 HB2 HRT HCR hg1
  go_upto_region 8 with fail
  obtain ⟨w4, hw4⟩ : ∃ w4, w4 = w3.alloc (.cells #[.bool more, .bool lone, .bool start, .int .i64 (part : Int), .bool hasPic, .bool wide, .int .i64 (pic : Int), .bool hasTl0, .int .i64 (tl0 : Int), .bool hasTid, .int .i64 (tid : Int), .bool sync, .bool hasKey, .int .i64 (key : Int)] 31) := ⟨_, rfl⟩
  have HW4 := Lib.hid (show Whole w4 g1 26 #[.bool more, .bool lone, .bool start, .int .u8 (part : Int), .bool hasPic, .bool wide, .int .u16 (pic : Int), .bool hasTl0, .int .u8 (tl0 : Int), .bool hasTid, .int .u8 (tid : Int), .bool sync, .bool hasKey, .int .u8 (key : Int)] from by rw [hw4]; exact HW3.out.alloc _)
  have HV4 := Lib.hid (show Whole w4 w3.heap.size 31 #[.bool more, .bool lone, .bool start, .int .i64 (part : Int), .bool hasPic, .bool wide, .int .i64 (pic : Int), .bool hasTl0, .int .i64 (tl0 : Int), .bool hasTid, .int .i64 (tid : Int), .bool sync, .bool hasKey, .int .i64 (key : Int)] from by rw [hw4]; exact Whole.new _ _ _)
  have HB4 := Lib.hid (show Below w.heap.size w w4 from by rw [hw4]; exact HB3.out.alloc HB3.out.size _)
  have HR4 := Lib.hid (show Row w4 w.heap.size 1 A n (u8s l) from by rw [hw4]; exact HR3.out.alloc HB3.out.size _)
  have hw4' : w3.alloc (.cells #[.bool more, .bool lone, .bool start, .int .i64 (part : Int), .bool hasPic, .bool wide, .int .i64 (pic : Int), .bool hasTl0, .int .i64 (tl0 : Int), .bool hasTid, .int .i64 (tid : Int), .bool sync, .bool hasKey, .int .i64 (key : Int)] 31) = w4 := hw4.symm
  rw [hw4']
  obtain ⟨g2, hg2⟩ : ∃ g2, g2 = w3.heap.size := ⟨_, rfl⟩
  rw [← hg2] at HV4 ⊢
  clear hw4 hw4' hg2 HW3 HB3 HR3
  have k0 : w4.cell? ⟨g1, 0, none⟩ = some (.bool more) := HW4.out.cell 0
  have k1 : w4.cell? ⟨g1, 1, none⟩ = some (.bool lone) := HW4.out.cell 1
  have k2 : w4.cell? ⟨g1, 2, none⟩ = some (.bool start) := HW4.out.cell 2
  have k3 : w4.cell? ⟨g1, 3, none⟩ = some (.int .u8 (part : Int)) := HW4.out.cell 3
  have k4 : w4.cell? ⟨g1, 4, none⟩ = some (.bool hasPic) := HW4.out.cell 4
  have k5 : w4.cell? ⟨g1, 5, none⟩ = some (.bool wide) := HW4.out.cell 5
  have k6 : w4.cell? ⟨g1, 6, none⟩ = some (.int .u16 (pic : Int)) := HW4.out.cell 6
  have k7 : w4.cell? ⟨g1, 7, none⟩ = some (.bool hasTl0) := HW4.out.cell 7
  have k8 : w4.cell? ⟨g1, 8, none⟩ = some (.int .u8 (tl0 : Int)) := HW4.out.cell 8
  have k9 : w4.cell? ⟨g1, 9, none⟩ = some (.bool hasTid) := HW4.out.cell 9
  have k10 : w4.cell? ⟨g1, 10, none⟩ = some (.int .u8 (tid : Int)) := HW4.out.cell 10
  have k11 : w4.cell? ⟨g1, 11, none⟩ = some (.bool sync) := HW4.out.cell 11
  have k12 : w4.cell? ⟨g1, 12, none⟩ = some (.bool hasKey) := HW4.out.cell 12
  have k13 : w4.cell? ⟨g1, 13, none⟩ = some (.int .u8 (key : Int)) := HW4.out.cell 13
  have v0 : w4.cell? ⟨g2, 0, none⟩ = some (.bool more) := HV4.out.cell 0
  have v1 : w4.cell? ⟨g2, 1, none⟩ = some (.bool lone) := HV4.out.cell 1
  have v2 : w4.cell? ⟨g2, 2, none⟩ = some (.bool start) := HV4.out.cell 2
  have v3 : w4.cell? ⟨g2, 3, none⟩ = some (.int .i64 (part : Int)) := HV4.out.cell 3
  have v4 : w4.cell? ⟨g2, 4, none⟩ = some (.bool hasPic) := HV4.out.cell 4
  have v5 : w4.cell? ⟨g2, 5, none⟩ = some (.bool wide) := HV4.out.cell 5
  have v6 : w4.cell? ⟨g2, 6, none⟩ = some (.int .i64 (pic : Int)) := HV4.out.cell 6
  have v7 : w4.cell? ⟨g2, 7, none⟩ = some (.bool hasTl0) := HV4.out.cell 7
  have v8 : w4.cell? ⟨g2, 8, none⟩ = some (.int .i64 (tl0 : Int)) := HV4.out.cell 8
  have v9 : w4.cell? ⟨g2, 9, none⟩ = some (.bool hasTid) := HV4.out.cell 9
  have v10 : w4.cell? ⟨g2, 10, none⟩ = some (.int .i64 (tid : Int)) := HV4.out.cell 10
  have v11 : w4.cell? ⟨g2, 11, none⟩ = some (.bool sync) := HV4.out.cell 11
  have v12 : w4.cell? ⟨g2, 12, none⟩ = some (.bool hasKey) := HV4.out.cell 12
  have v13 : w4.cell? ⟨g2, 13, none⟩ = some (.int .i64 (key : Int)) := HV4.out.cell 13
  have hl1 : g1 < w4.heap.size := HW4.out.lt
  have hl2 : g2 < w4.heap.size := HV4.out.lt
  go_region_held3 (fun w' => w'.cell? ⟨g1, 0, none⟩ = some (.bool more) ∧ w'.cell? ⟨g1, 1, none⟩ = some (.bool lone) ∧ w'.cell? ⟨g1, 2, none⟩ = some (.bool start) ∧ w'.cell? ⟨g1, 3, none⟩ = some (.int .u8 (part : Int)) ∧ w'.cell? ⟨g1, 4, none⟩ = some (.bool hasPic) ∧ w'.cell? ⟨g1, 5, none⟩ = some (.bool wide) ∧ w'.cell? ⟨g1, 6, none⟩ = some (.int .u16 (pic : Int)) ∧ w'.cell? ⟨g1, 7, none⟩ = some (.bool hasTl0) ∧ w'.cell? ⟨g1, 8, none⟩ = some (.int .u8 (tl0 : Int)) ∧ w'.cell? ⟨g1, 9, none⟩ = some (.bool hasTid) ∧ w'.cell? ⟨g1, 10, none⟩ = some (.int .u8 (tid : Int)) ∧ w'.cell? ⟨g1, 11, none⟩ = some (.bool sync) ∧ w'.cell? ⟨g1, 12, none⟩ = some (.bool hasKey) ∧ w'.cell? ⟨g1, 13, none⟩ = some (.int .u8 (key : Int)) ∧ w'.cell? ⟨g2, 0, none⟩ = some (.bool more) ∧ w'.cell? ⟨g2, 1, none⟩ = some (.bool lone) ∧ w'.cell? ⟨g2, 2, none⟩ = some (.bool start) ∧ w'.cell? ⟨g2, 3, none⟩ = some (.int .i64 (part : Int)) ∧ w'.cell? ⟨g2, 4, none⟩ = some (.bool hasPic) ∧ w'.cell? ⟨g2, 5, none⟩ = some (.bool wide) ∧ w'.cell? ⟨g2, 6, none⟩ = some (.int .i64 (pic : Int)) ∧ w'.cell? ⟨g2, 7, none⟩ = some (.bool hasTl0) ∧ w'.cell? ⟨g2, 8, none⟩ = some (.int .i64 (tl0 : Int)) ∧ w'.cell? ⟨g2, 9, none⟩ = some (.bool hasTid) ∧ w'.cell? ⟨g2, 10, none⟩ = some (.int .i64 (tid : Int)) ∧ w'.cell? ⟨g2, 11, none⟩ = some (.bool sync) ∧ w'.cell? ⟨g2, 12, none⟩ = some (.bool hasKey) ∧ w'.cell? ⟨g2, 13, none⟩ = some (.int .i64 (key : Int)))
    (first | exact ⟨k0, k1, k2, k3, k4, k5, k6, k7, k8, k9, k10, k11, k12, k13, v0, v1, v2, v3, v4, v5, v6, v7, v8, v9, v10, v11, v12, v13⟩ | go_keep)
    ((go_at_call 13; refine (HCO.out _).mono ?_; rintro e w' ⟨rfl, rfl⟩))
  obtain ⟨w5, hw5⟩ : ∃ w5, w5 = ((w4.alloc (.cells #[.bool more, .bool lone, .bool start, .int .u8 (part : Int), .bool hasPic, .bool wide, .int .u16 (pic : Int), .bool hasTl0, .int .u8 (tl0 : Int), .bool hasTid, .int .u8 (tid : Int), .bool sync, .bool hasKey, .int .u8 (key : Int)] 26)).alloc (.cells #[.bool more, .bool lone, .bool start, .int .i64 (part : Int), .bool hasPic, .bool wide, .int .i64 (pic : Int), .bool hasTl0, .int .i64 (tl0 : Int), .bool hasTid, .int .i64 (tid : Int), .bool sync, .bool hasKey, .int .i64 (key : Int)] 31)).drew := ⟨_, rfl⟩
  have HW5 := Lib.hid (show Whole w5 g1 26 #[.bool more, .bool lone, .bool start, .int .u8 (part : Int), .bool hasPic, .bool wide, .int .u16 (pic : Int), .bool hasTl0, .int .u8 (tl0 : Int), .bool hasTid, .int .u8 (tid : Int), .bool sync, .bool hasKey, .int .u8 (key : Int)] from by rw [hw5]; exact ((HW4.out.alloc _).alloc _).drew)
  have HV5 := Lib.hid (show Whole w5 g2 31 #[.bool more, .bool lone, .bool start, .int .i64 (part : Int), .bool hasPic, .bool wide, .int .i64 (pic : Int), .bool hasTl0, .int .i64 (tl0 : Int), .bool hasTid, .int .i64 (tid : Int), .bool sync, .bool hasKey, .int .i64 (key : Int)] from by rw [hw5]; exact ((HV4.out.alloc _).alloc _).drew)
  have HB5 := Lib.hid (show Below w.heap.size w w5 from by rw [hw5]; exact bdrewN ((HB4.out.alloc HB4.out.size _).alloc (HB4.out.alloc HB4.out.size _).size _) 1)
  have HR5 := Lib.hid (show Row w5 w.heap.size 1 A n (u8s l) from by rw [hw5]; exact ((HR4.out.alloc HB4.out.size _).alloc (HB4.out.alloc HB4.out.size _).size _).drew)
  rw [← hw5]
  clear hw5 HW4 HV4 HB4 HR4 HCO heq hl1 hl2 k0 k1 k2 k3 k4 k5 k6 k7 k8 k9 k10 k11 k12 k13 v0 v1 v2 v3 v4 v5 v6 v7 v8 v9 v10 v11 v12 v13
  have k0 : w5.cell? ⟨g1, 0, none⟩ = some (.bool more) := HW5.out.cell 0
  have k1 : w5.cell? ⟨g1, 1, none⟩ = some (.bool lone) := HW5.out.cell 1
  have k2 : w5.cell? ⟨g1, 2, none⟩ = some (.bool start) := HW5.out.cell 2
  have k3 : w5.cell? ⟨g1, 3, none⟩ = some (.int .u8 (part : Int)) := HW5.out.cell 3
  have k4 : w5.cell? ⟨g1, 4, none⟩ = some (.bool hasPic) := HW5.out.cell 4
  have k5 : w5.cell? ⟨g1, 5, none⟩ = some (.bool wide) := HW5.out.cell 5
  have k6 : w5.cell? ⟨g1, 6, none⟩ = some (.int .u16 (pic : Int)) := HW5.out.cell 6
  have k7 : w5.cell? ⟨g1, 7, none⟩ = some (.bool hasTl0) := HW5.out.cell 7
  have k8 : w5.cell? ⟨g1, 8, none⟩ = some (.int .u8 (tl0 : Int)) := HW5.out.cell 8
  have k9 : w5.cell? ⟨g1, 9, none⟩ = some (.bool hasTid) := HW5.out.cell 9
  have k10 : w5.cell? ⟨g1, 10, none⟩ = some (.int .u8 (tid : Int)) := HW5.out.cell 10
  have k11 : w5.cell? ⟨g1, 11, none⟩ = some (.bool sync) := HW5.out.cell 11
  have k12 : w5.cell? ⟨g1, 12, none⟩ = some (.bool hasKey) := HW5.out.cell 12
  have k13 : w5.cell? ⟨g1, 13, none⟩ = some (.int .u8 (key : Int)) := HW5.out.cell 13
  have v2 : w5.cell? ⟨g2, 2, none⟩ = some (.bool start) := HV5.out.cell 2
  have v3 : w5.cell? ⟨g2, 3, none⟩ = some (.int .i64 (part : Int)) := HV5.out.cell 3
  have hl1 : g1 < w5.heap.size := HW5.out.lt
  have hl2 : g2 < w5.heap.size := HV5.out.lt
  have HWX := Lib.hid (HCW.out (w5.alloc (.cells #[.bool more, .bool lone, .bool start, .int .u8 (part : Int), .bool hasPic, .bool wide, .int .u16 (pic : Int), .bool hasTl0, .int .u8 (tl0 : Int), .bool hasTid, .int .u8 (tid : Int), .bool sync, .bool hasKey, .int .u8 (key : Int)] 26)) ((HR5.out.alloc HB5.out.size _).more (HB5.out.alloc HB5.out.size _).size))
  have HRX := Lib.hid (HR5.out.alloc HB5.out.size (.cells #[.bool more, .bool lone, .bool start, .int .u8 (part : Int), .bool hasPic, .bool wide, .int .u16 (pic : Int), .bool hasTl0, .int .u8 (tl0 : Int), .bool hasTid, .int .u8 (tid : Int), .bool sync, .bool hasKey, .int .u8 (key : Int)] 26))
  have HBX := Lib.hid (HB5.out.alloc HB5.out.size (.cells #[.bool more, .bool lone, .bool start, .int .u8 (part : Int), .bool hasPic, .bool wide, .int .u16 (pic : Int), .bool hasTl0, .int .u8 (tl0 : Int), .bool hasTid, .int .u8 (tid : Int), .bool sync, .bool hasKey, .int .u8 (key : Int)] 26))
  clear HCW HW5 HV5 HB5 HR5
  rcases HCASE.out with ⟨rfl, r, hp, hnn, hws, hrl, hdrop⟩ | ⟨rfl, hd0, hws⟩
  · obtain ⟨m, hm⟩ : ∃ m : Nat, m = n - r.length := ⟨_, rfl⟩
    obtain rfl : nn = (m : Int) := by omega
    have hnl : n = l.length := HN.out
    cases bg with
    | false =>
      have HWS := Lib.hid (show wholeS l = false from by rw [hws]; rfl)
      clear HCASE hp hnn hws hrl hdrop hm hnl
      cases start with
      | false =>
        clear HBG HN
        go_wp2_with (go_at_call 14; refine (HCB.out _).mono ?_; rintro e w' ⟨rfl, rfl⟩)
        refine HWX.out.mono ?_
        rintro e w6 ⟨rfl, b6⟩
        rw [HWS.out]
        have HB6 := Lib.hid (HBX.out.trans (b6.mono HBX.out.size))
        clear b6 HWX HRX HBX HWS HCB
        go_wp2
        all_goals go_ret
        all_goals exact ⟨by first | rfl | simp, HB6.out⟩
      | true =>
        have hq : ((part : Int) == 0) = false := by
          have := HBG.out
          simp at this
          simp
          omega
        have hq2 : decide ((part : Int) = 0) = false := by simpa using hq
        clear HBG HN
        go_wp2_with (go_at_call 14; refine (HCB.out _).mono ?_; rintro e w' ⟨rfl, rfl⟩)
        refine HWX.out.mono ?_
        rintro e w6 ⟨rfl, b6⟩
        rw [HWS.out]
        have HB6 := Lib.hid (HBX.out.trans (b6.mono HBX.out.size))
        clear b6 HWX HRX HBX HWS HCB
        go_wp2
        all_goals go_ret
        all_goals exact ⟨by first | rfl | simp, HB6.out⟩
    | true =>
      obtain ⟨hst, hpt⟩ : start = true ∧ part = 0 := by
        have := HBG.out
        simpa using this
      subst hst
      have hq : ((part : Int) == 0) = true := by rw [hpt]; rfl
      have hq2 : decide ((part : Int) = 0) = true := by rw [hpt]; rfl
      cases r with
      | nil =>
        have HWS := Lib.hid (show wholeS l = false from by rw [hws]; rfl)
        have hnm : ¬ (m : Int) < (n : Int) := by simp at hm; omega
        clear HCASE hp hnn hws hrl hdrop hm hnl hpt
        clear HBG HN
        go_wp2_with (go_at_call 14; refine (HCB.out _).mono ?_; rintro e w' ⟨rfl, rfl⟩)
        refine HWX.out.mono ?_
        rintro e w6 ⟨rfl, b6⟩
        rw [HWS.out]
        have HB6 := Lib.hid (HBX.out.trans (b6.mono HBX.out.size))
        clear b6 HWX HRX HBX HWS HCB
        go_wp2
        all_goals go_ret
        all_goals exact ⟨by first | rfl | simp, HB6.out⟩
      | cons y l1 =>
        have hlt : m < n := by simp at hm hrl; omega
        have h1 := (drop_at hdrop).1
        rw [← hm] at h1
        obtain ⟨g, o, hA, _, hc0⟩ := HRX.out.2 (by omega)
        subst hA
        have hget : ∀ w', Below (w5.alloc (.cells #[.bool more, .bool lone, .bool true, .int .u8 (part : Int), .bool hasPic, .bool wide, .int .u16 (pic : Int), .bool hasTl0, .int .u8 (tl0 : Int), .bool hasTid, .int .u8 (tid : Int), .bool sync, .bool hasKey, .int .u8 (key : Int)] 26)).heap.size (w5.alloc (.cells #[.bool more, .bool lone, .bool true, .int .u8 (part : Int), .bool hasPic, .bool wide, .int .u16 (pic : Int), .bool hasTl0, .int .u8 (tl0 : Int), .bool hasTid, .int .u8 (tid : Int), .bool sync, .bool hasKey, .int .u8 (key : Int)] 26)) w' → w'.cell? ⟨g, o + m, none⟩ = some (.int .u8 (y.toNat : Int)) := by
          intro w' hb
          obtain ⟨g', o', e', _, hc'⟩ := (HRX.out.below hb HBX.out.size).2 (by omega)
          injection e' with e'
          injection e' with e1 e2
          subst e1 e2
          refine hc' _ _ ?_
          unfold u8s
          rw [List.getElem?_map, h1]
          rfl
        have HGET := Lib.hid hget
        have hnm : (m : Int) < (n : Int) := by omega
        have hm0 : (0 : Int) ≤ (m : Int) := by omega
        have hy := y.toNat_lt
        have HWS := Lib.hid (show wholeS l = ((y.toNat : Int) % 2 == 0) from by
          rw [hws, Bool.true_and]
          unfold evenS
          by_cases hv : y.toNat % 2 = 0
          · have hv' : (y.toNat : Int) % 2 = 0 := by omega
            simp [hv, hv']
          · have hv' : ¬ (y.toNat : Int) % 2 = 0 := by omega
            simp [hv, hv'])
        clear HCASE hp hnn hws hrl hdrop hm hnl hpt h1 hget hc0
        generalize y.toNat = v at *
        clear HBG HN
        go_wp2_with (go_at_call 14; refine (HCB.out _).mono ?_; rintro e w' ⟨rfl, rfl⟩)
        refine HWX.out.mono ?_
        rintro e w6 ⟨rfl, b6⟩
        rw [HWS.out]
        have hc1 := HGET.out w6 b6
        clear HGET
        have HB6 := Lib.hid (HBX.out.trans (b6.mono HBX.out.size))
        clear b6 HWX HRX HBX HWS HCB
        go_wp2
        all_goals go_ret
        all_goals exact ⟨by first | rfl | simp, HB6.out⟩
  · have hds : start = false ∧ nn = nn := by
      unfold dsc0 at hd0
      injection hd0
      exact ⟨by assumption, rfl⟩
    obtain ⟨hst, _⟩ := hds
    subst hst
    have hbb : bg = false := by have := HBG.out; simpa using this
    subst hbb
    have HWS := Lib.hid hws
    clear HCASE hd0 hws
    clear HBG HN
    go_wp2_with (go_at_call 14; refine (HCB.out _).mono ?_; rintro e w' ⟨rfl, rfl⟩)
    refine HWX.out.mono ?_
    rintro e w6 ⟨rfl, b6⟩
    rw [HWS.out]
    have HB6 := Lib.hid (HBX.out.trans (b6.mono HBX.out.size))
    clear b6 HWX HRX HBX HWS HCB
    go_wp2
    all_goals go_ret
    all_goals exact ⟨by first | rfl | simp, HB6.out⟩

set_option maxRecDepth 100000 in
theorem lifted (os : Os) (started : os.Started) (H : Type) (enc : TypeId × Value → H) :
    ReturnsInHanded {} Try.checked os 3 .any (Rows.vp8ParsesSpec.pre6 enc Try.prog Try.f3 Rows.vp8ParsesRow.domain false) (Rows.vp8ParsesSpec.post enc Try.prog Try.f3 false true false false) := by
  refine returnsInHanded_of_change (C := Try.checked) own started (by kernel_rfl) Try.func3
    (ChangeSpec.witness6 (enc := enc) (C := Try.checked) false ⟨#[], #[.slice none 0 0], []⟩ 8 (by kernel_rfl) (by kernel_rfl) (by kernel_rfl) (by kernel_rfl)) ?_
  intro W base args ds gs before hval0 hW _ _
  have hval : ∀ (j : Nat) t v, Try.f3.params[j]? = some t → args[j]? = some v → Value.okWide Try.prog W .any base t v := hval0
  have hW' := hW
  obtain ⟨p, q, hA0, hV, _, _, _⟩ := hW
  have hA : DataW.TrodAll enc Try.prog W 0 (fun _ => true) true Try.f3.params.toList args.toList ds p := hA0
  rw [Try.params3] at hA hval
  obtain ⟨v0, vs0, d0, ds0, p0, q0, hargs, rfl, _, h0, r0⟩ := trodAll_cons hA
  obtain ⟨rfl, rfl, _⟩ := trodAll_nil r0
  obtain rfl : args = #[v0] := by cases args; simp_all
  obtain ⟨rfl, _⟩ := trodVars_none hV
  refine law_post (s := Rows.vp8ParsesSpec) rfl rfl (by rw [Try.params3]; intro t ht; simp at ht; rcases ht with rfl <;> exact ⟨by kernel_rfl, of_decide_eq_true (by kernel_rfl)⟩) rfl hW' ?_
  obtain ⟨A0, c0, l0, rfl, hl0, hr0, _⟩ := open_bytes (hval 0 22 v0 rfl rfl) h0
  exact walk W A0 c0 l0 hl0 hr0

theorem over : Rows.vp8ParsesRow.holds Try.pinned (OpenSpec.ofChange Rows.vp8ParsesSpec) :=
  OpenClaim.holds_of_wide 3 Try.f3 rfl rfl rfl rfl rfl rfl rfl ⟨rfl, rfl, rfl, rfl, rfl⟩ rfl rfl rfl rfl rfl (by kernel_rfl) Try.func3 (by kernel_rfl)
    (of_decide_eq_true (by kernel_rfl)) (by unfold Func.isWrapper; first | (rw [if_pos (by decide +kernel)]; kernel_rfl) | (rw [if_neg (by decide +kernel)]; exact ⟨rfl, rfl⟩))
    (fun os started H enc _ => lifted os started H enc)

/-- The statement. -/
theorem vp8Parses_holds : Rows.Vp8ParsesSaid := over

end Go.Proofs.Ytliiodjcpkabmaa.VParses
