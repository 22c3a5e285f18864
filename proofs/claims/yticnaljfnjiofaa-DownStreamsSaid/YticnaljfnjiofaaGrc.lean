/-
  Several texts in one (RpC, RpD, RpE): what each of them says stands at its head.
-/
import Derived.Test.YticnaljfnjiofaaRpB
import Derived.Test.YticnaljfnjiofaaGoc
import Derived.Deep.CutBlock
import Derived.Deep.DeepCutAuto
import Derived.Deep.RegionHeld3
import Derived.Test.YticnaljfnjiofaaGpl
/-
  The code's Put of rtp (layer 6).
-/
namespace Go.Proofs.Yticnaljfnjiofaa
open Go.RowKit
set_option linter.unusedSimpArgs false
set_option linter.unusedVariables false

def PutR (p : Mp) (w : World) (e : Ending) (w' : World) : Prop :=
  ∃ A c, e = .returned (.tuple #[.slice A p.bytes.length c, .int .i64 p.err]) ∧ Row w' w'.heap.size 1 A p.bytes.length (u8s p.bytes) ∧ Below w.heap.size w w' ∧ (∀ a, A = some a → w.heap.size ≤ a.block) ∧ p.bytes.length ≤ c ∧ c ≤ maxLen
theorem PutR.bad {p : Mp} {w w' : World} {er : Int} (h : p.err = er) (hne : er ≠ 0) (hb : Below w.heap.size w w') : PutR p w (.returned (.tuple #[.slice none 0 0, .int .i64 er])) w' := by
  have e : p.bytes = [] := by unfold Mp.bytes; rw [if_pos (by rw [h]; exact hne)]
  exact ⟨none, 0, by rw [e, h]; rfl, by rw [e]; exact Row.nil, hb, (fun a h => by cases h), (by rw [e]; exact Nat.le_refl 0), by decide⟩
theorem Mp.err_one {p : Mp} (h : 127 < p.typ ∨ 15 < p.csrc.length ∨ p.pad < 0 ∨ 255 < p.pad) : p.err = 1 := by unfold Mp.err; rw [if_pos h]
theorem Mp.err_ext {p : Mp} (h : ¬ (127 < p.typ ∨ 15 < p.csrc.length ∨ p.pad < 0 ∨ 255 < p.pad)) (h2 : putE p.exts ≠ 0) : p.err = putE p.exts := by unfold Mp.err; rw [if_neg h, if_pos h2]
theorem Mp.err_big {p : Mp} (h : ¬ (127 < p.typ ∨ 15 < p.csrc.length ∨ p.pad < 0 ∨ 255 < p.pad)) (h2 : putE p.exts = 0) : p.err = if 1500 < (headN p.csrc.length p.exts : Int) + p.pay.length + p.pad then 13 else 0 := by unfold Mp.err; rw [if_neg h, if_neg (by simp [h2])]

set_option maxRecDepth 100000 in
set_option maxHeartbeats 3200000 in
theorem rput_bad (p : Mp) (A1 A2 A3 : Option Addr) (c1 c2 c3 : Nat) (w : World) (hb : 127 < p.typ ∨ 15 < p.csrc.length ∨ p.pad < 0 ∨ 255 < p.pad) :
    Calls Try.prog 51 #[.agg (p.cells A1 c1 A2 c2 A3 c3)] w (PutR p w) := by
  have HE := Lib.hid (Mp.err_one hb)
  have HBAD := Lib.hid (fun w' (h : Below w.heap.size w w') => PutR.bad (w' := w') HE.out (by decide) h)
  obtain ⟨P, hP⟩ : ∃ P, PutR p w = P := ⟨_, rfl⟩
  rw [hP] at HBAD ⊢
  clear HE hP
  obtain ⟨mk, ty, sq, tm, sr, cs, ex, py, pd⟩ := p
  dsimp only [Mp.cells] at *
  obtain ⟨n1, hn1⟩ : ∃ n, cs.length = n := ⟨_, rfl⟩
  obtain ⟨n2, hn2⟩ : ∃ n, ex.length = n := ⟨_, rfl⟩
  obtain ⟨n3, hn3⟩ : ∃ n, py.length = n := ⟨_, rfl⟩
  rw [hn1] at hb
  rw [hn1, hn2, hn3]
  clear hn1 hn2 hn3
  have HB := Lib.hid ((Below.refl w.heap.size w).alloc (Nat.le_refl _) (.cells #[.bool mk, .int .u8 (ty : Int), .int .u16 (sq : Int), .int .u32 (tm : Int), .int .u32 (sr : Int), .slice A1 n1 c1, .slice A2 n2 c2, .slice A3 n3 c3, .int .i64 pd] 35))
  have HH := Lib.hid hb
  clear hb
  by_cases e1 : 127 < ty
  · go_enter Try.func51, Try.ntmps51
    go_wp2
    exact HBAD.out _ HB.out
  by_cases e2 : 15 < n1
  · go_enter Try.func51, Try.ntmps51
    go_wp2
    exact HBAD.out _ HB.out
  by_cases e3 : pd < 0
  · go_enter Try.func51, Try.ntmps51
    go_wp2
    exact HBAD.out _ HB.out
  have e4 : 255 < pd := by have := HH.out; omega
  go_enter Try.func51, Try.ntmps51
  go_wp2
  exact HBAD.out _ HB.out

set_option maxRecDepth 100000 in
set_option maxHeartbeats 3200000 in
theorem rput_ext (p : Mp) (A1 A2 A3 : Option Addr) (c1 c2 c3 : Nat) (ps : List Ip) (w : World) (hg : ¬ (127 < p.typ ∨ 15 < p.csrc.length ∨ p.pad < 0 ∨ 255 < p.pad)) (hi : Its w A2 ps) (hp : ps.map Ip.it = p.exts) (hl : ps.length ≤ maxLen) (he : putE p.exts ≠ 0) :
    Calls Try.prog 51 #[.agg (p.cells A1 c1 A2 c2 A3 c3)] w (PutR p w) := by
  have HE := Lib.hid (Mp.err_ext hg he)
  have HBAD := Lib.hid (fun w' (h : Below w.heap.size w w') => PutR.bad (w' := w') HE.out he h)
  obtain ⟨P, hP⟩ : ∃ P, PutR p w = P := ⟨_, rfl⟩
  rw [hP] at HBAD ⊢
  clear HE hP
  obtain ⟨mk, ty, sq, tm, sr, cs, ex, py, pd⟩ := p
  dsimp only [Mp.cells] at *
  have hln : ex.length = ps.length := by rw [← hp]; simp
  obtain ⟨n1, hn1⟩ : ∃ n, cs.length = n := ⟨_, rfl⟩
  obtain ⟨n2, hn2⟩ : ∃ n, ps.length = n := ⟨_, rfl⟩
  obtain ⟨n3, hn3⟩ : ∃ n, py.length = n := ⟨_, rfl⟩
  have HB := Lib.hid ((Below.refl w.heap.size w).alloc (Nat.le_refl _) (.cells #[.bool mk, .int .u8 (ty : Int), .int .u16 (sq : Int), .int .u32 (tm : Int), .int .u32 (sr : Int), .slice A1 n1 c1, .slice A2 n2 c2, .slice A3 n3 c3, .int .i64 pd] 35))
  have C := extPut_any A2 c2 ps (w.alloc (.cells #[.bool mk, .int .u8 (ty : Int), .int .u16 (sq : Int), .int .u32 (tm : Int), .int .u32 (sr : Int), .slice A1 n1 c1, .slice A2 n2 c2, .slice A3 n3 c3, .int .i64 pd] 35)) (hi.next HB.out) hl
  rw [hp] at C
  obtain ⟨EE, hEE⟩ : ∃ e, putE ex = e := ⟨_, rfl⟩
  unfold PutTold at C
  rw [hEE] at C he HBAD
  rw [hn1] at hg
  rw [hn1, hln, hn2, hn3]
  rw [hn2] at C
  have C := Lib.hid C
  clear hn1 hn2 hn3 hln hi hp hl hEE
  have e1 : ¬ 127 < ty := fun h => hg (.inl h)
  have e2 : ¬ 15 < n1 := fun h => hg (.inr (.inl h))
  have e3 : ¬ pd < 0 := fun h => hg (.inr (.inr (.inl h)))
  have e4 : ¬ 255 < pd := fun h => hg (.inr (.inr (.inr h)))
  clear hg
  go_enter Try.func51, Try.ntmps51
  go_wp2_with fail
  refine C.out.mono ?_
  rintro e w1 ⟨A4, c4, rfl, hr4, b1⟩
  have HB1 := Lib.hid (HB.out.trans (b1.mono HB.out.size))
  have hne : (EE == 0) = false := by simp [he]
  have HNE := Lib.hid he
  clear hr4 b1 HB C he
  go_wp2
  exact HBAD.out _ HB1.out
end Go.Proofs.Yticnaljfnjiofaa
/-
  The code's Put of rtp (layer 6): a packet that is too big.
-/
namespace Go.Proofs.Yticnaljfnjiofaa
open Go.RowKit
set_option linter.unusedSimpArgs false
set_option linter.unusedVariables false

set_option maxRecDepth 100000 in
set_option maxHeartbeats 3200000 in
theorem rput_big (p : Mp) (A1 A2 A3 : Option Addr) (c1 c2 c3 : Nat) (ps : List Ip) (w : World) (hg : ¬ (127 < p.typ ∨ 15 < p.csrc.length ∨ p.pad < 0 ∨ 255 < p.pad)) (hi : Its w A2 ps) (hp : ps.map Ip.it = p.exts) (hl : ps.length ≤ maxLen) (he : putE p.exts = 0) (hpl : p.pay.length ≤ 140737488355328)
    (hb : 1500 < (headN p.csrc.length p.exts : Int) + p.pay.length + p.pad) :
    Calls Try.prog 51 #[.agg (p.cells A1 c1 A2 c2 A3 c3)] w (PutR p w) := by
  have HE := Lib.hid (show p.err = 13 by rw [Mp.err_big hg he, if_pos hb])
  have HBAD := Lib.hid (fun w' (h : Below w.heap.size w w') => PutR.bad (w' := w') HE.out (by decide) h)
  obtain ⟨P, hP⟩ : ∃ P, PutR p w = P := ⟨_, rfl⟩
  rw [hP] at HBAD ⊢
  clear HE hP
  obtain ⟨mk, ty, sq, tm, sr, cs, ex, py, pd⟩ := p
  dsimp only [Mp.cells] at *
  have hln : ex.length = ps.length := by rw [← hp]; simp
  have HB := Lib.hid ((Below.refl w.heap.size w).alloc (Nat.le_refl _) (.cells #[.bool mk, .int .u8 (ty : Int), .int .u16 (sq : Int), .int .u32 (tm : Int), .int .u32 (sr : Int), .slice A1 cs.length c1, .slice A2 ex.length c2, .slice A3 py.length c3, .int .i64 pd] 35))
  have C := extPut_any A2 c2 ps (w.alloc (.cells #[.bool mk, .int .u8 (ty : Int), .int .u16 (sq : Int), .int .u32 (tm : Int), .int .u32 (sr : Int), .slice A1 cs.length c1, .slice A2 ex.length c2, .slice A3 py.length c3, .int .i64 pd] 35)) (hi.next HB.out) hl
  have CS := fun w' (hb' : Below w.heap.size w w') => rsize_any mk (ty : Int) (sq : Int) (tm : Int) (sr : Int) A1 A2 cs.length c1 c2 ps w' (by omega) (hi.next hb') hl
  rw [hp] at C CS
  have hsz := putB_small_len ex
  have hhd : headN cs.length ex ≤ 7000 := by unfold headN; split <;> omega
  obtain ⟨HD, hHD⟩ : ∃ h, headN cs.length ex = h := ⟨_, rfl⟩
  rw [hHD] at hb hhd CS
  unfold PutTold at C
  rw [he] at C
  obtain ⟨n1, hn1⟩ : ∃ n, cs.length = n := ⟨_, rfl⟩
  obtain ⟨n2, hn2⟩ : ∃ n, ps.length = n := ⟨_, rfl⟩
  obtain ⟨n3, hn3⟩ : ∃ n, py.length = n := ⟨_, rfl⟩
  rw [hn1] at hg CS C HB
  rw [hn1, hln, hn2, hn3]
  rw [hn2] at C CS
  rw [hln, hn2, hn3] at C HB
  rw [hn3] at hb hpl
  have C := Lib.hid C
  have CS := Lib.hid CS
  clear hn1 hn2 hn3 hln hi hp hl hHD he hsz
  have e1 : ¬ 127 < ty := fun h => hg (.inl h)
  have e2 : ¬ 15 < n1 := fun h => hg (.inr (.inl h))
  have e3 : ¬ pd < 0 := fun h => hg (.inr (.inr (.inl h)))
  have e4 : ¬ 255 < pd := fun h => hg (.inr (.inr (.inr h)))
  clear hg
  have HW := Lib.hid (Whole.new w 35 #[.bool mk, .int .u8 (ty : Int), .int .u16 (sq : Int), .int .u32 (tm : Int), .int .u32 (sr : Int), .slice A1 n1 c1, .slice A2 n2 c2, .slice A3 n3 c3, .int .i64 pd])
  go_enter Try.func51, Try.ntmps51
  go_wp2_with fail
  refine C.out.mono ?_
  rintro e w1 ⟨A4, c4, rfl, hr4, b1⟩
  have HB1 := Lib.hid (HB.out.trans (b1.mono HB.out.size))
  have HW1 := Lib.hid (HW.out.below b1 HW.out.lt)
  clear hr4 b1 HB C HW
  go_upto_region 6 with fail
  have KS := Lib.hid (fun w' (b' : Below w1.heap.size w1 w') => show (fun w' => w'.cell? ⟨w.heap.size, 0, none⟩ = some (.bool mk) ∧ w'.cell? ⟨w.heap.size, 1, none⟩ = some (.int .u8 (ty : Int)) ∧ w'.cell? ⟨w.heap.size, 2, none⟩ = some (.int .u16 (sq : Int)) ∧ w'.cell? ⟨w.heap.size, 3, none⟩ = some (.int .u32 (tm : Int)) ∧ w'.cell? ⟨w.heap.size, 4, none⟩ = some (.int .u32 (sr : Int)) ∧ w'.cell? ⟨w.heap.size, 5, none⟩ = some (.slice A1 n1 c1) ∧ w'.cell? ⟨w.heap.size, 6, none⟩ = some (.slice A2 n2 c2) ∧ w'.cell? ⟨w.heap.size, 7, none⟩ = some (.slice A3 n3 c3) ∧ w'.cell? ⟨w.heap.size, 8, none⟩ = some (.int .i64 pd)) w' from ⟨(HW1.out.below b' HW1.out.lt).cell 0, (HW1.out.below b' HW1.out.lt).cell 1, (HW1.out.below b' HW1.out.lt).cell 2, (HW1.out.below b' HW1.out.lt).cell 3, (HW1.out.below b' HW1.out.lt).cell 4, (HW1.out.below b' HW1.out.lt).cell 5, (HW1.out.below b' HW1.out.lt).cell 6, (HW1.out.below b' HW1.out.lt).cell 7, (HW1.out.below b' HW1.out.lt).cell 8⟩)
  have hK0 := KS.out w1 (Below.refl _ _)
  go_region_held3 (fun w' => w'.cell? ⟨w.heap.size, 0, none⟩ = some (.bool mk) ∧ w'.cell? ⟨w.heap.size, 1, none⟩ = some (.int .u8 (ty : Int)) ∧ w'.cell? ⟨w.heap.size, 2, none⟩ = some (.int .u16 (sq : Int)) ∧ w'.cell? ⟨w.heap.size, 3, none⟩ = some (.int .u32 (tm : Int)) ∧ w'.cell? ⟨w.heap.size, 4, none⟩ = some (.int .u32 (sr : Int)) ∧ w'.cell? ⟨w.heap.size, 5, none⟩ = some (.slice A1 n1 c1) ∧ w'.cell? ⟨w.heap.size, 6, none⟩ = some (.slice A2 n2 c2) ∧ w'.cell? ⟨w.heap.size, 7, none⟩ = some (.slice A3 n3 c3) ∧ w'.cell? ⟨w.heap.size, 8, none⟩ = some (.int .i64 pd))
    (first | exact KS.out _ BV1 | exact KS.out _ (Below.refl _ _).drew | exact hK0)
    (first | (go_at_call 73; refine (CS.out _ (HB1.out.trans ((Below.refl w1.heap.size w1).drew.mono HB1.out.size))).mono ?_; rintro e v1 ⟨rfl, bv1⟩; have BV1 := (Below.refl w1.heap.size w1).drew.trans bv1))
  have HF := Lib.hid (HB1.out.trans (BV1.mono HB1.out.size))
  have e5 : IntKind.i64.wrap ((HD : Int) + (n3 : Int)) = (HD : Int) + (n3 : Int) := by simp only [IntKind.wrap, IntKind.bits, IntKind.signed]; simp; omega
  have e6 : IntKind.i64.wrap ((HD : Int) + (n3 : Int) + pd) = (HD : Int) + (n3 : Int) + pd := by simp only [IntKind.wrap, IntKind.bits, IntKind.signed]; simp; omega
  have et : decide (1500 < IntKind.i64.wrap (IntKind.i64.wrap ((HD : Int) + (n3 : Int)) + pd)) = true := by rw [e5, e6]; exact decide_eq_true hb
  rw [et]
  clear bv1 BV1 hK0 KS CS et e5 e6
  go_wp2
  exact HBAD.out _ HF.out
end Go.Proofs.Yticnaljfnjiofaa
/-
  The code's Put of rtp (layer 6): a packet that is put.
-/
namespace Go.Proofs.Yticnaljfnjiofaa
open Go.RowKit
set_option linter.unusedSimpArgs false
set_option linter.unusedVariables false

theorem own_belowE {w w' : World} {base : Nat} {e : TypeId} {z n : Nat} {v : Value} {xs : List Value} (h : w.ownsRow base e z v n xs) (k : Below w.heap.size w w') : w'.ownsRow base e z v n xs :=
  h.kept (row := none) ⟨k.os, k.tape, k.output, k.size, fun i hi _ => k.block i (by omega)⟩ (by cases v.ownBlock <;> simp)
theorem own_baseE {w : World} {b b' : Nat} {e : TypeId} {z n : Nat} {v : Value} {xs : List Value} (h : w.ownsRow b e z v n xs) (hb : b' ≤ b) : w.ownsRow b' e z v n xs := own_base h hb
theorem Mp.parts_small {p : Mp} (hf : p.Fit) (h1 : p.typ ≤ 127) (h2 : p.csrc.length ≤ 15) : ∀ x ∈ p.parts, x.1 < 18446744073709551616 := by
  have a1 := hf.seq
  have a2 := hf.time
  have a3 := hf.ssrc
  have b1 : p.first < 256 := by unfold Mp.first; split <;> split <;> omega
  have b2 : p.second < 256 := by unfold Mp.second; split <;> omega
  intro x hx
  unfold Mp.parts at hx
  simp only [List.mem_append, List.mem_cons, List.not_mem_nil, or_false, List.mem_map] at hx
  rcases hx with (rfl | rfl | rfl | rfl | rfl) | ⟨y, hy, rfl⟩
  · dsimp only; omega
  · dsimp only; omega
  · dsimp only; omega
  · dsimp only; omega
  · dsimp only; omega
  · have := hf.csrc y hy
    dsimp only
    omega
set_option maxRecDepth 100000 in
set_option maxHeartbeats 3200000 in
theorem rput_good (p : Mp) (A1 A2 A3 : Option Addr) (c1 c2 c3 : Nat) (ps : List Ip) (w : World) (hg : ¬ (127 < p.typ ∨ 15 < p.csrc.length ∨ p.pad < 0 ∨ 255 < p.pad)) (hi : Its w A2 ps) (hp : ps.map Ip.it = p.exts) (hl : ps.length ≤ maxLen) (he : putE p.exts = 0) (hpl : p.pay.length ≤ 140737488355328)
    (hb : ¬ 1500 < (headN p.csrc.length p.exts : Int) + p.pay.length + p.pad) (hf : p.Fit) (hrc : Row w w.heap.size 1 A1 p.csrc.length (u32s p.csrc)) (hrp : Row w w.heap.size 1 A3 p.pay.length (u8s p.pay)) :
    Calls Try.prog 51 #[.agg (p.cells A1 c1 A2 c2 A3 c3)] w (PutR p w) := by
  have hE0 : p.err = 0 := by rw [Mp.err_big hg he, if_neg hb]
  have CP := fun w' (hb' : Below w.heap.size w w') => rparts_any p A1 A2 A3 c1 c2 c3 w' hf (by omega) ((hrc.below hb' (Nat.le_refl _)).more hb'.size) (by rw [← hp, List.length_map]; exact hl) (by omega)
  have CO := fun (A : Option Addr) (c : Nat) (w1 : World) (h : Row w1 w1.heap.size 2 A p.parts.length (partC p.parts)) => put_any A p.parts.length c p.parts w1 h (by unfold Mp.parts; simp; omega) (Mp.parts_small hf (by omega) (by omega))
  have HPS := Lib.hid (show putS p.parts ++ p.extB ++ p.pay ++ padB p.pad.toNat = p.bytes from by unfold Mp.bytes; rw [if_neg (by simp [hE0])])
  have HXB := Lib.hid (show p.extB = if p.exts = [] then [] else putS [((putP p.exts).toNat, 2), ((putB p.exts).length / 4, 2)] ++ putB p.exts from rfl)
  have hF : ∀ (e : Ending) (w' : World), (∃ A c, e = .returned (.tuple #[.slice A p.bytes.length c, .int .i64 0]) ∧ w'.ownsRow w.heap.size 5 1 (.slice A p.bytes.length c) p.bytes.length (u8s p.bytes) ∧ Below w.heap.size w w') → PutR p w e w' := by
    rintro e w' ⟨A, c, rfl, ho, hb'⟩
    exact ⟨A, c, by rw [hE0], Row.of_own ho, hb', own_lo ho, (own_cap ho).1, (own_cap ho).2⟩
  have HFin := Lib.hid hF
  obtain ⟨PB, hPB⟩ : ∃ b, p.bytes = b := ⟨_, rfl⟩
  obtain ⟨PL, hPL⟩ : ∃ b, p.parts = b := ⟨_, rfl⟩
  obtain ⟨XB, hXB⟩ : ∃ b, p.extB = b := ⟨_, rfl⟩
  obtain ⟨P, hP⟩ : ∃ P, PutR p w = P := ⟨_, rfl⟩
  rw [hP] at HFin ⊢
  rw [hPB] at HFin HPS
  have HSL0 := Lib.hid (show (putS p.parts).length ≤ 1000000 from by have := putS_length p.parts; have : p.parts.length ≤ 20 := (by unfold Mp.parts; simp; omega); omega)
  rw [hPL] at CP CO HPS HSL0
  rw [hXB] at HPS HXB
  have HRP := Lib.hid hrp
  clear hP hPB hPL hXB hF hE0 hf hrc hrp
  obtain ⟨mk, ty, sq, tm, sr, cs, ex, py, pd⟩ := p
  dsimp only [Mp.cells] at *
  have hln : ex.length = ps.length := by rw [← hp]; simp
  have HB := Lib.hid ((Below.refl w.heap.size w).alloc (Nat.le_refl _) (.cells #[.bool mk, .int .u8 (ty : Int), .int .u16 (sq : Int), .int .u32 (tm : Int), .int .u32 (sr : Int), .slice A1 cs.length c1, .slice A2 ex.length c2, .slice A3 py.length c3, .int .i64 pd] 35))
  have C := extPut_any A2 c2 ps (w.alloc (.cells #[.bool mk, .int .u8 (ty : Int), .int .u16 (sq : Int), .int .u32 (tm : Int), .int .u32 (sr : Int), .slice A1 cs.length c1, .slice A2 ex.length c2, .slice A3 py.length c3, .int .i64 pd] 35)) (hi.next HB.out) hl
  have CS := fun w' (hb' : Below w.heap.size w w') => rsize_any mk (ty : Int) (sq : Int) (tm : Int) (sr : Int) A1 A2 cs.length c1 c2 ps w' (by omega) (hi.next hb') hl
  rw [hp] at C CS
  have hsz := putB_small_len ex
  have hhd : headN cs.length ex ≤ 7000 := by unfold headN; split <;> omega
  obtain ⟨HD, hHD⟩ : ∃ h, headN cs.length ex = h := ⟨_, rfl⟩
  rw [hHD] at hb hhd CS
  unfold PutTold at C
  rw [he] at C
  obtain ⟨n1, hn1⟩ : ∃ n, cs.length = n := ⟨_, rfl⟩
  obtain ⟨n2, hn2⟩ : ∃ n, ps.length = n := ⟨_, rfl⟩
  obtain ⟨n3, hn3⟩ : ∃ n, py.length = n := ⟨_, rfl⟩
  rw [hn1] at hg CS C HB
  rw [hn1, hln, hn2, hn3] at CP
  rw [hn3] at HRP
  have HLP := Lib.hid (show py.length = n3 from hn3)
  have HEX := Lib.hid (show ex = [] ↔ n2 = 0 from by rw [← hn2, ← hln]; exact List.length_eq_zero_iff.symm)
  have HBX := Lib.hid (show (putB ex).length ≤ 7000 ∧ (putB ex).length % 4 = 0 ∧ 0 ≤ putP ex ∧ putP ex < 65536 from ⟨by omega, putB_mod ex, by unfold putP; split <;> (try split) <;> omega, by unfold putP; split <;> (try split) <;> omega⟩)
  rw [hn1, hln, hn2, hn3]
  rw [hn2] at C CS
  rw [hln, hn2, hn3] at C HB
  rw [hn3] at hb hpl
  have C := Lib.hid C
  have CS := Lib.hid CS
  clear hn1 hn2 hn3 hln hi hp hl hHD he hsz
  have e1 : ¬ 127 < ty := fun h => hg (.inl h)
  have e2 : ¬ 15 < n1 := fun h => hg (.inr (.inl h))
  have e3 : ¬ pd < 0 := fun h => hg (.inr (.inr (.inl h)))
  have e4 : ¬ 255 < pd := fun h => hg (.inr (.inr (.inr h)))
  clear hg
  have HHD := Lib.hid (show 0 ≤ (HD : Int) by omega)
  obtain ⟨pn, rfl⟩ : ∃ n : Nat, pd = (n : Int) := ⟨pd.toNat, by omega⟩
  rw [Int.toNat_natCast] at HPS
  have HPN := Lib.hid (show pn ≤ 255 by omega)
  have HWL := Lib.hid (show n3 ≤ 1500 by omega)
  have HW := Lib.hid (Whole.new w 35 #[.bool mk, .int .u8 (ty : Int), .int .u16 (sq : Int), .int .u32 (tm : Int), .int .u32 (sr : Int), .slice A1 n1 c1, .slice A2 n2 c2, .slice A3 n3 c3, .int .i64 (pn : Int)])
  go_enter Try.func51, Try.ntmps51
  go_wp2_with fail
  refine C.out.mono ?_
  rintro e w1 ⟨A4, c4, rfl, hr4, b1⟩
  have HB1 := Lib.hid (HB.out.trans (b1.mono HB.out.size))
  have HW1 := Lib.hid (HW.out.below b1 HW.out.lt)
  have HR4 := Lib.hid hr4
  have CP := Lib.hid CP
  have CO := Lib.hid CO
  clear hr4 b1 HB C HW
  go_upto_region 6 with fail
  have KS := Lib.hid (fun w' (b' : Below w1.heap.size w1 w') => show (fun w' => w'.cell? ⟨w.heap.size, 0, none⟩ = some (.bool mk) ∧ w'.cell? ⟨w.heap.size, 1, none⟩ = some (.int .u8 (ty : Int)) ∧ w'.cell? ⟨w.heap.size, 2, none⟩ = some (.int .u16 (sq : Int)) ∧ w'.cell? ⟨w.heap.size, 3, none⟩ = some (.int .u32 (tm : Int)) ∧ w'.cell? ⟨w.heap.size, 4, none⟩ = some (.int .u32 (sr : Int)) ∧ w'.cell? ⟨w.heap.size, 5, none⟩ = some (.slice A1 n1 c1) ∧ w'.cell? ⟨w.heap.size, 6, none⟩ = some (.slice A2 n2 c2) ∧ w'.cell? ⟨w.heap.size, 7, none⟩ = some (.slice A3 n3 c3) ∧ w'.cell? ⟨w.heap.size, 8, none⟩ = some (.int .i64 (pn : Int))) w' from ⟨(HW1.out.below b' HW1.out.lt).cell 0, (HW1.out.below b' HW1.out.lt).cell 1, (HW1.out.below b' HW1.out.lt).cell 2, (HW1.out.below b' HW1.out.lt).cell 3, (HW1.out.below b' HW1.out.lt).cell 4, (HW1.out.below b' HW1.out.lt).cell 5, (HW1.out.below b' HW1.out.lt).cell 6, (HW1.out.below b' HW1.out.lt).cell 7, (HW1.out.below b' HW1.out.lt).cell 8⟩)
  have hK0 := KS.out w1 (Below.refl _ _)
  go_region_held3 (fun w' => w'.cell? ⟨w.heap.size, 0, none⟩ = some (.bool mk) ∧ w'.cell? ⟨w.heap.size, 1, none⟩ = some (.int .u8 (ty : Int)) ∧ w'.cell? ⟨w.heap.size, 2, none⟩ = some (.int .u16 (sq : Int)) ∧ w'.cell? ⟨w.heap.size, 3, none⟩ = some (.int .u32 (tm : Int)) ∧ w'.cell? ⟨w.heap.size, 4, none⟩ = some (.int .u32 (sr : Int)) ∧ w'.cell? ⟨w.heap.size, 5, none⟩ = some (.slice A1 n1 c1) ∧ w'.cell? ⟨w.heap.size, 6, none⟩ = some (.slice A2 n2 c2) ∧ w'.cell? ⟨w.heap.size, 7, none⟩ = some (.slice A3 n3 c3) ∧ w'.cell? ⟨w.heap.size, 8, none⟩ = some (.int .i64 (pn : Int)))
    (first | exact KS.out _ BV1 | exact KS.out _ (Below.refl _ _).drew | exact hK0)
    (first | (go_at_call 73; refine (CS.out _ (HB1.out.trans ((Below.refl w1.heap.size w1).drew.mono HB1.out.size))).mono ?_; rintro e v1 ⟨rfl, bv1⟩; have BV1 := (Below.refl w1.heap.size w1).drew.trans bv1))
  have HF := Lib.hid (HB1.out.trans (BV1.mono HB1.out.size))
  have e5 : IntKind.i64.wrap ((HD : Int) + (n3 : Int)) = (HD : Int) + (n3 : Int) := by simp only [IntKind.wrap, IntKind.bits, IntKind.signed]; simp; omega
  have e6 : IntKind.i64.wrap ((HD : Int) + (n3 : Int) + (pn : Int)) = (HD : Int) + (n3 : Int) + (pn : Int) := by simp only [IntKind.wrap, IntKind.bits, IntKind.signed]; simp; omega
  have et : decide (1500 < IntKind.i64.wrap (IntKind.i64.wrap ((HD : Int) + (n3 : Int)) + (pn : Int))) = false := by rw [e5, e6]; exact decide_eq_false (by omega)
  rw [et]
  have HWv := Lib.hid (HW1.out.below BV1 HW1.out.lt)
  have HXv := Lib.hid ((HR4.out.below BV1 (Nat.le_refl _)).more BV1.size)
  have k0 := HWv.out.cell 0
  have k1 := HWv.out.cell 1
  have k2 := HWv.out.cell 2
  have k3 := HWv.out.cell 3
  have k4 := HWv.out.cell 4
  have k5 := HWv.out.cell 5
  have k6 := HWv.out.cell 6
  have k7 := HWv.out.cell 7
  have k8 := HWv.out.cell 8
  clear bv1 BV1 hK0 KS CS et e5 e6 HW1 HR4
  go_wp2_with fail
  refine (CP.out v1 HF.out).mono ?_
  rintro e w2 ⟨A5, c5, rfl, ho5, b5⟩
  have HO5 := Lib.hid (Row.of_own ho5)
  have HB2 := Lib.hid (HF.out.trans (b5.mono HF.out.size))
  have HV2 := Lib.hid b5
  have HW2 := Lib.hid (HWv.out.below b5 HWv.out.lt)
  clear ho5 b5 CP k0 k1 k2 k3 k4 k5 k6 k7 k8
  go_wp2_with fail
  refine (CO.out A5 c5 w2 HO5.out).mono ?_
  rintro e w3 ⟨A6, c6, rfl, ho6, b6⟩
  have HO6 := Lib.hid ho6
  have HB3 := Lib.hid (HB2.out.trans (b6.mono HB2.out.size))
  have HV3 := Lib.hid (HV2.out.trans (b6.mono HV2.out.size))
  have HW3 := Lib.hid (HW2.out.below b6 HW2.out.lt)
  have hs2 := HW2.out.lt
  have hv2 := HV2.out.size
  have hs3 := b6.size
  clear ho6 b6 CO HB2 HV2 HW2 HO5 HF
  have k0 := HW3.out.cell 0
  have k1 := HW3.out.cell 1
  have k2 := HW3.out.cell 2
  have k3 := HW3.out.cell 3
  have k4 := HW3.out.cell 4
  have k5 := HW3.out.cell 5
  have k6 := HW3.out.cell 6
  have k7 := HW3.out.cell 7
  have k8 := HW3.out.cell 8
  have HBv := Lib.hid (show w2.heap.size ≤ w3.heap.size from hs3)
  have HSL := Lib.hid (show (putS PL).length ≤ 1000000 from HSL0.out)
  obtain ⟨XL, hXL⟩ : ∃ l, [((putP ex).toNat, (2 : Int)), ((putB ex).length / 4, 2)] = l := ⟨_, rfl⟩
  have HXL := Lib.hid (show (putS XL).length ≤ 16 from by rw [← hXL]; exact putS_length _)
  have HXLs := Lib.hid (show ∀ p ∈ XL, p.1 < 18446744073709551616 from by have := HBX.out; rw [← hXL]; intro p hp; simp only [List.mem_cons, List.not_mem_nil, or_false] at hp; rcases hp with rfl | rfl <;> dsimp only <;> omega)
  have HXC := Lib.hid (show partC XL = [.int .u64 ((putP ex).toNat : Int), .int .i64 2, .int .u64 (((putB ex).length / 4 : Nat) : Int), .int .i64 2] from by rw [← hXL]; rfl)
  rw [hXL] at HXB
  clear hXL
  by_cases hx : n2 = 0
  · subst hx
    have HX0 := Lib.hid (show XB = [] from by have := HXB.out; rw [if_pos (HEX.out.2 rfl)] at this; exact this)
    have HPR := Lib.hid (HRP.out.below HB3.out (Nat.le_refl _))
    go_wp2_with (at_builtin; refine wpl_append _ rfl (.tmp 76) (.tmp 78) 33 rfl w2.heap.size 5 (.int .u8 0) 1 1 Try.underlying33 info_u8 rfl (by decide) (.slice A6 ((putS PL).length) c6) ((putS PL).length) (u8s (putS PL)) rfl HO6.out w.heap.size A3 (n3) (c3) (u8s (py)) rfl HPR.out (u8s_one _) ?a7 ?b7 ?d7 ?_)
    case a7 => unfold maxLen; have := HPN.out; have := HWL.out; have := HSL.out; have := HBX.out.1; have := HXL.out; omega
    case b7 => have := HPN.out; have := HWL.out; have := HSL.out; have := HBX.out.1; have := HXL.out; omega
    case d7 => omega
    intro v7 w7 ho7 hg7 _
    have HO7 : Hid (w7.ownsRow w2.heap.size 5 1 v7 ((putS PL).length + n3) (u8s (putS PL ++ py))) := Lib.hid (by rw [u8s_append]; first | exact ho7 | simpa only [List.append_assoc] using ho7)
    obtain ⟨A70, c70, rfl⟩ := own_form HO7.out
    have HB7 := Lib.hid (HB3.out.grown hg7 (by omega) (fun q hq => by have := (HO6.out.lt q hq).1; omega))
    have HW7 := Lib.hid (HW3.out.grown hg7 (fun h => by have := (HO6.out.lt _ h.symm).1; omega))
    have hz7 := hg7.size
    clear ho7 hg7
    have j0 := HW7.out.cell 0
    have j1 := HW7.out.cell 1
    have j2 := HW7.out.cell 2
    have j3 := HW7.out.cell 3
    have j4 := HW7.out.cell 4
    have j5 := HW7.out.cell 5
    have j6 := HW7.out.cell 6
    have j7 := HW7.out.cell 7
    have j8 := HW7.out.cell 8
    go_wp2_with fail
    refine (rpad_any pn HPN.out w7).mono ?_
    rintro e w8 ⟨A80, c80, rfl, hr8, b8⟩
    have HR8 := Lib.hid hr8
    have HO8 := Lib.hid (own_belowE HO7.out b8)
    have HB8 := Lib.hid (HB7.out.trans (b8.mono HB7.out.size))
    have HW8 := Lib.hid (HW7.out.below b8 HW7.out.lt)
    have hz8 := b8.size
    clear hr8 b8
    go_wp2_with (at_builtin; refine wpl_append _ rfl (.tmp 80) (.tmp 83) 33 rfl w2.heap.size 5 (.int .u8 0) 1 1 Try.underlying33 info_u8 rfl (by decide) (.slice A70 ((putS PL).length + n3) c70) ((putS PL).length + n3) (u8s (putS PL ++ py)) rfl HO8.out w8.heap.size A80 (pn) (c80) (u8s (padB pn)) rfl HR8.out (u8s_one _) ?a9 ?b9 ?d9 ?_)
    case a9 => unfold maxLen; have := HPN.out; have := HWL.out; have := HSL.out; have := HBX.out.1; have := HXL.out; omega
    case b9 => have := HPN.out; have := HWL.out; have := HSL.out; have := HBX.out.1; have := HXL.out; omega
    case d9 => omega
    intro v9 w9 ho9 hg9 _
    have HO9 : Hid (w9.ownsRow w2.heap.size 5 1 v9 ((putS PL).length + n3 + pn) (u8s (putS PL ++ py ++ padB pn))) := Lib.hid (by rw [u8s_append]; first | exact ho9 | simpa only [List.append_assoc] using ho9)
    obtain ⟨A90, c90, rfl⟩ := own_form HO9.out
    have HB9 := Lib.hid (HB8.out.grown hg9 (by omega) (fun q hq => by have := (HO8.out.lt q hq).1; omega))
    have HW9 := Lib.hid (HW8.out.grown hg9 (fun h => by have := (HO8.out.lt _ h.symm).1; omega))
    have hz9 := hg9.size
    clear ho9 hg9
    have HEQ : putS PL ++ py ++ padB pn = PB := by have := HPS.out; rw [HX0.out, List.append_nil] at this; exact this
    have HN : (putS PL).length + n3 + pn = PB.length := by rw [← HEQ]; simp only [List.length_append, padB_length, HLP.out]
    rw [HEQ, HN] at HO9
    have HEND := Lib.hid (HFin.out _ _ ⟨A90, c90, rfl, own_baseE HO9.out (Nat.le_of_lt hs2), HB9.out⟩)
    rw [HN]
    clear HEQ HN
    go_wp2_with fail
    exact HEND.out
  · have HX0 := Lib.hid (show XB = putS XL ++ putB ex from by have := HXB.out; rw [if_neg (fun h => hx (HEX.out.1 h))] at this; exact this)
    have E1 : IntKind.u64.wrap (putP ex) = ((putP ex).toNat : Int) := by have := HBX.out; simp only [IntKind.wrap, IntKind.bits, IntKind.signed]; simp; omega
    have E2 : IntKind.u64.wrap (wrap64 (((putB ex).length : Int) / 4)) = (((putB ex).length / 4 : Nat) : Int) := by have := HBX.out; rw [IntWalk.wrap64_in _ (by omega)]; simp only [IntKind.wrap, IntKind.bits, IntKind.signed]; simp; omega
    have HE1 := Lib.hid E1
    have HE2 := Lib.hid E2
    clear E1 E2
    go_wp2_with fail
    rw [HE1.out, HE2.out]
    have HRL := Lib.hid (Row.fresh w3 154 #[.int .u64 ((putP ex).toNat : Int), .int .i64 2, .int .u64 (((putB ex).length / 4 : Nat) : Int), .int .i64 2] 2 2 (partC XL) rfl HXC.out.symm)
    refine (put_any (some ⟨w3.heap.size, 0, none⟩) 2 2 XL _ HRL.out (by decide) HXLs.out).mono ?_
    rintro e w4 ⟨A40, c40, rfl, ho4, b4⟩
    have bA := (Below.refl w3.heap.size w3).alloc (Nat.le_refl _) (.cells #[.int .u64 ((putP ex).toNat : Int), .int .i64 2, .int .u64 (((putB ex).length / 4 : Nat) : Int), .int .i64 2] 154)
    have b34 := bA.trans (b4.mono bA.size)
    have HB4 := Lib.hid (HB3.out.trans (b34.mono HB3.out.size))
    have HV4 := Lib.hid (HV3.out.trans (b34.mono HV3.out.size))
    have HW4 := Lib.hid (HW3.out.below b34 HW3.out.lt)
    have HO4 := Lib.hid (own_belowE HO6.out b34)
    have HR4 := Lib.hid (Row.of_own ho4)
    have hz4 := b34.size
    clear ho4 b4 bA b34 HO6 HW3 HB3 HV3 k0 k1 k2 k3 k4 k5 k6 k7 k8
    go_wp2_with (at_builtin; refine wpl_append _ rfl (.tmp 61) (.tmp 71) 33 rfl w2.heap.size 5 (.int .u8 0) 1 1 Try.underlying33 info_u8 rfl (by decide) (.slice A6 ((putS PL).length) c6) ((putS PL).length) (u8s (putS PL)) rfl HO4.out w4.heap.size A40 ((putS XL).length) (c40) (u8s (putS XL)) rfl HR4.out (u8s_one _) ?a5 ?b5 ?d5 ?_)
    case a5 => unfold maxLen; have := HPN.out; have := HWL.out; have := HSL.out; have := HBX.out.1; have := HXL.out; omega
    case b5 => have := HPN.out; have := HWL.out; have := HSL.out; have := HBX.out.1; have := HXL.out; omega
    case d5 => omega
    intro v5 w5 ho5 hg5 _
    have HO5 : Hid (w5.ownsRow w2.heap.size 5 1 v5 ((putS PL).length + (putS XL).length) (u8s (putS PL ++ putS XL))) := Lib.hid (by rw [u8s_append]; first | exact ho5 | simpa only [List.append_assoc] using ho5)
    obtain ⟨A50, c50, rfl⟩ := own_form HO5.out
    have HB5 := Lib.hid (HB4.out.grown hg5 (by omega) (fun q hq => by have := (HO4.out.lt q hq).1; omega))
    have HW5 := Lib.hid (HW4.out.grown hg5 (fun h => by have := (HO4.out.lt _ h.symm).1; omega))
    have HV5 := Lib.hid (HV4.out.grown hg5 (by omega) (fun q hq => by have := (HO4.out.lt q hq).1; omega))
    have hz5 := hg5.size
    clear ho5 hg5
    have HX5 := Lib.hid (HXv.out.below HV5.out (Nat.le_refl _))
    go_wp2_with (at_builtin; refine wpl_append _ rfl (.tmp 73) (.tmp 74) 33 rfl w2.heap.size 5 (.int .u8 0) 1 1 Try.underlying33 info_u8 rfl (by decide) (.slice A50 ((putS PL).length + (putS XL).length) c50) ((putS PL).length + (putS XL).length) (u8s (putS PL ++ putS XL)) rfl HO5.out v1.heap.size A4 ((putB ex).length) (c4) (u8s (putB ex)) rfl HX5.out (u8s_one _) ?a6 ?b6 ?d6 ?_)
    case a6 => unfold maxLen; have := HPN.out; have := HWL.out; have := HSL.out; have := HBX.out.1; have := HXL.out; omega
    case b6 => have := HPN.out; have := HWL.out; have := HSL.out; have := HBX.out.1; have := HXL.out; omega
    case d6 => omega
    intro v6 w6 ho6 hg6 _
    have HO6 : Hid (w6.ownsRow w2.heap.size 5 1 v6 ((putS PL).length + (putS XL).length + (putB ex).length) (u8s (putS PL ++ putS XL ++ putB ex))) := Lib.hid (by rw [u8s_append]; first | exact ho6 | simpa only [List.append_assoc] using ho6)
    obtain ⟨A60, c60, rfl⟩ := own_form HO6.out
    have HB6 := Lib.hid (HB5.out.grown hg6 (by omega) (fun q hq => by have := (HO5.out.lt q hq).1; omega))
    have HW6 := Lib.hid (HW5.out.grown hg6 (fun h => by have := (HO5.out.lt _ h.symm).1; omega))
    have hz6 := hg6.size
    clear ho6 hg6
    have k0 := HW6.out.cell 0
    have k1 := HW6.out.cell 1
    have k2 := HW6.out.cell 2
    have k3 := HW6.out.cell 3
    have k4 := HW6.out.cell 4
    have k5 := HW6.out.cell 5
    have k6 := HW6.out.cell 6
    have k7 := HW6.out.cell 7
    have k8 := HW6.out.cell 8
    have HPR := Lib.hid (HRP.out.below HB6.out (Nat.le_refl _))
    go_wp2_with (at_builtin; refine wpl_append _ rfl (.tmp 76) (.tmp 78) 33 rfl w2.heap.size 5 (.int .u8 0) 1 1 Try.underlying33 info_u8 rfl (by decide) (.slice A60 ((putS PL).length + (putS XL).length + (putB ex).length) c60) ((putS PL).length + (putS XL).length + (putB ex).length) (u8s (putS PL ++ putS XL ++ putB ex)) rfl HO6.out w.heap.size A3 (n3) (c3) (u8s (py)) rfl HPR.out (u8s_one _) ?a7 ?b7 ?d7 ?_)
    case a7 => unfold maxLen; have := HPN.out; have := HWL.out; have := HSL.out; have := HBX.out.1; have := HXL.out; omega
    case b7 => have := HPN.out; have := HWL.out; have := HSL.out; have := HBX.out.1; have := HXL.out; omega
    case d7 => omega
    intro v7 w7 ho7 hg7 _
    have HO7 : Hid (w7.ownsRow w2.heap.size 5 1 v7 ((putS PL).length + (putS XL).length + (putB ex).length + n3) (u8s (putS PL ++ putS XL ++ putB ex ++ py))) := Lib.hid (by rw [u8s_append]; first | exact ho7 | simpa only [List.append_assoc] using ho7)
    obtain ⟨A70, c70, rfl⟩ := own_form HO7.out
    have HB7 := Lib.hid (HB6.out.grown hg7 (by omega) (fun q hq => by have := (HO6.out.lt q hq).1; omega))
    have HW7 := Lib.hid (HW6.out.grown hg7 (fun h => by have := (HO6.out.lt _ h.symm).1; omega))
    have hz7 := hg7.size
    clear ho7 hg7
    have j0 := HW7.out.cell 0
    have j1 := HW7.out.cell 1
    have j2 := HW7.out.cell 2
    have j3 := HW7.out.cell 3
    have j4 := HW7.out.cell 4
    have j5 := HW7.out.cell 5
    have j6 := HW7.out.cell 6
    have j7 := HW7.out.cell 7
    have j8 := HW7.out.cell 8
    go_wp2_with fail
    refine (rpad_any pn HPN.out w7).mono ?_
    rintro e w8 ⟨A80, c80, rfl, hr8, b8⟩
    have HR8 := Lib.hid hr8
    have HO8 := Lib.hid (own_belowE HO7.out b8)
    have HB8 := Lib.hid (HB7.out.trans (b8.mono HB7.out.size))
    have HW8 := Lib.hid (HW7.out.below b8 HW7.out.lt)
    have hz8 := b8.size
    clear hr8 b8
    go_wp2_with (at_builtin; refine wpl_append _ rfl (.tmp 80) (.tmp 83) 33 rfl w2.heap.size 5 (.int .u8 0) 1 1 Try.underlying33 info_u8 rfl (by decide) (.slice A70 ((putS PL).length + (putS XL).length + (putB ex).length + n3) c70) ((putS PL).length + (putS XL).length + (putB ex).length + n3) (u8s (putS PL ++ putS XL ++ putB ex ++ py)) rfl HO8.out w8.heap.size A80 (pn) (c80) (u8s (padB pn)) rfl HR8.out (u8s_one _) ?a9 ?b9 ?d9 ?_)
    case a9 => unfold maxLen; have := HPN.out; have := HWL.out; have := HSL.out; have := HBX.out.1; have := HXL.out; omega
    case b9 => have := HPN.out; have := HWL.out; have := HSL.out; have := HBX.out.1; have := HXL.out; omega
    case d9 => omega
    intro v9 w9 ho9 hg9 _
    have HO9 : Hid (w9.ownsRow w2.heap.size 5 1 v9 ((putS PL).length + (putS XL).length + (putB ex).length + n3 + pn) (u8s (putS PL ++ putS XL ++ putB ex ++ py ++ padB pn))) := Lib.hid (by rw [u8s_append]; first | exact ho9 | simpa only [List.append_assoc] using ho9)
    obtain ⟨A90, c90, rfl⟩ := own_form HO9.out
    have HB9 := Lib.hid (HB8.out.grown hg9 (by omega) (fun q hq => by have := (HO8.out.lt q hq).1; omega))
    have HW9 := Lib.hid (HW8.out.grown hg9 (fun h => by have := (HO8.out.lt _ h.symm).1; omega))
    have hz9 := hg9.size
    clear ho9 hg9
    have HEQ : putS PL ++ putS XL ++ putB ex ++ py ++ padB pn = PB := by have := HPS.out; rw [HX0.out] at this; simpa only [List.append_assoc] using this
    have HN : (putS PL).length + (putS XL).length + (putB ex).length + n3 + pn = PB.length := by rw [← HEQ]; simp only [List.length_append, padB_length, HLP.out]
    rw [HEQ, HN] at HO9
    have HEND := Lib.hid (HFin.out _ _ ⟨A90, c90, rfl, own_baseE HO9.out (Nat.le_of_lt hs2), HB9.out⟩)
    rw [HN]
    clear HEQ HN
    go_wp2_with fail
    exact HEND.out
theorem rput_any (p : Mp) (A1 A2 A3 : Option Addr) (c1 c2 c3 : Nat) (ps : List Ip) (w : World) (hf : p.Fit) (hi : Its w A2 ps) (hp : ps.map Ip.it = p.exts) (hl : ps.length ≤ maxLen) (hpl : p.pay.length ≤ 140737488355328) (hrc : Row w w.heap.size 1 A1 p.csrc.length (u32s p.csrc)) (hrp : Row w w.heap.size 1 A3 p.pay.length (u8s p.pay)) :
    Calls Try.prog 51 #[.agg (p.cells A1 c1 A2 c2 A3 c3)] w (PutR p w) := by
  by_cases hg : 127 < p.typ ∨ 15 < p.csrc.length ∨ p.pad < 0 ∨ 255 < p.pad
  · exact rput_bad p A1 A2 A3 c1 c2 c3 w hg
  by_cases he : putE p.exts = 0
  · by_cases hb : 1500 < (headN p.csrc.length p.exts : Int) + p.pay.length + p.pad
    · exact rput_big p A1 A2 A3 c1 c2 c3 ps w hg hi hp hl he hpl hb
    · exact rput_good p A1 A2 A3 c1 c2 c3 ps w hg hi hp hl he hpl hb hf hrc hrp
  · exact rput_ext p A1 A2 A3 c1 c2 c3 ps w hg hi hp hl he
end Go.Proofs.Yticnaljfnjiofaa
