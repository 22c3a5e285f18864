/-
  The laws' awake (layer 9): the document's example.
-/
import Derived.Test.YtcjmiidnhbmclaaDoorRcS
namespace Go.Proofs.YtcjmiidnhbmclaaDoor
open Go.RowKit
set_option maxRecDepth 100000

def pli : Ms := ⟨4, 1, 2, 0, 0, 0, 0, [], [], [], [], 0⟩
def nak : Ms := ⟨3, 0, 0, 0, 0, 0, 0, [], [], [(4, 0)], [], 0⟩
def noSl : Sl := ⟨none, 0, none, 0, none, 0, none, 0⟩
def pliB : List UInt8 := [129, 206, 0, 2, 0, 0, 0, 1, 0, 0, 0, 2]
theorem pli_put : putL [pli] = (pliB, 0) := by decide +kernel
theorem nak_put : (putL [nak]).2 = 0 := by decide +kernel
theorem pli_ok : pli.good = true ∧ pli.Fits ∧ pli.Few := ⟨by decide, ⟨by decide, by decide, by decide, by decide, by decide, by decide, by decide, by simp [pli], by simp [pli], by simp [pli], by simp [pli], by decide⟩, by simp [pli, Ms.Few]⟩
theorem nak_ok : nak.Fits ∧ nak.Few := ⟨⟨by decide, by decide, by decide, by decide, by decide, by decide, by decide, by simp [nak], by simp [nak], by simp [nak], by simp [nak], by decide⟩, by simp [nak, Ms.Few]⟩
theorem pli_parse : parseL pliB = ([pli], 0) := by
  have h := parse_put [pli] (fun m hm => by simp at hm; subst hm; exact pli_ok) (by simp) (by decide)
  have e : encs [pli] = pliB := by decide
  rw [e] at h
  rw [h]
  rfl

set_option maxHeartbeats 6400000 in
theorem awake9 (w : World) (hF : Forms w) : Calls Tryd.prog 9 #[] w fun e w' => e = .returned (.bool true) ∧ Below w.heap.size w w' := by
  have b0 := (Below.refl w.heap.size w).alloc (Nat.le_refl _) (.cells #[.int .i64 4, .int .u32 1, .int .u32 2, .int .u64 0, .int .u32 0, .int .u32 0, .int .u32 0, .slice none 0 0, .slice none 0 0, .slice none 0 0, .slice none 0 0, .int .u8 0] 59)
  have r0 : CmRow (w.alloc (.cells #[.int .i64 4, .int .u32 1, .int .u32 2, .int .u64 0, .int .u32 0, .int .u32 0, .int .u32 0, .slice none 0 0, .slice none 0 0, .slice none 0 0, .slice none 0 0, .int .u8 0] 59)) (w.alloc (.cells #[.int .i64 4, .int .u32 1, .int .u32 2, .int .u64 0, .int .u32 0, .int .u32 0, .int .u32 0, .slice none 0 0, .slice none 0 0, .slice none 0 0, .slice none 0 0, .int .u8 0] 59)).heap.size (some ⟨w.heap.size, 0, none⟩) [(pli, noSl)] :=
    ⟨Row.fresh w 59 #[.int .i64 4, .int .u32 1, .int .u32 2, .int .u64 0, .int .u32 0, .int .u32 0, .int .u32 0, .slice none 0 0, .slice none 0 0, .slice none 0 0, .slice none 0 0, .int .u8 0] 12 1 _ rfl rfl, fun x hx => by simp at hx; subst hx; exact ⟨Row.nil, Row.nil, Row.nil, Row.nil⟩⟩
  have CP := rput_any (some ⟨w.heap.size, 0, none⟩) 1 1 [(pli, noSl)] _ (hF.next b0) r0 rfl (fun x hx => by simp at hx; subst hx; exact pli_ok.2) (by omega)
  rw [show [(pli, noSl)].map Prod.fst = [pli] from rfl, pli_put] at CP
  obtain ⟨bs, hbs⟩ : ∃ bs, pliB = bs := ⟨_, rfl⟩
  have HPL := Lib.hid pli_parse
  have HTX : Hid (str bs = { data := #[129, 206, 0, 2, 0, 0, 0, 1, 0, 0, 0, 2] }) := Lib.hid (by rw [← hbs]; rfl)
  have HIS : Hid (isB bs = true) := Lib.hid (by rw [← hbs]; decide)
  have hbl : bs.length = 12 := by rw [← hbs]; rfl
  rw [hbs] at CP HPL
  have HBL := Lib.hid hbl
  have CP2 : Hid (Calls Tryd.prog 11 #[.slice (some ⟨w.heap.size, 0, none⟩) 1 1] (w.alloc (.cells #[.int .i64 4, .int .u32 1, .int .u32 2, .int .u64 0, .int .u32 0, .int .u32 0, .int .u32 0, .slice none 0 0, .slice none 0 0, .slice none 0 0, .slice none 0 0, .int .u8 0] 59)) fun e w' => (∃ (A' : Option Addr) (c' : Nat), e = .returned (.tuple #[.slice A' bs.length c', .int .i64 0]) ∧ w'.ownsRow (w.alloc (.cells #[.int .i64 4, .int .u32 1, .int .u32 2, .int .u64 0, .int .u32 0, .int .u32 0, .int .u32 0, .slice none 0 0, .slice none 0 0, .slice none 0 0, .slice none 0 0, .int .u8 0] 59)).heap.size 5 1 (.slice A' bs.length c') bs.length (u8s bs)) ∧ Below (w.alloc (.cells #[.int .i64 4, .int .u32 1, .int .u32 2, .int .u64 0, .int .u32 0, .int .u32 0, .int .u32 0, .slice none 0 0, .slice none 0 0, .slice none 0 0, .slice none 0 0, .int .u8 0] 59)).heap.size (w.alloc (.cells #[.int .i64 4, .int .u32 1, .int .u32 2, .int .u64 0, .int .u32 0, .int .u32 0, .int .u32 0, .slice none 0 0, .slice none 0 0, .slice none 0 0, .slice none 0 0, .int .u8 0] 59)) w') := Lib.hid CP
  have HB0 := Lib.hid b0
  have HFM := Lib.hid hF
  clear CP r0 b0 hF hbs hbl
  go_enter Tryd.func9, Tryd.ntmps9
  go_wp2_with fail
  refine CP2.out.mono ?_
  rintro e w1 ⟨⟨A1, c1, rfl, o1⟩, b1⟩
  have B1 := bnextA HB0.out b1
  have r1 := Row.of_own o1
  have CPA := rparse_any A1 c1 bs.length bs w1 (HFM.out.next B1) r1 rfl (by rw [HBL.out]; omega)
  have CPB : Hid (Calls Tryd.prog 14 #[.slice A1 bs.length c1] w1 fun e w' => (∃ (A' : Option Addr) (c' k : Nat) (l' : List (Ms × Sl)), e = .returned (.tuple #[.slice A' k c', .int .i64 0]) ∧ l'.length = k ∧ l'.map Prod.fst = [pli] ∧ CmRow w' w'.heap.size A' l') ∧ Below w1.heap.size w1 w') := Lib.hid (by
    have := CPA
    unfold ParseOut at this
    rw [HPL.out] at this
    exact this)
  have HR1 := Lib.hid r1
  have HB1 := Lib.hid B1
  clear CP2 CPA o1 b1 r1 B1 HB0
  go_wp2_with fail
  refine CPB.out.mono ?_
  rintro e w2 ⟨⟨A2, c2, k2, l2, rfl, hk2, hl2, hr2⟩, b2⟩
  obtain ⟨s2, rfl⟩ : ∃ s2, l2 = [(pli, s2)] := by
    match l2, hl2 with
    | [(a, b)], h => simp at h; exact ⟨b, by rw [h]⟩
  simp at hk2
  subst hk2
  obtain ⟨g, o, hA, hg, hcs⟩ := hr2.row.2 (by simp)
  subst hA
  have B2 := bnextA HB1.out b2
  have CN := rparse_any none 0 0 [] w2 (HFM.out.next B2) Row.nil rfl (by omega)
  have CNB : Hid (Calls Tryd.prog 14 #[.slice none 0 0] w2 fun e w' => (∃ (A' : Option Addr) (c' k : Nat) (l' : List (Ms × Sl)), e = .returned (.tuple #[.slice A' k c', .int .i64 10]) ∧ l'.length = k ∧ l'.map Prod.fst = [] ∧ CmRow w' w'.heap.size A' l') ∧ Below w2.heap.size w2 w') := Lib.hid CN
  have HCS := Lib.hid (show w2.cell? ⟨g, o, none⟩ = some (.int .i64 4) ∧ w2.cell? ⟨g, o + 2, none⟩ = some (.int .u32 2) from ⟨hcs 0 _ rfl, hcs 2 _ rfl⟩)
  have HR2 := Lib.hid ((HR1.out.below b2 (Nat.le_refl _)).more b2.size)
  have HB2 := Lib.hid B2
  clear CPB CN hl2 hr2 hcs b2 B2 HB1 HR1
  go_wp2_with fail
  refine CNB.out.mono ?_
  rintro e w3 ⟨⟨A3, c3, k3, l3, rfl, hk3, hl3, hr3⟩, b3⟩
  obtain rfl : l3 = [] := by simpa using hl3
  simp at hk3
  subst hk3
  have HCS3 := Lib.hid (show w3.cell? ⟨g, o, none⟩ = some (.int .i64 4) ∧ w3.cell? ⟨g, o + 2, none⟩ = some (.int .u32 2) from ⟨(b3.cell (p := ⟨g, o, none⟩) (by simpa using hg)).trans HCS.out.1, (b3.cell (p := ⟨g, o + 2, none⟩) (by simpa using hg)).trans HCS.out.2⟩)
  have HR3 := Lib.hid ((HR2.out.below b3 (Nat.le_refl _)).more b3.size)
  have B3 := bnextA HB2.out b3
  have hg3 : g < w3.heap.size := by have := b3.size; omega
  have b4 := ((Below.refl w3.heap.size w3).alloc (Nat.le_refl _) (.cells #[.int .u16 4, .int .u16 0] 68)).alloc (by simp) (.cells #[.int .i64 3, .int .u32 0, .int .u32 0, .int .u64 0, .int .u32 0, .int .u32 0, .int .u32 0, .slice none 0 0, .slice none 0 0, .slice (some ⟨w3.heap.size, 0, none⟩) 1 1, .slice none 0 0, .int .u8 0] 59)
  have e34 : (w3.alloc (.cells #[.int .u16 4, .int .u16 0] 68)).heap.size = w3.heap.size + 1 := by simp
  have rp : Row ((w3.alloc (.cells #[.int .u16 4, .int .u16 0] 68)).alloc (.cells #[.int .i64 3, .int .u32 0, .int .u32 0, .int .u64 0, .int .u32 0, .int .u32 0, .int .u32 0, .slice none 0 0, .slice none 0 0, .slice (some ⟨w3.heap.size, 0, none⟩) 1 1, .slice none 0 0, .int .u8 0] 59)) ((w3.alloc (.cells #[.int .u16 4, .int .u16 0] 68)).alloc (.cells #[.int .i64 3, .int .u32 0, .int .u32 0, .int .u64 0, .int .u32 0, .int .u32 0, .int .u32 0, .slice none 0 0, .slice none 0 0, .slice (some ⟨w3.heap.size, 0, none⟩) 1 1, .slice none 0 0, .int .u8 0] 59)).heap.size 2 (some ⟨w3.heap.size, 0, none⟩) 1 (p16C [(4, 0)]) :=
    ((Row.fresh w3 68 #[.int .u16 4, .int .u16 0] 2 1 _ rfl rfl).alloc (Nat.le_refl _) _).more (by simp)
  have rm := Row.fresh (w3.alloc (.cells #[.int .u16 4, .int .u16 0] 68)) 59 #[.int .i64 3, .int .u32 0, .int .u32 0, .int .u64 0, .int .u32 0, .int .u32 0, .int .u32 0, .slice none 0 0, .slice none 0 0, .slice (some ⟨w3.heap.size, 0, none⟩) 1 1, .slice none 0 0, .int .u8 0] 12 1 (msC [(nak, ⟨none, 0, none, 0, some ⟨w3.heap.size, 0, none⟩, 1, none, 0⟩)]) rfl rfl
  rw [e34] at rm
  have CQ := rput_any (some ⟨w3.heap.size + 1, 0, none⟩) 1 1 [(nak, ⟨none, 0, none, 0, some ⟨w3.heap.size, 0, none⟩, 1, none, 0⟩)] _ ((HFM.out.next B3).next b4) ⟨rm, fun x hx => by simp at hx; subst hx; exact ⟨Row.nil, Row.nil, rp, Row.nil⟩⟩ rfl (fun x hx => by simp at hx; subst hx; exact nak_ok) (by omega)
  have hq0 : (putL ([(nak, (⟨none, 0, none, 0, some ⟨w3.heap.size, 0, none⟩, 1, none, 0⟩ : Sl))].map Prod.fst)).2 = 0 := nak_put
  obtain ⟨⟨pq, eq⟩, hpq⟩ : ∃ p, putL ([(nak, (⟨none, 0, none, 0, some ⟨w3.heap.size, 0, none⟩, 1, none, 0⟩ : Sl))].map Prod.fst) = p := ⟨_, rfl⟩
  rw [hpq] at CQ hq0
  dsimp only at hq0
  subst hq0
  have CQ2 : Hid (Calls Tryd.prog 11 #[.slice (some ⟨w3.heap.size + 1, 0, none⟩) 1 1] ((w3.alloc (.cells #[.int .u16 4, .int .u16 0] 68)).alloc (.cells #[.int .i64 3, .int .u32 0, .int .u32 0, .int .u64 0, .int .u32 0, .int .u32 0, .int .u32 0, .slice none 0 0, .slice none 0 0, .slice (some ⟨w3.heap.size, 0, none⟩) 1 1, .slice none 0 0, .int .u8 0] 59)) fun e w' => (∃ (A' : Option Addr) (c' : Nat), e = .returned (.tuple #[.slice A' pq.length c', .int .i64 0])) ∧ Below w3.heap.size w3 w') := Lib.hid (CQ.mono fun e w' hh => ⟨(by obtain ⟨⟨A', c', h1, _⟩, _⟩ := hh; exact ⟨A', c', h1⟩), bnextA b4 hh.2⟩)
  have HB3 := Lib.hid B3
  clear CNB CQ hpq rm rp e34 b4 b3 B3 HB2 HCS HR2 hl3 hr3 HFM
  go_wp2_with fail
  refine CQ2.out.mono ?_
  rintro e w4 ⟨⟨A4, c4, rfl⟩, b4⟩
  have d0 : w4.cell? ⟨g, o, none⟩ = some (.int .i64 4) := (b4.cell (p := ⟨g, o, none⟩) (by simpa using hg3)).trans HCS3.out.1
  have d2 : w4.cell? ⟨g, o + 2, none⟩ = some (.int .u32 2) := (b4.cell (p := ⟨g, o + 2, none⟩) (by simpa using hg3)).trans HCS3.out.2
  have r4 := (HR3.out.below b4 (Nat.le_refl _)).more b4.size
  have ht := run_text (P := Tryd.prog) w4 25 5 9 Tryd.underlying25 Tryd.underlying5 Tryd.underlying9 _ _ _ c1 _ r4
  have CI := Lib.hid (is_any A1 c1 bs.length bs w4 r4 rfl (by rw [HBL.out]; omega))
  have HBF := Lib.hid (bnextA HB3.out b4)
  rw [HTX.out] at ht
  rw [HIS.out] at CI
  clear CQ2 HCS3 HR3 HB3 b4 r4 HPL HTX HIS
  go_wp2_with fail
  refine CI.out.mono ?_
  rintro e w5 ⟨rfl, b5⟩
  have HR := Lib.hid (bnextA HBF.out b5)
  clear CI ht d0 d2 HBF b5
  go_wp2
  go_ret
  exact ⟨rfl, HR.out⟩
end Go.Proofs.YtcjmiidnhbmclaaDoor
