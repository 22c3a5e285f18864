/-
  The contract of vp8's Whole.
-/
import Derived.Test.YticnaljfnjiofaaGvi
import Derived.BigQuiet
namespace Go.Proofs.Yticnaljfnjiofaa
open Go.RowKit

/-- Is there a byte, and is it even? -/
def evenS : List UInt8 → Bool
  | [] => false
  | x :: _ => decide (x.toNat % 2 = 0)
/-- Does a frame begin that leans on none? -/
def wholeS (b : List UInt8) : Bool :=
  match parseS b with
  | none => false
  | some (d, r) => d.begins && evenS r

/-- What Whole tells. -/
def WholeTold (b : List UInt8) (w : World) (e : Ending) (w' : World) : Prop := e = .returned (.bool (wholeS b)) ∧ Below w.heap.size w w'

set_option maxRecDepth 100000 in
theorem whole_any (A : Option Addr) (c : Nat) (b : List UInt8) (w : World) (h : Row w w.heap.size 1 A b.length (u8s b)) (hl : b.length ≤ 100000) :
    Calls Try.prog 18 #[.slice A b.length c] w (WholeTold b w) := by
  have C := Lib.hid (vparse_any A c b w h hl)
  have HR := Lib.hid h
  cases hp : parseS b with
  | none =>
    have HF := Lib.hid (show ∀ w', Below w.heap.size w w' → WholeTold b w (.returned (.bool false)) w' from fun w' h => ⟨by unfold wholeS; rw [hp], h⟩)
    have HP := Lib.hid hp
    clear hp h
    go_enter Try.func18, Try.ntmps18
    go_wp2_with fail
    refine C.out.mono ?_
    rintro e w1 ⟨hh, b1⟩
    rw [HP.out] at hh
    obtain rfl : e = .returned (.tuple #[.agg dsc0.cells, .int .i64 0, .int .i64 10]) := by simpa using hh
    have HB := Lib.hid b1
    clear hh b1
    unfold dsc0 Dsc.cells
    dsimp only
    go_wp2
    go_ret
    exact HF.out _ (HB.out.alloc HB.out.size _)
  | some x =>
    obtain ⟨d, r⟩ := x
    obtain ⟨pre, hpre, hps⟩ := parse_size hp
    have hrl : r.length ≤ b.length := by rw [hpre]; simp
    have hbl : b.length = pre.length + r.length := by rw [hpre]; simp
    have hfit := parse_fits hp
    have hws : wholeS b = (d.begins && evenS r) := by unfold wholeS; rw [hp]
    have HF := Lib.hid (show ∀ w', Below w.heap.size w w' → WholeTold b w (.returned (.bool (d.begins && evenS r))) w' from fun w' h => ⟨by rw [hws], h⟩)
    have hget : ∀ x l, r = x :: l → ∃ g o, A = some ⟨g, o, none⟩ ∧ g < w.heap.size ∧ ∀ w', Below w.heap.size w w' → w'.cell? ⟨g, o + pre.length, none⟩ = some (.int .u8 (x.toNat : Int)) := by
      intro x l hr
      have hlt : pre.length < b.length := by rw [hbl, hr]; simp
      obtain ⟨g, o, e, hg, hc⟩ := h.2 (by omega)
      refine ⟨g, o, e, hg, fun w' hb => (hb.cell (p := ⟨g, o + pre.length, none⟩) hg).trans (hc _ _ ?_)⟩
      rw [u8s_get b pre.length hlt]
      congr 3
      subst hr
      simp [hpre]
    have HG := Lib.hid hget
    have HP := Lib.hid hp
    generalize hbn : b.length = n at *
    generalize pre.length = m at *
    have HBL := Lib.hid hbl
    have HBN := Lib.hid hbn
    clear hp h hpre hps hget hws hbn hbl
    go_enter Try.func18, Try.ntmps18
    go_wp2_with fail
    refine C.out.mono ?_
    rintro e w1 ⟨hh, b1⟩
    rw [HP.out] at hh
    obtain rfl : e = .returned (.tuple #[.agg d.cells, .int .i64 ((n : Int) - r.length), .int .i64 0]) := by
      rcases hh with ⟨h, _⟩ | ⟨d', r', h1, h2⟩
      · cases h
      · injection h1 with h1
        injection h1 with h1 h3
        subst h1 h3
        rw [HBN.out] at h2
        exact h2
    have hnm : (n : Int) - (r.length : Int) = (m : Int) := by have := HBL.out; omega
    rw [hnm]
    have HB := Lib.hid b1
    clear hh b1 hnm
    have D := Lib.hid (fun wx => begins_any d wx)
    obtain ⟨bg, hbg⟩ : ∃ bg, bg = d.begins := ⟨_, rfl⟩
    rw [← hbg] at D HF
    clear hbg
    obtain ⟨more, lone, start, part, hasPic, wide, pic, hasTl0, tl0, hasTid, tid, sync, hasKey, key⟩ := d
    unfold Dsc.cells at D ⊢
    dsimp only at D ⊢
    cases bg with
    | false =>
      go_wp2_with (go_at_call 36; refine (D.out _).mono ?_; rintro e w' ⟨rfl, rfl⟩)
      go_ret
      exact HF.out _ ((HB.out.alloc HB.out.size _).alloc (by have := HB.out.size; simp; omega) _)
    | true =>
      cases r with
      | nil =>
        have hnm : ¬ (m : Int) < (n : Int) := by have hbl := HBL.out; simp at hbl; omega
        go_wp2_with (go_at_call 36; refine (D.out _).mono ?_; rintro e w' ⟨rfl, rfl⟩)
        go_ret
        exact HF.out _ ((HB.out.alloc HB.out.size _).alloc (by have := HB.out.size; simp; omega) _)
      | cons x l =>
        obtain ⟨g, o, hA, hg, hc⟩ := HG.out x l rfl
        subst hA
        have hnm : (m : Int) < (n : Int) := by have hbl := HBL.out; simp at hbl; omega
        have hm0 : (0 : Int) ≤ (m : Int) := by omega
        have hc1 := hc w1 HB.out
        have hx := x.toNat_lt
        have hgw : g < w1.heap.size := Nat.lt_of_lt_of_le hg HB.out.size
        have HX := Lib.hid (show ∀ w', Below w.heap.size w w' → WholeTold b w (.returned (.bool (decide (x.toNat % 2 = 0)))) w' from by simpa [evenS] using HF.out)
        clear hc HF HG
        generalize x.toNat = v at *
        have e : decide (v % 2 = 0) = ((v : Int) % 2 == 0) := by
          by_cases hv : v % 2 = 0
          · have hv' : (v : Int) % 2 = 0 := by omega
            simp [hv, hv']
          · have hv' : ¬ (v : Int) % 2 = 0 := by omega
            simp [hv, hv']
        rw [e] at HX
        clear e
        go_wp2_with (go_at_call 36; refine (D.out _).mono ?_; rintro e w' ⟨rfl, rfl⟩)
        go_ret
        exact HX.out _ ((HB.out.alloc HB.out.size _).alloc (by have := HB.out.size; simp; omega) _)
end Go.Proofs.Yticnaljfnjiofaa
