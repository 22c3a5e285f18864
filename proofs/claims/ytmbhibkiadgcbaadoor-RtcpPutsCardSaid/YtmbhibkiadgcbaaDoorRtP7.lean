/-
  The contract of the document's put of one message, of one kind (layer 9).
-/
import Derived.Test.YtmbhibkiadgcbaaDoorRtP
namespace Go.Proofs.YtmbhibkiadgcbaaDoor
set_option maxRecDepth 100000
set_option linter.unusedSimpArgs false
open Go.RowKit

set_option maxRecDepth 1000000 in
set_option maxHeartbeats 6400000 in
theorem refput_other (m : Ms) (s : Sl) (w : World) (h : MsAt w w.heap.size m s) (hf : m.Fits) (hw : m.Few) (hk : m.num = 0) :
    Calls Tryd.prog 24 #[.agg (m.cells s).toArray] w (PutTold m w) := by
  obtain ⟨kind, ssrc, media, clock, time, packets, bytes, reps, who, pairs, asks, typ⟩ := m
  obtain ⟨rA, rc, wA, wc, pA, pc, aA, ac⟩ := s
  obtain ⟨fr, fw, fp, fa⟩ := hw
  have hk6 : kind ≠ 0 ∧ kind ≠ 1 ∧ kind ≠ 2 ∧ kind ≠ 3 ∧ kind ≠ 4 ∧ kind ≠ 5 := by
    unfold Ms.num at hk
    dsimp only at hk
    refine ⟨fun e => ?_, fun e => ?_, fun e => ?_, fun e => ?_, fun e => ?_, fun e => ?_⟩ <;> subst e <;> simp at hk
  obtain ⟨n0, n1, n2, n3, n4, n5⟩ := hk6
  have t0 : (kind == 0) = false := by simpa using n0
  have t1 : (kind == 1) = false := by simpa using n1
  have t2 : (kind == 2) = false := by simpa using n2
  have t3 : (kind == 3) = false := by simpa using n3
  have t4 : (kind == 4) = false := by simpa using n4
  have t5 : (kind == 5) = false := by simpa using n5
  dsimp only at fr fw fp fa
  have f1 : ssrc < 4294967296 := hf.ssrc
  have f2 : media < 4294967296 := hf.media
  have f3 : clock < 18446744073709551616 := hf.clock
  have f4 : time < 4294967296 := hf.time
  have f5 : packets < 4294967296 := hf.packets
  have f6 : bytes < 4294967296 := hf.bytes
  have HFR : Hid (∀ r ∈ reps, r.Fits) := Lib.hid hf.reps
  have HFW : Hid (∀ x ∈ who, x < 4294967296) := Lib.hid hf.who
  have HFP : Hid (∀ p ∈ pairs, p.1 < 65536 ∧ p.2 < 65536) := Lib.hid hf.pairs
  have HFA : Hid (∀ p ∈ asks, p.1 < 4294967296 ∧ p.2 < 256) := Lib.hid hf.asks
  have h7 : Row w w.heap.size 7 rA reps.length (repC reps) := h.reps
  have h8 : Row w w.heap.size 1 wA who.length (u32s who) := h.who
  have h9 : Row w w.heap.size 2 pA pairs.length (dpC pairs) := h.pairs
  have h10 : Row w w.heap.size 2 aA asks.length (askC asks) := h.asks
  unfold Ms.cells
  dsimp only
  obtain ⟨nr, hnr⟩ : ∃ n, reps.length = n := ⟨_, rfl⟩
  obtain ⟨nw, hnw⟩ : ∃ n, who.length = n := ⟨_, rfl⟩
  obtain ⟨np, hnp⟩ : ∃ n, pairs.length = n := ⟨_, rfl⟩
  obtain ⟨na, hna⟩ : ∃ n, asks.length = n := ⟨_, rfl⟩
  rw [hnr] at fr h7 ⊢
  rw [hnw] at fw h8 ⊢
  rw [hnp] at fp h9 ⊢
  rw [hna] at fa h10 ⊢
  have H7 := Lib.hid h7
  have H8 := Lib.hid h8
  have H9 := Lib.hid h9
  have H10 := Lib.hid h10
  have HNR := Lib.hid hnr
  have HNW := Lib.hid hnw
  have HNP := Lib.hid hnp
  have HNA := Lib.hid hna
  have HT : Hid (∀ w', Below w.heap.size w w' → PutTold ⟨kind, ssrc, media, clock, time, packets, bytes, reps, who, pairs, asks, typ⟩ w (.returned (.tuple #[.string ⟨#[]⟩, .int .i64 1])) w') := Lib.hid (fun w' b => ⟨by rw [told_bad _ (by simp [Ms.good, hk])]; rfl, b⟩)
  clear n0 n1 n2 n3 n4 n5 hk
  clear h hf h7 h8 h9 h10 hnr hnw hnp hna
  go_enter Tryd.func24, Tryd.ntmps24
  go_wp2
  go_ret2
  exact HT.out _ ((Below.refl _ _).alloc (Nat.le_refl _) _)
end Go.Proofs.YtmbhibkiadgcbaaDoor
