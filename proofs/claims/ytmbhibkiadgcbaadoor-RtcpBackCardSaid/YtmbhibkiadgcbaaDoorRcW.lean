/-
  Plain facts of the last message's bytes, for RtcpBack: what stands at its head, what the padded one is; noughts that the call makes.
-/
import Derived.Test.YtmbhibkiadgcbaaDoorRcV
import Derived.Test.YtmbhibkiadgcbaaDoorRtM
import Derived.Test.YtmbhibkiadgcbaaDoorRtG
import Derived.Laws.OwnMore
namespace Go.Proofs.YtmbhibkiadgcbaaDoor
open Go.RowKit
set_option maxRecDepth 100000

theorem info_u8W : (Tryd.prog.info? 5).map (fun i => (i.zero, i.size, i.bytes)) = some (some (.int .u8 0), 1, 1) := by kernel_rfl
theorem make9 (n : Nat) (h2 : n ≤ 4096) (w : World) : ∃ cs : Array Value, cs.toList = u8s (List.replicate n 0) ∧ cs.size = n ∧
    (Instr.makeSlice 25 (.int .i64 n) (.int .i64 n)).run Tryd.prog w = .ok (.slice (some ⟨w.heap.size, 0, none⟩) n n) (w.alloc (.cells cs 5)) := by
  obtain ⟨i, hi0, hi1, hi2, hi3⟩ := info_parts info_u8W
  have h := run_make (P := Tryd.prog) w 25 5 i (.int .u8 0) Tryd.underlying25 hi0 hi1 .i64 .i64 n n (by omega) (Int.le_refl _) (by rw [hi3]; omega) (by omega)
  rw [Int.toNat_natCast, hi2, Nat.mul_one] at h
  refine ⟨_, ?_, by rw [size_madeCells], h⟩
  show (madeCells #[.int .u8 0] n).toList = _
  rw [toList_madeCells_one]
  simp [u8s]
theorem u8s_app (a b : List UInt8) : u8s (a ++ b) = u8s a ++ u8s b := by simp [u8s]
theorem u8s_len (a : List UInt8) : (u8s a).length = a.length := by simp [u8s]
theorem enc_cells (m : Ms) (hg : m.good = true) (hw : m.Few) : u8s m.enc = [.int .u8 (128 + (m.cnt : Int)), .int .u8 (m.num : Int), .int .u8 ((m.body.length / 4 / 256 : Nat) : Int), .int .u8 ((m.body.length / 4 % 256 : Nat) : Int)] ++ u8s m.body := by
  obtain ⟨g1, g2, g3⟩ := good_facts m hg
  have hl := m.enc_length hw
  have hel : m.enc.length = 4 + m.body.length := by simp [Ms.enc, bytesN_length]; omega
  simp only [Ms.enc, u8s, bytesN, List.map_cons, List.cons_append, List.nil_append, UInt8.toNat_ofNat', List.cons.injEq, Value.int.injEq, true_and, and_true]
  omega
theorem enc_at (p : List UInt8) (m : Ms) (hg : m.good = true) (hw : m.Few) (np : Nat) (hp : p.length = np) :
    (u8s (p ++ m.enc))[np]? = some (.int .u8 (128 + (m.cnt : Int))) ∧ (u8s (p ++ m.enc))[np + 2]? = some (.int .u8 ((m.body.length / 4 / 256 : Nat) : Int)) ∧ (u8s (p ++ m.enc))[np + 3]? = some (.int .u8 ((m.body.length / 4 % 256 : Nat) : Int)) := by
  subst hp
  rw [u8s_app, enc_cells m hg hw]
  have h := u8s_len p
  refine ⟨?_, ?_, ?_⟩
  · rw [List.getElem?_append_right (by omega), show p.length - (u8s p).length = 0 by omega]; rfl
  · rw [List.getElem?_append_right (by omega), show p.length + 2 - (u8s p).length = 2 by omega]; rfl
  · rw [List.getElem?_append_right (by omega), show p.length + 3 - (u8s p).length = 3 by omega]; rfl
theorem enc_set (p : List UInt8) (m : Ms) (hg : m.good = true) (hw : m.Few) (np nz hi lo : Nat) (hp : p.length = np) (h1 : 4 ≤ nz) (h3 : nz ≤ 32) (hhi : (m.body.length / 4 + nz / 4) / 256 = hi) (hlo : (m.body.length / 4 + nz / 4) % 256 = lo) :
    (((u8s (p ++ m.enc)).set np (.int .u8 (160 + (m.cnt : Int)))).set (np + 2) (.int .u8 (hi : Int))).set (np + 3) (.int .u8 (lo : Int)) ++ (u8s (List.replicate nz 0)).set (nz - 1) (.int .u8 (nz : Int)) =
    u8s (p ++ ([UInt8.ofNat (160 + m.cnt), UInt8.ofNat m.num] ++ (bytesN (m.body.length / 4 + nz / 4) 2 ++ (m.body ++ tailB nz)))) := by
  subst hp hhi hlo
  obtain ⟨g1, g2, g3⟩ := good_facts m hg
  have hl := m.enc_length hw
  have hel : m.enc.length = 4 + m.body.length := by simp [Ms.enc, bytesN_length]; omega
  have h := u8s_len p
  have hz : (u8s (List.replicate nz 0)).set (nz - 1) (.int .u8 (nz : Int)) = u8s (tailB nz) := by
    obtain ⟨k, rfl⟩ : ∃ k, nz = k + 1 := ⟨nz - 1, by omega⟩
    rw [List.replicate_succ', u8s_app, Nat.add_sub_cancel, List.set_append_right _ _ (by rw [u8s_len]; simp)]
    rw [u8s_len, List.length_replicate, Nat.sub_self]
    unfold tailB
    rw [Nat.add_sub_cancel, u8s_app]
    congr 1
    simp [u8s]
    omega
  rw [hz, u8s_app, enc_cells m hg hw]
  rw [List.set_append_right _ _ (by omega), List.set_append_right _ _ (by omega), List.set_append_right _ _ (by omega)]
  rw [show p.length - (u8s p).length = 0 by omega, show p.length + 2 - (u8s p).length = 2 by omega, show p.length + 3 - (u8s p).length = 3 by omega]
  rw [u8s_app, u8s_app, u8s_app, u8s_app]
  simp only [List.cons_append, List.nil_append, List.set_cons_zero, List.set_cons_succ, List.append_assoc]
  congr 1
  simp only [u8s, bytesN, List.map_cons, List.cons_append, List.nil_append, List.map_nil, UInt8.toNat_ofNat', List.cons.injEq, Value.int.injEq, true_and, and_true]
  omega
theorem whole_row {w : World} {g : Nat} {t : TypeId} {cs : Array Value} (h : Whole w g t cs) (z n : Nat) (xs : List Value) (hs : cs.size = n * z) (hx : cs.toList = xs) : Row w w.heap.size z (some ⟨g, 0, none⟩) n xs := by
  subst hx
  refine ⟨by simpa using hs, fun _ => ⟨g, 0, rfl, h.lt, fun j v hv => ?_⟩⟩
  rw [Nat.zero_add, h.cell]
  simpa using hv
theorem own_setG9 {w : World} {base : Nat} {t : TypeId} {g c n : Nat} {xs : List Value} (h : w.ownsRow base t 1 (.slice (some ⟨g, 0, none⟩) n c) n xs) (i : Nat) (hi : i < n) (u : Value) : (w.setCell ⟨g, i, none⟩ u).ownsRow base t 1 (.slice (some ⟨g, 0, none⟩) n c) n (xs.set i u) := by
  obtain ⟨g', e, _, _, _, _, hs⟩ := own_setAt h i hi
  injection e with e
  injection e with e
  subst e
  exact hs u
theorem MsRow.setFar {w : World} {A : Option Addr} {l : List (Ms × Sl)} {g : Nat} (h : MsRow w w.heap.size A l) (hA : FarR (some g) l.length A) (hf : ∀ x ∈ l, FarM (some g) x.1 x.2) (i : Nat) (u : Value) : MsRow (w.setCell ⟨g, i, none⟩ u) (w.setCell ⟨g, i, none⟩ u).heap.size A l :=
  have hg : w.grownBy (w.setCell ⟨g, i, none⟩ u) (some g) := ⟨rfl, rfl, rfl, by simp [World.setCell], fun k _ hne => Below.heap_setCell _ _ _ _ (fun e => hne (by simp [e]))⟩
  ⟨h.row.grownFar hA hg, fun x hx => (h.each x hx).grown (hf x hx) hg⟩
theorem below_drewN {b : Nat} {w0 w : World} (h : Below b w0 w) (q : Nat) : Below b w0 (w.drewN q) := by
  induction q with
  | zero => exact h
  | succ k ih => exact ih.drew
theorem MsRow.grownFar {w w' : World} {A : Option Addr} {l : List (Ms × Sl)} {ob : Option Nat} (h : MsRow w w.heap.size A l) (hA : FarR ob l.length A) (hf : ∀ x ∈ l, FarM ob x.1 x.2) (hg : w.grownBy w' ob) : MsRow w' w'.heap.size A l :=
  ⟨h.row.grownFar hA hg, fun x hx => (h.each x hx).grown (hf x hx) hg⟩
end Go.Proofs.YtmbhibkiadgcbaaDoor
