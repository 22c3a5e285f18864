/-
  Bytes of a string in new memory; rows of strings of the call's own.
-/
import Derived.Test.YticnaljfnjiofaaGdn
import Derived.Test.YticnaljfnjiofaaGrc
import Derived.Lib.ConvBytes
namespace Go.Proofs.Yticnaljfnjiofaa
open Go.RowKit
set_option maxRecDepth 100000

theorem info_S : (Try.prog.info? 9).map (fun i => (i.zero, i.size, i.bytes)) = some (some (.string ⟨#[]⟩), 1, 16) := by kernel_rfl
theorem conv_bytes (w : World) (b : List UInt8) (hb : b.length ≤ 1500) : ∃ c w', (convert 9 33 (.string (str b))).run Try.prog w = .ok (.slice (some ⟨w.heap.size, 0, none⟩) b.length c) w' ∧
    Row w' w'.heap.size 1 (some ⟨w.heap.size, 0, none⟩) b.length (u8s b) ∧ Below w.heap.size w w' ∧ b.length ≤ c ∧ c ≤ maxLen := by
  have h := Lib.run_convert_string_bytes (P := Try.prog) w 9 33 5 (str b) Try.underlying9 Try.underlying33 Try.underlying5
  have hs : (str b).size = b.length := by
    show (str b).data.size = b.length
    have := congrArg List.length (str_data b)
    simpa using this
  rw [hs] at h
  refine ⟨_, _, h, ⟨by rw [u8s_length, Nat.mul_one], fun _ => ⟨w.heap.size, 0, rfl, by rw [Lib.bytesWorld_size]; exact Nat.lt_succ_self _, fun j v hj => ?_⟩⟩, ⟨rfl, rfl, rfl, by rw [Lib.bytesWorld_size]; exact Nat.le_succ _, fun k hk => Lib.bytesWorld_at_old w _ _ k hk⟩, grownCap_ge _ _ _ _, grownCap_le_maxLen _ _ _ _ (by unfold maxLen; omega)⟩
  have hjl : j < b.length := by have := (List.getElem?_eq_some_iff.1 hj).1; rwa [u8s_length] at this
  rw [u8s_get b j hjl] at hj
  injection hj with hj
  subst hj
  rw [Nat.zero_add, Lib.bytesWorld_cell w _ _ j (by rw [hs]; exact hjl), str_data]
  simp [List.getD, hjl]
def strs (l : List (List UInt8)) : List Value := l.map fun b => Value.string (str b)
theorem strs_snoc (l : List (List UInt8)) (b : List UInt8) : strs (l ++ [b]) = strs l ++ [.string (str b)] := by simp [strs]
theorem strs_length (l : List (List UInt8)) : (strs l).length = l.length := by simp [strs]
theorem strs_get {l : List (List UInt8)} {k : Nat} {b : List UInt8} (h : l[k]? = some b) : (strs l)[k]? = some (.string (str b)) := by simp [strs, h]
/-- A row of the call's own stays, where none of its block is turned. -/
theorem own_but {w w' : World} {S : Nat → Prop} {base : Nat} {e : TypeId} {z n : Nat} {v : Value} {xs : List Value} (h : w.ownsRow base e z v n xs) (k : But S w w') (hv : ∀ q, v.ownBlock = some q → ¬ S q) : w'.ownsRow base e z v n xs := by
  refine ⟨h.1, h.2.imp id ?_⟩
  rintro ⟨g, cap, cur, h1, h2, h3, h4⟩
  have hg : ¬ S g := hv g (by rw [h1]; rfl)
  have hlt : g < w.heap.size := (Array.getElem?_eq_some_iff.1 h3).1
  exact ⟨g, cap, cur, h1, h2, (k.block g hlt hg).trans h3, h4⟩
/-- An element of a row of the call's own. -/
theorem own_cell {w : World} {base : Nat} {e : TypeId} {n : Nat} {v : Value} {xs : List Value} (h : w.ownsRow base e 1 v n xs) {k : Nat} {x : Value} (hk : xs[k]? = some x) : ∃ g c, v = .slice (some ⟨g, 0, none⟩) n c ∧ w.cell? ⟨g, k, none⟩ = some x := by
  have hn : k < n := by have := (List.getElem?_eq_some_iff.1 hk).1; rw [h.1] at this; omega
  rcases h.2 with ⟨_, h0⟩ | ⟨g, cap, cur, rfl, h2, h3, h4⟩
  · omega
  · refine ⟨g, cap, rfl, ?_⟩
    obtain ⟨A, c, hv⟩ := own_form h
    injection hv with hv1 hv2 hv3
    subst hv1
    have hr := (Row.of_own h).2 (by omega)
    obtain ⟨g', o', he, _, hc⟩ := hr
    injection he with he
    injection he with e1 e2
    subst e1 e2
    have := hc k x hk
    rwa [Nat.zero_add] at this
end Go.Proofs.Yticnaljfnjiofaa
