/-
  The document's Gone, as the laws want them (layer 18).
-/
import Derived.Test.YtmmeceehfdbdoaaDaX
import Derived.Test.YtmmeceehfdbdoaaDaTo
import Derived.Test.YtmmeceehfdbdoaaDeG
namespace Go.Proofs.Ytmmeceehfdbdoaa
open Go.RowKit
open Dl
set_option linter.unusedSimpArgs false
set_option linter.unusedVariables false
set_option maxRecDepth 100000
theorem goneB_is (a b : St) : a.bs.filter (goneB b.bs) = goneS a b := by
  unfold goneS
  refine List.filter_congr fun x _ => ?_
  unfold goneB
  cases e : b.bs.find? (isB x.who x.track) with
  | none => first | rfl | simp [e, ← ixS_low, List.find?_eq_none] | simp_all
  | some z => first | rfl | simp_all
theorem rgone18s (P : Nat → Prop) (s t : Sm) (w : World) (hs : SAt P w s) (ht : SAt P w t) :
    Calls Try.prog 18 #[.agg (smA s), .agg (smA t)] w fun e w' => ∃ A' c', e = .returned (.slice A' (goneS s.X t.X).length c') ∧ w'.ownsRow (w.heap.size + 2) 56 5 (.slice A' (goneS s.X t.X).length c') (goneS s.X t.X).length (sbC (goneS s.X t.X)) ∧ Below w.heap.size w w' := by
  obtain ⟨m1, m2, m3⟩ := hs.small
  obtain ⟨n1, n2, n3⟩ := ht.small
  have h := rgone18 s.X.cf.ps s.X.cf.ts s.X.cf.bs s.X.cf.sl s.A s.X.ps.length s.a s.B s.T.length s.b s.C s.c s.X.bs t.X.cf.ps t.X.cf.ts t.X.cf.bs t.X.cf.sl t.A t.X.ps.length t.a t.B t.T.length t.b t.C t.c t.X.bs w hs.rb (by omega) ht.rb (by omega)
  rw [goneB_is] at h
  exact h
end Go.Proofs.Ytmmeceehfdbdoaa
