/-
  The law's of, as the laws want it (layer 18).
-/
import Derived.Test.YtmmeceehfdbdoaaDcY
import Derived.Test.YtmmeceehfdbdoaaDeE
namespace Go.Proofs.Ytmmeceehfdbdoaa
open Go.RowKit
open Dl
set_option linter.unusedSimpArgs false
set_option linter.unusedVariables false
set_option maxRecDepth 100000
theorem of18s (P : Nat → Prop) (s : Sm) (w : World) (h : SAt P w s) (hP : ∀ k, w.heap.size ≤ k → P k) :
    Calls Try.prog 16 #[.agg (smA s)] w fun e w' => Below w.heap.size w w' ∧ ∃ v : Sm, v.X = s.X ∧ v.T = s.T ∧ SAt P w' v ∧ e = .returned (.agg (smA v)) := by
  obtain ⟨m1, m2, m3⟩ := h.small
  refine (of18 s.X.cf.ps s.X.cf.ts s.X.cf.bs s.X.cf.sl s.A s.a s.X.ps s.B s.b s.T s.C s.c s.X.bs w h.rp (by omega) h.rt.1 (by omega) h.rb (by omega)).mono ?_
  rintro e w' ⟨hb, B, d, B2, d2, B3, d3, rfl, o1, o2, o3⟩
  have hn := h.next hb
  exact ⟨hb, ⟨s.X, s.T, B, d, B2, d2, B3, d3⟩, rfl, rfl, ⟨Row.of_own o1, ⟨Row.of_own o2, hn.rt.2⟩, Row.of_own o3, h.ts, h.inv, InP.own o1 (fun k hk => hP k (by omega)), InP.own o2 (fun k hk => hP k (by omega)), InP.own o3 (fun k hk => hP k (by omega)), h.pS⟩, rfl⟩
end Go.Proofs.Ytmmeceehfdbdoaa
