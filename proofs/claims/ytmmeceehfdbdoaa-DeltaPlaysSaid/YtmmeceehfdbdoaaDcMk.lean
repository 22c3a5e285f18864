/-
  Package delta: what the walks of its requests share, at the copy.
-/
import Derived.Test.YtmmeceehfdbdoaaDcMj
namespace Go.Proofs.Ytmmeceehfdbdoaa
open Go.RowKit
open Dl
set_option linter.unusedSimpArgs false
set_option linter.unusedVariables false
set_option maxRecDepth 100000

namespace Dl
theorem putS_mem {α : Type} {f : α → Bool} {l : List α} {x z : α} (h : z ∈ putS f l x) : z = x ∨ z ∈ l := by
  unfold putS at h
  rcases List.mem_append.mp h with h | h
  · exact .inr (List.mem_of_mem_take h)
  · rcases List.mem_cons.mp h with h | h
    · exact .inl h
    · exact .inr (List.mem_of_mem_drop h)
theorem publish_err {X : St} {p : Pn} {q : Rq} {l : List Tm} {n : Int} (h : X.ts = tks l) (e : pubE X.cf.ts p l q = n) (hn : n ≠ 0) : (publishS X p q).2 = n := by
  rw [publish_is X p q h, e, if_neg hn]
theorem publish_ok {X : St} {p : Pn} {q : Rq} {l : List Tm} (h : X.ts = tks l) (e : pubE X.cf.ts p l q = 0) : publishS X p q = ({ X with ts := insK ltT X.ts ⟨q.track, q.who, 0, q.ss⟩ }, 0) := by
  rw [publish_is X p q h, if_pos e]
theorem tks_find (k : Int) (l : List Tm) : (tks l).find? (isT k) = (l.find? fun x => isT k x.t).map (·.t) := find_map _ _ l
end Dl
theorem dtrack_no {s : Sm} {k : Int} (hno : s.T.find? (fun x => isT k x.t) = none) (g : Nat) (w : World) (h : Rd w g s) : Calls Try.prog 65 #[.pointer (some ⟨g, 0, none⟩), .int .i64 k] w fun e w' => e = .returned (.pointer none) ∧ Below w.heap.size w w' := by
  have := dtrack s g k w h
  rcases ix_find (f := fun x => isT k x.t) (l := s.T) with ⟨a, _⟩ | ⟨i, x, _, _, b, _⟩
  · rw [ptrS_no a] at this; exact this
  · rw [hno] at b; cases b
theorem dtrack_yes {s : Sm} {k : Int} {x : Tm} (hf : s.T.find? (fun x => isT k x.t) = some x) (g : Nat) (w : World) (h : Rd w g s) : Calls Try.prog 65 #[.pointer (some ⟨g, 0, none⟩), .int .i64 k] w fun e w' => (∃ gB o i, e = .returned (.pointer (some ⟨gB, o + i * 4, none⟩)) ∧ gB < w.heap.size ∧ w.cell? ⟨gB, o + i * 4 + 1, none⟩ = some (.int .i64 x.t.owner)) ∧ Below w.heap.size w w' := by
  refine (dtrack s g k w h).mono ?_
  rintro e w' ⟨rfl, hb⟩
  refine ⟨?_, hb⟩
  rcases ix_find (f := fun x => isT k x.t) (l := s.T) with ⟨_, a⟩ | ⟨i, y, hi, hy, b, _⟩
  · rw [hf] at a; cases a
  · rw [hf] at b
    injection b with b
    subst b
    obtain ⟨gB, o, hA, hg, hc⟩ := h.rt.1.2 (by have := (List.getElem?_eq_some_iff.1 hy).1; omega)
    refine ⟨gB, o, i, by rw [hi, hA, ptrS_at], hg, ?_⟩
    have := hc _ _ ((tmC_get hy 1 (by decide)).trans rfl); rwa [← Nat.add_assoc] at this
theorem dsub_no {s : Sm} {k1 k2 : Int} (hno : s.X.bs.find? (isB k1 k2) = none) (g : Nat) (w : World) (h : Rd w g s) : Calls Try.prog 33 #[.pointer (some ⟨g, 0, none⟩), .int .i64 k1, .int .i64 k2] w fun e w' => e = .returned (.pointer none) ∧ Below w.heap.size w w' := by
  have := dsub s g k1 k2 w h
  rcases ix_find (f := isB k1 k2) (l := s.X.bs) with ⟨a, _⟩ | ⟨i, x, _, _, b, _⟩
  · rw [ptrS_no a] at this; exact this
  · rw [hno] at b; cases b
theorem dsub_yes {s : Sm} {k1 k2 : Int} {x : Sb} (hf : s.X.bs.find? (isB k1 k2) = some x) (g : Nat) (w : World) (h : Rd w g s) : Calls Try.prog 33 #[.pointer (some ⟨g, 0, none⟩), .int .i64 k1, .int .i64 k2] w fun e w' => (∃ gB o i, e = .returned (.pointer (some ⟨gB, o + i * 5, none⟩)) ∧ gB < w.heap.size ∧ s.C = some ⟨gB, o, none⟩ ∧ s.X.bs[i]? = some x) ∧ Below w.heap.size w w' := by
  refine (dsub s g k1 k2 w h).mono ?_
  rintro e w' ⟨rfl, hb⟩
  refine ⟨?_, hb⟩
  rcases ix_find (f := isB k1 k2) (l := s.X.bs) with ⟨_, a⟩ | ⟨i, y, hi, hy, b, _⟩
  · rw [hf] at a; cases a
  · rw [hf] at b
    injection b with b
    subst b
    obtain ⟨gB, o, hA, hg, hc⟩ := h.rb.2 (by have := (List.getElem?_eq_some_iff.1 hy).1; omega)
    exact ⟨gB, o, i, by rw [hi, hA, ptrS_at], hg, hA, hy⟩
end Go.Proofs.Ytmmeceehfdbdoaa
