/-
  The document's requests (layer 18), as the laws want them: what each tells is doS.
-/
import Derived.Test.YtmmeceehfdbdoaaDcY
import Derived.Test.YtmmeceehfdbdoaaDeJ
import Derived.Test.YtmmeceehfdbdoaaDeP
import Derived.Test.YtmmeceehfdbdoaaDeO
import Derived.Test.YtmmeceehfdbdoaaDeB
import Derived.Test.YtmmeceehfdbdoaaDeC
namespace Go.Proofs.Ytmmeceehfdbdoaa
open Go.RowKit
open Dl
set_option linter.unusedSimpArgs false
set_option linter.unusedVariables false
set_option maxRecDepth 100000
/-- What a request tells: a state whose rows lie in blocks of P, and the error's number. -/
def RTold (P : Nat → Prop) (r : St × Int) (w : World) (e : Ending) (w' : World) : Prop :=
  Below w.heap.size w w' ∧ ∃ s' : Sm, s'.X = r.1 ∧ SAt P w' s' ∧ e = .returned (.tuple #[.agg (smA s'), .int .i64 r.2])
section
variable {P : Nat → Prop} {s : Sm} {x : Qm} {w : World}
theorem find_at {α : Type} {f : α → Bool} {l : List α} {p : α} (h : l.find? f = some p) : ∃ i : Nat, ixS f l = (i : Int) ∧ l[i]? = some p := by
  obtain ⟨i, y, e1, e2, e3⟩ := ix_get (f := f) (l := l) (find_ix.mp (by rw [h]; rfl))
  rw [h] at e3
  injection e3 with e3
  subst e3
  exact ⟨i, e1, e2⟩
set_option maxHeartbeats 1600000 in
theorem rjoinS (h : SAt P w s) (hq : QAt P w x) (hP : ∀ k, w.heap.size ≤ k → P k) (hk : x.q.kind = 0) : Calls Try.prog 23 #[.agg (smA s), .agg (qmV x).toArray] w (RTold P (doS s.X x.q) w) := by
  obtain ⟨m1, m2, m3⟩ := h.small
  have hd : doS s.X x.q = joinS s.X x.q := by unfold doS; rw [if_neg (by omega), if_pos hk]
  have hI := inv_do h.inv x.q
  rw [hd, join_is] at hI ⊢
  refine (rjoin18 s.X.cf.ps s.X.cf.ts s.X.cf.bs s.X.cf.sl s.A s.a s.X.ps s.B s.T.length s.b s.C s.X.bs.length s.c x.q x.A x.q.ss.length x.c w h.rp (by omega) h.pA.form h.pA.le h.pA.cap).mono ?_
  rintro e w' ⟨hb, ⟨he, rfl⟩ | ⟨he, A', c', rfl, ho⟩⟩
  · rw [if_neg he]
    exact ⟨hb, s, rfl, h.next hb, rfl⟩
  · rw [if_pos he] at hI ⊢
    have hn := h.next hb
    have hl := insK_length (lt := ltP) s.X.ps ⟨x.q.who, x.q.room, x.q.rights⟩
    rw [← hl] at ho
    exact ⟨hb, ⟨⟨s.X.cf, insK ltP s.X.ps ⟨x.q.who, x.q.room, x.q.rights⟩, s.X.ts, s.X.bs⟩, s.T, A', c', s.B, s.b, s.C, s.c⟩, rfl, ⟨Row.of_own ho, hn.rt, hn.rb, h.ts, hI, InP.own ho (fun k hk => hP k (by omega)), h.pB, h.pC, h.pS⟩, by unfold smA; dsimp only; rw [hl]⟩
set_option maxHeartbeats 1600000 in
theorem rpublishS (h : SAt P w s) (hq : QAt P w x) (hP : ∀ k, w.heap.size ≤ k → P k) (hk : x.q.kind = 2) (hf : ∃ p, s.X.ps.find? (isP x.q.who) = some p) : Calls Try.prog 26 #[.agg (smA s), .agg (qmV x).toArray] w (RTold P (doS s.X x.q) w) := by
  obtain ⟨m1, m2, m3⟩ := h.small
  obtain ⟨p, hp⟩ := hf
  obtain ⟨ip, h1, h2⟩ := find_at hp
  have hpm := h.inv.pm p (List.mem_of_getElem? h2)
  have hd : doS s.X x.q = publishS s.X p x.q := by unfold doS; rw [if_neg (by omega), if_neg (by omega), hp]; dsimp only; rw [if_neg (by omega), if_pos hk]
  have hI := inv_do h.inv x.q
  rw [hd, publish_is s.X p x.q h.ts] at hI ⊢
  refine (rpublish18 s.X.cf.ps s.X.cf.ts s.X.cf.bs s.X.cf.sl s.A s.a s.X.ps s.B s.b s.T s.C s.X.bs.length s.c x.q x.A x.c p ip w h.rp (by omega) h1 h2 ⟨hpm.2.2.2.2.1, hpm.2.2.2.2.2⟩ hq.r hq.len h.rt (by omega) h.pB.form h.pB.le h.pB.cap).mono ?_
  rintro e w' ⟨hb, ⟨he, rfl⟩ | ⟨he, A', c', rfl, ho⟩⟩
  · rw [if_neg he]
    exact ⟨hb, s, rfl, h.next hb, rfl⟩
  · rw [if_pos he] at hI ⊢
    have hn := h.next hb
    have hqn := hq.next hb
    have hl := insK_length (lt := ltM) s.T ⟨⟨x.q.track, x.q.who, 0, x.q.ss⟩, x.A, x.c⟩
    rw [← hl] at ho
    refine ⟨hb, ⟨⟨s.X.cf, s.X.ps, insK ltT s.X.ts ⟨x.q.track, x.q.who, 0, x.q.ss⟩, s.X.bs⟩, insK ltM s.T ⟨⟨x.q.track, x.q.who, 0, x.q.ss⟩, x.A, x.c⟩, s.A, s.a, A', c', s.C, s.c⟩, rfl, ⟨hn.rp, ⟨Row.of_own ho, fun y hy => ?_⟩, hn.rb, ?_, hI, h.pA, InP.own ho (fun k hk => hP k (by omega)), h.pC, fun y hy => ?_⟩, by unfold smA; dsimp only; rw [hl]⟩
    · rcases insK_mem.mp hy with rfl | hy
      · exact ⟨hqn.r, hqn.len⟩
      · exact hn.rt.2 y hy
    · dsimp only; rw [insM_is, h.ts]
    · rcases insK_mem.mp hy with rfl | hy
      · exact hq.p
      · exact h.pS y hy
set_option maxHeartbeats 1600000 in
theorem rownS (h : SAt P w s) (hq : QAt P w x) (hP : ∀ k, w.heap.size ≤ k → P k) (hk : x.q.kind = 3 ∨ x.q.kind = 4) (hf : ∃ p, s.X.ps.find? (isP x.q.who) = some p) : Calls Try.prog 27 #[.agg (smA s), .agg (qmV x).toArray] w (RTold P (doS s.X x.q) w) := by
  obtain ⟨m1, m2, m3⟩ := h.small
  obtain ⟨p, hp⟩ := hf
  have hI := inv_do h.inv x.q
  refine (rown18 s.X.cf.ps s.X.cf.ts s.X.cf.bs s.X.cf.sl s.A s.X.ps.length s.a s.B s.b s.T s.C s.c s.X.bs x.q x.A x.c w hq.r hq.len hk h.rt (by omega) h.rb (by omega)).mono ?_
  have hd3 : x.q.kind = 3 → doS s.X x.q = unpubS s.X x.q := fun h3 => by unfold doS; rw [if_neg (by omega), if_neg (by omega), hp]; dsimp only; rw [if_neg (by omega), if_neg (by omega), if_pos h3]
  have hd4 : x.q.kind = 4 → doS s.X x.q = replS s.X x.q := fun h3 => by unfold doS; rw [if_neg (by omega), if_neg (by omega), hp]; dsimp only; rw [if_neg (by omega), if_neg (by omega), if_neg (by omega), if_pos h3]
  rintro e w' ⟨hb, ⟨he, rfl⟩ | ⟨he, h3, A', c', B', d', rfl, ho, hob⟩ | ⟨he, h4, i, y, A', c', hi, hfi, rfl, ho⟩⟩
  · have : doS s.X x.q = (s.X, ownE s.T x.q) := by
      rcases hk with h3 | h4
      · rw [hd3 h3, unpub_is s.X x.q h.ts h.inv h3, if_neg he]
      · rw [hd4 h4, (repl_is s.X x.q h.ts h.inv h4).1 he]
    rw [this]
    exact ⟨hb, s, rfl, h.next hb, rfl⟩
  · have hd := hd3 h3
    rw [unpub_is s.X x.q h.ts h.inv h3, if_pos he] at hd
    rw [hd] at hI ⊢
    have hn := h.next hb
    exact ⟨hb, ⟨_, s.T.filter (keepT x.q.track 0), s.A, s.a, A', c', B', d'⟩, rfl, ⟨hn.rp, ⟨Row.of_own ho, fun y hy => hn.rt.2 y (List.mem_filter.mp hy).1⟩, Row.of_own hob, rfl, hI, h.pA, InP.own ho (fun k hk => hP k (by omega)), InP.own hob (fun k hk => hP k (by omega)), fun y hy => h.pS y (List.mem_filter.mp hy).1⟩, rfl⟩
  · have hd := hd4 h4
    rw [(repl_is s.X x.q h.ts h.inv h4).2 i y x.A x.c he hi hfi] at hd
    rw [hd] at hI ⊢
    have hn := h.next hb
    have hqn := hq.next hb
    have hl : (s.T.set i (replM y x.q.ss x.A x.c)).length = s.T.length := List.length_set
    rw [← hl] at ho
    refine ⟨hb, ⟨_, s.T.set i (replM y x.q.ss x.A x.c), s.A, s.a, A', c', s.C, s.c⟩, rfl, ⟨hn.rp, ⟨Row.of_own ho, fun z hz => ?_⟩, hn.rb, rfl, hI, h.pA, InP.own ho (fun k hk => hP k (by omega)), h.pC, fun z hz => ?_⟩, by unfold smA; dsimp only; rw [hl]⟩
    · rcases List.mem_or_eq_of_mem_set hz with hz | rfl
      · exact hn.rt.2 z hz
      · exact ⟨hqn.r, hqn.len⟩
    · rcases List.mem_or_eq_of_mem_set hz with hz | rfl
      · exact h.pS z hz
      · exact hq.p
set_option maxHeartbeats 1600000 in
theorem rsubscribeS (h : SAt P w s) (hq : QAt P w x) (hP : ∀ k, w.heap.size ≤ k → P k) (hk : x.q.kind = 5) (hf : ∃ p, s.X.ps.find? (isP x.q.who) = some p) : Calls Try.prog 28 #[.agg (smA s), .agg (qmV x).toArray] w (RTold P (doS s.X x.q) w) := by
  obtain ⟨m1, m2, m3⟩ := h.small
  obtain ⟨p, hp⟩ := hf
  obtain ⟨ip, h1, h2⟩ := find_at hp
  have hpm := h.inv.pm p (List.mem_of_getElem? h2)
  have hd : doS s.X x.q = subscribeS s.X p x.q := by unfold doS; rw [if_neg (by omega), if_neg (by omega), hp]; dsimp only; rw [if_neg (by omega), if_neg (by omega), if_neg (by omega), if_neg (by omega), if_pos hk]
  have hI := inv_do h.inv x.q
  rw [hd, subscribe_is s.X p x.q h.ts h.inv] at hI ⊢
  refine (rsubscribe18 s.X.cf.ps s.X.cf.ts s.X.cf.bs s.X.cf.sl s.A s.a s.X.ps s.B s.b s.T s.C s.c s.X.bs x.q x.A x.q.ss.length x.c p ip w h.rp (by omega) h1 h2 ⟨hpm.2.2.2.2.1, hpm.2.2.2.2.2⟩ h.rt.1 (by omega) (fun y hy => ?_) h.rb (by omega) h.pC.form h.pC.le h.pC.cap).mono ?_
  · obtain ⟨_, _, _, o, ho, e, _⟩ := h.inv.tm y.t (by rw [h.ts]; exact tks_mem hy)
    exact find_ix.mp (by rw [List.find?_isSome]; exact ⟨o, ho, by rw [isP_iff]; exact e⟩)
  rintro e w' ⟨hb, ⟨he, rfl⟩ | ⟨he, A', c', rfl, ho⟩⟩
  · rw [if_neg he]
    exact ⟨hb, s, rfl, h.next hb, rfl⟩
  · rw [if_pos he] at hI ⊢
    have hn := h.next hb
    have hl : (insN ltB s.X.bs ⟨x.q.who, x.q.track, x.q.layer, x.q.tid, false⟩).length = s.X.bs.length + 1 := by rw [insN_eq ltB_tr h.inv.br, insK_length]
    rw [← hl] at ho
    exact ⟨hb, ⟨⟨s.X.cf, s.X.ps, s.X.ts, insN ltB s.X.bs ⟨x.q.who, x.q.track, x.q.layer, x.q.tid, false⟩⟩, s.T, s.A, s.a, s.B, s.b, A', c'⟩, rfl, ⟨hn.rp, hn.rt, Row.of_own ho, h.ts, hI, h.pA, h.pB, InP.own ho (fun k hk => hP k (by omega)), h.pS⟩, by unfold smA; dsimp only; rw [hl]⟩
set_option maxHeartbeats 1600000 in
theorem rchangeS (h : SAt P w s) (hq : QAt P w x) (hP : ∀ k, w.heap.size ≤ k → P k) (hk : x.q.kind = 6 ∨ x.q.kind = 7 ∨ x.q.kind = 8 ∨ x.q.kind = 9) (hf : ∃ p, s.X.ps.find? (isP x.q.who) = some p) : Calls Try.prog 29 #[.agg (smA s), .agg (qmV x).toArray] w (RTold P (doS s.X x.q) w) := by
  obtain ⟨m1, m2, m3⟩ := h.small
  obtain ⟨p, hp⟩ := hf
  have hd : doS s.X x.q = changeS s.X x.q := by unfold doS; rw [if_neg (by omega), if_neg (by omega), hp]; dsimp only; rw [if_neg (by omega), if_neg (by omega), if_neg (by omega), if_neg (by omega), if_neg (by omega)]
  have hI := inv_do h.inv x.q
  rw [hd] at hI ⊢
  obtain ⟨hc1, hc2⟩ := change_is s.X x.q h.inv
  refine (rchange18 s.X.cf.ps s.X.cf.ts s.X.cf.bs s.X.cf.sl s.A s.X.ps.length s.a s.B s.T.length s.b s.C s.c s.X.bs x.q x.A x.q.ss.length x.c w hk h.rb (by omega) h.pC.le h.pC.cap).mono ?_
  rintro e w' ⟨hb, ⟨he, rfl⟩ | ⟨he, i, b, A', c', hi, hfi, rfl, ho⟩⟩
  · rw [hc1 he]
    exact ⟨hb, s, rfl, h.next hb, rfl⟩
  · rw [hc2 i b he hi hfi] at hI ⊢
    have hn := h.next hb
    exact ⟨hb, ⟨⟨s.X.cf, s.X.ps, s.X.ts, chgR s.X.bs i b x.q⟩, s.T, s.A, s.a, s.B, s.b, A', c'⟩, rfl, ⟨hn.rp, hn.rt, Row.of_own ho, h.ts, hI, h.pA, h.pB, InP.own ho (fun k hk => hP k (by omega)), h.pS⟩, rfl⟩
end
end Go.Proofs.Ytmmeceehfdbdoaa
