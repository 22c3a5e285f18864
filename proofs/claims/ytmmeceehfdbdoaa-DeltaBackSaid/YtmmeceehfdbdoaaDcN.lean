/-
  Package delta: the copy that Do works at (memory of the call's own), what a store leaves of it; dropSubs; copied.
-/
import Derived.Conc.WalkWords
import Derived.Test.YtmmeceehfdbdoaaDcP
import Derived.Test.YtmmeceehfdbdoaaHang
namespace Go.Proofs.Ytmmeceehfdbdoaa
open Go.RowKit
open Dl
set_option linter.unusedSimpArgs false
set_option linter.unusedVariables false
set_option maxRecDepth 100000
theorem set_same {α : Type} {l : List α} {i : Nat} {x : α} (h : l[i]? = some x) : l.set i x = l := by
  apply List.ext_getElem?
  intro j
  rw [List.getElem?_set]
  split
  · rename_i e
    subst e
    split
    · exact h.symm
    · rename_i hn
      rw [List.getElem?_eq_none (by omega)]
  · rfl
/-- The rows of a state, each in a block of the call's own. -/
structure NxR (base : Nat) (w : World) (s : Sm) : Prop where
  op : w.ownsRow base 71 3 (.slice s.A s.X.ps.length s.a) s.X.ps.length (pnC s.X.ps)
  ot : w.ownsRow base 72 4 (.slice s.B s.T.length s.b) s.T.length (tmC s.T)
  ob : w.ownsRow base 55 5 (.slice s.C s.X.bs.length s.c) s.X.bs.length (sbC s.X.bs)
  os : ∀ x ∈ s.T, w.ownsRow base 64 1 (.slice x.A x.t.ss.length x.c) x.t.ss.length (n32 x.t.ss) ∧ x.t.ss.length ≤ 4096
  ts : s.X.ts = tks s.T
  small : s.X.ps.length ≤ 64 ∧ s.T.length ≤ 64 ∧ s.X.bs.length ≤ 64
structure Nx (base : Nat) (w : World) (g : Nat) (s : Sm) : Prop where
  at' : Whole w g 31 (smA s)
  lo : base ≤ g
  r : NxR base w s
section
variable {base : Nat} {w w' : World} {g : Nat} {s : Sm}
theorem NxR.next (h : NxR base w s) (hb : Below w.heap.size w w') : NxR base w' s :=
  ⟨own_below h.op hb (Nat.le_refl _), own_below h.ot hb (Nat.le_refl _), own_below h.ob hb (Nat.le_refl _), fun x hx => ⟨own_below (h.os x hx).1 hb (Nat.le_refl _), (h.os x hx).2⟩, h.ts, h.small⟩
theorem Nx.next (h : Nx base w g s) (hb : Below w.heap.size w w') : Nx base w' g s := ⟨h.at'.below hb h.at'.lt, h.lo, h.r.next hb⟩
theorem Nx.rd (h : Nx base w g s) : Rd w g s :=
  ⟨h.at', Row.of_own h.r.op, ⟨Row.of_own h.r.ot, fun x hx => ⟨Row.of_own (h.r.os x hx).1, (h.r.os x hx).2⟩⟩, Row.of_own h.r.ob, h.r.ts, h.r.small⟩
/-- Other subs. -/
theorem Nx.setB {w5 : World} {bs' : List Sb} {C' : Option Addr} {c' : Nat} (h : Nx base w g s) (o5 : w5.ownsRow base 55 5 (.slice C' bs'.length c') bs'.length (sbC bs')) (k5 : But (fun k => (Value.slice s.C s.X.bs.length s.c).ownBlock = some k) w w5) (hs : bs'.length ≤ 64) :
    Nx base (w5.setCell ⟨g, 6, none⟩ (.slice C' bs'.length c')) g ⟨{ s.X with bs := bs' }, s.T, s.A, s.a, s.B, s.b, C', c'⟩ := by
  have hg5 : Whole w5 g 31 (smA s) := h.at'.but k5 (fun e => own_far h.r.ob h.at' (by decide) e.symm)
  have f : ∀ {e : TypeId} {z n : Nat} {v : Value} {xs : List Value}, e ≠ 31 → e ≠ 55 → w.ownsRow base e z v n xs → (w5.setCell ⟨g, 6, none⟩ (.slice C' bs'.length c')).ownsRow base e z v n xs := fun he1 he2 ho => by
    have h5 := own_butX ho k5 (fun q hq e => own_apartX ho h.r.ob he2 q hq e)
    exact own_farX h5 (fun q hq e => own_far h5 hg5 he1 (by rw [hq]; exact congrArg some e))
  exact ⟨hg5.set 6 _, h.lo, ⟨f (by decide) (by decide) h.r.op, f (by decide) (by decide) h.r.ot, own_farX o5 (fun q hq e => own_far o5 hg5 (by decide) (by rw [hq]; exact congrArg some e)), fun x hx => ⟨f (by decide) (by decide) (h.r.os x hx).1, (h.r.os x hx).2⟩, h.r.ts, ⟨h.r.small.1, h.r.small.2.1, hs⟩⟩⟩
/-- Other people. -/
theorem Nx.setP {w5 : World} {ps' : List Pn} {C' : Option Addr} {c' : Nat} (h : Nx base w g s) (o5 : w5.ownsRow base 71 3 (.slice C' ps'.length c') ps'.length (pnC ps')) (k5 : But (fun k => (Value.slice s.A s.X.ps.length s.a).ownBlock = some k) w w5) (hs : ps'.length ≤ 64) :
    Nx base (w5.setCell ⟨g, 4, none⟩ (.slice C' ps'.length c')) g ⟨{ s.X with ps := ps' }, s.T, C', c', s.B, s.b, s.C, s.c⟩ := by
  have hg5 : Whole w5 g 31 (smA s) := h.at'.but k5 (fun e => own_far h.r.op h.at' (by decide) e.symm)
  have f : ∀ {e : TypeId} {z n : Nat} {v : Value} {xs : List Value}, e ≠ 31 → e ≠ 71 → w.ownsRow base e z v n xs → (w5.setCell ⟨g, 4, none⟩ (.slice C' ps'.length c')).ownsRow base e z v n xs := fun he1 he2 ho => by
    have h5 := own_butX ho k5 (fun q hq e => own_apartX ho h.r.op he2 q hq e)
    exact own_farX h5 (fun q hq e => own_far h5 hg5 he1 (by rw [hq]; exact congrArg some e))
  exact ⟨hg5.set 4 _, h.lo, ⟨own_farX o5 (fun q hq e => own_far o5 hg5 (by decide) (by rw [hq]; exact congrArg some e)), f (by decide) (by decide) h.r.ot, f (by decide) (by decide) h.r.ob, fun x hx => ⟨f (by decide) (by decide) (h.r.os x hx).1, (h.r.os x hx).2⟩, h.r.ts, ⟨hs, h.r.small.2.1, h.r.small.2.2⟩⟩⟩
/-- Other tracks: each is one that was, or its SSRCs lie in memory of the call's own that was there. -/
theorem Nx.setT {w5 : World} {T' : List Tm} {C' : Option Addr} {c' : Nat} (h : Nx base w g s) (o5 : w5.ownsRow base 72 4 (.slice C' T'.length c') T'.length (tmC T')) (k5 : But (fun k => (Value.slice s.B s.T.length s.b).ownBlock = some k) w w5) (hs : T'.length ≤ 64)
    (hT : ∀ x ∈ T', x ∈ s.T ∨ (w.ownsRow base 64 1 (.slice x.A x.t.ss.length x.c) x.t.ss.length (n32 x.t.ss) ∧ x.t.ss.length ≤ 4096)) :
    Nx base (w5.setCell ⟨g, 5, none⟩ (.slice C' T'.length c')) g ⟨{ s.X with ts := tks T' }, T', s.A, s.a, C', c', s.C, s.c⟩ := by
  have hg5 : Whole w5 g 31 (smA s) := h.at'.but k5 (fun e => own_far h.r.ot h.at' (by decide) e.symm)
  have f : ∀ {e : TypeId} {z n : Nat} {v : Value} {xs : List Value}, e ≠ 31 → e ≠ 72 → w.ownsRow base e z v n xs → (w5.setCell ⟨g, 5, none⟩ (.slice C' T'.length c')).ownsRow base e z v n xs := fun he1 he2 ho => by
    have h5 := own_butX ho k5 (fun q hq e => own_apartX ho h.r.ot he2 q hq e)
    exact own_farX h5 (fun q hq e => own_far h5 hg5 he1 (by rw [hq]; exact congrArg some e))
  refine ⟨hg5.set 5 _, h.lo, ⟨f (by decide) (by decide) h.r.op, own_farX o5 (fun q hq e => own_far o5 hg5 (by decide) (by rw [hq]; exact congrArg some e)), f (by decide) (by decide) h.r.ob, fun x hx => ?_, rfl, ⟨h.r.small.1, hs, h.r.small.2.2⟩⟩⟩
  rcases hT x hx with hx | ⟨h1, h2⟩
  · exact ⟨f (by decide) (by decide) (h.r.os x hx).1, (h.r.os x hx).2⟩
  · exact ⟨f (by decide) (by decide) h1, h2⟩
theorem Nx.loB (h : Nx base w g s) : ∀ k, (Value.slice s.C s.X.bs.length s.c).ownBlock = some k → base ≤ k := fun k hk => (h.r.ob.lt k hk).1
theorem Nx.loP (h : Nx base w g s) : ∀ k, (Value.slice s.A s.X.ps.length s.a).ownBlock = some k → base ≤ k := fun k hk => (h.r.op.lt k hk).1
theorem Nx.loT (h : Nx base w g s) : ∀ k, (Value.slice s.B s.T.length s.b).ownBlock = some k → base ≤ k := fun k hk => (h.r.ot.lt k hk).1
end
/-- One sub is another one: a cell of it, or two. -/
theorem Nx.elemB {base : Nat} {w w5 : World} {g gB : Nat} {s : Sm} {bs' : List Sb} (h : Nx base w g s) (hC : s.C = some ⟨gB, 0, none⟩) (o5 : w5.ownsRow base 55 5 (.slice s.C s.X.bs.length s.c) s.X.bs.length (sbC bs')) (k5 : But (fun k => k = gB) w w5) (hl : bs'.length = s.X.bs.length) :
    Nx base w5 g ⟨{ s.X with bs := bs' }, s.T, s.A, s.a, s.B, s.b, s.C, s.c⟩ := by
  have hob : (Value.slice s.C s.X.bs.length s.c).ownBlock = some gB := by rw [hC]; rfl
  have f : ∀ {e : TypeId} {z n : Nat} {v : Value} {xs : List Value}, e ≠ 55 → w.ownsRow base e z v n xs → w5.ownsRow base e z v n xs := fun he ho => own_butX ho k5 (fun q hq e => own_apartX ho h.r.ob he q hq (by rw [hob, e]))
  have hg : Whole w5 g 31 (smA s) := h.at'.but k5 (fun e => own_far h.r.ob h.at' (by decide) (by rw [hob, e]))
  refine ⟨?_, h.lo, ⟨f (by decide) h.r.op, f (by decide) h.r.ot, ?_, fun x hx => ⟨f (by decide) (h.r.os x hx).1, (h.r.os x hx).2⟩, h.r.ts, ?_⟩⟩
  · unfold smA at hg ⊢
    dsimp only
    rw [hl]; exact hg
  · dsimp only
    rw [hl]; exact o5
  · dsimp only
    rw [hl]; exact h.r.small
/-- One track is another one. -/
theorem Nx.elemT {base : Nat} {w w5 : World} {g gB : Nat} {s : Sm} {T' : List Tm} (h : Nx base w g s) (hC : s.B = some ⟨gB, 0, none⟩) (o5 : w5.ownsRow base 72 4 (.slice s.B s.T.length s.b) s.T.length (tmC T')) (k5 : But (fun k => k = gB) w w5) (hl : T'.length = s.T.length)
    (hT : ∀ x ∈ T', x ∈ s.T ∨ (w.ownsRow base 64 1 (.slice x.A x.t.ss.length x.c) x.t.ss.length (n32 x.t.ss) ∧ x.t.ss.length ≤ 4096)) :
    Nx base w5 g ⟨{ s.X with ts := tks T' }, T', s.A, s.a, s.B, s.b, s.C, s.c⟩ := by
  have hob : (Value.slice s.B s.T.length s.b).ownBlock = some gB := by rw [hC]; rfl
  have f : ∀ {e : TypeId} {z n : Nat} {v : Value} {xs : List Value}, e ≠ 72 → w.ownsRow base e z v n xs → w5.ownsRow base e z v n xs := fun he ho => own_butX ho k5 (fun q hq e => own_apartX ho h.r.ot he q hq (by rw [hob, e]))
  have hg : Whole w5 g 31 (smA s) := h.at'.but k5 (fun e => own_far h.r.ot h.at' (by decide) (by rw [hob, e]))
  refine ⟨?_, h.lo, ⟨f (by decide) h.r.op, ?_, f (by decide) h.r.ob, fun x hx => ?_, rfl, ?_⟩⟩
  · unfold smA at hg ⊢
    dsimp only
    rw [hl]; exact hg
  · dsimp only
    rw [hl]; exact o5
  · rcases hT x hx with hx | ⟨h1, h2⟩
    · exact ⟨f (by decide) (h.r.os x hx).1, (h.r.os x hx).2⟩
    · exact ⟨f (by decide) h1, h2⟩
  · dsimp only
    rw [hl]; exact h.r.small
/-- What a call that turns the copy comes to: the copy is X', the world below is as it was. -/
def Turned (base g : Nat) (X' : St) (w w' : World) : Prop := ∃ s', s'.X = X' ∧ Nx base w' g s' ∧ But (fun k => base ≤ k) w w'
set_option maxHeartbeats 3200000 in
theorem ddrop (base g : Nat) (s : Sm) (k1 : Int) (w : World) (h : Nx base w g s) (hbase : base ≤ w.heap.size) :
    Calls Try.prog 59 #[.pointer (some ⟨g, 0, none⟩), .int .i64 k1] w fun e w' => e = .returned (.tuple #[]) ∧ Nx base w' g ⟨{ s.X with bs := outS (fun x => decide (x.track = k1)) s.X.bs }, s.T, s.A, s.a, s.B, s.b, s.C, s.c⟩ ∧ But (fun k => k = g ∨ (Value.slice s.C s.X.bs.length s.c).ownBlock = some k) w w' := by
  obtain ⟨w1, hw1⟩ : ∃ z, z = w.alloc (.cells #[.int .i64 k1] 3) := ⟨_, rfl⟩
  have b1 : Below w.heap.size w w1 := by rw [hw1]; exact (Below.refl _ _).alloc (Nat.le_refl _) _
  have hq : Whole w1 w.heap.size 3 #[.int .i64 k1] := by rw [hw1]; exact Whole.new w _ _
  have h1 := h.next b1
  have hlt : ∀ k, (Value.slice s.C s.X.bs.length s.c).ownBlock = some k → k < w.heap.size := fun k hk => (h.r.ob.lt k hk).2
  have C := Lib.hid (ddelB base 82 (.pointer (some ⟨w.heap.size, 0, none⟩)) (fun x => decide (x.track = k1)) s.C s.c s.X.bs w1 (enters Try.func82 (by kernel_rfl) (by kernel_rfl)) h1.r.ob (by have := h.r.small.2.2; omega)
    (fun x _ wx hb => cl_drop x w.heap.size k1 wx ((hq.but hb (fun e => Nat.lt_irrefl _ (hlt _ e))).cell 0) (by have := hb.size; have := hq.lt; omega)))
  have c0 := h1.at'.cell 6
  have f0 := h1.at'.free 6
  have lg := h.at'.lt
  have lg1 := h1.at'.lt
  have HN := Lib.hid h1
  have HB1 := Lib.hid (show But (fun k => k = g ∨ (Value.slice s.C s.X.bs.length s.c).ownBlock = some k) w w1 from but_of_below b1)
  unfold smA at c0
  replace c0 := c0.trans rfl
  obtain ⟨n, hn⟩ : ∃ n, s.X.bs.length = n := ⟨_, rfl⟩
  have HNN := Lib.hid hn
  unfold DelB at C
  rw [hn] at C c0
  clear h h1 hq b1 hn hlt
  obtain ⟨L, hL⟩ : ∃ L, outS (fun x => decide (x.track = k1)) s.X.bs = L := ⟨_, rfl⟩
  have hLl : L.length ≤ 64 := by
    have h1 : L.length ≤ s.X.bs.length := by rw [← hL]; exact List.length_filter_le _ _
    have := HN.out.r.small.2.2
    omega
  rw [hL] at C ⊢
  clear hL
  go_enter Try.func59, Try.ntmps59
  go_upto_region 1 with fail
  rw [← hw1]
  clear hw1
  go_wp2_with fail
  refine C.out.mono ?_
  rintro e w5 ⟨rfl, o5, k5⟩
  have hg5 : Whole w5 g 31 (smA s) := HN.out.at'.but k5 (fun e => own_far HN.out.r.ob HN.out.at' (by decide) (by rw [HNN.out]; exact e.symm))
  have c6 := hg5.cell 6
  have f6 := hg5.free 6
  have lg5 := hg5.lt
  have HF := Lib.hid (show Nx base (w5.setCell ⟨g, 6, none⟩ (.slice s.C L.length s.c)) g ⟨{ s.X with bs := L }, s.T, s.A, s.a, s.B, s.b, s.C, s.c⟩ ∧ But (fun k => k = g ∨ (Value.slice s.C s.X.bs.length s.c).ownBlock = some k) w (w5.setCell ⟨g, 6, none⟩ (.slice s.C L.length s.c)) from
    ⟨HN.out.setB o5 (by rw [HNN.out]; exact k5) hLl, (HB1.out.trans (k5.mono (fun k _ hk => .inr (by rw [HNN.out]; exact hk)))).set (p := ⟨g, 6, none⟩) (.inl (.inl rfl)) _⟩)
  clear o5 k5 hg5 C HB1 HN c0 f0
  unfold smA at c6
  replace c6 := c6.trans (show _ = some (Value.slice s.C s.X.bs.length s.c) from rfl)
  go_wp2_with fail
  exact bodyPost_end (v := .tuple #[]) (by simp [results, Try.results59, go_sem]) rfl ⟨rfl, HF.out⟩
set_option maxHeartbeats 6400000 in
/-- copied: the same in new memory. -/
theorem dcopied (g : Nat) (s : Sm) (w : World) (h : Rd w g s) :
    Calls Try.prog 21 #[.pointer (some ⟨g, 0, none⟩)] w fun e w' => ∃ s', e = .returned (.agg (smA s')) ∧ s'.X = s.X ∧ NxR w.heap.size w' s' ∧ Below w.heap.size w w' := by
  obtain ⟨⟨⟨f1, f2, f3, f4⟩, ps, ts, bs⟩, T, A, a, B, b, C, c⟩ := s
  obtain ⟨hat, hrp, hrt, hrb, hts, hsm⟩ := h
  unfold smA at hat
  dsimp only at hat hrp hrt hrb hts hsm
  subst hts
  obtain ⟨n, hn⟩ : ∃ n, T.length = n := ⟨_, rfl⟩
  obtain ⟨np, hnp⟩ : ∃ n, ps.length = n := ⟨_, rfl⟩
  obtain ⟨nb, hnb⟩ : ∃ n, bs.length = n := ⟨_, rfl⟩
  have HSM := Lib.hid hsm
  have hT64 : n ≤ 64 := by omega
  have HN := Lib.hid hn
  have HNP := Lib.hid hnp
  have HNB := Lib.hid hnb
  have hp64 : np ≤ 64 := by omega
  have hb64 : nb ≤ 64 := by omega
  rw [hn, hnp, hnb] at hat
  rw [hnp] at hrp
  rw [hnb] at hrb
  obtain ⟨w1, hw1⟩ : ∃ z, z = w.alloc (.cells #[.int .i64 0, .int .i64 0, .int .i64 0, .int .i64 0, .slice none 0 0, .slice none 0 0, .slice none 0 0] 31) := ⟨_, rfl⟩
  have b1 : Below w.heap.size w w1 := by rw [hw1]; exact (Below.refl _ _).alloc (Nat.le_refl _) _
  have hR : Whole w1 w.heap.size 31 #[.int .i64 0, .int .i64 0, .int .i64 0, .int .i64 0, .slice none 0 0, .slice none 0 0, .slice none 0 0] := by rw [hw1]; exact Whole.new w _ _
  have lR := hR.lt
  have lg := hat.lt
  have gq : g ≠ w.heap.size := by omega
  have HG := Lib.hid hat
  have HRP := Lib.hid hrp
  have HRT := Lib.hid hrt
  have HRB := Lib.hid hrb
  have HB1 := Lib.hid b1
  have HR := Lib.hid hR
  have g5 := ((hat.below b1 lg).cell 5).trans rfl
  have CT := Lib.hid (dcloneT B b n (tmC T) w1 (by have h2 := (hrt.1.below b1 (Nat.le_refl _)).more b1.size; rw [hn] at h2; exact h2) (by omega) (flat_one tm_one T))
  clear hat hrp hrt hrb hsm hn hnp hnb b1 hR
  go_enter Try.func21, Try.ntmps21
  go_upto_region 1 with fail
  rw [← hw1]
  clear hw1
  go_wp2_with fail
  refine CT.out.mono ?_
  rintro e w2 ⟨B', b', rfl, o2, b2⟩
  have HO2 := Lib.hid (own_base o2 (show w.heap.size ≤ w1.heap.size by omega))
  have HB2 := Lib.hid (HB1.out.trans (b2.mono HB1.out.size))
  have HR2 := Lib.hid (HR.out.below b2 lR)
  clear o2 b2 CT g5 HB1 HR
  go_wp2_with fail
  go_loopw [12] (fun i wr => ∃ (k : Nat) (T' : List Tm), k ≤ n ∧ i = .int .i64 (k : Int) ∧ Hid (T'.length = n) ∧ Hid (tks T' = tks T) ∧ Hid (∀ (j : Nat) (x : Tm), k ≤ j → T'[j]? = some x → T[j]? = some x) ∧
    Hid (∀ (j : Nat) (x : Tm), j < k → T'[j]? = some x → wr.ownsRow w.heap.size 64 1 (.slice x.A x.t.ss.length x.c) x.t.ss.length (n32 x.t.ss) ∧ x.t.ss.length ≤ 4096) ∧ Hid (wr.ownsRow w.heap.size 72 4 (.slice B' n b') n (tmC T')) ∧ Hid (Whole wr w.heap.size 31 #[.int .i64 0, .int .i64 0, .int .i64 0, .int .i64 0, .slice none 0 0, .slice none 0 0, .slice none 0 0]) ∧ Hid (Below w.heap.size w wr)) (fun i _ => n - (intOf i).toNat)
  case atStart => exact ⟨0, T, Nat.zero_le _, rfl, HN, Lib.hid rfl, Lib.hid (fun j x _ h => h), Lib.hid (fun j x h => by omega), HO2, HR2, HB2⟩
  case round =>
    obtain ⟨k, T', hk, rfl, HL, HT, HH, HLO, HO, HZ, HB⟩ := hrel
    clear HO2 HR2 HB2
    by_cases hlt : k < n
    · obtain ⟨y, hy⟩ : ∃ y, T'[k]? = some y := ⟨_, List.getElem?_eq_getElem (by rw [HL.out]; exact hlt)⟩
      have hyT := HH.out k y (Nat.le_refl _) hy
      obtain ⟨gB, cur, rfl, hgb, hW, hcz⟩ := own_wholeX HO.out (by omega)
      have htk : cur.toList.take (n * 4) = tmC T' := by
        rcases HO.out.2 with ⟨hv, _⟩ | ⟨b'', cap, cur', hv, _, hb', _, _, _, htk⟩
        · cases hv
        · injection hv with hv _ _
          injection hv with hv
          injection hv with hv _ _
          subst hv
          have e : cur' = cur := by have h1 : wr.heap[gB]? = some (.cells cur _ (0, 0)) := hW; rw [hb'] at h1; injection h1 with h1; injection h1
          rw [← e]; exact htk
      have hc3 : wr.cell? ⟨gB, k * 4 + 3, none⟩ = some (.slice y.A y.t.ss.length y.c) := by
        have e := tmC_get hy 3 (by decide)
        rw [← htk, List.getElem?_take] at e
        split at e
        · rw [hW.cell, ← Array.getElem?_toList, e]; rfl
        · cases e
      obtain ⟨hys, hyl⟩ := HRT.out.2 y (List.mem_of_getElem? hyT)
      obtain ⟨m, hm⟩ : ∃ m, y.t.ss.length = m := ⟨_, rfl⟩
      have HM := Lib.hid hm
      rw [hm] at hc3 hys hyl
      obtain ⟨yA, hyA⟩ : ∃ z, y.A = z := ⟨_, rfl⟩
      obtain ⟨yc, hyc⟩ : ∃ z, y.c = z := ⟨_, rfl⟩
      rw [hyA, hyc] at hc3
      rw [hyA] at hys
      have CU := Lib.hid (dcloneU yA yc m (n32 y.t.ss) wr ((hys.below HB.out (Nat.le_refl _)).more HB.out.size) hyl (fun u hu => by obtain ⟨_, _, rfl⟩ := List.mem_map.1 hu; rfl))
      have HY := Lib.hid hy
      have HHW := Lib.hid hW
      have lgB := hW.lt
      have i0 : (0 : Int) ≤ (k : Int) := by omega
      have i1 : (k : Int) < (n : Int) := by omega
      have hwr := HB.out.size
      clear hy hyT hgb hW hcz htk hys hm hyA hyc
      go_wp2_with fail
      refine CU.out.mono ?_
      rintro e w4 ⟨Q, qc, rfl, o4, b4⟩
      have hW4 := HHW.out.below b4 lgB
      have f3 := hW4.free (k * 4 + 3)
      have lgB4 := hW4.lt
      have z3 : ∃ v, w4.cell? ⟨gB, k * 4 + 3, none⟩ = some v := ⟨_, (b4.cell (p := ⟨gB, k * 4 + 3, none⟩) lgB).trans hc3⟩
      obtain ⟨v3, z3⟩ := z3
      have HO4 := Lib.hid (own_below HO.out b4 (Nat.le_refl _))
      have HU4 := Lib.hid (own_base o4 hwr)
      have HLO4 := Lib.hid (fun j x hj hx => (show w4.ownsRow w.heap.size 64 1 (.slice x.A x.t.ss.length x.c) x.t.ss.length (n32 x.t.ss) ∧ x.t.ss.length ≤ 4096 from ⟨own_below (HLO.out j x hj hx).1 b4 (Nat.le_refl _), (HLO.out j x hj hx).2⟩))
      have HZ4 := Lib.hid (HZ.out.below b4 HZ.out.lt)
      have HB4 := Lib.hid (HB.out.trans (b4.mono hwr))
      clear o4 b4 hW4 CU hc3 HLO HZ HB HO HHW
      go_wp2_with fail
      go_roundw
      case rel =>
        have hset : (tmC T').set (k * 4 + 3) (.slice Q m qc) = tmC (T'.set k ⟨y.t, Q, qc⟩) := by
          have h2 := tmC_set (a := .slice Q m qc) (b := .int .i64 y.t.from') (y := ⟨y.t, Q, qc⟩) HY.out (by rw [← HM.out]; rfl)
          rw [← h2]
          symm
          refine set_same ?_
          rw [List.getElem?_set_ne (by omega)]
          exact (tmC_get HY.out 2 (by decide)).trans rfl
        have hset' : ∀ {e : TypeId} {z n' : Nat} {v : Value} {xs : List Value}, e ≠ 72 → w4.ownsRow w.heap.size e z v n' xs → (w4.setCell ⟨gB, k * 4 + 3, none⟩ (.slice Q m qc)).ownsRow w.heap.size e z v n' xs := fun he ho =>
          own_farX ho (fun q hq e => own_apartX ho HO4.out he q hq (congrArg some e))
        refine ⟨k + 1, T'.set k ⟨y.t, Q, qc⟩, by omega, by go_num, Lib.hid (by rw [List.length_set]; exact HL.out), Lib.hid ?_, Lib.hid (fun j x hj hx => ?_), Lib.hid (fun j x hj hx => ?_), Lib.hid ?_, Lib.hid (HZ4.out.far (p := ⟨gB, k * 4 + 3, none⟩) (fun e => ?_) _), Lib.hid (HB4.out.setCell (p := ⟨gB, k * 4 + 3, none⟩) ((HO4.out.lt gB rfl).1) _)⟩
        · rw [tks_set, ← HT.out]
          refine set_same ?_
          show (tks T')[k]? = some y.t
          unfold tks
          rw [List.getElem?_map, HY.out]; rfl
        · rw [List.getElem?_set_ne (by omega)] at hx
          exact HH.out j x (by omega) hx
        · by_cases hjk : j = k
          · subst hjk
            rw [List.getElem?_set_self (by rw [HL.out]; exact hlt)] at hx
            injection hx with hx
            subst hx
            dsimp only
            rw [HM.out]
            exact ⟨hset' (by decide) HU4.out, hyl⟩
          · rw [List.getElem?_set_ne (fun e => hjk e.symm)] at hx
            exact ⟨hset' (by decide) (HLO4.out j x (by omega) hx).1, (HLO4.out j x (by omega) hx).2⟩
        · rw [← hset]
          exact own_setY HO4.out (by omega)
        · have h2 : w.heap.size = gB := e
          exact own_far HO4.out HZ4.out (by decide) (by rw [h2]; rfl)
      case measure => simp [intOf]; omega
    · obtain rfl : k = n := by omega
      have hO := HO.out
      have hg := HG.out.below HB.out lg
      have HGC := Lib.hid hg
      have HBS := Lib.hid (Below.refl wr.heap.size wr)
      have hwr := HB.out.size
      have KS := Lib.hid (fun w' (b' : Below wr.heap.size wr w') => show (fun w' => w'.cell? ⟨g, 0, none⟩ = some (.int .i64 f1) ∧ w'.cell? ⟨g, 1, none⟩ = some (.int .i64 f2) ∧ w'.cell? ⟨g, 2, none⟩ = some (.int .i64 f3) ∧ w'.cell? ⟨g, 3, none⟩ = some (.int .i64 f4) ∧ w'.cell? ⟨g, 4, none⟩ = some (.slice A np a) ∧ w'.cell? ⟨g, 6, none⟩ = some (.slice C nb c) ∧ Below w.heap.size w w') w' from
        ⟨(hg.below b' hg.lt).cell 0, (hg.below b' hg.lt).cell 1, (hg.below b' hg.lt).cell 2, (hg.below b' hg.lt).cell 3, (hg.below b' hg.lt).cell 4, (hg.below b' hg.lt).cell 6, HB.out.trans (b'.mono hwr)⟩)
      have CP := Lib.hid (fun w' (b' : Below wr.heap.size wr w') => dcloneP A a np (pnC ps) w' ((HRP.out.below (HB.out.trans (b'.mono hwr)) (Nat.le_refl _)).more (HB.out.trans (b'.mono hwr)).size) (by omega) (flat_one pn_one ps))
      have CB := Lib.hid (fun w' (b' : Below wr.heap.size wr w') => dcloneB C c nb (sbC bs) w' ((HRB.out.below (HB.out.trans (b'.mono hwr)) (Nat.le_refl _)).more (HB.out.trans (b'.mono hwr)).size) (by omega) (flat_one sb_one bs))
      have hK0 := KS.out wr (Below.refl _ _)
      have lgr := hg.lt
      have zc := HZ.out.cell 0
      have lZ := HZ.out.lt
      clear hg hO
      go_upto_region 7 with fail
      refine wp_region_X (S := fun w' => w'.cell? ⟨g, 0, none⟩ = some (.int .i64 f1) ∧ w'.cell? ⟨g, 1, none⟩ = some (.int .i64 f2) ∧ w'.cell? ⟨g, 2, none⟩ = some (.int .i64 f3) ∧ w'.cell? ⟨g, 3, none⟩ = some (.int .i64 f4) ∧ w'.cell? ⟨g, 4, none⟩ = some (.slice A np a) ∧ w'.cell? ⟨g, 6, none⟩ = some (.slice C nb c) ∧ Below w.heap.size w w') [16] (by kernel_rfl) (KS.out _ (Below.refl _ _).drew) (fun hHeld0 => ?_)
      refine tk (i := 0) [1, 2, 3, 15, 16] (v := ?_) ?_ ?_
      rotate_left 1
      · (intro w hSw; obtain ⟨q0, q1, q2, q3, q4, q5, q6⟩ := hSw; go_simp; try (with_reducible rfl))
      (try walk_nrm)
      refine tk (i := 1) [2, 3, 15, 16] (v := ?_) ?_ ?_
      rotate_left 1
      · (intro w hSw; obtain ⟨q0, q1, q2, q3, q4, q5, q6⟩ := hSw; go_simp; try (with_reducible rfl))
      (try walk_nrm)
      refine tk (i := 2) [3, 15, 16] (v := ?_) ?_ ?_
      rotate_left 1
      · (intro w hSw; obtain ⟨q0, q1, q2, q3, q4, q5, q6⟩ := hSw; go_simp; try (with_reducible rfl))
      (try walk_nrm)
      refine tk (i := 3) [15, 16] (v := ?_) ?_ ?_
      rotate_left 1
      · (intro w hSw; obtain ⟨q0, q1, q2, q3, q4, q5, q6⟩ := hSw; go_simp; try (with_reducible rfl))
      (try walk_nrm)
      refine tk (i := 4) [5, 6, 7, 8, 14, 15, 16] (v := ?_) ?_ ?_
      rotate_left 1
      · (intro w hSw; obtain ⟨q0, q1, q2, q3, q4, q5, q6⟩ := hSw; go_simp; try (with_reducible rfl))
      (try walk_nrm)
      refine tk (i := 5) [6, 7, 8, 14, 15, 16] (v := ?_) ?_ ?_
      rotate_left 1
      · (intro w hSw; obtain ⟨q0, q1, q2, q3, q4, q5, q6⟩ := hSw; go_simp; try (with_reducible rfl))
      (try walk_nrm)
      refine tk (i := 6) [7, 8, 14, 15, 16] (v := ?_) ?_ ?_
      rotate_left 1
      · (intro w hSw; obtain ⟨q0, q1, q2, q3, q4, q5, q6⟩ := hSw; go_simp; try (with_reducible rfl))
      (try walk_nrm)
      refine tk (i := 7) [8, 14, 15, 16] (v := ?_) ?_ ?_
      rotate_left 1
      · (intro w hSw; obtain ⟨q0, q1, q2, q3, q4, q5, q6⟩ := hSw; go_simp; try (with_reducible rfl))
      (try walk_nrm)
      refine tk (i := 9) [15, 16] (v := ?_) ?_ ?_
      rotate_left 1
      · (intro w hSw; obtain ⟨q0, q1, q2, q3, q4, q5, q6⟩ := hSw; go_simp; try (with_reducible rfl))
      (try walk_nrm)
      refine tk (i := 10) [11, 12, 13, 14, 15, 16] (v := ?_) ?_ ?_
      rotate_left 1
      · (intro w hSw; obtain ⟨q0, q1, q2, q3, q4, q5, q6⟩ := hSw; go_simp; try (with_reducible rfl))
      (try walk_nrm)
      refine tk (i := 11) [12, 13, 14, 15, 16] (v := ?_) ?_ ?_
      rotate_left 1
      · (intro w hSw; obtain ⟨q0, q1, q2, q3, q4, q5, q6⟩ := hSw; go_simp; try (with_reducible rfl))
      (try walk_nrm)
      refine tk (i := 12) [13, 14, 15, 16] (v := ?_) ?_ ?_
      rotate_left 1
      · (intro w hSw; obtain ⟨q0, q1, q2, q3, q4, q5, q6⟩ := hSw; go_simp; try (with_reducible rfl))
      (try walk_nrm)
      refine tk (i := 13) [14, 15, 16] (v := ?_) ?_ ?_
      rotate_left 1
      · (intro w hSw; obtain ⟨q0, q1, q2, q3, q4, q5, q6⟩ := hSw; go_simp; try (with_reducible rfl))
      (try walk_nrm)
      refine wpAnyX_one 8 (by kernel_rfl) rfl (fun K hK => ?_)
      go_simp
      go_wp2_with (refine (CP.out wr.drew (Below.refl _ _).drew).mono ?_; rintro e v1 ⟨A', a', rfl, oA, bv1⟩)
      have BV1 := ((Below.refl wr.heap.size wr).drew).trans (bv1.mono (Below.refl wr.heap.size wr).drew.size)
      refine hK.out _ _ (.inr (KS.out _ BV1)) ?_
      have hHeld1 := KS.out _ BV1
      clear hK K
      (try walk_nrm)
      refine wpAnyX_one 14 (by kernel_rfl) rfl (fun K hK => ?_)
      go_simp
      go_wp2_with (refine (CB.out v1 BV1).mono ?_; rintro e v2 ⟨C', c', rfl, oC, bv2⟩)
      have BV2 := BV1.trans (bv2.mono BV1.size)
      refine hK.out _ _ (.inr (KS.out _ BV2)) ?_
      have hHeld2 := KS.out _ BV2
      clear hK K
      (try walk_nrm)
      refine tk (i := 15) [16] (v := ?_) ?_ ?_
      rotate_left 1
      · (intro w hSw; obtain ⟨q0, q1, q2, q3, q4, q5, q6⟩ := hSw; go_simp; try (with_reducible rfl))
      (try walk_nrm)
      refine wpAnyX_one 16 (by kernel_rfl) rfl (fun K hK => ?_)
      have Z2 := HZ.out.below BV2 HZ.out.lt
      have lz2 := Z2.lt
      have z0 := Z2.cell 0
      have z1 := Z2.cell 1
      have z2 := Z2.cell 2
      have z3 := Z2.cell 3
      have z4 := Z2.cell 4
      have z5 := Z2.cell 5
      have z6 := Z2.cell 6
      have y0 := Z2.free 0
      have y1 := Z2.free 1
      have y2 := Z2.free 2
      have y3 := Z2.free 3
      have y4 := Z2.free 4
      have y5 := Z2.free 5
      have y6 := Z2.free 6
      go_simp
      refine hK.out _ _ (.inl (by decide)) ?_
      clear hK K
      (try walk_nrm)
      refine wpAnyX_done (by kernel_rfl) ?_ _
      obtain ⟨wF, hwF⟩ : ∃ z, z = (((((((v2.setCell ⟨w.heap.size, 0, none⟩ (.int .i64 f1)).setCell ⟨w.heap.size, 1, none⟩ (.int .i64 f2)).setCell ⟨w.heap.size, 2, none⟩ (.int .i64 f3)).setCell ⟨w.heap.size, 3, none⟩ (.int .i64 f4)).setCell ⟨w.heap.size, 4, none⟩ (.slice A' np a')).setCell ⟨w.heap.size, 5, none⟩ (.slice B' k b')).setCell ⟨w.heap.size, 6, none⟩ (.slice C' nb c')) := ⟨_, rfl⟩
      have ZF : Whole wF w.heap.size 31 #[.int .i64 f1, .int .i64 f2, .int .i64 f3, .int .i64 f4, .slice A' np a', .slice B' k b', .slice C' nb c'] := by rw [hwF]; exact (((((((Z2.set 0 (.int .i64 f1)).set 1 (.int .i64 f2)).set 2 (.int .i64 f3)).set 3 (.int .i64 f4)).set 4 (.slice A' np a')).set 5 (.slice B' k b')).set 6 (.slice C' nb c'))
      have HB2 := HB.out.trans (BV2.mono hwr)
      have HBF := Lib.hid (show Below w.heap.size w wF by rw [hwF]; exact (((((((HB2.setCell (p := ⟨w.heap.size, 0, none⟩) (Nat.le_refl _) (.int .i64 f1)).setCell (p := ⟨w.heap.size, 1, none⟩) (Nat.le_refl _) (.int .i64 f2)).setCell (p := ⟨w.heap.size, 2, none⟩) (Nat.le_refl _) (.int .i64 f3)).setCell (p := ⟨w.heap.size, 3, none⟩) (Nat.le_refl _) (.int .i64 f4)).setCell (p := ⟨w.heap.size, 4, none⟩) (Nat.le_refl _) (.slice A' np a')).setCell (p := ⟨w.heap.size, 5, none⟩) (Nat.le_refl _) (.slice B' k b')).setCell (p := ⟨w.heap.size, 6, none⟩) (Nat.le_refl _) (.slice C' nb c')))
      have KF : But (fun q => q = w.heap.size) v2 wF := by rw [hwF]; exact ((((((((But.refl (fun q => q = w.heap.size) v2).set (p := ⟨w.heap.size, 0, none⟩) (.inl rfl) (.int .i64 f1)).set (p := ⟨w.heap.size, 1, none⟩) (.inl rfl) (.int .i64 f2)).set (p := ⟨w.heap.size, 2, none⟩) (.inl rfl) (.int .i64 f3)).set (p := ⟨w.heap.size, 3, none⟩) (.inl rfl) (.int .i64 f4)).set (p := ⟨w.heap.size, 4, none⟩) (.inl rfl) (.slice A' np a')).set (p := ⟨w.heap.size, 5, none⟩) (.inl rfl) (.slice B' k b')).set (p := ⟨w.heap.size, 6, none⟩) (.inl rfl) (.slice C' nb c'))
      have far : ∀ {e : TypeId} {z n' : Nat} {v : Value} {xs : List Value}, e ≠ 31 → v2.ownsRow w.heap.size e z v n' xs → wF.ownsRow w.heap.size e z v n' xs := fun he ho => own_butX ho KF (fun q hq e => own_far ho Z2 he (by rw [hq, e]))
      have hd := (Below.refl wr.heap.size wr).drew.size
      have hF := Lib.hid (show ∃ s', Ending.returned (.agg #[.int .i64 f1, .int .i64 f2, .int .i64 f3, .int .i64 f4, .slice A' np a', .slice B' k b', .slice C' nb c']) = .returned (.agg (smA s')) ∧ s'.X = ⟨⟨f1, f2, f3, f4⟩, ps, tks T, bs⟩ ∧ NxR w.heap.size wF s' from
        ⟨⟨⟨⟨f1, f2, f3, f4⟩, ps, tks T, bs⟩, T', A', a', B', b', C', c'⟩, by unfold smA; dsimp only; rw [HNP.out, HNB.out, HL.out], rfl,
         ⟨by dsimp only; rw [HNP.out]; exact far (by decide) (own_below (own_base oA (Nat.le_trans hwr hd)) bv2 (Nat.le_refl _)),
          by dsimp only; rw [HL.out]; exact far (by decide) (own_below HO.out BV2 (Nat.le_refl _)),
          by dsimp only; rw [HNB.out]; exact far (by decide) (own_base oC (Nat.le_trans hwr (Nat.le_trans hd bv1.size))),
          fun x hx => by
            obtain ⟨j, hj, e⟩ := List.mem_iff_getElem.mp hx
            have := HLO.out j x (by have h2 : j < T'.length := hj; rw [HL.out] at h2; exact h2) (by rw [List.getElem?_eq_getElem hj, e])
            exact ⟨far (by decide) (own_below this.1 BV2 (Nat.le_refl _)), this.2⟩,
          HT.out.symm, by dsimp only; rw [HNP.out, HL.out, HNB.out]; omega⟩⟩)
      have s0 := ZF.cell 0
      have s1 := ZF.cell 1
      have s2 := ZF.cell 2
      have s3 := ZF.cell 3
      have s4 := ZF.cell 4
      have s5 := ZF.cell 5
      have s6 := ZF.cell 6
      clear ZF HB2 KF far hd Z2 lz2 z0 z1 z2 z3 z4 z5 z6 y0 y1 y2 y3 y4 y5 y6 hHeld0 hHeld1 hHeld2 bv1 bv2 BV1 BV2 oA oC CP CB KS HO HLO
      rw [← hwF]
      clear hwF
      go_wp2_with fail
      obtain ⟨s', e1, e2, e3⟩ := hF.out
      exact bodyPost_ret (v := .agg #[.int .i64 f1, .int .i64 f2, .int .i64 f3, .int .i64 f4, .slice A' np a', .slice B' k b', .slice C' nb c']) (by simp [results, Try.results21, go_sem, s0, s1, s2, s3, s4, s5, s6]) rfl ⟨s', e1, e2, e3, HBF.out⟩
end Go.Proofs.Ytmmeceehfdbdoaa
