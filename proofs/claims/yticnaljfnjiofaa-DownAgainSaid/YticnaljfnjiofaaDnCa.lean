/-
  Package down (layer 14): a downtrack in memory; what New, SSRC, Count and Again tell.
-/
import Derived.Test.YticnaljfnjiofaaGdn
import Derived.Test.YticnaljfnjiofaaGsb
import Derived.Test.YticnaljfnjiofaaMuC
import Derived.Test.YticnaljfnjiofaaChC
import Derived.Deep.CutBlock
import Derived.Deep.DeepCutAuto
import Derived.Deep.RegionHeld3
import Derived.RegionTactic
import Derived.Deep.QuietTactic
import Derived.BigQuiet
namespace Go.Proofs.Yticnaljfnjiofaa
open Go.RowKit
set_option linter.unusedSimpArgs false
set_option linter.unusedVariables false
set_option maxRecDepth 100000

/-! ### A choice as the program keeps it: where it isn't On, its other parts are any -/
def Cs.as (p q : Cs) : Prop := p.on = q.on ∧ (q.on = true → p = q)
theorem Cs.as_refl (q : Cs) : q.as q := ⟨rfl, fun _ => rfl⟩
section
variable {p q : Cs} {x : Cx} {u : Cw}
theorem Cs.as_off (h : p.as q) (hq : ¬ q.on = true) : p.on = false ∧ q.on = false := by
  have : q.on = false := by simpa using hq
  exact ⟨h.1.trans this, this⟩
theorem Cs.own_off (h : p.on = false) : p.own x = false := by unfold Cs.own; rw [h]; rfl
theorem Cs.as_own (h : p.as q) : p.own x = q.own x := by
  by_cases hq : q.on = true
  · rw [h.2 hq]
  · rw [Cs.own_off (Cs.as_off h hq).1, Cs.own_off (Cs.as_off h hq).2]
theorem Cs.as_kind (h : p.as q) : p.kind x u = q.kind x u := by
  by_cases hq : q.on = true
  · rw [h.2 hq]
  · unfold Cs.kind
    rw [Cs.own_off (Cs.as_off h hq).1, Cs.own_off (Cs.as_off h hq).2]
    rfl
theorem Cs.as_next (h : p.as q) : (p.next x u).as (q.next x u) := by
  by_cases hq : q.on = true
  · rw [h.2 hq]; exact Cs.as_refl _
  · unfold Cs.next
    rw [Cs.own_off (Cs.as_off h hq).1, Cs.own_off (Cs.as_off h hq).2]
    rw [if_neg Bool.false_ne_true, if_neg Bool.false_ne_true]
    by_cases hc : x.fit u = true ∧ x.beg = true ∧ x.who = true
    · rw [if_pos hc, if_pos hc]; exact Cs.as_refl _
    · rw [if_neg hc, if_neg hc]; exact h
theorem Cs.as_asks (h : p.as q) : p.asks u = q.asks u := by
  by_cases hq : q.on = true
  · rw [h.2 hq]
  · unfold Cs.asks
    rw [(Cs.as_off h hq).1, (Cs.as_off h hq).2]
    rfl
end

/-- The cells of a downtrack. -/
def dcs (ss : Nat) (pk : Cs) (m : Mst) (gs : Nat) (c0 c1 c2 c3 c4 : Nat) : Array Value :=
  #[.int .u32 (ss : Int), .bool pk.on, .int .i64 pk.src, .int .i64 pk.lay, .int .i64 pk.tid, .bool m.on, .int .i64 m.high, .int .i64 m.since, .int .u16 m.off.seq, .int .u32 m.off.time, .int .u16 m.off.pic, .int .u8 m.off.tl0, .int .u16 m.out.seq, .int .u32 m.out.time, .int .u16 m.out.pic, .int .u8 m.out.tl0, .pointer (some ⟨gs, 0, none⟩), .int .i64 (c0 : Int), .int .i64 (c1 : Int), .int .i64 (c2 : Int), .int .i64 (c3 : Int), .int .i64 (c4 : Int)]
/-- Those of the blocks S that hold what is kept. -/
def DnOwn (S : Nat → Prop) (g gs m r b : Nat) : Prop := S b ∧ b ≠ g ∧ b ≠ gs ∧ b ≠ m ∧ b ≠ r
/-- Block g is a downtrack, of which S are the blocks. -/
def DnAt (w : World) (g : Nat) (S : Nat → Prop) (d : Dn) : Prop :=
  ∃ (pk : Cs) (gs m r : Nat), pk.as d.pick ∧ Whole w g 78 (dcs d.ssrc pk d.nums gs d.sent d.left d.drop d.late d.bad) ∧
    SAt (DnOwn S g gs m r) w gs m r d.room d.kept ∧ (S g ∧ S gs ∧ S m ∧ S r) ∧ (∀ k, S k → k < w.heap.size) ∧ (g ≠ gs ∧ g ≠ m ∧ g ≠ r)
theorem DnAt.lt {w : World} {g : Nat} {S : Nat → Prop} {d : Dn} (h : DnAt w g S d) : ∀ k, S k → k < w.heap.size := by
  obtain ⟨_, _, _, _, _, _, _, _, h, _⟩ := h
  exact h
theorem DnAt.keep {w w' : World} {g : Nat} {S : Nat → Prop} {d : Dn} (h : DnAt w g S d) (hs : w.heap.size ≤ w'.heap.size) (hk : ∀ k, S k → w'.heap[k]? = w.heap[k]?) : DnAt w' g S d := by
  obtain ⟨pk, gs, m, r, h1, h2, h3, h4, h5, h6⟩ := h
  refine ⟨pk, gs, m, r, h1, (hk g h4.1).trans h2, h3.keep hs (fun k _ hh => hk k ?_), h4, fun k hh => Nat.lt_of_lt_of_le (h5 k hh) hs, h6⟩
  rcases hh with rfl | rfl | rfl | hh
  · exact h4.2.1
  · exact h4.2.2.1
  · exact h4.2.2.2
  · exact hh.1
theorem DnAt.next {w w' : World} {g : Nat} {S : Nat → Prop} {d : Dn} (h : DnAt w g S d) (hb : Below w.heap.size w w') : DnAt w' g S d := h.keep hb.size fun k hk => hb.block k (h.lt k hk)

theorem u16_wf {s : Int} (h : 0 ≤ s ∧ s < 65536) : (Lit.int .u16 s).wf = true := by
  have h1 : IntKind.u16.min ≤ s ∧ s ≤ IntKind.u16.max := by
    have e1 : IntKind.u16.min = 0 := by decide
    have e2 : IntKind.u16.max = 65535 := by decide
    omega
  simpa [Lit.wf] using h1

/-! ### New -/
theorem dnew_any (ssrc room : Nat) (hs : ssrc < 4294967296) (h1 : 1 ≤ room) (h2 : room ≤ 4096) (w : World) :
    Calls Try.prog 11 #[.int .u32 (ssrc : Int), .int .i64 (room : Int)] w fun e w' => ∃ g S, e = .returned (.pointer (some ⟨g, 0, none⟩)) ∧ DnAt w' g S (Dn.new ssrc room) ∧ (∀ k, S k → w.heap.size ≤ k) ∧ Below w.heap.size w w' := by
  have C := Lib.hid (snew_any room w h1 h2)
  clear h1 h2
  go_enter Try.func11, Try.ntmps11
  go_wp2_with fail
  refine C.out.mono ?_
  rintro e w1 ⟨gs, m, r, rfl, hst, l1, l2, l3, b1⟩
  have HS := Lib.hid hst
  have HL := Lib.hid (And.intro l1 (And.intro l2 l3))
  have HB := Lib.hid b1
  clear hst l1 l2 l3 b1 C
  go_wp2
  go_ret
  have hlt := HS.out.lt
  have hz := HB.out.size
  have hl := HL.out
  refine ⟨w1.heap.size, fun k => k = w1.heap.size ∨ k = gs ∨ k = m ∨ k = r, rfl, ⟨⟨false, 0, 0, 0⟩, gs, m, r, Cs.as_refl _, Whole.new _ _ _, (HS.out.alloc _).weak (fun _ _ h => h.elim) (fun h => h.2.2.1 rfl) (fun h => h.2.2.2.1 rfl) (fun h => h.2.2.2.2 rfl), ⟨.inl rfl, .inr (.inl rfl), .inr (.inr (.inl rfl)), .inr (.inr (.inr rfl))⟩, ?_, ?_⟩, ?_, HB.out.alloc hz _⟩
  · intro k hk
    simp
    omega
  · omega
  · intro k hk
    omega
theorem dnew_none (ssrc : Nat) (w : World) : Calls Try.prog 11 #[.int .u32 (ssrc : Int), .int .i64 0] w fun e w' => e = .returned (.pointer none) ∧ Below w.heap.size w w' := by
  have C := Lib.hid (snew_bad 0 w (by decide))
  go_enter Try.func11, Try.ntmps11
  go_wp2_with fail
  refine C.out.mono ?_
  rintro e w1 ⟨rfl, rfl⟩
  clear C
  go_wp2
  go_ret
  exact ⟨rfl, Below.refl _ _⟩

/-! ### SSRC and Count -/
theorem dssrc_any (d : Dn) (g : Nat) (S : Nat → Prop) (w : World) (hd : DnAt w g S d) : Calls Try.prog 20 #[.pointer (some ⟨g, 0, none⟩)] w fun e w' => e = .returned (.int .u32 (d.ssrc : Int)) ∧ Below w.heap.size w w' := by
  obtain ⟨pk, gs, m, r, _, h, _⟩ := hd
  have h0 := h.cell 0
  dsimp only [dcs] at h0
  clear h
  go_enter Try.func20, Try.ntmps20
  go_wp2
  go_ret
  exact ⟨rfl, Below.refl _ _⟩
theorem dssrc_nil (w : World) : Calls Try.prog 20 #[.pointer none] w fun e w' => e = .returned (.int .u32 0) ∧ Below w.heap.size w w' := by
  go_enter Try.func20, Try.ntmps20
  go_wp2
  go_ret
  exact ⟨rfl, Below.refl _ _⟩
theorem five_set {b : Nat} {w0 w : World} {r : Nat} (h : Below b w0 w) (hr : b ≤ r) (u0 u1 u2 u3 u4 : Value) :
    Below b w0 (((((w.setCell ⟨r, 0, none⟩ u0).setCell ⟨r, 1, none⟩ u1).setCell ⟨r, 2, none⟩ u2).setCell ⟨r, 3, none⟩ u3).setCell ⟨r, 4, none⟩ u4) :=
  ((((h.setCell (p := ⟨r, 0, none⟩) hr u0).setCell (p := ⟨r, 1, none⟩) hr u1).setCell (p := ⟨r, 2, none⟩) hr u2).setCell (p := ⟨r, 3, none⟩) hr u3).setCell (p := ⟨r, 4, none⟩) hr u4
theorem dcount_any (d : Dn) (g : Nat) (S : Nat → Prop) (w : World) (hd : DnAt w g S d) : Calls Try.prog 21 #[.pointer (some ⟨g, 0, none⟩)] w fun e w' => e = .returned (.agg d.countV) ∧ Below w.heap.size w w' := by
  obtain ⟨pk, gs, m, r, _, h, _⟩ := hd
  unfold Dn.countV
  dsimp only [dcs] at h
  have h17 := h.cell 17
  have h18 := h.cell 18
  have h19 := h.cell 19
  have h20 := h.cell 20
  have h21 := h.cell 21
  have hg := h.lt
  have HB := Lib.hid ((Below.refl w.heap.size w).alloc (Nat.le_refl _) (.cells #[.int .i64 (d.sent : Int), .int .i64 (d.left : Int), .int .i64 (d.drop : Int), .int .i64 (d.late : Int), .int .i64 (d.bad : Int)] 63))
  clear h
  go_enter Try.func21, Try.ntmps21
  go_wp2_with fail
  exact bodyPost_ret (v := .agg #[.int .i64 (d.sent : Int), .int .i64 (d.left : Int), .int .i64 (d.drop : Int), .int .i64 (d.late : Int), .int .i64 (d.bad : Int)]) (by simp [results, Try.results21, go_sem]) rfl ⟨rfl, HB.out⟩
theorem dcount_nil (w : World) : Calls Try.prog 21 #[.pointer none] w fun e w' => e = .returned (.agg #[.int .i64 0, .int .i64 0, .int .i64 0, .int .i64 0, .int .i64 0]) ∧ Below w.heap.size w w' := by
  have HB := Lib.hid ((Below.refl w.heap.size w).alloc (Nat.le_refl _) (.cells #[.int .i64 0, .int .i64 0, .int .i64 0, .int .i64 0, .int .i64 0] 63))
  go_enter Try.func21, Try.ntmps21
  go_wp2_with fail
  exact bodyPost_ret (v := .agg #[.int .i64 0, .int .i64 0, .int .i64 0, .int .i64 0, .int .i64 0]) (by simp [results, Try.results21, go_sem]) rfl ⟨rfl, HB.out⟩

/-! ### Again -/
theorem dagain_any (d : Dn) (g : Nat) (S : Nat → Prop) (s : Int) (hs : 0 ≤ s ∧ s < 65536) (w : World) (hd : DnAt w g S d) (hf : d.few) :
    Calls Try.prog 19 #[.pointer (some ⟨g, 0, none⟩), .int .u16 s] w fun e w' => ∃ A c, e = .returned (.tuple #[.slice A ((getL d.kept s).getD []).length c, .bool (getL d.kept s).isSome]) ∧ Row w' w'.heap.size 1 A ((getL d.kept s).getD []).length (u8s ((getL d.kept s).getD [])) ∧ Below w.heap.size w w' := by
  obtain ⟨pk, gs, m, r, _, h, hst, _⟩ := hd
  dsimp only [dcs] at h
  have h16 := h.cell 16
  have C := get_any _ gs m r d.room d.kept s (u16_wf hs) w hst
  unfold GetTold at C
  clear h hst hf hs
  cases ho : getL d.kept s with
  | none =>
    rw [ho] at C
    dsimp only at C
    have HC := Lib.hid C
    clear C ho
    go_enter Try.func19, Try.ntmps19
    go_wp2_with fail
    refine HC.out.mono ?_
    rintro e w1 ⟨rfl, rfl⟩
    clear HC
    go_wp2
    go_ret2
    exact ⟨none, 0, rfl, Row.nil, Below.refl _ _⟩
  | some b =>
    rw [ho] at C
    dsimp only at C
    have HC := Lib.hid C
    clear C ho
    go_enter Try.func19, Try.ntmps19
    go_wp2_with fail
    refine HC.out.mono ?_
    rintro e w1 ⟨rfl, rfl⟩
    clear HC
    go_wp2
    go_ret2
    exact ⟨some ⟨w.heap.size, 0, none⟩, b.length, rfl, Row.fresh w _ _ 1 b.length _ (by simp [u8s_length]) (by simp), (Below.refl _ _).alloc (Nat.le_refl _) _⟩
theorem dagain_nil (s : Int) (w : World) : Calls Try.prog 19 #[.pointer none, .int .u16 s] w fun e w' => e = .returned (.tuple #[.slice none 0 0, .bool false]) ∧ Below w.heap.size w w' := by
  go_enter Try.func19, Try.ntmps19
  go_wp2
  go_ret2
  exact ⟨rfl, Below.refl _ _⟩
end Go.Proofs.Yticnaljfnjiofaa
