/-
  A table in memory while it is made: its struct, its four maps, and the maps within the last one; what each put turns; where a track's downtracks stand.
-/
import Derived.Test.YtgjhcnpegaemoaaTbCb
namespace Go.Proofs.Ytgjhcnpegaemoaa
open Go.RowKit Go.Maps
set_option linter.unusedSimpArgs false
set_option linter.unusedVariables false
set_option maxRecDepth 100000

/-- The struct's block g, its maps' blocks; T: where the maps within the last one lie; the routes by SSRC, the routes by what they are, the downtracks by SSRC, and by track and person. -/
structure TB (w : World) (g m1 m2 m3 m4 : Nat) (T : List (Int × Option Nat)) (p : Int) (R R2 : List Rt) (D D2 : List Dn) : Prop where
  st : Whole w g 68 #[.int .u64 p, .map (some m1), .map (some m2), .map (some m3), .map (some m4)]
  r : RMap w m1 R
  s : SMap w m2 R2
  o : OMap w m3 D
  t : TMap w m4 T
  one : ∀ e ∈ T, ∃ b, e.2 = some b ∧ WMap w b (trD e.1 D2)
  two : T.Pairwise fun a b => a.1 ≠ b.1 ∧ a.2 ≠ b.2
  all : ∀ d ∈ D2, ∃ e ∈ T, e.1 = d.track
  n12 : m1 ≠ m2
  n13 : m1 ≠ m3
  n14 : m1 ≠ m4
  n23 : m2 ≠ m3
  n24 : m2 ≠ m4
  n34 : m3 ≠ m4
  far : ∀ e ∈ T, e.2 ≠ some m1 ∧ e.2 ≠ some m2 ∧ e.2 ≠ some m3 ∧ e.2 ≠ some m4
/-- Its blocks. -/
def TS (g m1 m2 m3 m4 : Nat) (T : List (Int × Option Nat)) (k : Nat) : Prop := k = g ∨ k = m1 ∨ k = m2 ∨ k = m3 ∨ k = m4 ∨ ∃ e ∈ T, e.2 = some k
theorem trD_add (t : Int) (D : List Dn) (x : Dn) : trD t (D ++ [x]) = if x.track = t then trD t D ++ [x] else trD t D := by
  unfold trD
  rw [List.filter_append]
  by_cases h : x.track = t <;> simp [h]
section
variable {w w' : World} {g m1 m2 m3 m4 : Nat} {T : List (Int × Option Nat)} {p : Int} {R R2 : List Rt} {D D2 : List Dn}
theorem TB.lt (h : TB w g m1 m2 m3 m4 T p R R2 D D2) : ∀ k, TS g m1 m2 m3 m4 T k → k < w.heap.size := by
  rintro k (rfl | rfl | rfl | rfl | rfl | ⟨e, he, hk⟩)
  · exact h.st.lt
  · exact MapG.lt h.r
  · exact MapG.lt h.s
  · exact MapG.lt h.o
  · exact MapG.lt h.t
  · obtain ⟨b, hb, hw⟩ := h.one e he
    rw [hk] at hb
    injection hb with hb
    rw [hb]
    exact MapG.lt hw
theorem TB.keep (h : TB w g m1 m2 m3 m4 T p R R2 D D2) (hk : ∀ k, TS g m1 m2 m3 m4 T k → w'.heap[k]? = w.heap[k]?) : TB w' g m1 m2 m3 m4 T p R R2 D D2 :=
  { h with
    st := (hk g (.inl rfl)).trans h.st
    r := MapG.same h.r (hk m1 (.inr (.inl rfl)))
    s := MapG.same h.s (hk m2 (.inr (.inr (.inl rfl))))
    o := MapG.same h.o (hk m3 (.inr (.inr (.inr (.inl rfl)))))
    t := MapG.same h.t (hk m4 (.inr (.inr (.inr (.inr (.inl rfl))))))
    one := fun e he => by
      obtain ⟨b, hb, hw⟩ := h.one e he
      exact ⟨b, hb, MapG.same hw (hk b (.inr (.inr (.inr (.inr (.inr ⟨e, he, hb⟩))))))⟩ }
theorem TB.next (h : TB w g m1 m2 m3 m4 T p R R2 D D2) (b : But (fun _ => False) w w') : TB w' g m1 m2 m3 m4 T p R R2 D D2 := h.keep fun k hk => b.block k (h.lt k hk) id
theorem TB.g1 (h : TB w g m1 m2 m3 m4 T p R R2 D D2) : m1 ≠ g := MapG.not_cells h.r h.st
theorem TB.g2 (h : TB w g m1 m2 m3 m4 T p R R2 D D2) : m2 ≠ g := MapG.not_cells h.s h.st
theorem TB.g3 (h : TB w g m1 m2 m3 m4 T p R R2 D D2) : m3 ≠ g := MapG.not_cells h.o h.st
theorem TB.g4 (h : TB w g m1 m2 m3 m4 T p R R2 D D2) : m4 ≠ g := MapG.not_cells h.t h.st
theorem TB.gT (h : TB w g m1 m2 m3 m4 T p R R2 D D2) {e : Int × Option Nat} (he : e ∈ T) {b : Nat} (hb : e.2 = some b) : b ≠ g := by
  obtain ⟨b', hb', hw⟩ := h.one e he
  rw [hb] at hb'
  injection hb' with hb'
  subst hb'
  exact MapG.not_cells hw h.st
theorem TB.putR (h : TB w g m1 m2 m3 m4 T p R R2 D D2) {R' : List Rt} (hm : RMap w' m1 R') (b : But (fun k => k = m1) w w') : TB w' g m1 m2 m3 m4 T p R' R2 D D2 :=
  { h with
    st := h.st.but b (Ne.symm h.g1)
    r := hm
    s := MapG.same h.s (b.block m2 (MapG.lt h.s) (Ne.symm h.n12))
    o := MapG.same h.o (b.block m3 (MapG.lt h.o) (Ne.symm h.n13))
    t := MapG.same h.t (b.block m4 (MapG.lt h.t) (Ne.symm h.n14))
    one := fun e he => by
      obtain ⟨k, hk, hw⟩ := h.one e he
      exact ⟨k, hk, MapG.same hw (b.block k (MapG.lt hw) fun e1 => (h.far e he).1 (by rw [hk, e1]))⟩ }
theorem TB.putS (h : TB w g m1 m2 m3 m4 T p R R2 D D2) {R' : List Rt} (hm : SMap w' m2 R') (b : But (fun k => k = m2) w w') : TB w' g m1 m2 m3 m4 T p R R' D D2 :=
  { h with
    st := h.st.but b (Ne.symm h.g2)
    s := hm
    r := MapG.same h.r (b.block m1 (MapG.lt h.r) h.n12)
    o := MapG.same h.o (b.block m3 (MapG.lt h.o) (Ne.symm h.n23))
    t := MapG.same h.t (b.block m4 (MapG.lt h.t) (Ne.symm h.n24))
    one := fun e he => by
      obtain ⟨k, hk, hw⟩ := h.one e he
      exact ⟨k, hk, MapG.same hw (b.block k (MapG.lt hw) fun e1 => (h.far e he).2.1 (by rw [hk, e1]))⟩ }
theorem TB.putO (h : TB w g m1 m2 m3 m4 T p R R2 D D2) {D' : List Dn} (hm : OMap w' m3 D') (b : But (fun k => k = m3) w w') : TB w' g m1 m2 m3 m4 T p R R2 D' D2 :=
  { h with
    st := h.st.but b (Ne.symm h.g3)
    o := hm
    r := MapG.same h.r (b.block m1 (MapG.lt h.r) h.n13)
    s := MapG.same h.s (b.block m2 (MapG.lt h.s) h.n23)
    t := MapG.same h.t (b.block m4 (MapG.lt h.t) (Ne.symm h.n34))
    one := fun e he => by
      obtain ⟨k, hk, hw⟩ := h.one e he
      exact ⟨k, hk, MapG.same hw (b.block k (MapG.lt hw) fun e1 => (h.far e he).2.2.1 (by rw [hk, e1]))⟩ }
/-- A track's map, made anew. -/
theorem TB.putT (h : TB w g m1 m2 m3 m4 T p R R2 D D2) {t : Int} {b : Nat} (hn : ∀ e ∈ T, e.1 ≠ t) (hb : w.heap.size ≤ b) (hm : TMap w' m4 (T ++ [(t, some b)])) (hw : WMap w' b []) (k : But (fun k => k = m4) w w') : TB w' g m1 m2 m3 m4 (T ++ [(t, some b)]) p R R2 D D2 :=
  { h with
    st := h.st.but k (Ne.symm h.g4)
    r := MapG.same h.r (k.block m1 (MapG.lt h.r) h.n14)
    s := MapG.same h.s (k.block m2 (MapG.lt h.s) h.n24)
    o := MapG.same h.o (k.block m3 (MapG.lt h.o) h.n34)
    t := hm
    one := fun e he => by
      rcases List.mem_append.1 he with he | he
      · obtain ⟨q, hq, hw⟩ := h.one e he
        exact ⟨q, hq, MapG.same hw (k.block q (MapG.lt hw) fun e1 => (h.far e he).2.2.2 (by rw [hq, e1]))⟩
      · rw [List.mem_singleton.1 he]
        refine ⟨b, rfl, ?_⟩
        have e1 : trD t D2 = [] := by
          unfold trD
          rw [List.filter_eq_nil_iff]
          intro d hd hh
          obtain ⟨e, he, h1⟩ := h.all d hd
          exact hn e he (by rw [h1]; exact of_decide_eq_true hh)
        rw [e1]
        exact hw
    two := by
      rw [List.pairwise_append]
      refine ⟨h.two, List.pairwise_singleton _ _, fun x hx y hy => ?_⟩
      rw [List.mem_singleton.1 hy]
      refine ⟨hn x hx, fun e1 => ?_⟩
      have := h.lt b (.inr (.inr (.inr (.inr (.inr ⟨x, hx, e1⟩)))))
      omega
    all := fun d hd => by
      obtain ⟨e, he, h1⟩ := h.all d hd
      exact ⟨e, List.mem_append.2 (.inl he), h1⟩
    far := fun e he => by
      rcases List.mem_append.1 he with he | he
      · exact h.far e he
      · rw [List.mem_singleton.1 he]
        have l1 := MapG.lt h.r
        have l2 := MapG.lt h.s
        have l3 := MapG.lt h.o
        have l4 := MapG.lt h.t
        refine ⟨?_, ?_, ?_, ?_⟩ <;> (intro e1; injection e1 with e1; omega) }
theorem two_one {T : List (Int × Option Nat)} (h : T.Pairwise fun a b => a.1 ≠ b.1 ∧ a.2 ≠ b.2) {x y : Int × Option Nat} (hx : x ∈ T) (hy : y ∈ T) (e : x.1 = y.1 ∨ x.2 = y.2) : x = y := by
  obtain ⟨i, hi⟩ := List.getElem?_of_mem hx
  obtain ⟨j, hj⟩ := List.getElem?_of_mem hy
  rcases Nat.lt_trichotomy i j with h1 | h1 | h1
  · have := two_at h h1 hj hi
    exact absurd e (by rintro (e | e); exact this.1 e; exact this.2 e)
  · subst h1
    rw [hi] at hj
    injection hj
  · have := two_at h h1 hi hj
    exact absurd e (by rintro (e | e); exact this.1 e.symm; exact this.2 e.symm)
/-- One more of a track that has a map. -/
theorem TB.putW (h : TB w g m1 m2 m3 m4 T p R R2 D D2) {t : Int} {b : Nat} {x : Dn} (he : (t, some b) ∈ T) (hx : x.track = t) (hm : WMap w' b (trD t D2 ++ [x])) (k : But (fun k => k = b) w w') : TB w' g m1 m2 m3 m4 T p R R2 D (D2 ++ [x]) := by
  have hf := h.far _ he
  have nb : ∀ {c : Nat}, (t, some b).2 ≠ some c → c ≠ b := fun h e => h (by rw [e])
  exact { h with
    st := h.st.but k (Ne.symm (h.gT he rfl))
    r := MapG.same h.r (k.block m1 (MapG.lt h.r) (nb hf.1))
    s := MapG.same h.s (k.block m2 (MapG.lt h.s) (nb hf.2.1))
    o := MapG.same h.o (k.block m3 (MapG.lt h.o) (nb hf.2.2.1))
    t := MapG.same h.t (k.block m4 (MapG.lt h.t) (nb hf.2.2.2))
    one := fun e he' => by
      obtain ⟨q, hq, hw⟩ := h.one e he'
      rw [trD_add]
      by_cases e1 : x.track = e.1
      · have h1 := two_one h.two he he' (.inl (by rw [← e1, ← hx]))
        rw [if_pos e1]
        rw [← h1]
        exact ⟨b, rfl, hm⟩
      · rw [if_neg e1]
        refine ⟨q, hq, MapG.same hw (k.block q (MapG.lt hw) fun e2 => e1 ?_)⟩
        have h1 := two_one h.two he he' (.inr (by rw [hq, e2]))
        rw [← h1, hx]
    all := fun d hd => by
      rcases List.mem_append.1 hd with hd | hd
      · exact h.all d hd
      · rw [List.mem_singleton.1 hd]
        exact ⟨_, he, hx.symm⟩ }
/-- Where a track's downtracks stand. -/
def Sent (g m1 m2 m3 m4 : Nat) (T : List (Int × Option Nat)) (p : Int) (R R2 : List Rt) (D D2 : List Dn) (t : Int) (w : World) (e : Ending) (w' : World) : Prop :=
  ∃ b T', e = .returned (.map (some b)) ∧ TB w' g m1 m2 m3 m4 T' p R R2 D D2 ∧ (t, some b) ∈ T' ∧ But (fun k => k = m4) w w' ∧ (∀ e ∈ T', e ∈ T ∨ e.2 = some w.heap.size) ∧ T'.length ≤ T.length + 1
end
theorem map_some (b : Nat) (w : World) : (binOp BinOp.eql 75 (.map (some b)) (.map none)).run Try.prog w = .ok (.bool false) w := by kernel_rfl
theorem map_none (w : World) : (binOp BinOp.eql 75 (.map none) (.map none)).run Try.prog w = .ok (.bool true) w := by kernel_rfl
theorem sent_there (g m1 m2 m3 m4 : Nat) (T : List (Int × Option Nat)) (p : Int) (R R2 : List Rt) (D D2 : List Dn) (t : Int) (b : Nat) (w : World) (h : TB w g m1 m2 m3 m4 T p R R2 D D2) (ht : I64 t) (he : (t, some b) ∈ T) :
    Calls Try.prog 33 #[.pointer (some ⟨g, 0, none⟩), .int .i64 t] w (Sent g m1 m2 m3 m4 T p R R2 D D2 t w) := by
  have hf : fndG Prod.fst T t = some (t, some b) := by
    have := ApartG.find (κ := Prod.fst) (h.two.imp fun h => h.1) he
    exact this
  have hlook := MapG.look1 h.t m_reads keyI Try.underlying66 (zeroM w) (okI ht)
  rw [hf] at hlook
  unfold mVal at hlook
  dsimp only [Option.getD] at hlook
  have c4 := h.st.cell 4
  have HF := Lib.hid (show Sent g m1 m2 m3 m4 T p R R2 D D2 t w (.returned (.map (some b))) w from ⟨b, T, rfl, h, he, But.refl _ _, fun e he => .inl he, Nat.le_succ _⟩)
  have q1 := map_some b w
  clear h he hf ht
  go_enter Try.func33, Try.ntmps33
  go_wp2
  go_ret
  exact HF.out
theorem sent_new (g m1 m2 m3 m4 : Nat) (T : List (Int × Option Nat)) (p : Int) (R R2 : List Rt) (D D2 : List Dn) (t : Int) (w : World) (h : TB w g m1 m2 m3 m4 T p R R2 D D2) (ht : I64 t) (hn : ∀ e ∈ T, e.1 ≠ t) (hl : T.length < 1000) :
    Calls Try.prog 33 #[.pointer (some ⟨g, 0, none⟩), .int .i64 t] w (Sent g m1 m2 m3 m4 T p R R2 D D2 t w) := by
  have hf : fndG Prod.fst T t = none := fndG_none.2 hn
  have hlook := MapG.look1 h.t m_reads keyI Try.underlying66 (zeroM w) (okI ht)
  rw [hf] at hlook
  unfold mVal at hlook
  dsimp only [Option.getD] at hlook
  have c4 := h.st.cell 4
  have hb : But (fun k => k = m4) w (w.alloc (.map #[] 0)) := (But.refl _ _).alloc _
  have ht2 : TMap (w.alloc (.map #[] 0)) m4 T := MapG.same h.t (Below.heap_alloc w _ m4 (MapG.lt h.t))
  obtain ⟨w', hrun, hm, hturn⟩ := MapG.put_new ht2 m_reads keyI Try.underlying66 (Nat.lt_trans hl (by decide)) (t, some w.heap.size) (okI ht) hf
  have hW : WMap (w.alloc (.map #[] 0)) w.heap.size [] := MapG.new _ _ _ _ _ _ _
  have hne : w.heap.size ≠ m4 := Nat.ne_of_gt (MapG.lt h.t)
  have hb2 := hb.turned rfl hturn
  have hW2 : WMap w' w.heap.size [] := MapG.same hW (turned_block hturn hne)
  have hT := h.putT hn (Nat.le_refl _) hm hW2 hb2
  have c4' := hT.st.cell 4
  have hlook2 := MapG.look1 hT.t m_reads keyI Try.underlying66 (zeroM w') (okI ht)
  rw [fndG_snoc, hf] at hlook2
  unfold mVal at hlook2 hrun
  simp only [Option.none_or, if_true, Option.getD_some] at hlook2
  have HF := Lib.hid (show Sent g m1 m2 m3 m4 T p R R2 D D2 t w (.returned (.map (some w.heap.size))) w' from ⟨w.heap.size, _, rfl, hT, List.mem_append.2 (.inr (List.mem_singleton.2 rfl)), hb2, fun e he => (List.mem_append.1 he).imp id fun h => by rw [List.mem_singleton.1 h], by simp⟩)
  have q1 := map_none w
  have hmm := @run_makeMap Try.prog
  clear h hf ht hn ht2 hm hturn hW hne hb2 hW2 hT hb hl
  go_enter Try.func33, Try.ntmps33
  go_wp2
  go_ret
  exact HF.out
theorem sent_any (g m1 m2 m3 m4 : Nat) (T : List (Int × Option Nat)) (p : Int) (R R2 : List Rt) (D D2 : List Dn) (t : Int) (w : World) (h : TB w g m1 m2 m3 m4 T p R R2 D D2) (ht : I64 t) (hl : T.length < 1000) :
    Calls Try.prog 33 #[.pointer (some ⟨g, 0, none⟩), .int .i64 t] w (Sent g m1 m2 m3 m4 T p R R2 D D2 t w) := by
  by_cases hn : ∀ e ∈ T, e.1 ≠ t
  · exact sent_new g m1 m2 m3 m4 T p R R2 D D2 t w h ht hn hl
  · have hn : ∃ e ∈ T, e.1 = t := by
      apply Classical.byContradiction
      intro h1
      exact hn fun e he h2 => h1 ⟨e, he, h2⟩
    obtain ⟨e, he, h1⟩ := hn
    obtain ⟨b, hb, hw⟩ := h.one e he
    exact sent_there g m1 m2 m3 m4 T p R R2 D D2 t b w h ht (by rw [← h1, ← hb]; exact he)
end Go.Proofs.Ytgjhcnpegaemoaa
