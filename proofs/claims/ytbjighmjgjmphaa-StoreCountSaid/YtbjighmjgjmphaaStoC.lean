/-
  Packets as the laws of layer 10 get them; few; awake.
-/
import Derived.Test.YtbjighmjgjmphaaStoB
import Derived.Test.YtbjighmjgjmphaaLiftB
import Derived.Lib.SlBytesConst
namespace Go.Proofs.Ytbjighmjgjmphaa
open Go.ChangeShapes Go.WideShapes Go.ChangeAt Go.RowKit

theorem ret_bool {a b : Bool} (h : a = b) : Ending.returned (.bool a) = .returned (.bool b) := by rw [h]

/-- A packet in memory: where its bytes lie, and what room they have. -/
structure Pp where
  p : Pk
  A : Option Addr
  c : Nat
def Pp.cells (x : Pp) : List Value := [.int .u16 x.p.seq, .slice x.A x.p.d.length x.c]
def ppC (l : List Pp) : List Value := l.flatMap Pp.cells
theorem ppC_get (ps : List Pp) (k : Nat) (hk : k < ps.length) : (ppC ps)[k * 2]? = some (.int .u16 ps[k].p.seq) ∧ (ppC ps)[k * 2 + 1]? = some (.slice ps[k].A ps[k].p.d.length ps[k].c) := by
  induction ps generalizing k with
  | nil => simp at hk
  | cons p l ih =>
    cases k with
    | zero => simp [ppC, Pp.cells]
    | succ k =>
      have h := ih k (by simpa using hk)
      have e : (k + 1) * 2 = k * 2 + 1 + 1 := by omega
      simpa [ppC, Pp.cells, e] using h

/-- Packets in memory; what is read of them lies below block B. -/
def Pps (w : World) (B : Nat) (A : Option Addr) (ps : List Pp) : Prop :=
  Row w B 2 A ps.length (ppC ps) ∧ ∀ x ∈ ps, Row w B 1 x.A x.p.d.length (u8s x.p.d) ∧ x.p.d.length ≤ maxLen ∧ (Lit.int .u16 x.p.seq).wf = true
theorem Pps.below {w w' : World} {B b : Nat} {A : Option Addr} {ps : List Pp} (h : Pps w B A ps) (hb : Below b w w') (hB : B ≤ b) : Pps w' B A ps :=
  ⟨h.1.below hb hB, fun p hp => ⟨(h.2 p hp).1.below hb hB, (h.2 p hp).2⟩⟩
theorem Pps.at {w : World} {B : Nat} {A : Option Addr} {ps : List Pp} (h : Pps w B A ps) (k : Nat) (hk : k < ps.length) :
    ∃ g o, A = some ⟨g, o, none⟩ ∧ g < B ∧ w.cell? ⟨g, o + k * 2, none⟩ = some (.int .u16 ps[k].p.seq) ∧ w.cell? ⟨g, o + k * 2 + 1, none⟩ = some (.slice ps[k].A ps[k].p.d.length ps[k].c) := by
  obtain ⟨g, o, hA, hg, hc⟩ := h.1.2 (by omega)
  exact ⟨g, o, hA, hg, hc _ _ (ppC_get ps k hk).1, hc _ _ (ppC_get ps k hk).2⟩

section
variable {H : Type} {enc : TypeId × Value → H} {W : World}
/-- A slice of bytes in a cell. -/
theorem bytes_cell {v : Value} {k : Nat} {y : DataW H × List MemPlace} (h : DataW.trod enc Try.prog W 0 (fun _ => true) true k 30 [v] = some y) :
    ∃ A c, ∃ l : List UInt8, v = .slice A l.length c ∧ l.length ≤ maxLen ∧ Row W W.heap.size 1 A l.length (u8s l) := by
  rcases Go.Deep.open_slice Try.underlying30 h with ⟨hcs, _⟩ | ⟨a, n, c, m, k, D, Pl, hcs, _, hl, hm, hmm, _, hi⟩
  · simp at hcs
    exact ⟨none, 0, [], hcs, Nat.zero_le _, Row.nil⟩
  · simp at hcs
    subst hcs
    simp only [if_true] at hmm
    subst hmm
    rw [show Try.prog.cellsOf 5 = 1 from by kernel_rfl] at hi
    have key : ∀ j, j ≤ n → ∃ l : List UInt8, l.length = j ∧ ∀ i x, l[i]? = some x → W.cell? (a.add i) = some (.int .u8 (x.toNat : Int)) := by
      intro j
      induction j with
      | zero => exact fun _ => ⟨[], rfl, by simp⟩
      | succ j ih =>
        intro hj
        obtain ⟨l, h1, h2⟩ := ih (by omega)
        obtain ⟨cs', h3, h4⟩ := hi j (by omega)
        obtain ⟨_, h5, h6⟩ := World.cells?_some h3
        match cs', h5 with
        | [u], _ =>
          obtain ⟨x, e0, _, hw⟩ := DataW.trod_int Try.underlying5 h4
          simp at e0
          subst e0
          have hb := wf_u8 hw
          refine ⟨l ++ [UInt8.ofNat x.toNat], by simp [h1], fun i z hz => ?_⟩
          rcases Nat.lt_or_ge i l.length with hlt | hge
          · rw [List.getElem?_append_left hlt] at hz
            exact h2 i z hz
          · have : i = j := by
              have := (List.getElem?_eq_some_iff.1 hz).1
              simp at this
              omega
            subst this
            rw [List.getElem?_append_right hge, h1, Nat.sub_self] at hz
            simp at hz
            subst hz
            have := h6 0 (by simp)
            simp only [Nat.mul_one] at this
            rw [show (a.add i).add 0 = a.add i from by simp [Addr.add]] at this
            rw [this]
            simp only [List.getElem?_cons_zero, Option.some.injEq, Value.int.injEq, true_and]
            rw [UInt8.toNat_ofNat']
            omega
    obtain ⟨l, h1, h2⟩ := key n (Nat.le_refl _)
    subst h1
    refine ⟨some a, _, l, rfl, by omega, by simp [u8s_length], fun hn => ?_⟩
    have h0 := h2 0 l[0] (by simp)
    have hspot : a.spot = none := by simpa [Addr.add] using World.cell?_spot h0
    have hblk : a.block < W.heap.size := by simpa [Addr.add] using World.block_lt_of_cell? W _ h0
    obtain ⟨b, o, sp⟩ := a
    simp only at hspot hblk
    subst hspot
    refine ⟨b, o, rfl, hblk, fun j u hu => ?_⟩
    have hj : j < l.length := by have := (List.getElem?_eq_some_iff.1 hu).1; simpa [u8s_length] using this
    rw [u8s_get l j hj] at hu
    injection hu with hu
    subst hu
    have := h2 j l[j] (by simp)
    rw [Addr.add_lit] at this
    exact this

theorem open_puts {r : Reach} {b0 : Nat} {v : Value} {d : DataW H} {p : List MemPlace} (hok : Value.okWide Try.prog W r b0 22 v) (h : DataW.Trod enc Try.prog W 0 (fun _ => true) true 22 v d p) :
    ∃ A c, ∃ ps : List Pp, v = .slice A ps.length c ∧ ps.length ≤ maxLen ∧ Pps W W.heap.size A ps := by
  obtain ⟨A, n, c, xss, rfl, hn, hm, hl, hr, hx⟩ := open_rows (z := 2) Try.underlying22 (by kernel_rfl) (by decide) hok h
  obtain ⟨ps, rfl, hQ⟩ := typed_list (conv := Pp.cells) (Q := fun x => Row W W.heap.size 1 x.A x.p.d.length (u8s x.p.d) ∧ x.p.d.length ≤ maxLen ∧ (Lit.int .u16 x.p.seq).wf = true) (xss := xss) (fun cs hcs => by
    obtain ⟨h1, k, y, h2⟩ := hx cs hcs
    obtain ⟨v0, v1, n', y0, y1, rfl, t0, t1⟩ := trod_two Try.underlying32 rfl rfl (by kernel_rfl) (by kernel_rfl) h1 h2
    obtain ⟨x, e0, _, hw⟩ := DataW.trod_int Try.underlying29 t0
    obtain ⟨A1, c1, l1, rfl, hl1, hr1⟩ := bytes_cell t1
    simp only [List.cons.injEq, and_true] at e0
    subst e0
    exact ⟨⟨⟨x, l1⟩, A1, c1⟩, rfl, hr1, hl1, hw⟩)
  simp only [List.length_map] at hl
  subst hl
  exact ⟨A, c, ps, rfl, by omega, by simpa [ppC, List.flatMap] using hr, hQ⟩
/-- Slices of bytes that came in, in a row. -/
def btC (l : List (List UInt8 × Option Addr × Nat)) : List Value := l.map fun x => .slice x.2.1 x.1.length x.2.2
theorem open_lists {r : Reach} {b0 : Nat} {v : Value} {d : DataW H} {p : List MemPlace} (hok : Value.okWide Try.prog W r b0 40 v) (h : DataW.Trod enc Try.prog W 0 (fun _ => true) true 40 v d p) :
    ∃ A c, ∃ ps : List (List UInt8 × Option Addr × Nat), v = .slice A ps.length c ∧ ps.length ≤ maxLen ∧ Row W W.heap.size 1 A ps.length (btC ps) ∧ ∀ x ∈ ps, Row W W.heap.size 1 x.2.1 x.1.length (u8s x.1) ∧ x.1.length ≤ maxLen := by
  obtain ⟨A, n, c, xss, rfl, hn, hm, hl, hr, hx⟩ := open_rows (z := 1) Try.underlying40 (by kernel_rfl) (by decide) hok h
  obtain ⟨ps, rfl, hQ⟩ := typed_list (conv := fun x : List UInt8 × Option Addr × Nat => [Value.slice x.2.1 x.1.length x.2.2]) (Q := fun x => Row W W.heap.size 1 x.2.1 x.1.length (u8s x.1) ∧ x.1.length ≤ maxLen) (xss := xss) (fun cs hcs => by
    obtain ⟨h1, k, y, h2⟩ := hx cs hcs
    match cs, h1 with
    | [u], _ =>
      obtain ⟨A1, c1, l1, rfl, hl1, hr1⟩ := bytes_cell h2
      exact ⟨(l1, A1, c1), rfl, hr1, hl1⟩)
  simp only [List.length_map] at hl
  subst hl
  refine ⟨A, c, ps, rfl, by omega, ?_, hQ⟩
  have e : btC ps = (ps.map fun x : List UInt8 × Option Addr × Nat => [Value.slice x.2.1 x.1.length x.2.2]).flatten := by
    clear hr hx h hok hn hm hQ
    induction ps <;> simp_all [btC]
  rw [e]
  exact hr
end

def fewB (l : List Pk) : Bool := decide ((∀ i ∈ l, i.d.length ≤ 60) ∧ l.length ≤ 120)
def FewTold (l : List Pk) (w : World) (e : Ending) (w' : World) : Prop := e = .returned (.bool (fewB l)) ∧ w = w'
set_option maxRecDepth 100000 in
theorem few_any (A : Option Addr) (c : Nat) (ps : List Pp) (w : World) (B : Nat) (h : Pps w B A ps) (hl : ps.length ≤ maxLen) :
    Calls Try.prog 9 #[.slice A ps.length c] w (FewTold (ps.map Pp.p) w) := by
  unfold maxLen at hl
  have H := Lib.hid h
  clear h
  go_enter Try.func9, Try.ntmps9
  go_wp2
  go_loop [3] (fun i => ∃ k : Nat, k ≤ ps.length ∧ i = .int .i64 k ∧ Hid (∀ (j : Nat) (p : Pp), j < k → ps[j]? = some p → p.p.d.length ≤ 60)) (fun i => ps.length - (intOf i).toNat)
  case atStart => exact ⟨0, Nat.zero_le _, rfl, fun j p hj => absurd hj (by omega)⟩
  case round =>
    obtain ⟨k, hk, rfl, hn⟩ := hrel
    by_cases hlt : k < ps.length
    · obtain ⟨g, o, hA, hg, hc0, hc1⟩ := H.out.at k hlt
      subst hA
      have hlen := (H.out.2 ps[k] (List.getElem_mem _)).2.1
      unfold maxLen at hlen
      have hp : ps[k]? = some ps[k] := by simp [hlt]
      generalize ps[k] = p at hc0 hc1 hlen hp
      have hi1 : (0 : Int) ≤ (k : Int) := by omega
      have hi2 : (k : Int) < (ps.length : Int) := by omega
      by_cases h3 : 60 < p.p.d.length
      · have HF := Lib.hid (show fewB (ps.map Pp.p) = false from by
          unfold fewB
          simp only [decide_eq_false_iff_not]
          intro hh
          have := hh.1 p.p (List.mem_map.2 ⟨p, List.mem_of_getElem? hp, rfl⟩)
          omega)
        clear hn hp
        go_wp2
        go_ret
        exact ⟨ret_bool HF.out.symm, rfl⟩
      · have h3' : ¬ (60 : Int) < (p.p.d.length : Int) := by omega
        have HN : Hid (∀ (j : Nat) (p : Pp), j < k + 1 → ps[j]? = some p → p.p.d.length ≤ 60) := by
          intro j p' hj hp'
          rcases Nat.lt_or_ge j k with h1 | h1
          · exact hn.out j p' h1 hp'
          · obtain rfl : j = k := by omega
            rw [hp] at hp'
            injection hp' with hp'
            rw [← hp']
            omega
        clear hn hp h3
        go_wp2
        go_round
        case rel => exact ⟨k + 1, by omega, by go_num, HN⟩
        case measure => simp [intOf]; omega
    · obtain rfl : k = ps.length := by omega
      by_cases h20 : ps.length ≤ 120
      · have HF := Lib.hid (show fewB (ps.map Pp.p) = true from by
          unfold fewB
          simp only [decide_eq_true_eq]
          refine ⟨fun i hi => ?_, by simpa using h20⟩
          obtain ⟨p, hp, rfl⟩ := List.mem_map.1 hi
          obtain ⟨j, hj⟩ := List.getElem?_of_mem hp
          exact hn.out j p (List.getElem?_eq_some_iff.1 hj).1 hj)
        clear hn
        go_wp2
        go_ret
        exact ⟨ret_bool (by rw [HF.out]; simp; omega), rfl⟩
      · have HF := Lib.hid (show fewB (ps.map Pp.p) = false from by
          unfold fewB
          simp only [decide_eq_false_iff_not]
          intro hh
          have := hh.2
          simp at this
          omega)
        clear hn
        go_wp2
        go_ret
        exact ⟨ret_bool (by rw [HF.out]; simp; omega), rfl⟩

theorem few_facts {l : List Pk} (h : fewB l = true) : (∀ i ∈ l, i.d.length ≤ 60) ∧ l.length ≤ 120 := by
  unfold fewB at h
  simpa using h

theorem snew_off (n : Nat) (w : World) (h1 : 1 ≤ n) (h2 : n ≤ 4096) : Calls Try.prog 10 #[.int .i64 n] w fun e w' => ∃ g m r, e = .returned (.pointer (some ⟨g, 0, none⟩)) ∧ SAt (Off g m r) w' g m r n [] ∧ w.heap.size ≤ g ∧ w.heap.size ≤ m ∧ w.heap.size ≤ r ∧ Below w.heap.size w w' :=
  (snew_any n w h1 h2).mono fun _ _ ⟨g, m, r, he, hs, a, b, c, d⟩ => ⟨g, m, r, he, hs.weak (fun _ _ h => h.elim) (fun h => h.1 rfl) (fun h => h.2.1 rfl) (fun h => h.2.2 rfl), a, b, c, d⟩

/-- '[]byte("x")' of one letter lies as a row. -/
theorem row_letter (w : World) (x : UInt8) (q : Nat × Nat) : Row (w.alloc (.cells #[.int .u8 (x.toNat : Int)] 5 q)) (w.heap.size + 1) 1 (some ⟨w.heap.size, 0, none⟩) 1 (u8s [x]) := by
  refine ⟨rfl, fun _ => ⟨w.heap.size, 0, rfl, Nat.lt_succ_self _, fun j v hv => ?_⟩⟩
  match j, hv with
  | 0, hv =>
    simp [u8s] at hv
    subst hv
    exact (cell_of_row _ w.heap.size 0 _ _ q (heap_alloc_new w _)).trans rfl

set_option maxRecDepth 100000 in
theorem awake_any (w : World) : Calls Try.prog 8 #[] w fun e w' => e = .returned (.bool true) ∧ Below w.heap.size w w' := by
  have hcc := fun w => Lib.run_convert_bytes_const (P := Try.prog) w 30 5 #[.int .u8 97] 1 1 Try.underlying30 Try.underlying5
  have hcd := fun w => Lib.run_convert_bytes_const (P := Try.prog) w 30 5 #[.int .u8 98] 1 1 Try.underlying30 Try.underlying5
  go_enter Try.func8, Try.ntmps8
  go_wp2_with fail
  refine (snew_off 1 _ (by decide) (by decide)).mono ?_
  rintro e w1 ⟨g, m, r, rfl, s1, hg, hm, hr, b1⟩
  have s1l := s1.lt
  have z1 := b1.size
  go_wp2_with fail
  refine (add_off g m r 1 [] 5 (by decide) (w1.heap.size + 1) _ 1 [97] (by decide) _ (row_letter w1 97 (1, 2)) (by simp) (by rintro _ a ha; injection ha with ha; subst ha; dsimp only; omega) (s1.alloc _)).mono ?_
  rintro e w2 ⟨rfl, s2, b2⟩
  rw [show addL 1 [] ⟨5, [97]⟩ = [⟨5, [97]⟩] from rfl] at s2
  have B2 := (b1.alloc b1.size (.cells #[.int .u8 97] 5 (1, 2))).trans (b2.below (B := w.heap.size) (by simp; omega) (by intro k hk; omega))
  have s2l := s2.lt
  clear b1 b2 s1 hcc
  go_wp2_with fail
  refine (get_any _ g m r 1 _ 5 (by decide) w2 s2).mono ?_
  rw [show getL [⟨5, [97]⟩] 5 = some [97] from rfl]
  rintro e w3 ⟨rfl, rfl⟩
  have B3 := B2.alloc B2.size (.cells (u8s [97]).toArray 5)
  have s3 := s2.alloc (.cells (u8s [97]).toArray 5)
  have W3 := Whole.new w2 5 (u8s [97]).toArray
  have z2 : (w2.alloc (.cells (u8s [97]).toArray 5)).heap.size = w2.heap.size + 1 := by simp
  obtain ⟨q, hq⟩ : ∃ q, w2.heap.size = q := ⟨_, rfl⟩
  rw [hq] at W3 z2 s2l ⊢
  generalize w2.alloc (.cells (u8s [97]).toArray 5) = w3 at B3 s3 W3 z2 ⊢
  have Z2 := Lib.hid z2
  clear B2 s2 hq z2
  go_wp2_with fail
  have z2 := Z2.out
  refine (add_off g m r 1 _ 6 (by decide) (w3.heap.size + 1) _ 1 [98] (by decide) _ (row_letter w3 98 (1, 2)) (by simp) (by rintro _ a ha; injection ha with ha; subst ha; dsimp only; omega) (s3.alloc _)).mono ?_
  rintro e w4 ⟨rfl, s4, b4⟩
  rw [show addL 1 [⟨5, [97]⟩] ⟨6, [98]⟩ = [⟨6, [98]⟩] from rfl] at s4
  have B4 := (B3.alloc B3.size (.cells #[.int .u8 98] 5 (1, 2))).trans (b4.below (B := w.heap.size) (by simp; have := B3.size; omega) (by intro k hk; omega))
  have W4 := (W3.alloc (.cells #[.int .u8 98] 5 (1, 2))).but b4 (by omega)
  clear b4 s3 W3 B3 hcd z2
  go_wp2_with fail
  refine (get_any _ g m r 1 _ 5 (by decide) w4 s4).mono ?_
  rw [show getL [⟨6, [98]⟩] 5 = none from rfl]
  rintro e w5 ⟨rfl, rfl⟩
  have hr4 : Row w5 w5.heap.size 1 (some ⟨q, 0, none⟩) 1 (u8s [97]) := ⟨rfl, fun _ => ⟨q, 0, rfl, W4.lt, fun j u hu => by rw [Nat.zero_add, W4.cell]; simpa using hu⟩⟩
  have ht := run_text (P := Try.prog) w5 30 5 9 Try.underlying30 Try.underlying5 Try.underlying9 _ _ _ 1 [97] hr4
  rw [show str [97] = ⟨#[97]⟩ from rfl] at ht
  have C := slen_any _ g m r 1 _ w5 s4
  rw [show ((List.length [(⟨6, [98]⟩ : Pk)] : Nat) : Int) = 1 from rfl] at C
  have HC := Lib.hid C
  have HB := Lib.hid B4
  clear C B4 W4 s4 hr4
  go_wp2_with (go_at_call 15; refine HC.out.mono ?_; rintro e w' ⟨rfl, rfl⟩)
  go_ret
  exact ⟨rfl, HB.out⟩
end Go.Proofs.Ytbjighmjgjmphaa
