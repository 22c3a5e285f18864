/-
  Proved: RecvMisses returns true for every number and every row of bools: of packets that come one behind the other, but for some, just these miss, until they come late. Conditions: none.
-/
import Derived.Test.YtphhhfgenhbmlaaRvD
import Derived.Test.YtphhhfgenhbmlaaHang
import Derived.Test.YtphhhfgenhbmlaaLift
import Derived.Deep.CutBlock
import Derived.Deep.AppendLies
namespace Go.Proofs.Ytphhhfgenhbmlaa.VMisses
open Go.ChangeShapes Go.WideShapes Go.ChangeAt Go.RowKit
set_option linter.unusedSimpArgs false

/-- Bools as cells. -/
def bls (l : List Bool) : List Value := l.map Value.bool
theorem bls_get (l : List Bool) (j : Nat) (x : Bool) (h : l[j]? = some x) : (bls l)[j]? = some (.bool x) := by simp [bls, h]
/-- Bools that came in. -/
theorem open_bools {H : Type} {enc : TypeId × Value → H} {W : World} {r : Reach} {b0 : Nat} {v : Value} {d : DataW H} {p : List MemPlace} (hok : Value.okWide Try.prog W r b0 41 v) (h : DataW.Trod enc Try.prog W 0 (fun _ => true) true 41 v d p) :
    ∃ A c, ∃ l : List Bool, v = .slice A l.length c ∧ l.length ≤ maxLen ∧ Row W W.heap.size 1 A l.length (bls l) := by
  obtain ⟨A, n, c, xss, rfl, hn, hm, hl, hr, hx⟩ := open_rows (z := 1) Try.underlying41 (by kernel_rfl) (by decide) hok h
  obtain ⟨l, rfl, _⟩ := typed_list (conv := fun b : Bool => [Value.bool b]) (Q := fun _ => True) (xss := xss) (fun cs hcs => by
    obtain ⟨h1, _, y, h2⟩ := hx cs hcs
    obtain ⟨n, rfl, _⟩ := DataW.trod_bool Try.underlying4 h2
    exact ⟨n, rfl, trivial⟩)
  simp only [List.length_map] at hl
  subst hl
  refine ⟨A, c, l, rfl, by omega, ?_⟩
  have e : bls l = (l.map fun b : Bool => [Value.bool b]).flatten := by
    clear hr hx h hok hn
    unfold bls
    induction l <;> simp_all
  rw [e]
  exact hr

/-- Behind k packets more than the first one, of which those of W did not come. -/
structure Mis (a : Int) (k : Nat) (t : Trk) (L W : List Int) : Prop where
  ok : t.Ok (200000 + k)
  rep : Rep t L
  base : t.base = a
  high : t.high ≤ a + k
  len : L.length + W.length = k + 1
  sorted : W.Pairwise (· < ·)
  inW : ∀ x ∈ W, a < x ∧ x ≤ a + k
  all : ∀ x, a ≤ x → x ≤ a + k → x ∈ L ∨ x ∈ W
  apart : ∀ x ∈ W, x ∉ L
section
variable {a : Int} {k : Nat} {t : Trk} {L W : List Int}
theorem Mis.first (a : Int) (ha : 0 ≤ a ∧ a < 65536) : Mis a 0 ⟨true, a, a, 1, 1⟩ [a] [] :=
  ⟨⟨by dsimp only; omega, by dsimp only; omega, by dsimp only; omega, by dsimp only; omega, by dsimp only; omega, by dsimp only; omega, by dsimp only; decide⟩, Rep.first a, rfl, by dsimp only; omega, rfl, .nil, fun x hx => by simp at hx, fun x h1 h2 => .inl (by simp; omega), fun x hx => by simp at hx⟩
theorem Mis.fit (h : Mis a k t L W) (hk : k ≤ 100) : t.Fit := h.ok.more (by omega)
theorem Mis.gone (h : Mis a k t L W) : Mis a (k + 1) t L (W ++ [a + k + 1]) := by
  have hL : a + (k : Int) + 1 ∉ L := fun hm => by have := h.rep.high_ge _ hm; have := h.high; omega
  refine ⟨h.ok.more (by omega), h.rep, h.base, by have := h.high; omega, by have := h.len; simp; omega, ?_, ?_, ?_, ?_⟩
  · rw [List.pairwise_append]
    exact ⟨h.sorted, by simp, fun x hx y hy => by rw [List.mem_singleton] at hy; have := h.inW x hx; omega⟩
  · intro x hx
    rcases List.mem_append.1 hx with hx | hx
    · have := h.inW x hx; omega
    · rw [List.mem_singleton] at hx; omega
  · intro x h1 h2
    by_cases h3 : x ≤ a + k
    · rcases h.all x h1 h3 with h | h
      · exact .inl h
      · exact .inr (by simp [h])
    · right
      obtain rfl : x = a + k + 1 := by omega
      simp
  · intro x hx
    rcases List.mem_append.1 hx with hx | hx
    · exact h.apart x hx
    · rw [List.mem_singleton] at hx; subst hx; exact hL
theorem Mis.come (h : Mis a k t L W) (hk : k ≤ 100) (ha : 0 ≤ a ∧ a < 65536) : ∃ q, Tk t ((a + k + 1) % 65536) ⟨true, a, a + k + 1, L.length + 1, q⟩ (a + k + 1) 0 ∧ Mis a (k + 1) ⟨true, a, a + k + 1, L.length + 1, q⟩ (L ++ [a + k + 1]) W := by
  have h1 := h.high
  have h2 := h.rep.high_ge _ h.rep.base_mem
  rw [h.base] at h2
  have hR := h.rep.add_new (a + k + 1) (by omega)
  have e : t.take (a + k + 1) = ⟨true, a, a + k + 1, L.length + 1, shlS t.seen (a + k + 1 - t.high).toNat⟩ := by
    unfold Trk.take
    rw [if_pos h.rep.on, if_pos (by omega), h.base, h.rep.got]
  refine ⟨_, ⟨?_, ?_, e⟩, ?_⟩
  · unfold Trk.num
    rw [if_pos h.rep.on]
    exact nearS_of _ _ (by omega) (by omega)
  · unfold Trk.kind
    rw [if_pos h.rep.on, if_pos (by omega)]
  · rw [e] at hR
    have hlen := h.len
    have hb0 := h.ok.base0
    have hb1 := h.ok.base1
    have hh0 := h.ok.high0
    have hg := h.ok.got1
    rw [h.base] at hb0 hb1
    refine ⟨⟨by dsimp only; omega, by dsimp only; omega, by dsimp only; omega, ?_, by dsimp only; omega, by dsimp only; have := h.rep.got; omega, shlS_lt _ _⟩, hR, rfl, by dsimp only; omega, by simp; omega, h.sorted, fun x hx => by have := h.inW x hx; omega, ?_, ?_⟩
    · dsimp only; have := h.ok.high1; have := h.ok.base1; omega
    · intro x h3 h4
      by_cases h5 : x ≤ a + k
      · rcases h.all x h3 h5 with h | h
        · exact .inl (by simp [h])
        · exact .inr h
      · left
        obtain rfl : x = a + k + 1 := by omega
        simp
    · intro x hx hm
      rcases List.mem_append.1 hm with hm | hm
      · exact h.apart x hx hm
      · rw [List.mem_singleton] at hm; have := h.inW x hx; omega
/-- Behind the last one, j of those that did not come were late. -/
structure Fil (a : Int) (n j : Nat) (t : Trk) (L W : List Int) : Prop where
  ok : t.Ok (300000 + j)
  rep : Rep t (L ++ W.take j)
  base : t.base = a
  high : t.high = a + n + 1
  len : L.length + W.length = n + 2
  sorted : W.Pairwise (· < ·)
  inW : ∀ x ∈ W, a < x ∧ x ≤ a + n
  all : ∀ x, a ≤ x → x ≤ a + n + 1 → x ∈ L ∨ x ∈ W
  apart : ∀ x ∈ W, x ∉ L
theorem Mis.close {n : Nat} (h : Mis a n t L W) (hn : n ≤ 60) (ha : 0 ≤ a ∧ a < 65536) : ∃ q, Tk t ((a + n + 1) % 65536) ⟨true, a, a + n + 1, L.length + 1, q⟩ (a + n + 1) 0 ∧ Fil a n 0 ⟨true, a, a + n + 1, L.length + 1, q⟩ (L ++ [a + n + 1]) W := by
  obtain ⟨q, hq, hm⟩ := h.come (by omega) ha
  refine ⟨q, hq, hm.ok.more (by omega), by simpa using hm.rep, rfl, rfl, by have := h.len; simp; omega, h.sorted, h.inW, fun x h1 h2 => hm.all x h1 (by omega), hm.apart⟩
variable {n j : Nat}
theorem Fil.fit (h : Fil a n j t L W) (hj : j ≤ 100) : t.Fit := h.ok.more (by omega)
theorem Fil.wlen (h : Fil a n j t L W) : L.length + W.length = n + 2 := h.len
theorem Fil.on (h : Fil a n j t L W) : t.on = true := h.rep.on
theorem Fil.miss (h : Fil a n 0 t L W) (hn : n ≤ 60) : t.missing = W := by
  unfold Trk.missing
  rw [if_pos h.on]
  have hR := h.rep
  simp only [List.take_zero, List.append_nil] at hR
  refine sorted_eq _ _ (missG_sorted 64 (Nat.le_refl _)) h.sorted fun x => ?_
  have hm := hR.mem_miss x
  rw [h.base, h.high] at hm
  constructor
  · intro hx
    obtain ⟨h1, h2, h3, h4⟩ := hm.1 hx
    rcases h.all x h1 h3 with e | e
    · exact absurd e h4
    · exact e
  · intro hx
    have := h.inW x hx
    exact hm.2 ⟨by omega, by omega, by omega, h.apart x hx⟩
theorem Fil.lost (h : Fil a n j t L W) (hj : j ≤ W.length) : t.lost = (W.length : Int) - j := by
  unfold Trk.lost
  rw [if_pos h.on, h.base, h.high, h.rep.got]
  have := h.len
  rw [List.length_append, List.length_take, Nat.min_eq_left hj]
  omega
theorem Fil.none (h : Fil a n W.length t L W) (_hn : n ≤ 60) : t.missing = [] := by
  unfold Trk.missing
  rw [if_pos h.on, List.eq_nil_iff_forall_not_mem]
  intro x hx
  have hm := (h.rep.mem_miss x).1 hx
  rw [h.base, h.high, List.take_length] at hm
  rcases h.all x hm.1 hm.2.2.1 with e | e
  · exact hm.2.2.2 (List.mem_append.2 (.inl e))
  · exact hm.2.2.2 (List.mem_append.2 (.inr e))
theorem take_apart : ∀ (W : List Int) (j : Nat) (x : Int), W.Pairwise (· < ·) → W[j]? = some x → x ∉ W.take j
  | [], _, _, _, h => by simp at h
  | y :: W, 0, _, _, _ => by simp
  | y :: W, j + 1, x, hp, h => by
    rw [List.pairwise_cons] at hp
    rw [List.getElem?_cons_succ] at h
    rw [List.take_succ_cons, List.mem_cons]
    rintro (e | e)
    · have := hp.1 x (List.mem_of_getElem? h); omega
    · exact take_apart W j x hp.2 h e
theorem Fil.step (h : Fil a n j t L W) (hn : n ≤ 60) (x : Int) (hx : W[j]? = some x) : ∃ q, Tk t (x % 65536) ⟨true, a, a + n + 1, t.got + 1, q⟩ x 1 ∧ Fil a n (j + 1) ⟨true, a, a + n + 1, t.got + 1, q⟩ L W := by
  have hxW := List.mem_of_getElem? hx
  have hxin := h.inW x hxW
  have hnot : x ∉ L ++ W.take j := by
    intro hm
    rcases List.mem_append.1 hm with e | e
    · exact h.apart x hxW e
    · exact take_apart W j x h.sorted hx e
  have hmiss : x ∈ t.miss := (h.rep.mem_miss x).2 ⟨by rw [h.base]; omega, by rw [h.high]; omega, by rw [h.high]; omega, hnot⟩
  have e := Trk.miss_take hmiss h.on
  have hR := h.rep.add_late x (by rw [h.high]; omega) (by rw [h.high]; omega) hnot
  rw [e] at hR
  have hok := h.ok.take x (by have := h.ok.base0; rw [h.base] at this; omega) (by have := h.ok.high1; rw [h.high] at this; omega)
  have hL : L ++ W.take (j + 1) = L ++ W.take j ++ [x] := by rw [List.take_add_one, hx]; simp
  rw [h.base, h.high] at e hR
  refine ⟨_, ⟨Trk.miss_num hmiss h.on, Trk.miss_kind hmiss h.on, e⟩, ?_, by rw [hL]; exact hR, rfl, rfl, h.len, h.sorted, h.inW, h.all, h.apart⟩
  have s0 := h.ok.base0
  have s1 := h.ok.base1
  have s2 := h.ok.high0
  have s3 := h.ok.high1
  have s4 := h.ok.got0
  have s5 := h.ok.got1
  rw [h.base] at s0 s1
  rw [h.high] at s2 s3
  exact ⟨by dsimp only; omega, by dsimp only; omega, by dsimp only; omega, by dsimp only; omega, by dsimp only; omega, by dsimp only; omega, by rw [e] at hok; exact hok.seen⟩
end
/-- A row is kept where its block is not written. -/
theorem row_far {w : World} {B z n : Nat} {A : Option Addr} {xs : List Value} (h : Row w B z A n xs) {p : Addr} (hp : ∀ a, A = some a → a.block ≠ p.block) (u : Value) : Row (w.setCell p u) B z A n xs := by
  refine ⟨h.1, fun h0 => ?_⟩
  obtain ⟨g, o, hA, hg, hc⟩ := h.2 h0
  exact ⟨g, o, hA, hg, fun j v hj => (World.cell?_of_block (a := ⟨g, o + j, none⟩) (Below.heap_setCell w p u g (hp _ hA))).trans (hc j v hj)⟩
theorem row_five {w : World} {B z n r : Nat} {A : Option Addr} {xs : List Value} (h : Row w B z A n xs) (hp : ∀ a, A = some a → a.block ≠ r) (u0 u1 u2 u3 u4 : Value) :
    Row (((((w.setCell ⟨r, 0, none⟩ u0).setCell ⟨r, 1, none⟩ u1).setCell ⟨r, 2, none⟩ u2).setCell ⟨r, 3, none⟩ u3).setCell ⟨r, 4, none⟩ u4) B z A n xs :=
  row_far (p := ⟨r, 4, none⟩) (row_far (p := ⟨r, 3, none⟩) (row_far (p := ⟨r, 2, none⟩) (row_far (p := ⟨r, 1, none⟩) (row_far (p := ⟨r, 0, none⟩) h hp u0) hp u1) hp u2) hp u3) hp u4
theorem own_five {w : World} {base : Nat} {e : TypeId} {z n r : Nat} {v : Value} {xs : List Value} (h : w.ownsRow base e z v n xs) (hr : r < base) (u0 u1 u2 u3 u4 : Value) :
    (((((w.setCell ⟨r, 0, none⟩ u0).setCell ⟨r, 1, none⟩ u1).setCell ⟨r, 2, none⟩ u2).setCell ⟨r, 3, none⟩ u3).setCell ⟨r, 4, none⟩ u4).ownsRow base e z v n xs :=
  ownsRow_setCell_below (ownsRow_setCell_below (ownsRow_setCell_below (ownsRow_setCell_below (ownsRow_setCell_below h (a := ⟨r, 0, none⟩) hr u0) (a := ⟨r, 1, none⟩) hr u1) (a := ⟨r, 2, none⟩) hr u2) (a := ⟨r, 3, none⟩) hr u3) (a := ⟨r, 4, none⟩) hr u4
theorem low_wrap (a : Int) (k : Nat) : IntKind.u16.wrap (IntKind.u16.wrap (a + (k : Int)) + 1) = (a + (k : Int) + 1) % 65536 := by
  rw [IntKind.wrap_u16, IntKind.wrap_u16]; omega
theorem first (a : Int) (ha : 0 ≤ a ∧ a < 65536) (w : World) :
    Calls Try.prog 10 #[.agg #[.bool false, .int .i64 0, .int .i64 0, .int .i64 0, .int .u64 0], .int .u16 a] w fun e w' => e = .returned (.tuple #[.agg #[.bool true, .int .i64 a, .int .i64 a, .int .i64 1, .int .u64 1], .int .i64 a, .int .i64 0]) ∧ Below w.heap.size w w' :=
  tk_any Trk.zero a ⟨true, a, a, 1, 1⟩ a 0 ⟨rfl, rfl, rfl⟩ (Trk.Ok.zero.more (by decide)) ha.1 ha.2 w

set_option maxRecDepth 100000 in
set_option maxHeartbeats 6400000 in
theorem walk (w : World) (a : Int) (ha : (Lit.int .u16 a).wf = true) (A : Option Addr) (c : Nat) (l : List Bool) (hl : l.length ≤ maxLen) (hr : Row w w.heap.size 1 A l.length (bls l)) :
    Calls Try.prog 6 #[.int .u16 a, .slice A l.length c] w fun e w' => e = .returned (.bool true) ∧ Below w.heap.size w w' := by
  unfold maxLen at hl
  have ha := wf_u16 ha
  obtain ⟨n, hn⟩ : ∃ n, l.length = n := ⟨_, rfl⟩
  rw [hn] at hl hr ⊢
  have CA := Lib.hid (awake_any w)
  by_cases h1 : 60 < n
  · clear hr hn
    go_enter Try.func6, Try.ntmps6
    go_wp2_with fail
    refine CA.out.mono ?_
    rintro e w1 ⟨rfl, b1⟩
    go_wp2
    go_ret
    exact ⟨rfl, b1⟩
  have H := Lib.hid hr
  have HN := Lib.hid hn
  have C1 := Lib.hid (fun w => first a ha w)
  clear hr hn
  go_enter Try.func6, Try.ntmps6
  go_wp2_with fail
  refine CA.out.mono ?_
  rintro e w1 ⟨rfl, b1⟩
  have HW := Lib.hid (Whole.new w1 26 #[.bool false, .int .i64 0, .int .i64 0, .int .i64 0, .int .u64 0])
  have HB := Lib.hid (b1.alloc b1.size (.cells #[.bool false, .int .i64 0, .int .i64 0, .int .i64 0, .int .u64 0] 26))
  obtain ⟨gt, hgt⟩ : ∃ g, g = w1.heap.size := ⟨_, rfl⟩
  have hg := b1.size
  rw [← hgt] at hg HW
  clear b1 CA
  go_wp2_with fail
  rw [← hgt]
  refine (C1.out _).mono ?_
  rintro e w2 ⟨rfl, b2⟩
  have W2 := HW.out.below b2 HW.out.lt
  have HB2 := Lib.hid (HB.out.trans (b2.mono HB.out.size))
  have k0 := W2.cell 0
  have k1 := W2.cell 1
  have k2 := W2.cell 2
  have k3 := W2.cell 3
  have k4 := W2.cell 4
  have f0 := W2.free 0
  have f1 := W2.free 1
  have f2 := W2.free 2
  have f3 := W2.free 3
  have f4 := W2.free 4
  have HW2 := Lib.hid W2
  clear b2 W2 HW HB C1 hgt
  go_wp2_with fail
  have HW3 := Lib.hid (HW2.out.five (.bool true) (.int .i64 a) (.int .i64 a) (.int .i64 1) (.int .u64 1))
  have HB3 := Lib.hid (five HB2.out hg (.bool true) (.int .i64 a) (.int .i64 a) (.int .i64 1) (.int .u64 1))
  clear k0 k1 k2 k3 k4 f0 f1 f2 f3 f4 HB2 HW2
  go_loopw [7, 8] (fun v i wr => ∃ (k N : Nat) (t : Trk) (L W : List Int), k ≤ n ∧ i = .int .i64 (k : Int) ∧ N ≤ k ∧ wr.ownsRow (gt + 1) 32 1 v N (lows W) ∧ Hid (Mis a k t L W ∧ W.length = N) ∧ Hid (Whole wr gt 26 t.cells) ∧ Below w.heap.size w wr) (fun _ i _ => n - (intOf i).toNat)
  case atStart => exact ⟨0, 0, _, [a], [], Nat.zero_le _, rfl, Nat.le_refl _, World.ownsRow_nil _ _ _ _, Lib.hid ⟨Mis.first a ha, rfl⟩, HW3, HB3.out⟩
  case round =>
    clear HW3 HB3
    obtain ⟨k, N, t, L, W, hk, rfl, hN, hown, HM, HW, hb⟩ := hrel
    obtain ⟨Av, cv, rfl⟩ := own_form hown
    have HO := Lib.hid hown
    have HB := Lib.hid hb
    have hsz := hb.size
    have hgl := HW.out.lt
    clear hown hb
    by_cases hlt : k < n
    · obtain ⟨b, hb⟩ : ∃ b, l[k]? = some b := ⟨l[k]'(by rw [HN.out]; exact hlt), by simp⟩
      obtain ⟨g, o, rfl, hg0, hcell⟩ := H.out.2 (by omega)
      have r0 : wr.cell? ⟨g, o + k, none⟩ = some (.bool b) := (HB.out.cell (p := ⟨g, o + k, none⟩) hg0).trans (hcell k _ (bls_get _ _ _ hb))
      have hs := low_wrap a k
      obtain ⟨s, hss⟩ : ∃ s, (a + (k : Int) + 1) % 65536 = s := ⟨_, rfl⟩
      rw [hss] at hs
      have hs6 : 0 ≤ s ∧ s < 65536 := by omega
      have hi1 : (0 : Int) ≤ (k : Int) := by omega
      have hi2 : (k : Int) < (n : Int) := by omega
      have HSS := Lib.hid hss
      clear hcell hb hss
      cases b
      case true =>
        have HM2 : Hid (Mis a (k + 1) t L (W ++ [a + k + 1]) ∧ (W ++ [a + (k : Int) + 1]).length = N + 1) := Lib.hid ⟨HM.out.1.gone, by simp [HM.out.2]⟩
        have hne : ∀ q, (Value.slice Av N cv).ownBlock = some q → gt + 1 ≤ q ∧ q < wr.heap.size := fun q hq => HO.out.lt q hq
        have HRW := Lib.hid (show Row (wr.alloc (.cells #[.int .u16 s] 32)) (wr.heap.size + 1) 1 (some ⟨wr.heap.size, 0, none⟩) 1 [.int .u16 s] from Row.one _ _ _)
        have HNE := Lib.hid hne
        clear hne HM
        go_wp2_with (at_builtin; refine wpl_append _ rfl (.tmp 43) (.tmp 49) 22 rfl (gt + 1) 32 (.int .u16 0) 1 2 Try.underlying22 info_u16 rfl (by decide) (.slice Av N cv) N (lows W) rfl (HO.out.alloc _) (wr.heap.size + 1) (some ⟨wr.heap.size, 0, none⟩) 1 1 [.int .u16 s] rfl HRW.out (by simp [Value.oneCell']) ?c1 ?c2 ?c3 ?_)
        case c1 => unfold maxLen; omega
        case c2 => omega
        case c3 => simp; omega
        intro v4 w4 hown4 hg4 _
        have HB4 := Lib.hid ((HB.out.alloc (by omega) _).grown hg4 (by simp; omega) (fun q hq => by have := (HNE.out q hq).1; omega))
        have HW4 := Lib.hid ((HW.out.alloc _).grown hg4 (fun e => by have := (HNE.out _ e.symm).1; omega))
        have HO4 : Hid (w4.ownsRow (gt + 1) 32 1 v4 (N + 1) (lows (W ++ [a + (k : Int) + 1]))) := Lib.hid (by rw [lows_append, show lows [a + (k : Int) + 1] = [.int .u16 s] from by rw [← HSS.out]; rfl]; exact hown4)
        clear hown4 hg4 HO HB HW HRW HNE hsz hgl r0 hs
        go_wp2
        go_roundw
        case rel => exact ⟨k + 1, N + 1, t, L, _, by omega, by go_num, by omega, HO4.out, HM2, HW4, HB4.out⟩
        case measure => simp [intOf]; omega
      case false =>
        obtain ⟨q, hq, hm⟩ := HM.out.1.come (by omega) ha
        rw [HSS.out] at hq
        have hFt := HM.out.1.fit (by omega)
        have hLn : L.length ≤ 100 := by have := HM.out.1.len; omega
        have HM2 := Lib.hid (And.intro hm HM.out.2)
        clear HM hm
        obtain ⟨on, base, high, got, seen⟩ := t
        have C := fun w => tk_lit _ _ _ _ _ _ _ _ _ hq hFt hs6.1 hs6.2 w
        simp only [Trk.cells] at C HW
        have C := Lib.hid C
        clear hq hFt
        obtain ⟨ln, hln⟩ : ∃ ln : Int, (L.length : Int) + 1 = ln := ⟨_, rfl⟩
        rw [hln] at C HM2
        have hln2 : 0 ≤ ln ∧ ln ≤ 1000 := by omega
        clear hln
        have k0 := HW.out.cell 0
        have k1 := HW.out.cell 1
        have k2 := HW.out.cell 2
        have k3 := HW.out.cell 3
        have k4 := HW.out.cell 4
        go_wp2_with fail
        refine (C.out _).mono ?_
        rintro e w4 ⟨rfl, b4⟩
        have W4 := HW.out.below b4 HW.out.lt
        have HO4 := Lib.hid (own_below HO.out b4 (Nat.le_refl _))
        have HB4 := Lib.hid (HB.out.trans (b4.mono HB.out.size))
        clear k0 k1 k2 k3 k4 r0 hs C b4 HO HB
        have hg4 := W4.lt
        have hs4 := HB4.out.size
        have k0 := W4.cell 0
        have k1 := W4.cell 1
        have k2 := W4.cell 2
        have k3 := W4.cell 3
        have k4 := W4.cell 4
        have f0 := W4.free 0
        have f1 := W4.free 1
        have f2 := W4.free 2
        have f3 := W4.free 3
        have f4 := W4.free 4
        have HW4 := Lib.hid W4
        clear W4 HW
        go_wp2
        go_roundw
        case rel => exact ⟨k + 1, N, ⟨true, a, a + k + 1, ln, q⟩, _, W, by omega, by go_num, by omega, (own_five HO4.out (Nat.lt_succ_self _) (.bool true) (.int .i64 a) (.int .i64 (a + (k : Int) + 1)) (.int .i64 ln) (.int .u64 (q : Int))).alloc _, HM2, Lib.hid ((HW4.out.five (.bool true) (.int .i64 a) (.int .i64 (a + (k : Int) + 1)) (.int .i64 ln) (.int .u64 (q : Int))).alloc _), (five HB4.out hg (.bool true) (.int .i64 a) (.int .i64 (a + (k : Int) + 1)) (.int .i64 ln) (.int .u64 (q : Int))).alloc (five HB4.out hg (.bool true) (.int .i64 a) (.int .i64 (a + (k : Int) + 1)) (.int .i64 ln) (.int .u64 (q : Int))).size _⟩
        case measure => simp [intOf]; omega
    · obtain rfl : k = n := by omega
      have hs := low_wrap a k
      obtain ⟨s, hss⟩ : ∃ s, (a + (k : Int) + 1) % 65536 = s := ⟨_, rfl⟩
      rw [hss] at hs
      have hs6 : 0 ≤ s ∧ s < 65536 := by omega
      obtain ⟨q, hq, hf⟩ := HM.out.1.close (by omega) ha
      rw [hss] at hq
      have hFt := HM.out.1.fit (by omega)
      have hWN := HM.out.2
      have hLn : L.length ≤ 100 := by have := HM.out.1.len; omega
      obtain ⟨ln, hln⟩ : ∃ ln : Int, (L.length : Int) + 1 = ln := ⟨_, rfl⟩
      rw [hln] at hq hf
      have hln2 : 0 ≤ ln ∧ ln ≤ 1000 := by omega
      obtain ⟨L2, hL2⟩ : ∃ L2, L ++ [a + (k : Int) + 1] = L2 := ⟨_, rfl⟩
      rw [hL2] at hf
      have CM := fun w => missing_any _ (hf.fit (by omega)) w
      have CL := fun w => lost_any _ (hf.fit (by omega)) w
      rw [hf.miss (by omega)] at CM
      rw [hf.lost (Nat.zero_le _), hWN, show (N : Int) - ((0 : Nat) : Int) = N by omega] at CL
      have HF := Lib.hid hf
      have HWN := Lib.hid hWN
      clear HM hf hss hln hL2 hWN
      obtain ⟨on, base, high, got, seen⟩ := t
      have C := fun w => tk_lit _ _ _ _ _ _ _ _ _ hq hFt hs6.1 hs6.2 w
      simp only [Trk.cells] at C HW CM CL
      have C := Lib.hid C
      have CM := Lib.hid CM
      have CL := Lib.hid CL
      clear hq hFt
      have k0 := HW.out.cell 0
      have k1 := HW.out.cell 1
      have k2 := HW.out.cell 2
      have k3 := HW.out.cell 3
      have k4 := HW.out.cell 4
      go_wp2_with fail
      refine (C.out _).mono ?_
      rintro e w4 ⟨rfl, b4⟩
      have W4 := HW.out.below b4 HW.out.lt
      have HO4 := Lib.hid (own_below HO.out b4 (Nat.le_refl _))
      have HB4 := Lib.hid (HB.out.trans (b4.mono HB.out.size))
      clear k0 k1 k2 k3 k4 hs C b4 HO HB
      have hg4 := W4.lt
      have hs4 := HB4.out.size
      have k0 := W4.cell 0
      have k1 := W4.cell 1
      have k2 := W4.cell 2
      have k3 := W4.cell 3
      have k4 := W4.cell 4
      have f0 := W4.free 0
      have f1 := W4.free 1
      have f2 := W4.free 2
      have f3 := W4.free 3
      have f4 := W4.free 4
      have HW4 := Lib.hid W4
      clear W4 HW
      go_wp2_with fail
      have B5 := (five HB4.out hg (.bool true) (.int .i64 a) (.int .i64 (a + (k : Int) + 1)) (.int .i64 ln) (.int .u64 (q : Int))).alloc (five HB4.out hg (.bool true) (.int .i64 a) (.int .i64 (a + (k : Int) + 1)) (.int .i64 ln) (.int .u64 (q : Int))).size (.cells #[.bool true, .int .i64 a, .int .i64 (a + (k : Int) + 1), .int .i64 ln, .int .u64 (q : Int)] 26)
      have W5 := (HW4.out.five (.bool true) (.int .i64 a) (.int .i64 (a + (k : Int) + 1)) (.int .i64 ln) (.int .u64 (q : Int))).alloc (.cells #[.bool true, .int .i64 a, .int .i64 (a + (k : Int) + 1), .int .i64 ln, .int .u64 (q : Int)] 26)
      have O5 := (own_five HO4.out (Nat.lt_succ_self _) (.bool true) (.int .i64 a) (.int .i64 (a + (k : Int) + 1)) (.int .i64 ln) (.int .u64 (q : Int))).alloc (.cells #[.bool true, .int .i64 a, .int .i64 (a + (k : Int) + 1), .int .i64 ln, .int .u64 (q : Int)] 26)
      refine (CM.out _).mono ?_
      rintro e w6 ⟨A6, c6, rfl, hown, b6⟩
      rw [HWN.out] at hown ⊢
      have W6 := W5.below b6 W5.lt
      have HB6 := Lib.hid (B5.trans (b6.mono B5.size))
      have hO6 := own_below O5 b6 (Nat.le_refl _)
      have HAV := Lib.hid (fun x (hx : Av = some x) => show gt + 1 ≤ x.block from (O5.lt x.block (by rw [hx]; rfl)).1)
      have HA6 := Lib.hid (fun x (hx : A6 = some x) => show gt + 1 ≤ x.block from Nat.le_trans (show gt + 1 ≤ _ from W5.lt) (hown.lt x.block (by rw [hx]; rfl)).1)
      have HRM := Lib.hid (Row.of_own hown)
      have HRW := Lib.hid (Row.of_own hO6)
      clear k0 k1 k2 k3 k4 f0 f1 f2 f3 f4 b6 hown hO6 B5 O5 W5 HO4 HB4 HW4 CM
      have k0 := W6.cell 0
      have k1 := W6.cell 1
      have k2 := W6.cell 2
      have k3 := W6.cell 3
      have k4 := W6.cell 4
      have HW6 := Lib.hid W6
      clear W6
      go_wp2_with fail
      refine (CL.out _).mono ?_
      rintro e w7 ⟨rfl, b7⟩
      have HW7 := Lib.hid (HW6.out.below b7 HW6.out.lt)
      have HB7 := Lib.hid (HB6.out.trans (b7.mono HB6.out.size))
      have HM7 := Lib.hid ((HRM.out.below b7 (Nat.le_refl _)).more b7.size)
      have HV7 := Lib.hid ((HRW.out.below b7 (Nat.le_refl _)).more b7.size)
      clear k0 k1 k2 k3 k4 b7 HW6 HB6 HRM HRW CL
      go_wp2_with fail
      go_loopw [16] (fun i wx => ∃ (j : Nat) (t : Trk), j ≤ N ∧ i = .int .i64 (j : Int) ∧ Hid (Fil a k j t L2 W) ∧ Hid (Whole wx gt 26 t.cells) ∧ Hid (Row wx wx.heap.size 1 A6 N (lows W)) ∧ Hid (Row wx wx.heap.size 1 Av N (lows W)) ∧ Below w.heap.size w wx) (fun i _ => N - (intOf i).toNat)
      case atStart => exact ⟨0, _, Nat.zero_le _, rfl, HF, HW7, HM7, HV7, HB7.out⟩
      case round =>
        clear HF HW7 HM7 HV7 HB7
        obtain ⟨j, t, hj, rfl, HF, HW, HM, HV, hb⟩ := hrel
        have HB := Lib.hid hb
        have hsz := hb.size
        clear hb
        by_cases hjn : j < N
        · obtain ⟨x, hx⟩ : ∃ x, W[j]? = some x := ⟨W[j]'(by rw [HWN.out]; exact hjn), by simp⟩
          obtain ⟨g6, o6, rfl, hg6, hc6⟩ := HM.out.2 (by omega)
          obtain ⟨g7, o7, rfl, hg7, hc7⟩ := HV.out.2 (by omega)
          obtain ⟨v, hv⟩ : ∃ v, x % 65536 = v := ⟨_, rfl⟩
          have d1 : wr.cell? ⟨g6, o6 + j, none⟩ = some (.int .u16 v) := by rw [← hv]; exact hc6 j _ (lows_get _ _ _ hx)
          have d2 : wr.cell? ⟨g7, o7 + j, none⟩ = some (.int .u16 v) := by rw [← hv]; exact hc7 j _ (lows_get _ _ _ hx)
          have hv6 : 0 ≤ v ∧ v < 65536 := by omega
          have hj1 : (0 : Int) ≤ (j : Int) := by omega
          have hj2 : (j : Int) < (N : Int) := by omega
          obtain ⟨q2, hq2, hf2⟩ := HF.out.step (by omega) x hx
          rw [hv] at hq2
          have hFt := HF.out.fit (by omega)
          have hgt0 := hFt.got0
          have hgt1 := hFt.got1
          have HF2 := Lib.hid hf2
          clear hc6 hc7 hx hv hf2 HF
          obtain ⟨on, base, high, got, seen⟩ := t
          have C := fun w => tk_lit _ _ _ _ _ _ _ _ _ hq2 hFt hv6.1 hv6.2 w
          simp only [Trk.cells] at C HW
          dsimp only at hgt0 hgt1 HF2
          have C := Lib.hid C
          clear hq2 hFt
          go_wp2_with fail
          go_quiet (fail)
          obtain ⟨wo, hwo⟩ : ∃ wo : World, wo = wr.drewN nq := ⟨_, rfl⟩
          have HWo : Hid (Whole wo gt 26 #[.bool on, .int .i64 base, .int .i64 high, .int .i64 got, .int .u64 (seen : Int)]) := Lib.hid (by rw [hwo]; exact HW.out)
          have HMo : Hid (Row wo wo.heap.size 1 (some ⟨g6, o6, none⟩) N (lows W)) := Lib.hid (by rw [hwo]; exact HM.out)
          have HVo : Hid (Row wo wo.heap.size 1 (some ⟨g7, o7, none⟩) N (lows W)) := Lib.hid (by rw [hwo]; exact HV.out)
          have HBo : Hid (Below w.heap.size w wo) := Lib.hid (by rw [hwo]; exact bdrewN HB.out nq)
          have e1 : wo.cell? ⟨g6, o6 + j, none⟩ = some (.int .u16 v) := by rw [hwo]; exact d1
          have hso : wo.heap.size = wr.heap.size := by rw [hwo]; rfl
          rw [← hwo]
          have hg6o : g6 < wo.heap.size := by omega
          have hszo : w.heap.size ≤ wo.heap.size := by omega
          clear hwo hso HW HM HV HB hsz d1 d2 hg6 hg7
          have hR1 := Lib.hid (fun w' (b' : Below wo.heap.size wo w') => show w'.cell? ⟨g6, o6 + j, none⟩ = some (.int .u16 v) from (b'.cell (p := ⟨g6, o6 + j, none⟩) hg6o).trans e1)
          clear e1
          have K6 := Lib.hid (fun w' (b' : Below wo.heap.size wo w') => show (fun w' => w'.cell? ⟨gt, 0, none⟩ = some (.bool on) ∧ w'.cell? ⟨gt, 1, none⟩ = some (.int .i64 base) ∧ w'.cell? ⟨gt, 2, none⟩ = some (.int .i64 high) ∧ w'.cell? ⟨gt, 3, none⟩ = some (.int .i64 got) ∧ w'.cell? ⟨gt, 4, none⟩ = some (.int .u64 (seen : Int)) ∧ w'.cell? ⟨g6, o6 + j, none⟩ = some (.int .u16 v)) w' from ⟨(HWo.out.below b' HWo.out.lt).cell 0, (HWo.out.below b' HWo.out.lt).cell 1, (HWo.out.below b' HWo.out.lt).cell 2, (HWo.out.below b' HWo.out.lt).cell 3, (HWo.out.below b' HWo.out.lt).cell 4, hR1.out _ b'⟩)
          have hgw := HWo.out.lt
          go_upto_region 28 with fail
          go_cut [17, 18, 19] (fun s6 s7 s8 wx => ∃ gq : Nat, s6 = .pointer (some ⟨gq, 0, none⟩) ∧ wo.heap.size ≤ gq ∧ s7 = .int .i64 x ∧ s8 = .int .i64 1 ∧ Whole wx gq 26 #[.bool true, .int .i64 a, .int .i64 (a + (k : Int) + 1), .int .i64 (got + 1), .int .u64 (q2 : Int)] ∧ Below wo.heap.size wo wx)
          case first =>
            refine wp_region_X (S := fun w' => w'.cell? ⟨gt, 0, none⟩ = some (.bool on) ∧ w'.cell? ⟨gt, 1, none⟩ = some (.int .i64 base) ∧ w'.cell? ⟨gt, 2, none⟩ = some (.int .i64 high) ∧ w'.cell? ⟨gt, 3, none⟩ = some (.int .i64 got) ∧ w'.cell? ⟨gt, 4, none⟩ = some (.int .u64 (seen : Int)) ∧ w'.cell? ⟨g6, o6 + j, none⟩ = some (.int .u16 v)) [] (by kernel_rfl) (K6.out _ (Below.refl _ _).drew) (fun hHeld0 => ?_)
            refine wpAnyX_take (i := 0) [] (v := ?_) rfl (by kernel_rfl) (by kernel_rfl) (by kernel_rfl) (by kernel_rfl) (fun _ _ _ h => h) (Or.inl ⟨by kernel_rfl, ?_⟩) (by assumption) ?_
            rotate_left 1
            · (intro w hSw; obtain ⟨q0, q1, q2, q3, q4, q5⟩ := hSw; go_simp; try (with_reducible rfl))
            (try simp only [Act.put, List.getElem_toArray, List.getElem_cons_succ, List.getElem_cons_zero, List.setIfInBounds_toArray, List.set_cons_zero, List.set_cons_succ])
            refine wpAnyX_take (i := 1) [] (v := ?_) rfl (by kernel_rfl) (by kernel_rfl) (by kernel_rfl) (by kernel_rfl) (fun _ _ _ h => h) (Or.inl ⟨by kernel_rfl, ?_⟩) (by assumption) ?_
            rotate_left 1
            · (intro w hSw; obtain ⟨q0, q1, q2, q3, q4, q5⟩ := hSw; go_simp; try (with_reducible rfl))
            (try simp only [Act.put, List.getElem_toArray, List.getElem_cons_succ, List.getElem_cons_zero, List.setIfInBounds_toArray, List.set_cons_zero, List.set_cons_succ])
            refine wpAnyX_take (i := 2) [] (v := ?_) rfl (by kernel_rfl) (by kernel_rfl) (by kernel_rfl) (by kernel_rfl) (fun _ _ _ h => h) (Or.inl ⟨by kernel_rfl, ?_⟩) (by assumption) ?_
            rotate_left 1
            · (intro w hSw; obtain ⟨q0, q1, q2, q3, q4, q5⟩ := hSw; go_simp; try (with_reducible rfl))
            (try simp only [Act.put, List.getElem_toArray, List.getElem_cons_succ, List.getElem_cons_zero, List.setIfInBounds_toArray, List.set_cons_zero, List.set_cons_succ])
            refine wpAnyX_take (i := 3) [] (v := ?_) rfl (by kernel_rfl) (by kernel_rfl) (by kernel_rfl) (by kernel_rfl) (fun _ _ _ h => h) (Or.inl ⟨by kernel_rfl, ?_⟩) (by assumption) ?_
            rotate_left 1
            · (intro w hSw; obtain ⟨q0, q1, q2, q3, q4, q5⟩ := hSw; go_simp; try (with_reducible rfl))
            (try simp only [Act.put, List.getElem_toArray, List.getElem_cons_succ, List.getElem_cons_zero, List.setIfInBounds_toArray, List.set_cons_zero, List.set_cons_succ])
            refine wpAnyX_take (i := 4) [] (v := ?_) rfl (by kernel_rfl) (by kernel_rfl) (by kernel_rfl) (by kernel_rfl) (fun _ _ _ h => h) (Or.inl ⟨by kernel_rfl, ?_⟩) (by assumption) ?_
            rotate_left 1
            · (intro w hSw; obtain ⟨q0, q1, q2, q3, q4, q5⟩ := hSw; go_simp; try (with_reducible rfl))
            (try simp only [Act.put, List.getElem_toArray, List.getElem_cons_succ, List.getElem_cons_zero, List.setIfInBounds_toArray, List.set_cons_zero, List.set_cons_succ])
            refine wpAnyX_two 5 10 (by kernel_rfl) rfl rfl (fun K hK => ?_) (fun K hK => ?_)
            · go_simp
              go_wp2_with (refine (C.out wo.drew).mono ?_; rintro e w3 ⟨rfl, b3⟩)
              have B3 := (Below.refl wo.heap.size wo).drew.trans b3
              refine hK.out _ _ (.inr (K6.out _ B3)) ?_
              have hHeld1 := K6.out _ B3
              clear hK K
              (try simp only [Act.put, List.getElem_toArray, List.getElem_cons_succ, List.getElem_cons_zero, List.setIfInBounds_toArray, List.set_cons_zero, List.set_cons_succ])
              refine wpAnyX_take (i := 6) [] (v := ?_) rfl (by kernel_rfl) (by kernel_rfl) (by kernel_rfl) (by kernel_rfl) (fun _ _ _ h => h) (Or.inl ⟨by kernel_rfl, ?_⟩) (by assumption) ?_
              rotate_left 1
              · (intro w hSw; obtain ⟨q0, q1, q2, q3, q4, q5⟩ := hSw; go_simp; try (with_reducible rfl))
              (try simp only [Act.put, List.getElem_toArray, List.getElem_cons_succ, List.getElem_cons_zero, List.setIfInBounds_toArray, List.set_cons_zero, List.set_cons_succ])
              refine wpAnyX_take (i := 7) [] (v := ?_) rfl (by kernel_rfl) (by kernel_rfl) (by kernel_rfl) (by kernel_rfl) (fun _ _ _ h => h) (Or.inl ⟨by kernel_rfl, ?_⟩) (by assumption) ?_
              rotate_left 1
              · (intro w hSw; obtain ⟨q0, q1, q2, q3, q4, q5⟩ := hSw; go_simp; try (with_reducible rfl))
              (try simp only [Act.put, List.getElem_toArray, List.getElem_cons_succ, List.getElem_cons_zero, List.setIfInBounds_toArray, List.set_cons_zero, List.set_cons_succ])
              refine wpAnyX_take (i := 8) [] (v := ?_) rfl (by kernel_rfl) (by kernel_rfl) (by kernel_rfl) (by kernel_rfl) (fun _ _ _ h => h) (Or.inl ⟨by kernel_rfl, ?_⟩) (by assumption) ?_
              rotate_left 1
              · (intro w hSw; obtain ⟨q0, q1, q2, q3, q4, q5⟩ := hSw; go_simp; try (with_reducible rfl))
              (try simp only [Act.put, List.getElem_toArray, List.getElem_cons_succ, List.getElem_cons_zero, List.setIfInBounds_toArray, List.set_cons_zero, List.set_cons_succ])
              refine wpAnyX_take (i := 9) [] (v := ?_) rfl (by kernel_rfl) (by kernel_rfl) (by kernel_rfl) (by kernel_rfl) (fun _ _ _ h => h) (Or.inl ⟨by kernel_rfl, ?_⟩) (by assumption) ?_
              rotate_left 1
              · (intro w hSw; obtain ⟨q0, q1, q2, q3, q4, q5⟩ := hSw; go_simp; try (with_reducible rfl))
              (try simp only [Act.put, List.getElem_toArray, List.getElem_cons_succ, List.getElem_cons_zero, List.setIfInBounds_toArray, List.set_cons_zero, List.set_cons_succ])
              refine wpAnyX_one 10 (by kernel_rfl) rfl (fun K hK => ?_)
              go_simp
              have B4 := B3.alloc B3.size (.cells #[.bool false, .int .i64 0, .int .i64 0, .int .i64 0, .int .u64 0] 26)
              refine hK.out _ _ (.inr (K6.out _ B4)) ?_
              have hHeld2 := K6.out _ B4
              clear hK K
              (try simp only [Act.put, List.getElem_toArray, List.getElem_cons_succ, List.getElem_cons_zero, List.setIfInBounds_toArray, List.set_cons_zero, List.set_cons_succ])
              refine wpAnyX_one 11 (by kernel_rfl) rfl (fun K hK => ?_)
              have hq := Whole.new w3 26 #[.bool false, .int .i64 0, .int .i64 0, .int .i64 0, .int .u64 0]
              have hq0 := hq.cell 0
              have hq1 := hq.cell 1
              have hq2 := hq.cell 2
              have hq3 := hq.cell 3
              have hq4 := hq.cell 4
              have hf0 := hq.free 0
              have hf1 := hq.free 1
              have hf2 := hq.free 2
              have hf3 := hq.free 3
              have hf4 := hq.free 4
              go_simp
              have B5 := B3.alloc B3.size (.cells #[.bool true, .int .i64 a, .int .i64 (a + (k : Int) + 1), .int .i64 (got + 1), .int .u64 (q2 : Int)] 26)
              refine hK.out _ _ (.inr (K6.out _ B5)) ?_
              have hHeld3 := K6.out _ B5
              clear hK K
              (try simp only [Act.put, List.getElem_toArray, List.getElem_cons_succ, List.getElem_cons_zero, List.setIfInBounds_toArray, List.set_cons_zero, List.set_cons_succ])
              refine wpAnyX_take (i := 12) [] (v := ?_) rfl (by kernel_rfl) (by kernel_rfl) (by kernel_rfl) (by kernel_rfl) (fun _ _ _ h => h) (Or.inl ⟨by kernel_rfl, ?_⟩) (by assumption) ?_
              rotate_left 1
              · (intro w hSw; obtain ⟨q0, q1, q2, q3, q4, q5⟩ := hSw; go_simp; try (with_reducible rfl))
              (try simp only [Act.put, List.getElem_toArray, List.getElem_cons_succ, List.getElem_cons_zero, List.setIfInBounds_toArray, List.set_cons_zero, List.set_cons_succ])
              refine wpAnyX_take (i := 13) [] (v := ?_) rfl (by kernel_rfl) (by kernel_rfl) (by kernel_rfl) (by kernel_rfl) (fun _ _ _ h => h) (Or.inl ⟨by kernel_rfl, ?_⟩) (by assumption) ?_
              rotate_left 1
              · (intro w hSw; obtain ⟨q0, q1, q2, q3, q4, q5⟩ := hSw; go_simp; try (with_reducible rfl))
              (try simp only [Act.put, List.getElem_toArray, List.getElem_cons_succ, List.getElem_cons_zero, List.setIfInBounds_toArray, List.set_cons_zero, List.set_cons_succ])
              refine wpAnyX_done (by kernel_rfl) ?_ _
              go_wp2_with fail
              go_meet
              exact ⟨_, rfl, by have := b3.size; simpa using this, rfl, rfl, Whole.new _ _ _, B5⟩
            · go_simp
              have B3 := (Below.refl wo.heap.size wo).drew.alloc (Nat.le_refl _) (.cells #[.bool false, .int .i64 0, .int .i64 0, .int .i64 0, .int .u64 0] 26)
              refine hK.out _ _ (.inr (K6.out _ B3)) ?_
              have hHeld1 := K6.out _ B3
              clear hK K
              (try simp only [Act.put, List.getElem_toArray, List.getElem_cons_succ, List.getElem_cons_zero, List.setIfInBounds_toArray, List.set_cons_zero, List.set_cons_succ])
              refine wpAnyX_one 5 (by kernel_rfl) rfl (fun K hK => ?_)
              go_simp
              go_wp2_with (refine (C.out _).mono ?_; rintro e w3 ⟨rfl, b3⟩)
              have B4 := B3.trans (b3.mono (by simp))
              have hq : Whole w3 wo.heap.size 26 #[.bool false, .int .i64 0, .int .i64 0, .int .i64 0, .int .u64 0] := (Whole.new wo.drew 26 #[.bool false, .int .i64 0, .int .i64 0, .int .i64 0, .int .u64 0]).below b3 (by simp)
              have hq0 := hq.cell 0
              have hq1 := hq.cell 1
              have hq2 := hq.cell 2
              have hq3 := hq.cell 3
              have hq4 := hq.cell 4
              have hf0 := hq.free 0
              have hf1 := hq.free 1
              have hf2 := hq.free 2
              have hf3 := hq.free 3
              have hf4 := hq.free 4
              refine hK.out _ _ (.inr (K6.out _ B4)) ?_
              have hHeld2 := K6.out _ B4
              clear hK K
              (try simp only [Act.put, List.getElem_toArray, List.getElem_cons_succ, List.getElem_cons_zero, List.setIfInBounds_toArray, List.set_cons_zero, List.set_cons_succ])
              refine wpAnyX_take (i := 6) [] (v := ?_) rfl (by kernel_rfl) (by kernel_rfl) (by kernel_rfl) (by kernel_rfl) (fun _ _ _ h => h) (Or.inl ⟨by kernel_rfl, ?_⟩) (by assumption) ?_
              rotate_left 1
              · (intro w hSw; obtain ⟨q0, q1, q2, q3, q4, q5⟩ := hSw; go_simp; try (with_reducible rfl))
              (try simp only [Act.put, List.getElem_toArray, List.getElem_cons_succ, List.getElem_cons_zero, List.setIfInBounds_toArray, List.set_cons_zero, List.set_cons_succ])
              refine wpAnyX_take (i := 7) [] (v := ?_) rfl (by kernel_rfl) (by kernel_rfl) (by kernel_rfl) (by kernel_rfl) (fun _ _ _ h => h) (Or.inl ⟨by kernel_rfl, ?_⟩) (by assumption) ?_
              rotate_left 1
              · (intro w hSw; obtain ⟨q0, q1, q2, q3, q4, q5⟩ := hSw; go_simp; try (with_reducible rfl))
              (try simp only [Act.put, List.getElem_toArray, List.getElem_cons_succ, List.getElem_cons_zero, List.setIfInBounds_toArray, List.set_cons_zero, List.set_cons_succ])
              refine wpAnyX_take (i := 8) [] (v := ?_) rfl (by kernel_rfl) (by kernel_rfl) (by kernel_rfl) (by kernel_rfl) (fun _ _ _ h => h) (Or.inl ⟨by kernel_rfl, ?_⟩) (by assumption) ?_
              rotate_left 1
              · (intro w hSw; obtain ⟨q0, q1, q2, q3, q4, q5⟩ := hSw; go_simp; try (with_reducible rfl))
              (try simp only [Act.put, List.getElem_toArray, List.getElem_cons_succ, List.getElem_cons_zero, List.setIfInBounds_toArray, List.set_cons_zero, List.set_cons_succ])
              refine wpAnyX_take (i := 9) [] (v := ?_) rfl (by kernel_rfl) (by kernel_rfl) (by kernel_rfl) (by kernel_rfl) (fun _ _ _ h => h) (Or.inl ⟨by kernel_rfl, ?_⟩) (by assumption) ?_
              rotate_left 1
              · (intro w hSw; obtain ⟨q0, q1, q2, q3, q4, q5⟩ := hSw; go_simp; try (with_reducible rfl))
              (try simp only [Act.put, List.getElem_toArray, List.getElem_cons_succ, List.getElem_cons_zero, List.setIfInBounds_toArray, List.set_cons_zero, List.set_cons_succ])
              refine wpAnyX_one 11 (by kernel_rfl) rfl (fun K hK => ?_)
              go_simp
              have B5 := five B4 (Nat.le_refl _) (.bool true) (.int .i64 a) (.int .i64 (a + (k : Int) + 1)) (.int .i64 (got + 1)) (.int .u64 (q2 : Int))
              refine hK.out _ _ (.inr (K6.out _ B5)) ?_
              have hHeld3 := K6.out _ B5
              clear hK K
              (try simp only [Act.put, List.getElem_toArray, List.getElem_cons_succ, List.getElem_cons_zero, List.setIfInBounds_toArray, List.set_cons_zero, List.set_cons_succ])
              refine wpAnyX_take (i := 12) [] (v := ?_) rfl (by kernel_rfl) (by kernel_rfl) (by kernel_rfl) (by kernel_rfl) (fun _ _ _ h => h) (Or.inl ⟨by kernel_rfl, ?_⟩) (by assumption) ?_
              rotate_left 1
              · (intro w hSw; obtain ⟨q0, q1, q2, q3, q4, q5⟩ := hSw; go_simp; try (with_reducible rfl))
              (try simp only [Act.put, List.getElem_toArray, List.getElem_cons_succ, List.getElem_cons_zero, List.setIfInBounds_toArray, List.set_cons_zero, List.set_cons_succ])
              refine wpAnyX_take (i := 13) [] (v := ?_) rfl (by kernel_rfl) (by kernel_rfl) (by kernel_rfl) (by kernel_rfl) (fun _ _ _ h => h) (Or.inl ⟨by kernel_rfl, ?_⟩) (by assumption) ?_
              rotate_left 1
              · (intro w hSw; obtain ⟨q0, q1, q2, q3, q4, q5⟩ := hSw; go_simp; try (with_reducible rfl))
              (try simp only [Act.put, List.getElem_toArray, List.getElem_cons_succ, List.getElem_cons_zero, List.setIfInBounds_toArray, List.set_cons_zero, List.set_cons_succ])
              refine wpAnyX_done (by kernel_rfl) ?_ _
              go_wp2_with fail
              go_meet
              exact ⟨_, rfl, Nat.le_refl _, rfl, rfl, hq.five _ _ _ _ _, B5⟩
          case rest =>
            clear K6
            obtain ⟨gv, rfl, hgv, rfl, rfl, hwv, bq⟩ := hcut
            have W8 := HWo.out.below bq HWo.out.lt
            have HB8 := Lib.hid (HBo.out.trans (bq.mono hszo))
            have hgvl := hwv.lt
            have hgtl := W8.lt
            have hne : gv ≠ gt := by omega
            have hs8 := HB8.out.size
            have k0 := W8.cell 0
            have k1 := W8.cell 1
            have k2 := W8.cell 2
            have k3 := W8.cell 3
            have k4 := W8.cell 4
            have f0 := W8.free 0
            have f1 := W8.free 1
            have f2 := W8.free 2
            have f3 := W8.free 3
            have f4 := W8.free 4
            have v0 := hwv.cell 0
            have v1 := hwv.cell 1
            have v2 := hwv.cell 2
            have v3 := hwv.cell 3
            have v4 := hwv.cell 4
            have HW8 := Lib.hid W8
            have HM8 := Lib.hid ((HMo.out.below bq (Nat.le_refl _)).more bq.size)
            have HV8 := Lib.hid ((HVo.out.below bq (Nat.le_refl _)).more bq.size)
            clear bq hwv W8 hR1 C HWo HMo HVo HBo hgw
            go_wp2
            go_roundw
            case rel => exact ⟨j + 1, _, by omega, by go_num, HF2, Lib.hid (HW8.out.five (.bool true) (.int .i64 a) (.int .i64 (a + (k : Int) + 1)) (.int .i64 (got + 1)) (.int .u64 (q2 : Int))), Lib.hid (by simpa using row_five (r := gt) HM8.out (fun y hy => by have := HA6.out y hy; omega) (.bool true) (.int .i64 a) (.int .i64 (a + (k : Int) + 1)) (.int .i64 (got + 1)) (.int .u64 (q2 : Int))), Lib.hid (by simpa using row_five (r := gt) HV8.out (fun y hy => by have := HAV.out y hy; omega) (.bool true) (.int .i64 a) (.int .i64 (a + (k : Int) + 1)) (.int .i64 (got + 1)) (.int .u64 (q2 : Int))), five HB8.out hg (.bool true) (.int .i64 a) (.int .i64 (a + (k : Int) + 1)) (.int .i64 (got + 1)) (.int .u64 (q2 : Int))⟩
            case measure => simp [intOf]; omega
        · obtain rfl : j = N := by omega
          have hFt := HF.out.fit (by omega)
          have CM := fun w => missing_any t hFt w
          have CL := fun w => lost_any t hFt w
          have hfn : Fil a k W.length t L2 W := by rw [HWN.out]; exact HF.out
          rw [hfn.none (by omega)] at CM
          rw [hfn.lost (Nat.le_refl _), show (W.length : Int) - ((W.length : Nat) : Int) = 0 by omega] at CL
          clear hfn HF hFt HM HV
          obtain ⟨on, base, high, got, seen⟩ := t
          simp only [Trk.cells] at CM CL HW
          have CM := Lib.hid CM
          have CL := Lib.hid CL
          have k0 := HW.out.cell 0
          have k1 := HW.out.cell 1
          have k2 := HW.out.cell 2
          have k3 := HW.out.cell 3
          have k4 := HW.out.cell 4
          go_wp2_with fail
          refine (CM.out _).mono ?_
          rintro e w8 ⟨A8, c8, rfl, _, b8⟩
          rw [show ([] : List Int).length = 0 from rfl]
          have W8 := HW.out.below b8 HW.out.lt
          have HB8 := Lib.hid (HB.out.trans (b8.mono HB.out.size))
          clear k0 k1 k2 k3 k4 b8 HW HB CM
          have k0 := W8.cell 0
          have k1 := W8.cell 1
          have k2 := W8.cell 2
          have k3 := W8.cell 3
          have k4 := W8.cell 4
          clear W8
          go_wp2_with fail
          refine (CL.out _).mono ?_
          rintro e w9 ⟨rfl, b9⟩
          have HB9 := Lib.hid (HB8.out.trans (b9.mono HB8.out.size))
          clear k0 k1 k2 k3 k4 b9
          go_wp2
          go_ret
          exact ⟨ret_bool rfl, HB9.out⟩

set_option maxRecDepth 100000 in
theorem lifted (os : Os) (started : os.Started) (H : Type) (enc : TypeId × Value → H) :
    ReturnsInHanded {} Try.checked os 6 .any (Rows.recvMissesSpec.pre6 enc Try.prog Try.f6 Rows.recvMissesRow.domain false) (Rows.recvMissesSpec.post enc Try.prog Try.f6 false true false false) := by
  refine returnsInHanded_of_change (C := Try.checked) own started (by kernel_rfl) Try.func6
    (ChangeSpec.witness6 (enc := enc) (C := Try.checked) false ⟨#[], #[.int .u16 0, .slice none 0 0], []⟩ 8 (by kernel_rfl) (by kernel_rfl) (by kernel_rfl) (by kernel_rfl)) ?_
  intro W base args ds gs before hval0 hW _ _
  have hval : ∀ (j : Nat) t v, Try.f6.params[j]? = some t → args[j]? = some v → Value.okWide Try.prog W .any base t v := hval0
  have hW' := hW
  obtain ⟨p, q, hA0, hV, _, _, _⟩ := hW
  have hA : DataW.TrodAll enc Try.prog W 0 (fun _ => true) true Try.f6.params.toList args.toList ds p := hA0
  rw [Try.params6] at hA hval
  obtain ⟨v0, vs0, d0, ds0, p0, q0, hargs, rfl, _, h0, r0⟩ := trodAll_cons hA
  obtain ⟨v1, vs1, d1, ds1, p1, q1, rfl, rfl, _, h1, r1⟩ := trodAll_cons r0
  obtain ⟨rfl, rfl, _⟩ := trodAll_nil r1
  obtain rfl : args = #[v0, v1] := by cases args; simp_all
  obtain ⟨rfl, _⟩ := trodVars_none hV
  refine law_post (s := Rows.recvMissesSpec) rfl rfl (by rw [Try.params6]; intro t ht; simp at ht; rcases ht with rfl | rfl <;> exact ⟨by kernel_rfl, of_decide_eq_true (by kernel_rfl)⟩) rfl hW' ?_
  obtain ⟨a0, rfl, _, _, w0⟩ := open_int Try.underlying32 (hval 0 32 v0 rfl rfl) h0
  obtain ⟨A1, c1, l1, rfl, hl1, hr1⟩ := open_bools (hval 1 41 v1 rfl rfl) h1
  exact walk W a0 w0 A1 c1 l1 hl1 hr1

theorem over : Rows.recvMissesRow.holds Try.pinned (OpenSpec.ofChange Rows.recvMissesSpec) :=
  OpenClaim.holds_of_wide 6 Try.f6 rfl rfl rfl rfl rfl rfl rfl ⟨rfl, rfl, rfl, rfl, rfl⟩ rfl rfl rfl rfl rfl (by kernel_rfl) Try.func6 (by kernel_rfl)
    (of_decide_eq_true (by kernel_rfl)) (by unfold Func.isWrapper; first | (rw [if_pos (by decide +kernel)]; kernel_rfl) | (rw [if_neg (by decide +kernel)]; exact ⟨rfl, rfl⟩))
    (fun os started H enc _ => lifted os started H enc)

/-- The statement. -/
theorem recvMisses_holds : Rows.RecvMissesSaid := over

end Go.Proofs.Ytphhhfgenhbmlaa.VMisses
