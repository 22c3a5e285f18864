/-
 Contracts of package delta: slices.DeleteFunc of its rows. The function value's own contract is a premise.
-/
import Derived.Test.YtmmeceehfdbdoaaDcA
import Derived.Laws.CopyRow
namespace Go.Proofs.Ytmmeceehfdbdoaa
open Go.RowKit
open Dl
set_option linter.unusedSimpArgs false
set_option linter.unusedVariables false
set_option maxRecDepth 100000

namespace Dl
def outS {α : Type} (f : α → Bool) (l : List α) : List α := l.filter fun z => !f z
theorem outS_takeP {α : Type} {f : α → Bool} {q : List α} {j : Nat} {t : α} (h : q[j]? = some t) : outS f (q.take (j + 1)) = if f t = true then outS f (q.take j) else outS f (q.take j) ++ [t] := by
 have e : q.take (j + 1) = q.take j ++ [t] := by rw [List.take_add_one, h]; rfl
 unfold outS
 rw [e, List.filter_append]
 cases h1 : f t
 · simp [h1]
 · simp [h1]
theorem outS_all {α : Type} {f : α → Bool} {q : List α} (h : ∀ (j : Nat) t, q[j]? = some t → f t = false) : outS f q = q := by
 unfold outS
 rw [List.filter_eq_self]
 intro t ht
 obtain ⟨j, hj⟩ := List.getElem?_of_mem ht
 rw [h j t hj]
 rfl
/-- While those that go are let go: i of them stay, of the first j. -/
structure DelS {α : Type} (f : α → Bool) (q : List α) (i j : Nat) (L : List α) : Prop where
 len : L.length = q.length
 low : L.take i = outS f (q.take j)
 high : L.drop j = q.drop j
section
variable {α : Type} {f : α → Bool} {q L : List α} {i j k : Nat} {t : α}
theorem DelS.start (ht : q[k]? = some t) (hg : f t = true) (h : ∀ (j : Nat) t', j < k → q[j]? = some t' → f t' = false) : DelS f q k (k + 1) q := by
 refine ⟨rfl, ?_, rfl⟩
 rw [outS_takeP ht, if_pos hg]
 refine (outS_all fun j t' hj => ?_).symm
 rw [List.getElem?_take] at hj
 split at hj
 · exact h j t' ‹_› hj
 · cases hj
theorem DelS.get (h : DelS f q i j L) : L[j]? = q[j]? := by
 have := congrArg (fun l => l[0]?) h.high
 simpa using this
theorem DelS.keep (h : DelS f q i j L) (hij : i < j) (hj : j < q.length) (ht : q[j]? = some t) (hg : f t = false) : DelS f q (i + 1) (j + 1) (L.set i t) := by
 refine ⟨by rw [List.length_set]; exact h.len, ?_, ?_⟩
 · rw [outS_takeP ht, if_neg (by rw [hg]; exact Bool.false_ne_true), ← h.low, List.take_add_one, List.getElem?_set_self (by rw [h.len]; omega), List.take_set_of_le (Nat.le_refl i)]
   rfl
 · rw [List.drop_set_of_lt (by omega)]
   have := congrArg (List.drop 1) h.high
   simpa [List.drop_drop] using this
theorem DelS.skip (h : DelS f q i j L) (ht : q[j]? = some t) (hg : f t = true) : DelS f q i (j + 1) L := by
 refine ⟨h.len, ?_, ?_⟩
 · rw [outS_takeP ht, if_pos hg]
   exact h.low
 · have := congrArg (List.drop 1) h.high
   simpa [List.drop_drop] using this
theorem DelS.done {n : Nat} (h : DelS f q i n L) (hn : q.length = n) (hi : i ≤ n) : L.take i = outS f q ∧ (outS f q).length = i := by
 subst hn
 have h1 := h.low
 rw [List.take_length] at h1
 refine ⟨h1, ?_⟩
 rw [← h1, List.length_take, h.len]
 omega
theorem ix_first {α : Type} {f : α → Bool} {l : List α} : (ixS f l = -1 ∧ ∀ (j : Nat) (x : α), l[j]? = some x → f x = false) ∨ ∃ (k : Nat) (x : α), ixS f l = (k : Int) ∧ l[k]? = some x ∧ f x = true ∧ ∀ (j : Nat) (x' : α), j < k → l[j]? = some x' → f x' = false := by
 unfold ixS
 cases h : l.findIdx? f with
 | none =>
  refine .inl ⟨rfl, fun j x hx => ?_⟩
  have := List.findIdx?_eq_none_iff.mp h x (List.mem_of_getElem? hx)
  simpa using this
 | some k =>
  obtain ⟨hk, h1, h2⟩ := List.findIdx?_eq_some_iff_getElem.mp h
  refine .inr ⟨k, l[k], rfl, List.getElem?_eq_getElem hk, h1, fun j x' hj hx => ?_⟩
  have h3 := h2 j hj
  obtain ⟨hl, e⟩ := List.getElem?_eq_some_iff.1 hx
  rw [e] at h3
  simpa using h3
/-- What stands in the block: the row, and what is behind. -/
def rowA {α : Type} (V : α → List Value) (L : List α) (T : List Value) : Array Value := ((L.map V).flatten ++ T).toArray
theorem rowA_get {α : Type} {V : α → List Value} {z : Nat} (hV : ∀ x, (V x).length = z) {L : List α} {T : List Value} {i : Nat} {t : α} (h : L[i]? = some t) (k : Nat) (hk : k < z) : (rowA V L T)[i * z + k]? = (V t)[k]? := by
 have hi := (List.getElem?_eq_some_iff.1 h).1
 have hl := flat_length hV L
 have : i * z + z ≤ L.length * z := by have := Nat.mul_le_mul_right z hi; rw [Nat.succ_mul] at this; exact this
 unfold rowA
 rw [List.getElem?_toArray, List.getElem?_append_left (by omega)]
 exact flat_get hV h k hk
end
end Dl

theorem flat_setP {xw xr xg : Int} : ∀ {L : List Pn} {i : Nat}, i < L.length → ((((pnC L).set (i * 3) (.int .i64 xw)).set (i * 3 + 1) (.int .i64 xr)).set (i * 3 + 2) (.int .i64 xg)) = pnC (L.set i ⟨xw, xr, xg⟩)
 | [], i, h => by simp at h
 | a :: L, 0, _ => by simp [pnC, pnV]
 | a :: L, i + 1, h => by
  have ih := flat_setP (xw := xw) (xr := xr) (xg := xg) (L := L) (i := i) (by simpa using h)
  have e1 : pnC (a :: L) = pnV a ++ pnC L := rfl
  have e2 : pnC ((a :: L).set (i + 1) ⟨xw, xr, xg⟩) = pnV a ++ pnC (L.set i ⟨xw, xr, xg⟩) := rfl
  rw [show (i + 1) * 3 = i * 3 + 3 by omega, e1, e2, ← ih]
  simp [pnV]
theorem rowA_setP {L : List Pn} {T : List Value} {i : Nat} {xw xr xg : Int} (h : i < L.length) : ((((rowA pnV L T).setIfInBounds (i * 3) (.int .i64 xw)).setIfInBounds (i * 3 + 1) (.int .i64 xr)).setIfInBounds (i * 3 + 2) (.int .i64 xg)) = rowA pnV (L.set i ⟨xw, xr, xg⟩) T := by
 have hl : (pnC L).length = L.length * 3 := flat_length (f := pnV) (z := 3) (fun _ => rfl) L
 have e := flat_setP (xw := xw) (xr := xr) (xg := xg) h
 unfold rowA
 apply Array.ext'
 simp only [Array.toList_setIfInBounds]
 rw [show ((L.set i ⟨xw, xr, xg⟩).map pnV).flatten = pnC (L.set i ⟨xw, xr, xg⟩) from rfl, ← e, show (L.map pnV).flatten = pnC L from rfl]
 rw [List.set_append_left _ _ (by first | omega | (simp only [List.length_set]; omega)), List.set_append_left _ _ (by first | omega | (simp only [List.length_set]; omega)), List.set_append_left _ _ (by first | omega | (simp only [List.length_set]; omega))]

theorem zero_delP : (Try.prog.info? 71).map (fun i => i.zero) = some (some (Value.agg #[.int .i64 0, .int .i64 0, .int .i64 0])) := by kernel_rfl
/-- 'clear(s[i:])': zeros behind the first i, up to n. -/
theorem clear_P {b i n c : Nat} {cur : Array Value} {w : World} (hb : Whole w b 71 cur) (hi : i < n) (hn : n * 3 ≤ cur.size) :
 ∃ w' cs, (∀ ty, (Builtin.clear_ #[27] ty #[.slice (some ⟨b, i * 3, none⟩) (n - i) c]).run Try.prog w = .ok (.tuple #[]) w') ∧ Whole w' b 71 cs ∧ cs.size = cur.size ∧ cs.toList.take (i * 3) = cur.toList.take (i * 3) ∧ But (fun k => k = b) w w' := by
 obtain ⟨m, hm⟩ : ∃ m, n - i = m + 1 := ⟨n - i - 1, by omega⟩
 obtain ⟨I, hI, hz⟩ : ∃ I, Try.prog.info? 71 = some I ∧ I.zero = some (Value.agg #[.int .i64 0, .int .i64 0, .int .i64 0]) := by
  have := zero_delP
  cases h : Try.prog.info? 71 with
  | none => rw [h] at this; cases this
  | some I => rw [h] at this; simp only [Option.map_some, Option.some.injEq] at this; exact ⟨I, rfl, this⟩
 have hzl : (Builtin.zeroCells (Value.agg #[.int .i64 0, .int .i64 0, .int .i64 0]).cells (m + 1)).toList.length = (m + 1) * 3 := by simp [Builtin.zeroCells, Value.cells]
 have hz1 : ∀ v ∈ (Builtin.zeroCells (Value.agg #[.int .i64 0, .int .i64 0, .int .i64 0]).cells (m + 1)).toList, v.oneCell' = true := by
  intro v hv
  simp only [Builtin.zeroCells, Value.cells, Array.toList_map, List.mem_map] at hv
  obtain ⟨k, _, rfl⟩ := hv
  have h3 : k % 3 = 0 ∨ k % 3 = 1 ∨ k % 3 = 2 := by omega
  show ((#[.int .i64 0, .int .i64 0, .int .i64 0] : Array Value)[k % 3]!).oneCell' = true
  rcases h3 with h | h | h <;> rw [h] <;> rfl
 obtain ⟨zs, hzs⟩ : ∃ zs, (Builtin.zeroCells (Value.agg #[.int .i64 0, .int .i64 0, .int .i64 0]).cells (m + 1)).toList = zs := ⟨_, rfl⟩
 rw [hzs] at hzl hz1
 have hst := run_storeCells_at (P := Try.prog) b (i * 3) 71 zs 0 cur w hb (by rw [hzl]; omega) hz1
 rw [Nat.add_zero] at hst
 refine ⟨w.setRow b (cur.toList.take (i * 3) ++ zs ++ cur.toList.drop (i * 3 + zs.length)).toArray, (cur.toList.take (i * 3) ++ zs ++ cur.toList.drop (i * 3 + zs.length)).toArray, fun ty => ?_, setRow_heap w b cur _ _ _ hb, ?_, ?_, ⟨rfl, rfl, rfl, by simp, fun k hk h => setRow_other w b k _ h⟩⟩
 · rw [hm]
   have hzv : (zeroValue 71).run Try.prog w = .ok (Value.agg #[.int .i64 0, .int .i64 0, .int .i64 0]) w := by simp [zeroValue, typeInfo, hI, hz]
   simp [Builtin.clear_, run_underlying Try.underlying27, hzv, hzs, hst]
 · simp only [List.size_toArray, List.length_append, List.length_take, List.length_drop, hzl, Array.length_toList]; omega
 · rw [List.append_assoc, List.take_append_of_le_length (by simp; omega), List.take_take, Nat.min_self]
/-- What is left: in the same block, ahead of what is cleared. -/
def DelP (base : Nat) (f : Pn → Bool) (l : List Pn) (A : Option Addr) (c : Nat) (w : World) (e : Ending) (w' : World) : Prop :=
 e = .returned (.slice A (outS f l).length c) ∧ w'.ownsRow base 71 3 (.slice A (outS f l).length c) (outS f l).length (pnC (outS f l)) ∧ But (fun k => (Value.slice A l.length c).ownBlock = some k) w w'
set_option maxHeartbeats 3200000 in
theorem ddelP (base : Nat) (N : FuncId) (u : Value) (f : Pn → Bool) (A : Option Addr) (c : Nat) (l : List Pn) (w : World) (hN : Ent N) (h : w.ownsRow base 71 3 (.slice A l.length c) l.length (pnC l)) (hl : l.length ≤ 4096)
 (hF : ∀ x ∈ l, ∀ wx : World, But (fun k => (Value.slice A l.length c).ownBlock = some k) w wx → Calls Try.prog N #[.agg (pnV x).toArray, u] wx fun e w' => e = .returned (.bool (f x)) ∧ Below wx.heap.size wx w') :
 Calls Try.prog 62 #[.slice A l.length c, .func (.func N) #[] #[u]] w (DelP base f l A c w) := by
 have CI := Lib.hid (dixP N u f A c l w hN (Row.of_own h) hl (fun x hx wx hb => hF x hx wx (but_of_below hb)))
 obtain ⟨n, hn⟩ : ∃ n, l.length = n := ⟨_, rfl⟩
 have HN := Lib.hid hn
 have H := Lib.hid h
 have HF := Lib.hid hF
 have hcap := (own_cap h).1
 unfold DelP
 rw [hn] at CI hl H hcap HF ⊢
 have hr := ix_first (f := f) (l := l)
 obtain ⟨r, hrr⟩ : ∃ r, ixS f l = r := ⟨_, rfl⟩
 rw [hrr] at CI hr
 clear h hn hF hrr
 unfold Ent at hN
 have HEnt := Lib.hid hN
 clear hN
 go_enter Try.func62, Try.ntmps62
 go_wp2_with fail
 refine CI.out.mono ?_
 rintro e w1 ⟨rfl, b1⟩
 have HB1 := Lib.hid b1
 clear b1 CI
 rcases hr with ⟨rfl, hall⟩ | ⟨k0, t0, rfl, ht0, hg0, hlow⟩
 · have hst := outS_all hall
   have HF2 := Lib.hid (show (Ending.returned (.slice A n c) = .returned (.slice A (outS f l).length c) ∧ w1.ownsRow base 71 3 (.slice A (outS f l).length c) (outS f l).length (pnC (outS f l)) ∧ But (fun k => (Value.slice A n c).ownBlock = some k) w w1) from ⟨by rw [hst, HN.out], by rw [hst, HN.out]; exact own_below H.out HB1.out (Nat.le_refl _), but_of_below HB1.out⟩)
   clear hall hst
   go_wp2_with fail
   go_ret
   exact HF2.out
 · have hk0 : k0 < n := by rw [← HN.out]; exact (List.getElem?_eq_some_iff.1 ht0).1
   have HS := Lib.hid (DelS.start ht0 hg0 hlow)
   obtain ⟨hxl, hh⟩ := H.out
   obtain ⟨b, cap, cur, hval, hbase, hcell, _, hM, hcsz, htk⟩ := hh.resolve_left (fun h => by omega)
   injection hval with e1 _ e3
   subst e1
   subst e3
   have hW : Whole w b 71 cur := hcell
   obtain ⟨T, hT⟩ : ∃ T, cur.toList.drop (n * 3) = T := ⟨_, rfl⟩
   have hcur : cur = rowA pnV l T := by
    unfold rowA
    rw [show (l.map pnV).flatten = pnC l from rfl, ← htk, ← hT, List.take_append_drop]
   have HT := Lib.hid (show (rowA pnV l T).size = c * 3 by rw [← hcur]; exact hcsz)
   have HW := Lib.hid (show Whole w1 b 71 (rowA pnV l T) by rw [← hcur]; exact hW.below HB1.out hW.lt)
   have hbl := hW.lt
   have HM := Lib.hid hM
   have HBA := Lib.hid hbase
   have hkb : ((k0 : Int) == -1) = false := by simp
   have HF1 : Hid (∀ x ∈ l, ∀ wx : World, But (fun k => k = b) w wx → Calls Try.prog N #[.agg (pnV x).toArray, u] wx fun e w' => e = .returned (.bool (f x)) ∧ Below wx.heap.size wx w') := Lib.hid (fun x hx wx hb => HF.out x hx wx (hb.mono (fun k _ h => by rw [h]; rfl)))
   clear hlow ht0 hg0 hW hcsz hcur hT H hxl hh hcell hM htk hbase HF
   go_wp2_with fail
   go_loopw [5, 6] (fun s5 s6 wr => ∃ (i j : Nat) (L : List Pn), s5 = .int .i64 (i : Int) ∧ s6 = .int .i64 (j : Int) ∧ i < j ∧ j ≤ n ∧ Hid (DelS f l i j L) ∧ Whole wr b 71 (rowA pnV L T) ∧ But (fun k => k = b) w wr) (fun _ s6 _ => n - (intOf s6).toNat)
   case atStart => exact ⟨k0, k0 + 1, l, rfl, by go_num, by omega, by omega, HS, HW.out, but_of_below HB1.out⟩
   case round =>
    obtain ⟨i, j, L, rfl, rfl, hij, hj, HD, hw, hb⟩ := hrel
    have hsz := hb.size
    have hbr : b < wr.heap.size := by omega
    have hbn : b ≠ wr.heap.size := by omega
    have HW1 := Lib.hid hw
    have HB := Lib.hid hb
    by_cases hlt : j < n
    · obtain ⟨y, hy⟩ : ∃ y, l[j]? = some y := ⟨_, List.getElem?_eq_getElem (by rw [HN.out]; exact hlt)⟩
      have HY := Lib.hid hy
      have C := HF1.out y (List.mem_of_getElem? hy) (wr.alloc (.cells (pnV y).toArray 71)) (hb.alloc _)
      obtain ⟨z, hz⟩ : ∃ z, L[i]? = some z := ⟨_, List.getElem?_eq_getElem (by rw [HD.out.len, HN.out]; omega)⟩
      have c0 := (hw.cell (j * 3 + 0)).trans ((rowA_get (V := pnV) (z := 3) (fun _ => rfl) (T := T) ((HD.out.get).trans hy) 0 (by decide)).trans rfl)
      have c1 := (hw.cell (j * 3 + 1)).trans ((rowA_get (V := pnV) (z := 3) (fun _ => rfl) (T := T) ((HD.out.get).trans hy) 1 (by decide)).trans rfl)
      have c2 := (hw.cell (j * 3 + 2)).trans ((rowA_get (V := pnV) (z := 3) (fun _ => rfl) (T := T) ((HD.out.get).trans hy) 2 (by decide)).trans rfl)
      rw [Nat.add_zero] at c0
      have HZ := Lib.hid (show (∃ v, (rowA pnV L T)[i * 3]? = some v) ∧ (∃ v, (rowA pnV L T)[i * 3 + 1]? = some v) ∧ (∃ v, (rowA pnV L T)[i * 3 + 2]? = some v) from ⟨⟨_, (rowA_get (V := pnV) (z := 3) (fun _ => rfl) (T := T) hz 0 (by decide)).trans rfl⟩, ⟨_, (rowA_get (V := pnV) (z := 3) (fun _ => rfl) (T := T) hz 1 (by decide)).trans rfl⟩, ⟨_, (rowA_get (V := pnV) (z := 3) (fun _ => rfl) (T := T) hz 2 (by decide)).trans rfl⟩⟩)
      have i0 : (0 : Int) ≤ (j : Int) := by omega
      have i1 : (j : Int) < (n : Int) := by omega
      have k0 : (0 : Int) ≤ (i : Int) := by omega
      have k1 : (i : Int) < (n : Int) := by omega
      generalize hq : f y = t at C
      have HQ := Lib.hid hq
      obtain ⟨xw, xr, xg⟩ := y
      dsimp only [pnV] at c0 c1 c2
      rw [show (pnV ⟨xw, xr, xg⟩).toArray = #[.int .i64 xw, .int .i64 xr, .int .i64 xg] from rfl] at C
      replace C := Lib.hid C
      have HN1 := Lib.hid (Whole.new wr 71 #[.int .i64 xw, .int .i64 xr, .int .i64 xg])
      have HW2 := Lib.hid (HW1.out.alloc (.cells #[.int .i64 xw, .int .i64 xr, .int .i64 xg] 71))
      have HB2 := Lib.hid (HB.out.alloc (.cells #[.int .i64 xw, .int .i64 xr, .int .i64 xg] 71))
      have hs2 : (wr.alloc (.cells #[.int .i64 xw, .int .i64 xr, .int .i64 xg] 71)).heap.size = wr.heap.size + 1 := by simp
      have HS2 := Lib.hid hs2
      clear hw hb hy hz hs2 hq
      cases t with
      | true =>
       have hN := HEnt.out
       go_wp2_with fail
       refine C.out.mono ?_
       rintro e w8 ⟨rfl, b8⟩
       have HBe := Lib.hid b8
       clear b8 hN
       go_wp2_with fail
       go_roundw
       case rel => exact ⟨i, j + 1, L, rfl, by go_num, by omega, by omega, Lib.hid (HD.out.skip HY.out HQ.out), HW2.out.below HBe.out (by rw [HS2.out]; omega), HB2.out.trans (but_of_below HBe.out)⟩
       case measure => simp [intOf]; omega
      | false =>
       have hN := HEnt.out
       go_wp2_with fail
       refine C.out.mono ?_
       rintro e w8 ⟨rfl, b8⟩
       have hs8 := b8.size
       rw [HS2.out] at hs8
       have W8 := HW2.out.below b8 (by rw [HS2.out]; omega)
       have N8 := HN1.out.below b8 (by rw [HS2.out]; omega)
       obtain ⟨⟨z0, d0⟩, ⟨z1, d1⟩, ⟨z2, d2⟩⟩ := HZ.out
       replace d0 := (W8.cell (i * 3)).trans d0
       have f0 := W8.free (i * 3)
       replace d1 := (W8.cell (i * 3 + 1)).trans d1
       have f1 := W8.free (i * 3 + 1)
       replace d2 := (W8.cell (i * 3 + 2)).trans d2
       have f2 := W8.free (i * 3 + 2)
       have n0' : w8.cell? ⟨wr.heap.size, 0, none⟩ = some (.int .i64 xw) := (N8.cell 0).trans rfl
       have n1' : w8.cell? ⟨wr.heap.size, 1, none⟩ = some (.int .i64 xr) := (N8.cell 1).trans rfl
       have n2' : w8.cell? ⟨wr.heap.size, 2, none⟩ = some (.int .i64 xg) := (N8.cell 2).trans rfl
       have HW8 := Lib.hid W8
       have HB8 := Lib.hid (HB2.out.trans (but_of_below b8))
       clear b8 W8 N8 hN c0 c1 c2
       go_wp2_with fail
       go_roundw
       case rel => exact ⟨i + 1, j + 1, L.set i ⟨xw, xr, xg⟩, by go_num, by go_num, by omega, by omega, Lib.hid (HD.out.keep hij (by rw [HN.out]; exact hlt) HY.out HQ.out), by rw [← rowA_setP (by rw [HD.out.len, HN.out]; omega)]; exact (((HW8.out).set (i * 3) _).set (i * 3 + 1) _).set (i * 3 + 2) _, (((HB8.out).set (p := ⟨b, i * 3, none⟩) (.inl rfl) _).set (p := ⟨b, i * 3 + 1, none⟩) (.inl rfl) _).set (p := ⟨b, i * 3 + 2, none⟩) (.inl rfl) _⟩
       case measure => simp [intOf]; omega
    · obtain rfl : j = n := by omega
      have hLl : (L.map pnV).flatten.length = j * 3 := by rw [flat_length (z := 3) (fun _ => rfl), HD.out.len, HN.out]
      have hT2 : j * 3 ≤ (rowA pnV L T).size := by
       unfold rowA
       simp only [List.size_toArray, List.length_append]
       omega
      obtain ⟨wz, cs, hcl, hWz, hcz, htk, hBz⟩ := clear_P (c := c - i) hw hij hT2
      have hdone := HD.out.done HN.out (by omega)
      have hLi : (rowA pnV L T).toList.take (i * 3) = pnC (outS f l) := by
       unfold rowA
       rw [List.take_append_of_le_length (by omega), ← flat_take (z := 3) (fun _ => rfl), hdone.1]
       rfl
      have HF2 := Lib.hid (show (Ending.returned (.slice (some ⟨b, 0, none⟩) i c) = .returned (.slice (some ⟨b, 0, none⟩) (outS f l).length c) ∧ wz.ownsRow base 71 3 (.slice (some ⟨b, 0, none⟩) (outS f l).length c) (outS f l).length (pnC (outS f l)) ∧ But (fun k => (Value.slice (some ⟨b, 0, none⟩) j c).ownBlock = some k) w wz) from by
       refine ⟨by rw [hdone.2], ⟨flat_length (z := 3) (fun _ => rfl) _, .inr ⟨b, c, cs, rfl, HBA.out, hWz, by rw [hdone.2]; omega, HM.out, ?_, ?_⟩⟩, (HB.out.trans hBz).mono fun k _ h => by rw [h]; rfl⟩
       · rw [hcz]
         have h1 : (rowA pnV L T).size = (rowA pnV l T).size := by
          unfold rowA
          simp only [List.size_toArray, List.length_append]
          rw [hLl, flat_length (z := 3) (fun _ => rfl), HN.out]
         rw [h1]; exact HT.out
       · rw [hdone.2, htk, hLi])
      have i0 : (0 : Int) ≤ (i : Int) := by omega
      have i1 : (i : Int) ≤ (j : Int) := by omega
      have i2 : (i : Int) ≤ (c : Int) := by omega
      have i3 : (j : Int) ≤ (c : Int) := by omega
      have hci : ¬ c = i := by omega
      clear hw hb hWz hcz htk hBz hdone hLi hT2 hLl
      go_wp2_with fail
      go_ret
      exact HF2.out

theorem flat_setT {xi xo xf : Int} {xs : List Int} {xA : Option Addr} {xc : Nat} : ∀ {L : List Tm} {i : Nat}, i < L.length → (((((tmC L).set (i * 4) (.int .i64 xi)).set (i * 4 + 1) (.int .i64 xo)).set (i * 4 + 2) (.int .i64 xf)).set (i * 4 + 3) (.slice xA xs.length xc)) = tmC (L.set i ⟨⟨xi, xo, xf, xs⟩, xA, xc⟩)
 | [], i, h => by simp at h
 | a :: L, 0, _ => by simp [tmC, tmV]
 | a :: L, i + 1, h => by
  have ih := flat_setT (xi := xi) (xo := xo) (xf := xf) (xs := xs) (xA := xA) (xc := xc) (L := L) (i := i) (by simpa using h)
  have e1 : tmC (a :: L) = tmV a ++ tmC L := rfl
  have e2 : tmC ((a :: L).set (i + 1) ⟨⟨xi, xo, xf, xs⟩, xA, xc⟩) = tmV a ++ tmC (L.set i ⟨⟨xi, xo, xf, xs⟩, xA, xc⟩) := rfl
  rw [show (i + 1) * 4 = i * 4 + 4 by omega, e1, e2, ← ih]
  simp [tmV]
theorem rowA_setT {L : List Tm} {T : List Value} {i : Nat} {xi xo xf : Int} {xs : List Int} {xA : Option Addr} {xc : Nat} (h : i < L.length) : (((((rowA tmV L T).setIfInBounds (i * 4) (.int .i64 xi)).setIfInBounds (i * 4 + 1) (.int .i64 xo)).setIfInBounds (i * 4 + 2) (.int .i64 xf)).setIfInBounds (i * 4 + 3) (.slice xA xs.length xc)) = rowA tmV (L.set i ⟨⟨xi, xo, xf, xs⟩, xA, xc⟩) T := by
 have hl : (tmC L).length = L.length * 4 := flat_length (f := tmV) (z := 4) (fun _ => rfl) L
 have e := flat_setT (xi := xi) (xo := xo) (xf := xf) (xs := xs) (xA := xA) (xc := xc) h
 unfold rowA
 apply Array.ext'
 simp only [Array.toList_setIfInBounds]
 rw [show ((L.set i ⟨⟨xi, xo, xf, xs⟩, xA, xc⟩).map tmV).flatten = tmC (L.set i ⟨⟨xi, xo, xf, xs⟩, xA, xc⟩) from rfl, ← e, show (L.map tmV).flatten = tmC L from rfl]
 rw [List.set_append_left _ _ (by first | omega | (simp only [List.length_set]; omega)), List.set_append_left _ _ (by first | omega | (simp only [List.length_set]; omega)), List.set_append_left _ _ (by first | omega | (simp only [List.length_set]; omega)), List.set_append_left _ _ (by first | omega | (simp only [List.length_set]; omega))]

theorem zero_delT : (Try.prog.info? 72).map (fun i => i.zero) = some (some (Value.agg #[.int .i64 0, .int .i64 0, .int .i64 0, .slice none 0 0])) := by kernel_rfl
/-- 'clear(s[i:])': zeros behind the first i, up to n. -/
theorem clear_T {b i n c : Nat} {cur : Array Value} {w : World} (hb : Whole w b 72 cur) (hi : i < n) (hn : n * 4 ≤ cur.size) :
 ∃ w' cs, (∀ ty, (Builtin.clear_ #[28] ty #[.slice (some ⟨b, i * 4, none⟩) (n - i) c]).run Try.prog w = .ok (.tuple #[]) w') ∧ Whole w' b 72 cs ∧ cs.size = cur.size ∧ cs.toList.take (i * 4) = cur.toList.take (i * 4) ∧ But (fun k => k = b) w w' := by
 obtain ⟨m, hm⟩ : ∃ m, n - i = m + 1 := ⟨n - i - 1, by omega⟩
 obtain ⟨I, hI, hz⟩ : ∃ I, Try.prog.info? 72 = some I ∧ I.zero = some (Value.agg #[.int .i64 0, .int .i64 0, .int .i64 0, .slice none 0 0]) := by
  have := zero_delT
  cases h : Try.prog.info? 72 with
  | none => rw [h] at this; cases this
  | some I => rw [h] at this; simp only [Option.map_some, Option.some.injEq] at this; exact ⟨I, rfl, this⟩
 have hzl : (Builtin.zeroCells (Value.agg #[.int .i64 0, .int .i64 0, .int .i64 0, .slice none 0 0]).cells (m + 1)).toList.length = (m + 1) * 4 := by simp [Builtin.zeroCells, Value.cells]
 have hz1 : ∀ v ∈ (Builtin.zeroCells (Value.agg #[.int .i64 0, .int .i64 0, .int .i64 0, .slice none 0 0]).cells (m + 1)).toList, v.oneCell' = true := by
  intro v hv
  simp only [Builtin.zeroCells, Value.cells, Array.toList_map, List.mem_map] at hv
  obtain ⟨k, _, rfl⟩ := hv
  have h3 : k % 4 = 0 ∨ k % 4 = 1 ∨ k % 4 = 2 ∨ k % 4 = 3 := by omega
  show ((#[.int .i64 0, .int .i64 0, .int .i64 0, .slice none 0 0] : Array Value)[k % 4]!).oneCell' = true
  rcases h3 with h | h | h | h <;> rw [h] <;> rfl
 obtain ⟨zs, hzs⟩ : ∃ zs, (Builtin.zeroCells (Value.agg #[.int .i64 0, .int .i64 0, .int .i64 0, .slice none 0 0]).cells (m + 1)).toList = zs := ⟨_, rfl⟩
 rw [hzs] at hzl hz1
 have hst := run_storeCells_at (P := Try.prog) b (i * 4) 72 zs 0 cur w hb (by rw [hzl]; omega) hz1
 rw [Nat.add_zero] at hst
 refine ⟨w.setRow b (cur.toList.take (i * 4) ++ zs ++ cur.toList.drop (i * 4 + zs.length)).toArray, (cur.toList.take (i * 4) ++ zs ++ cur.toList.drop (i * 4 + zs.length)).toArray, fun ty => ?_, setRow_heap w b cur _ _ _ hb, ?_, ?_, ⟨rfl, rfl, rfl, by simp, fun k hk h => setRow_other w b k _ h⟩⟩
 · rw [hm]
   have hzv : (zeroValue 72).run Try.prog w = .ok (Value.agg #[.int .i64 0, .int .i64 0, .int .i64 0, .slice none 0 0]) w := by simp [zeroValue, typeInfo, hI, hz]
   simp [Builtin.clear_, run_underlying Try.underlying28, hzv, hzs, hst]
 · simp only [List.size_toArray, List.length_append, List.length_take, List.length_drop, hzl, Array.length_toList]; omega
 · rw [List.append_assoc, List.take_append_of_le_length (by simp; omega), List.take_take, Nat.min_self]
/-- What is left: in the same block, ahead of what is cleared. -/
def DelT (base : Nat) (f : Tm → Bool) (l : List Tm) (A : Option Addr) (c : Nat) (w : World) (e : Ending) (w' : World) : Prop :=
 e = .returned (.slice A (outS f l).length c) ∧ w'.ownsRow base 72 4 (.slice A (outS f l).length c) (outS f l).length (tmC (outS f l)) ∧ But (fun k => (Value.slice A l.length c).ownBlock = some k) w w'
set_option maxHeartbeats 3200000 in
theorem ddelT (base : Nat) (N : FuncId) (u : Value) (f : Tm → Bool) (A : Option Addr) (c : Nat) (l : List Tm) (w : World) (hN : Ent N) (h : w.ownsRow base 72 4 (.slice A l.length c) l.length (tmC l)) (hl : l.length ≤ 4096)
 (hF : ∀ x ∈ l, ∀ wx : World, But (fun k => (Value.slice A l.length c).ownBlock = some k) w wx → Calls Try.prog N #[.agg (tmV x).toArray, u] wx fun e w' => e = .returned (.bool (f x)) ∧ Below wx.heap.size wx w') :
 Calls Try.prog 61 #[.slice A l.length c, .func (.func N) #[] #[u]] w (DelT base f l A c w) := by
 have CI := Lib.hid (dixT N u f A c l w hN (Row.of_own h) hl (fun x hx wx hb => hF x hx wx (but_of_below hb)))
 obtain ⟨n, hn⟩ : ∃ n, l.length = n := ⟨_, rfl⟩
 have HN := Lib.hid hn
 have H := Lib.hid h
 have HF := Lib.hid hF
 have hcap := (own_cap h).1
 unfold DelT
 rw [hn] at CI hl H hcap HF ⊢
 have hr := ix_first (f := f) (l := l)
 obtain ⟨r, hrr⟩ : ∃ r, ixS f l = r := ⟨_, rfl⟩
 rw [hrr] at CI hr
 clear h hn hF hrr
 unfold Ent at hN
 have HEnt := Lib.hid hN
 clear hN
 go_enter Try.func61, Try.ntmps61
 go_wp2_with fail
 refine CI.out.mono ?_
 rintro e w1 ⟨rfl, b1⟩
 have HB1 := Lib.hid b1
 clear b1 CI
 rcases hr with ⟨rfl, hall⟩ | ⟨k0, t0, rfl, ht0, hg0, hlow⟩
 · have hst := outS_all hall
   have HF2 := Lib.hid (show (Ending.returned (.slice A n c) = .returned (.slice A (outS f l).length c) ∧ w1.ownsRow base 72 4 (.slice A (outS f l).length c) (outS f l).length (tmC (outS f l)) ∧ But (fun k => (Value.slice A n c).ownBlock = some k) w w1) from ⟨by rw [hst, HN.out], by rw [hst, HN.out]; exact own_below H.out HB1.out (Nat.le_refl _), but_of_below HB1.out⟩)
   clear hall hst
   go_wp2_with fail
   go_ret
   exact HF2.out
 · have hk0 : k0 < n := by rw [← HN.out]; exact (List.getElem?_eq_some_iff.1 ht0).1
   have HS := Lib.hid (DelS.start ht0 hg0 hlow)
   obtain ⟨hxl, hh⟩ := H.out
   obtain ⟨b, cap, cur, hval, hbase, hcell, _, hM, hcsz, htk⟩ := hh.resolve_left (fun h => by omega)
   injection hval with e1 _ e3
   subst e1
   subst e3
   have hW : Whole w b 72 cur := hcell
   obtain ⟨T, hT⟩ : ∃ T, cur.toList.drop (n * 4) = T := ⟨_, rfl⟩
   have hcur : cur = rowA tmV l T := by
    unfold rowA
    rw [show (l.map tmV).flatten = tmC l from rfl, ← htk, ← hT, List.take_append_drop]
   have HT := Lib.hid (show (rowA tmV l T).size = c * 4 by rw [← hcur]; exact hcsz)
   have HW := Lib.hid (show Whole w1 b 72 (rowA tmV l T) by rw [← hcur]; exact hW.below HB1.out hW.lt)
   have hbl := hW.lt
   have HM := Lib.hid hM
   have HBA := Lib.hid hbase
   have hkb : ((k0 : Int) == -1) = false := by simp
   have HF1 : Hid (∀ x ∈ l, ∀ wx : World, But (fun k => k = b) w wx → Calls Try.prog N #[.agg (tmV x).toArray, u] wx fun e w' => e = .returned (.bool (f x)) ∧ Below wx.heap.size wx w') := Lib.hid (fun x hx wx hb => HF.out x hx wx (hb.mono (fun k _ h => by rw [h]; rfl)))
   clear hlow ht0 hg0 hW hcsz hcur hT H hxl hh hcell hM htk hbase HF
   go_wp2_with fail
   go_loopw [5, 6] (fun s5 s6 wr => ∃ (i j : Nat) (L : List Tm), s5 = .int .i64 (i : Int) ∧ s6 = .int .i64 (j : Int) ∧ i < j ∧ j ≤ n ∧ Hid (DelS f l i j L) ∧ Whole wr b 72 (rowA tmV L T) ∧ But (fun k => k = b) w wr) (fun _ s6 _ => n - (intOf s6).toNat)
   case atStart => exact ⟨k0, k0 + 1, l, rfl, by go_num, by omega, by omega, HS, HW.out, but_of_below HB1.out⟩
   case round =>
    obtain ⟨i, j, L, rfl, rfl, hij, hj, HD, hw, hb⟩ := hrel
    have hsz := hb.size
    have hbr : b < wr.heap.size := by omega
    have hbn : b ≠ wr.heap.size := by omega
    have HW1 := Lib.hid hw
    have HB := Lib.hid hb
    by_cases hlt : j < n
    · obtain ⟨y, hy⟩ : ∃ y, l[j]? = some y := ⟨_, List.getElem?_eq_getElem (by rw [HN.out]; exact hlt)⟩
      have HY := Lib.hid hy
      have C := HF1.out y (List.mem_of_getElem? hy) (wr.alloc (.cells (tmV y).toArray 72)) (hb.alloc _)
      obtain ⟨z, hz⟩ : ∃ z, L[i]? = some z := ⟨_, List.getElem?_eq_getElem (by rw [HD.out.len, HN.out]; omega)⟩
      have c0 := (hw.cell (j * 4 + 0)).trans ((rowA_get (V := tmV) (z := 4) (fun _ => rfl) (T := T) ((HD.out.get).trans hy) 0 (by decide)).trans rfl)
      have c1 := (hw.cell (j * 4 + 1)).trans ((rowA_get (V := tmV) (z := 4) (fun _ => rfl) (T := T) ((HD.out.get).trans hy) 1 (by decide)).trans rfl)
      have c2 := (hw.cell (j * 4 + 2)).trans ((rowA_get (V := tmV) (z := 4) (fun _ => rfl) (T := T) ((HD.out.get).trans hy) 2 (by decide)).trans rfl)
      have c3 := (hw.cell (j * 4 + 3)).trans ((rowA_get (V := tmV) (z := 4) (fun _ => rfl) (T := T) ((HD.out.get).trans hy) 3 (by decide)).trans rfl)
      rw [Nat.add_zero] at c0
      have HZ := Lib.hid (show (∃ v, (rowA tmV L T)[i * 4]? = some v) ∧ (∃ v, (rowA tmV L T)[i * 4 + 1]? = some v) ∧ (∃ v, (rowA tmV L T)[i * 4 + 2]? = some v) ∧ (∃ v, (rowA tmV L T)[i * 4 + 3]? = some v) from ⟨⟨_, (rowA_get (V := tmV) (z := 4) (fun _ => rfl) (T := T) hz 0 (by decide)).trans rfl⟩, ⟨_, (rowA_get (V := tmV) (z := 4) (fun _ => rfl) (T := T) hz 1 (by decide)).trans rfl⟩, ⟨_, (rowA_get (V := tmV) (z := 4) (fun _ => rfl) (T := T) hz 2 (by decide)).trans rfl⟩, ⟨_, (rowA_get (V := tmV) (z := 4) (fun _ => rfl) (T := T) hz 3 (by decide)).trans rfl⟩⟩)
      have i0 : (0 : Int) ≤ (j : Int) := by omega
      have i1 : (j : Int) < (n : Int) := by omega
      have k0 : (0 : Int) ≤ (i : Int) := by omega
      have k1 : (i : Int) < (n : Int) := by omega
      generalize hq : f y = t at C
      have HQ := Lib.hid hq
      obtain ⟨⟨xi, xo, xf, xs⟩, xA, xc⟩ := y
      dsimp only [tmV] at c0 c1 c2 c3
      obtain ⟨n5, hn5⟩ : ∃ z, xs.length = z := ⟨_, rfl⟩
      rw [hn5] at c3
      rw [show (tmV ⟨⟨xi, xo, xf, xs⟩, xA, xc⟩).toArray = #[.int .i64 xi, .int .i64 xo, .int .i64 xf, .slice xA n5 xc] from by rw [← hn5]; rfl] at C
      replace C := Lib.hid C
      have HN1 := Lib.hid (Whole.new wr 72 #[.int .i64 xi, .int .i64 xo, .int .i64 xf, .slice xA n5 xc])
      have HW2 := Lib.hid (HW1.out.alloc (.cells #[.int .i64 xi, .int .i64 xo, .int .i64 xf, .slice xA n5 xc] 72))
      have HB2 := Lib.hid (HB.out.alloc (.cells #[.int .i64 xi, .int .i64 xo, .int .i64 xf, .slice xA n5 xc] 72))
      have hs2 : (wr.alloc (.cells #[.int .i64 xi, .int .i64 xo, .int .i64 xf, .slice xA n5 xc] 72)).heap.size = wr.heap.size + 1 := by simp
      have HS2 := Lib.hid hs2
      have HN5 := Lib.hid hn5
      clear hw hb hy hz hs2 hq hn5
      cases t with
      | true =>
       have hN := HEnt.out
       go_wp2_with fail
       refine C.out.mono ?_
       rintro e w8 ⟨rfl, b8⟩
       have HBe := Lib.hid b8
       clear b8 hN
       go_wp2_with fail
       go_roundw
       case rel => exact ⟨i, j + 1, L, rfl, by go_num, by omega, by omega, Lib.hid (HD.out.skip HY.out HQ.out), HW2.out.below HBe.out (by rw [HS2.out]; omega), HB2.out.trans (but_of_below HBe.out)⟩
       case measure => simp [intOf]; omega
      | false =>
       have hN := HEnt.out
       go_wp2_with fail
       refine C.out.mono ?_
       rintro e w8 ⟨rfl, b8⟩
       have hs8 := b8.size
       rw [HS2.out] at hs8
       have W8 := HW2.out.below b8 (by rw [HS2.out]; omega)
       have N8 := HN1.out.below b8 (by rw [HS2.out]; omega)
       obtain ⟨⟨z0, d0⟩, ⟨z1, d1⟩, ⟨z2, d2⟩, ⟨z3, d3⟩⟩ := HZ.out
       replace d0 := (W8.cell (i * 4)).trans d0
       have f0 := W8.free (i * 4)
       replace d1 := (W8.cell (i * 4 + 1)).trans d1
       have f1 := W8.free (i * 4 + 1)
       replace d2 := (W8.cell (i * 4 + 2)).trans d2
       have f2 := W8.free (i * 4 + 2)
       replace d3 := (W8.cell (i * 4 + 3)).trans d3
       have f3 := W8.free (i * 4 + 3)
       have n0' : w8.cell? ⟨wr.heap.size, 0, none⟩ = some (.int .i64 xi) := (N8.cell 0).trans rfl
       have n1' : w8.cell? ⟨wr.heap.size, 1, none⟩ = some (.int .i64 xo) := (N8.cell 1).trans rfl
       have n2' : w8.cell? ⟨wr.heap.size, 2, none⟩ = some (.int .i64 xf) := (N8.cell 2).trans rfl
       have n3' : w8.cell? ⟨wr.heap.size, 3, none⟩ = some (.slice xA n5 xc) := (N8.cell 3).trans rfl
       have HW8 := Lib.hid W8
       have HB8 := Lib.hid (HB2.out.trans (but_of_below b8))
       clear b8 W8 N8 hN c0 c1 c2 c3
       go_wp2_with fail
       go_roundw
       case rel => exact ⟨i + 1, j + 1, L.set i ⟨⟨xi, xo, xf, xs⟩, xA, xc⟩, by go_num, by go_num, by omega, by omega, Lib.hid (HD.out.keep hij (by rw [HN.out]; exact hlt) HY.out HQ.out), by rw [← rowA_setT (by rw [HD.out.len, HN.out]; omega), HN5.out]; exact ((((HW8.out).set (i * 4) _).set (i * 4 + 1) _).set (i * 4 + 2) _).set (i * 4 + 3) _, ((((HB8.out).set (p := ⟨b, i * 4, none⟩) (.inl rfl) _).set (p := ⟨b, i * 4 + 1, none⟩) (.inl rfl) _).set (p := ⟨b, i * 4 + 2, none⟩) (.inl rfl) _).set (p := ⟨b, i * 4 + 3, none⟩) (.inl rfl) _⟩
       case measure => simp [intOf]; omega
    · obtain rfl : j = n := by omega
      have hLl : (L.map tmV).flatten.length = j * 4 := by rw [flat_length (z := 4) (fun _ => rfl), HD.out.len, HN.out]
      have hT2 : j * 4 ≤ (rowA tmV L T).size := by
       unfold rowA
       simp only [List.size_toArray, List.length_append]
       omega
      obtain ⟨wz, cs, hcl, hWz, hcz, htk, hBz⟩ := clear_T (c := c - i) hw hij hT2
      have hdone := HD.out.done HN.out (by omega)
      have hLi : (rowA tmV L T).toList.take (i * 4) = tmC (outS f l) := by
       unfold rowA
       rw [List.take_append_of_le_length (by omega), ← flat_take (z := 4) (fun _ => rfl), hdone.1]
       rfl
      have HF2 := Lib.hid (show (Ending.returned (.slice (some ⟨b, 0, none⟩) i c) = .returned (.slice (some ⟨b, 0, none⟩) (outS f l).length c) ∧ wz.ownsRow base 72 4 (.slice (some ⟨b, 0, none⟩) (outS f l).length c) (outS f l).length (tmC (outS f l)) ∧ But (fun k => (Value.slice (some ⟨b, 0, none⟩) j c).ownBlock = some k) w wz) from by
       refine ⟨by rw [hdone.2], ⟨flat_length (z := 4) (fun _ => rfl) _, .inr ⟨b, c, cs, rfl, HBA.out, hWz, by rw [hdone.2]; omega, HM.out, ?_, ?_⟩⟩, (HB.out.trans hBz).mono fun k _ h => by rw [h]; rfl⟩
       · rw [hcz]
         have h1 : (rowA tmV L T).size = (rowA tmV l T).size := by
          unfold rowA
          simp only [List.size_toArray, List.length_append]
          rw [hLl, flat_length (z := 4) (fun _ => rfl), HN.out]
         rw [h1]; exact HT.out
       · rw [hdone.2, htk, hLi])
      have i0 : (0 : Int) ≤ (i : Int) := by omega
      have i1 : (i : Int) ≤ (j : Int) := by omega
      have i2 : (i : Int) ≤ (c : Int) := by omega
      have i3 : (j : Int) ≤ (c : Int) := by omega
      have hci : ¬ c = i := by omega
      clear hw hb hWz hcz htk hBz hdone hLi hT2 hLl
      go_wp2_with fail
      go_ret
      exact HF2.out

theorem flat_setB {xw xt xl xd : Int} {xm : Bool} : ∀ {L : List Sb} {i : Nat}, i < L.length → ((((((sbC L).set (i * 5) (.int .i64 xw)).set (i * 5 + 1) (.int .i64 xt)).set (i * 5 + 2) (.int .i64 xl)).set (i * 5 + 3) (.int .i64 xd)).set (i * 5 + 4) (.bool xm)) = sbC (L.set i ⟨xw, xt, xl, xd, xm⟩)
 | [], i, h => by simp at h
 | a :: L, 0, _ => by simp [sbC, sbV]
 | a :: L, i + 1, h => by
  have ih := flat_setB (xw := xw) (xt := xt) (xl := xl) (xd := xd) (xm := xm) (L := L) (i := i) (by simpa using h)
  have e1 : sbC (a :: L) = sbV a ++ sbC L := rfl
  have e2 : sbC ((a :: L).set (i + 1) ⟨xw, xt, xl, xd, xm⟩) = sbV a ++ sbC (L.set i ⟨xw, xt, xl, xd, xm⟩) := rfl
  rw [show (i + 1) * 5 = i * 5 + 5 by omega, e1, e2, ← ih]
  simp [sbV]
theorem rowA_setB {L : List Sb} {T : List Value} {i : Nat} {xw xt xl xd : Int} {xm : Bool} (h : i < L.length) : ((((((rowA sbV L T).setIfInBounds (i * 5) (.int .i64 xw)).setIfInBounds (i * 5 + 1) (.int .i64 xt)).setIfInBounds (i * 5 + 2) (.int .i64 xl)).setIfInBounds (i * 5 + 3) (.int .i64 xd)).setIfInBounds (i * 5 + 4) (.bool xm)) = rowA sbV (L.set i ⟨xw, xt, xl, xd, xm⟩) T := by
 have hl : (sbC L).length = L.length * 5 := flat_length (f := sbV) (z := 5) (fun _ => rfl) L
 have e := flat_setB (xw := xw) (xt := xt) (xl := xl) (xd := xd) (xm := xm) h
 unfold rowA
 apply Array.ext'
 simp only [Array.toList_setIfInBounds]
 rw [show ((L.set i ⟨xw, xt, xl, xd, xm⟩).map sbV).flatten = sbC (L.set i ⟨xw, xt, xl, xd, xm⟩) from rfl, ← e, show (L.map sbV).flatten = sbC L from rfl]
 rw [List.set_append_left _ _ (by first | omega | (simp only [List.length_set]; omega)), List.set_append_left _ _ (by first | omega | (simp only [List.length_set]; omega)), List.set_append_left _ _ (by first | omega | (simp only [List.length_set]; omega)), List.set_append_left _ _ (by first | omega | (simp only [List.length_set]; omega)), List.set_append_left _ _ (by first | omega | (simp only [List.length_set]; omega))]

theorem zero_delB : (Try.prog.info? 55).map (fun i => i.zero) = some (some (Value.agg #[.int .i64 0, .int .i64 0, .int .i64 0, .int .i64 0, .bool false])) := by kernel_rfl
/-- 'clear(s[i:])': zeros behind the first i, up to n. -/
theorem clear_B {b i n c : Nat} {cur : Array Value} {w : World} (hb : Whole w b 55 cur) (hi : i < n) (hn : n * 5 ≤ cur.size) :
 ∃ w' cs, (∀ ty, (Builtin.clear_ #[29] ty #[.slice (some ⟨b, i * 5, none⟩) (n - i) c]).run Try.prog w = .ok (.tuple #[]) w') ∧ Whole w' b 55 cs ∧ cs.size = cur.size ∧ cs.toList.take (i * 5) = cur.toList.take (i * 5) ∧ But (fun k => k = b) w w' := by
 obtain ⟨m, hm⟩ : ∃ m, n - i = m + 1 := ⟨n - i - 1, by omega⟩
 obtain ⟨I, hI, hz⟩ : ∃ I, Try.prog.info? 55 = some I ∧ I.zero = some (Value.agg #[.int .i64 0, .int .i64 0, .int .i64 0, .int .i64 0, .bool false]) := by
  have := zero_delB
  cases h : Try.prog.info? 55 with
  | none => rw [h] at this; cases this
  | some I => rw [h] at this; simp only [Option.map_some, Option.some.injEq] at this; exact ⟨I, rfl, this⟩
 have hzl : (Builtin.zeroCells (Value.agg #[.int .i64 0, .int .i64 0, .int .i64 0, .int .i64 0, .bool false]).cells (m + 1)).toList.length = (m + 1) * 5 := by simp [Builtin.zeroCells, Value.cells]
 have hz1 : ∀ v ∈ (Builtin.zeroCells (Value.agg #[.int .i64 0, .int .i64 0, .int .i64 0, .int .i64 0, .bool false]).cells (m + 1)).toList, v.oneCell' = true := by
  intro v hv
  simp only [Builtin.zeroCells, Value.cells, Array.toList_map, List.mem_map] at hv
  obtain ⟨k, _, rfl⟩ := hv
  have h3 : k % 5 = 0 ∨ k % 5 = 1 ∨ k % 5 = 2 ∨ k % 5 = 3 ∨ k % 5 = 4 := by omega
  show ((#[.int .i64 0, .int .i64 0, .int .i64 0, .int .i64 0, .bool false] : Array Value)[k % 5]!).oneCell' = true
  rcases h3 with h | h | h | h | h <;> rw [h] <;> rfl
 obtain ⟨zs, hzs⟩ : ∃ zs, (Builtin.zeroCells (Value.agg #[.int .i64 0, .int .i64 0, .int .i64 0, .int .i64 0, .bool false]).cells (m + 1)).toList = zs := ⟨_, rfl⟩
 rw [hzs] at hzl hz1
 have hst := run_storeCells_at (P := Try.prog) b (i * 5) 55 zs 0 cur w hb (by rw [hzl]; omega) hz1
 rw [Nat.add_zero] at hst
 refine ⟨w.setRow b (cur.toList.take (i * 5) ++ zs ++ cur.toList.drop (i * 5 + zs.length)).toArray, (cur.toList.take (i * 5) ++ zs ++ cur.toList.drop (i * 5 + zs.length)).toArray, fun ty => ?_, setRow_heap w b cur _ _ _ hb, ?_, ?_, ⟨rfl, rfl, rfl, by simp, fun k hk h => setRow_other w b k _ h⟩⟩
 · rw [hm]
   have hzv : (zeroValue 55).run Try.prog w = .ok (Value.agg #[.int .i64 0, .int .i64 0, .int .i64 0, .int .i64 0, .bool false]) w := by simp [zeroValue, typeInfo, hI, hz]
   simp [Builtin.clear_, run_underlying Try.underlying29, hzv, hzs, hst]
 · simp only [List.size_toArray, List.length_append, List.length_take, List.length_drop, hzl, Array.length_toList]; omega
 · rw [List.append_assoc, List.take_append_of_le_length (by simp; omega), List.take_take, Nat.min_self]
/-- What is left: in the same block, ahead of what is cleared. -/
def DelB (base : Nat) (f : Sb → Bool) (l : List Sb) (A : Option Addr) (c : Nat) (w : World) (e : Ending) (w' : World) : Prop :=
 e = .returned (.slice A (outS f l).length c) ∧ w'.ownsRow base 55 5 (.slice A (outS f l).length c) (outS f l).length (sbC (outS f l)) ∧ But (fun k => (Value.slice A l.length c).ownBlock = some k) w w'
set_option maxHeartbeats 3200000 in
theorem ddelB (base : Nat) (N : FuncId) (u : Value) (f : Sb → Bool) (A : Option Addr) (c : Nat) (l : List Sb) (w : World) (hN : Ent N) (h : w.ownsRow base 55 5 (.slice A l.length c) l.length (sbC l)) (hl : l.length ≤ 4096)
 (hF : ∀ x ∈ l, ∀ wx : World, But (fun k => (Value.slice A l.length c).ownBlock = some k) w wx → Calls Try.prog N #[.agg (sbV x).toArray, u] wx fun e w' => e = .returned (.bool (f x)) ∧ Below wx.heap.size wx w') :
 Calls Try.prog 30 #[.slice A l.length c, .func (.func N) #[] #[u]] w (DelB base f l A c w) := by
 have CI := Lib.hid (dixB N u f A c l w hN (Row.of_own h) hl (fun x hx wx hb => hF x hx wx (but_of_below hb)))
 obtain ⟨n, hn⟩ : ∃ n, l.length = n := ⟨_, rfl⟩
 have HN := Lib.hid hn
 have H := Lib.hid h
 have HF := Lib.hid hF
 have hcap := (own_cap h).1
 unfold DelB
 rw [hn] at CI hl H hcap HF ⊢
 have hr := ix_first (f := f) (l := l)
 obtain ⟨r, hrr⟩ : ∃ r, ixS f l = r := ⟨_, rfl⟩
 rw [hrr] at CI hr
 clear h hn hF hrr
 unfold Ent at hN
 have HEnt := Lib.hid hN
 clear hN
 go_enter Try.func30, Try.ntmps30
 go_wp2_with fail
 refine CI.out.mono ?_
 rintro e w1 ⟨rfl, b1⟩
 have HB1 := Lib.hid b1
 clear b1 CI
 rcases hr with ⟨rfl, hall⟩ | ⟨k0, t0, rfl, ht0, hg0, hlow⟩
 · have hst := outS_all hall
   have HF2 := Lib.hid (show (Ending.returned (.slice A n c) = .returned (.slice A (outS f l).length c) ∧ w1.ownsRow base 55 5 (.slice A (outS f l).length c) (outS f l).length (sbC (outS f l)) ∧ But (fun k => (Value.slice A n c).ownBlock = some k) w w1) from ⟨by rw [hst, HN.out], by rw [hst, HN.out]; exact own_below H.out HB1.out (Nat.le_refl _), but_of_below HB1.out⟩)
   clear hall hst
   go_wp2_with fail
   go_ret
   exact HF2.out
 · have hk0 : k0 < n := by rw [← HN.out]; exact (List.getElem?_eq_some_iff.1 ht0).1
   have HS := Lib.hid (DelS.start ht0 hg0 hlow)
   obtain ⟨hxl, hh⟩ := H.out
   obtain ⟨b, cap, cur, hval, hbase, hcell, _, hM, hcsz, htk⟩ := hh.resolve_left (fun h => by omega)
   injection hval with e1 _ e3
   subst e1
   subst e3
   have hW : Whole w b 55 cur := hcell
   obtain ⟨T, hT⟩ : ∃ T, cur.toList.drop (n * 5) = T := ⟨_, rfl⟩
   have hcur : cur = rowA sbV l T := by
    unfold rowA
    rw [show (l.map sbV).flatten = sbC l from rfl, ← htk, ← hT, List.take_append_drop]
   have HT := Lib.hid (show (rowA sbV l T).size = c * 5 by rw [← hcur]; exact hcsz)
   have HW := Lib.hid (show Whole w1 b 55 (rowA sbV l T) by rw [← hcur]; exact hW.below HB1.out hW.lt)
   have hbl := hW.lt
   have HM := Lib.hid hM
   have HBA := Lib.hid hbase
   have hkb : ((k0 : Int) == -1) = false := by simp
   have HF1 : Hid (∀ x ∈ l, ∀ wx : World, But (fun k => k = b) w wx → Calls Try.prog N #[.agg (sbV x).toArray, u] wx fun e w' => e = .returned (.bool (f x)) ∧ Below wx.heap.size wx w') := Lib.hid (fun x hx wx hb => HF.out x hx wx (hb.mono (fun k _ h => by rw [h]; rfl)))
   clear hlow ht0 hg0 hW hcsz hcur hT H hxl hh hcell hM htk hbase HF
   go_wp2_with fail
   go_loopw [5, 6] (fun s5 s6 wr => ∃ (i j : Nat) (L : List Sb), s5 = .int .i64 (i : Int) ∧ s6 = .int .i64 (j : Int) ∧ i < j ∧ j ≤ n ∧ Hid (DelS f l i j L) ∧ Whole wr b 55 (rowA sbV L T) ∧ But (fun k => k = b) w wr) (fun _ s6 _ => n - (intOf s6).toNat)
   case atStart => exact ⟨k0, k0 + 1, l, rfl, by go_num, by omega, by omega, HS, HW.out, but_of_below HB1.out⟩
   case round =>
    obtain ⟨i, j, L, rfl, rfl, hij, hj, HD, hw, hb⟩ := hrel
    have hsz := hb.size
    have hbr : b < wr.heap.size := by omega
    have hbn : b ≠ wr.heap.size := by omega
    have HW1 := Lib.hid hw
    have HB := Lib.hid hb
    by_cases hlt : j < n
    · obtain ⟨y, hy⟩ : ∃ y, l[j]? = some y := ⟨_, List.getElem?_eq_getElem (by rw [HN.out]; exact hlt)⟩
      have HY := Lib.hid hy
      have C := HF1.out y (List.mem_of_getElem? hy) (wr.alloc (.cells (sbV y).toArray 55)) (hb.alloc _)
      obtain ⟨z, hz⟩ : ∃ z, L[i]? = some z := ⟨_, List.getElem?_eq_getElem (by rw [HD.out.len, HN.out]; omega)⟩
      have c0 := (hw.cell (j * 5 + 0)).trans ((rowA_get (V := sbV) (z := 5) (fun _ => rfl) (T := T) ((HD.out.get).trans hy) 0 (by decide)).trans rfl)
      have c1 := (hw.cell (j * 5 + 1)).trans ((rowA_get (V := sbV) (z := 5) (fun _ => rfl) (T := T) ((HD.out.get).trans hy) 1 (by decide)).trans rfl)
      have c2 := (hw.cell (j * 5 + 2)).trans ((rowA_get (V := sbV) (z := 5) (fun _ => rfl) (T := T) ((HD.out.get).trans hy) 2 (by decide)).trans rfl)
      have c3 := (hw.cell (j * 5 + 3)).trans ((rowA_get (V := sbV) (z := 5) (fun _ => rfl) (T := T) ((HD.out.get).trans hy) 3 (by decide)).trans rfl)
      have c4 := (hw.cell (j * 5 + 4)).trans ((rowA_get (V := sbV) (z := 5) (fun _ => rfl) (T := T) ((HD.out.get).trans hy) 4 (by decide)).trans rfl)
      rw [Nat.add_zero] at c0
      have HZ := Lib.hid (show (∃ v, (rowA sbV L T)[i * 5]? = some v) ∧ (∃ v, (rowA sbV L T)[i * 5 + 1]? = some v) ∧ (∃ v, (rowA sbV L T)[i * 5 + 2]? = some v) ∧ (∃ v, (rowA sbV L T)[i * 5 + 3]? = some v) ∧ (∃ v, (rowA sbV L T)[i * 5 + 4]? = some v) from ⟨⟨_, (rowA_get (V := sbV) (z := 5) (fun _ => rfl) (T := T) hz 0 (by decide)).trans rfl⟩, ⟨_, (rowA_get (V := sbV) (z := 5) (fun _ => rfl) (T := T) hz 1 (by decide)).trans rfl⟩, ⟨_, (rowA_get (V := sbV) (z := 5) (fun _ => rfl) (T := T) hz 2 (by decide)).trans rfl⟩, ⟨_, (rowA_get (V := sbV) (z := 5) (fun _ => rfl) (T := T) hz 3 (by decide)).trans rfl⟩, ⟨_, (rowA_get (V := sbV) (z := 5) (fun _ => rfl) (T := T) hz 4 (by decide)).trans rfl⟩⟩)
      have i0 : (0 : Int) ≤ (j : Int) := by omega
      have i1 : (j : Int) < (n : Int) := by omega
      have k0 : (0 : Int) ≤ (i : Int) := by omega
      have k1 : (i : Int) < (n : Int) := by omega
      generalize hq : f y = t at C
      have HQ := Lib.hid hq
      obtain ⟨xw, xt, xl, xd, xm⟩ := y
      dsimp only [sbV] at c0 c1 c2 c3 c4
      rw [show (sbV ⟨xw, xt, xl, xd, xm⟩).toArray = #[.int .i64 xw, .int .i64 xt, .int .i64 xl, .int .i64 xd, .bool xm] from rfl] at C
      replace C := Lib.hid C
      have HN1 := Lib.hid (Whole.new wr 55 #[.int .i64 xw, .int .i64 xt, .int .i64 xl, .int .i64 xd, .bool xm])
      have HW2 := Lib.hid (HW1.out.alloc (.cells #[.int .i64 xw, .int .i64 xt, .int .i64 xl, .int .i64 xd, .bool xm] 55))
      have HB2 := Lib.hid (HB.out.alloc (.cells #[.int .i64 xw, .int .i64 xt, .int .i64 xl, .int .i64 xd, .bool xm] 55))
      have hs2 : (wr.alloc (.cells #[.int .i64 xw, .int .i64 xt, .int .i64 xl, .int .i64 xd, .bool xm] 55)).heap.size = wr.heap.size + 1 := by simp
      have HS2 := Lib.hid hs2
      clear hw hb hy hz hs2 hq
      cases t with
      | true =>
       have hN := HEnt.out
       go_wp2_with fail
       refine C.out.mono ?_
       rintro e w8 ⟨rfl, b8⟩
       have HBe := Lib.hid b8
       clear b8 hN
       go_wp2_with fail
       go_roundw
       case rel => exact ⟨i, j + 1, L, rfl, by go_num, by omega, by omega, Lib.hid (HD.out.skip HY.out HQ.out), HW2.out.below HBe.out (by rw [HS2.out]; omega), HB2.out.trans (but_of_below HBe.out)⟩
       case measure => simp [intOf]; omega
      | false =>
       have hN := HEnt.out
       go_wp2_with fail
       refine C.out.mono ?_
       rintro e w8 ⟨rfl, b8⟩
       have hs8 := b8.size
       rw [HS2.out] at hs8
       have W8 := HW2.out.below b8 (by rw [HS2.out]; omega)
       have N8 := HN1.out.below b8 (by rw [HS2.out]; omega)
       obtain ⟨⟨z0, d0⟩, ⟨z1, d1⟩, ⟨z2, d2⟩, ⟨z3, d3⟩, ⟨z4, d4⟩⟩ := HZ.out
       replace d0 := (W8.cell (i * 5)).trans d0
       have f0 := W8.free (i * 5)
       replace d1 := (W8.cell (i * 5 + 1)).trans d1
       have f1 := W8.free (i * 5 + 1)
       replace d2 := (W8.cell (i * 5 + 2)).trans d2
       have f2 := W8.free (i * 5 + 2)
       replace d3 := (W8.cell (i * 5 + 3)).trans d3
       have f3 := W8.free (i * 5 + 3)
       replace d4 := (W8.cell (i * 5 + 4)).trans d4
       have f4 := W8.free (i * 5 + 4)
       have n0' : w8.cell? ⟨wr.heap.size, 0, none⟩ = some (.int .i64 xw) := (N8.cell 0).trans rfl
       have n1' : w8.cell? ⟨wr.heap.size, 1, none⟩ = some (.int .i64 xt) := (N8.cell 1).trans rfl
       have n2' : w8.cell? ⟨wr.heap.size, 2, none⟩ = some (.int .i64 xl) := (N8.cell 2).trans rfl
       have n3' : w8.cell? ⟨wr.heap.size, 3, none⟩ = some (.int .i64 xd) := (N8.cell 3).trans rfl
       have n4' : w8.cell? ⟨wr.heap.size, 4, none⟩ = some (.bool xm) := (N8.cell 4).trans rfl
       have HW8 := Lib.hid W8
       have HB8 := Lib.hid (HB2.out.trans (but_of_below b8))
       clear b8 W8 N8 hN c0 c1 c2 c3 c4
       go_wp2_with fail
       go_roundw
       case rel => exact ⟨i + 1, j + 1, L.set i ⟨xw, xt, xl, xd, xm⟩, by go_num, by go_num, by omega, by omega, Lib.hid (HD.out.keep hij (by rw [HN.out]; exact hlt) HY.out HQ.out), by rw [← rowA_setB (by rw [HD.out.len, HN.out]; omega)]; exact (((((HW8.out).set (i * 5) _).set (i * 5 + 1) _).set (i * 5 + 2) _).set (i * 5 + 3) _).set (i * 5 + 4) _, (((((HB8.out).set (p := ⟨b, i * 5, none⟩) (.inl rfl) _).set (p := ⟨b, i * 5 + 1, none⟩) (.inl rfl) _).set (p := ⟨b, i * 5 + 2, none⟩) (.inl rfl) _).set (p := ⟨b, i * 5 + 3, none⟩) (.inl rfl) _).set (p := ⟨b, i * 5 + 4, none⟩) (.inl rfl) _⟩
       case measure => simp [intOf]; omega
    · obtain rfl : j = n := by omega
      have hLl : (L.map sbV).flatten.length = j * 5 := by rw [flat_length (z := 5) (fun _ => rfl), HD.out.len, HN.out]
      have hT2 : j * 5 ≤ (rowA sbV L T).size := by
       unfold rowA
       simp only [List.size_toArray, List.length_append]
       omega
      obtain ⟨wz, cs, hcl, hWz, hcz, htk, hBz⟩ := clear_B (c := c - i) hw hij hT2
      have hdone := HD.out.done HN.out (by omega)
      have hLi : (rowA sbV L T).toList.take (i * 5) = sbC (outS f l) := by
       unfold rowA
       rw [List.take_append_of_le_length (by omega), ← flat_take (z := 5) (fun _ => rfl), hdone.1]
       rfl
      have HF2 := Lib.hid (show (Ending.returned (.slice (some ⟨b, 0, none⟩) i c) = .returned (.slice (some ⟨b, 0, none⟩) (outS f l).length c) ∧ wz.ownsRow base 55 5 (.slice (some ⟨b, 0, none⟩) (outS f l).length c) (outS f l).length (sbC (outS f l)) ∧ But (fun k => (Value.slice (some ⟨b, 0, none⟩) j c).ownBlock = some k) w wz) from by
       refine ⟨by rw [hdone.2], ⟨flat_length (z := 5) (fun _ => rfl) _, .inr ⟨b, c, cs, rfl, HBA.out, hWz, by rw [hdone.2]; omega, HM.out, ?_, ?_⟩⟩, (HB.out.trans hBz).mono fun k _ h => by rw [h]; rfl⟩
       · rw [hcz]
         have h1 : (rowA sbV L T).size = (rowA sbV l T).size := by
          unfold rowA
          simp only [List.size_toArray, List.length_append]
          rw [hLl, flat_length (z := 5) (fun _ => rfl), HN.out]
         rw [h1]; exact HT.out
       · rw [hdone.2, htk, hLi])
      have i0 : (0 : Int) ≤ (i : Int) := by omega
      have i1 : (i : Int) ≤ (j : Int) := by omega
      have i2 : (i : Int) ≤ (c : Int) := by omega
      have i3 : (j : Int) ≤ (c : Int) := by omega
      have hci : ¬ c = i := by omega
      clear hw hb hWz hcz htk hBz hdone hLi hT2 hLl
      go_wp2_with fail
      go_ret
      exact HF2.out
end Go.Proofs.Ytmmeceehfdbdoaa
