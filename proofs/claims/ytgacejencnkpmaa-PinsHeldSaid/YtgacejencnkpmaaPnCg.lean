/-
  Contracts of package pins: those that go are let go (slices.DeleteFunc).
-/
import Derived.Test.YtgacejencnkpmaaPnCf
namespace Go.Proofs.Ytgacejencnkpmaa
open Go.RowKit
set_option linter.unusedSimpArgs false
set_option linter.unusedVariables false
set_option maxRecDepth 100000

theorem stays_takeP {q : List Wt} {o : Int} {j : Nat} {t : Wt} (h : q[j]? = some t) : stays o (q.take (j + 1)) = if goesB o t = true then stays o (q.take j) else stays o (q.take j) ++ [t] := by
  have e : q.take (j + 1) = q.take j ++ [t] := by rw [List.take_add_one, h]; rfl
  unfold stays goesB
  rw [e, List.filter_append]
  by_cases h1 : t.ep ≤ o
  · rw [if_pos (by simpa using h1), List.filter_cons, if_neg (by simp; omega), List.filter_nil, List.append_nil]
  · rw [if_neg (by simpa using h1), List.filter_cons, if_pos (by simp; omega), List.filter_nil]
theorem stays_all {q : List Wt} {o : Int} (h : ∀ (j : Nat) t, q[j]? = some t → goesB o t = false) : stays o q = q := by
  unfold stays
  rw [List.filter_eq_self]
  intro t ht
  obtain ⟨j, hj⟩ := List.getElem?_of_mem ht
  have := h j t hj
  unfold goesB at this
  simp at this ⊢
  exact this
/-- While those that go are let go: i of them stay, of the first j. -/
structure Del (o : Int) (q : List Wt) (i j : Nat) (L : List Wt) : Prop where
  len : L.length = q.length
  low : L.take i = stays o (q.take j)
  high : L.drop j = q.drop j
theorem Del.start {o : Int} {q : List Wt} {k : Nat} {t : Wt} (ht : q[k]? = some t) (hg : goesB o t = true) (h : ∀ (j : Nat) t', j < k → q[j]? = some t' → goesB o t' = false) : Del o q k (k + 1) q := by
  refine ⟨rfl, ?_, rfl⟩
  rw [stays_takeP ht, if_pos hg]
  refine (stays_all fun j t' hj => ?_).symm
  rw [List.getElem?_take] at hj
  split at hj
  · exact h j t' ‹_› hj
  · cases hj
theorem Del.get {o : Int} {q L : List Wt} {i j : Nat} (h : Del o q i j L) : L[j]? = q[j]? := by
  have := congrArg (fun l => l[0]?) h.high
  simpa using this
theorem Del.keep {o : Int} {q L : List Wt} {i j : Nat} {t : Wt} (h : Del o q i j L) (hij : i < j) (hj : j < q.length) (ht : q[j]? = some t) (hg : goesB o t = false) : Del o q (i + 1) (j + 1) (L.set i t) := by
  refine ⟨by rw [List.length_set]; exact h.len, ?_, ?_⟩
  · rw [stays_takeP ht, if_neg (by rw [hg]; exact Bool.false_ne_true), ← h.low, List.take_add_one, List.getElem?_set_self (by rw [h.len]; omega), List.take_set_of_le (Nat.le_refl i)]
    rfl
  · rw [List.drop_set_of_lt (by omega)]
    have := congrArg (List.drop 1) h.high
    simpa [List.drop_drop] using this
theorem Del.skip {o : Int} {q L : List Wt} {i j : Nat} {t : Wt} (h : Del o q i j L) (ht : q[j]? = some t) (hg : goesB o t = true) : Del o q i (j + 1) L := by
  refine ⟨h.len, ?_, ?_⟩
  · rw [stays_takeP ht, if_pos hg]
    exact h.low
  · have := congrArg (List.drop 1) h.high
    simpa [List.drop_drop] using this
theorem Del.done {o : Int} {q L : List Wt} {i : Nat} (h : Del o q i q.length L) (hi : i ≤ q.length) : L.take i = stays o q ∧ (stays o q).length = i := by
  have h1 := h.low
  rw [List.take_length] at h1
  refine ⟨h1, ?_⟩
  rw [← h1, List.length_take, h.len]
  omega
theorem Del.done' {o : Int} {q L : List Wt} {i n : Nat} (h : Del o q i n L) (hn : q.length = n) (hi : i ≤ n) : L.take i = stays o q ∧ (stays o q).length = i := by
  subst hn
  exact h.done hi
/-- What stands in the block: what waits, and what is behind. -/
def wtA (L : List Wt) (T : List Value) : Array Value := (wtP L ++ T).toArray
theorem wtA_get {L : List Wt} {T : List Value} {i : Nat} {t : Wt} (h : L[i]? = some t) : (wtA L T)[i * 3]? = some (.int .i64 t.slot) ∧ (wtA L T)[i * 3 + 1]? = some (.int .u32 t.turn) ∧ (wtA L T)[i * 3 + 2]? = some (.int .u64 t.ep) := by
  have hi := (List.getElem?_eq_some_iff.1 h).1
  obtain ⟨h0, h1, h2⟩ := wtP_get h
  have hl := wtP_length L
  unfold wtA
  simp only [List.getElem?_toArray]
  rw [List.getElem?_append_left (by omega), List.getElem?_append_left (by omega), List.getElem?_append_left (by omega)]
  exact ⟨h0, h1, h2⟩
theorem wtA_set {L : List Wt} {T : List Value} {i : Nat} (t : Wt) (h : i < L.length) : (((wtA L T).setIfInBounds (i * 3) (.int .i64 t.slot)).setIfInBounds (i * 3 + 1) (.int .u32 t.turn)).setIfInBounds (i * 3 + 2) (.int .u64 t.ep) = wtA (L.set i t) T := by
  have hl := wtP_length L
  unfold wtA
  apply Array.ext'
  simp only [Array.toList_setIfInBounds]
  rw [wtP_set, List.set_append_left _ _ (by omega), List.set_append_left _ _ (by rw [List.length_set]; omega), List.set_append_left _ _ (by rw [List.length_set, List.length_set]; omega)]
theorem wtP_take (q : List Wt) : ∀ i, (wtP q).take (i * 3) = wtP (q.take i) := by
  induction q with
  | nil => intro i; simp [wtP]
  | cons a l ih =>
    intro i
    cases i with
    | zero => simp [wtP]
    | succ i =>
      rw [wtP_cons, show (i + 1) * 3 = i * 3 + 3 by omega, List.take_succ_cons, List.take_succ_cons, List.take_succ_cons, ih, List.take_succ_cons, wtP_cons]
theorem zero_wt : (Try.prog.info? 75).map (fun i => i.zero) = some (some (.agg #[.int .i64 0, .int .u32 0, .int .u64 0])) := by kernel_rfl
/-- 'clear(s[i:])': zeros behind the first i, up to n. -/
theorem clear_wt {b i n c : Nat} {cur : Array Value} {w : World} (hb : Whole w b 75 cur) (hi : i < n) (hn : n * 3 ≤ cur.size) :
    ∃ w' cs, (∀ ty, (Builtin.clear_ #[61] ty #[.slice (some ⟨b, i * 3, none⟩) (n - i) c]).run Try.prog w = .ok (.tuple #[]) w') ∧ Whole w' b 75 cs ∧ cs.size = cur.size ∧ cs.toList.take (i * 3) = cur.toList.take (i * 3) ∧ But (fun k => k = b) w w' := by
  obtain ⟨m, hm⟩ : ∃ m, n - i = m + 1 := ⟨n - i - 1, by omega⟩
  obtain ⟨I, hI, hz⟩ : ∃ I, Try.prog.info? 75 = some I ∧ I.zero = some (.agg #[.int .i64 0, .int .u32 0, .int .u64 0]) := by
    have := zero_wt
    cases h : Try.prog.info? 75 with
    | none => rw [h] at this; cases this
    | some I => rw [h] at this; simp only [Option.map_some, Option.some.injEq] at this; exact ⟨I, rfl, this⟩
  have hzl : (Builtin.zeroCells (Value.agg #[.int .i64 0, .int .u32 0, .int .u64 0]).cells (m + 1)).toList.length = (m + 1) * 3 := by simp [Builtin.zeroCells, Value.cells]
  have hz1 : ∀ v ∈ (Builtin.zeroCells (Value.agg #[.int .i64 0, .int .u32 0, .int .u64 0]).cells (m + 1)).toList, v.oneCell' = true := by
    intro v hv
    simp only [Builtin.zeroCells, Value.cells, Array.toList_map, List.mem_map] at hv
    obtain ⟨k, _, rfl⟩ := hv
    have h3 : k % 3 = 0 ∨ k % 3 = 1 ∨ k % 3 = 2 := by omega
    show ((#[Value.int .i64 0, .int .u32 0, .int .u64 0] : Array Value)[k % 3]!).oneCell' = true
    rcases h3 with h | h | h <;> rw [h] <;> rfl
  obtain ⟨zs, hzs⟩ : ∃ zs, (Builtin.zeroCells (Value.agg #[.int .i64 0, .int .u32 0, .int .u64 0]).cells (m + 1)).toList = zs := ⟨_, rfl⟩
  rw [hzs] at hzl hz1
  have hst := run_storeCells_at (P := Try.prog) b (i * 3) 75 zs 0 cur w hb (by rw [hzl]; omega) hz1
  rw [Nat.add_zero] at hst
  refine ⟨w.setRow b (cur.toList.take (i * 3) ++ zs ++ cur.toList.drop (i * 3 + zs.length)).toArray, (cur.toList.take (i * 3) ++ zs ++ cur.toList.drop (i * 3 + zs.length)).toArray, fun ty => ?_, setRow_heap w b cur _ _ _ hb, ?_, ?_, ⟨rfl, rfl, rfl, by simp, fun k hk h => setRow_other w b k _ h⟩⟩
  · rw [hm]
    have hzv : (zeroValue 75).run Try.prog w = .ok (.agg #[.int .i64 0, .int .u32 0, .int .u64 0]) w := by simp [zeroValue, typeInfo, hI, hz]
    simp [Builtin.clear_, run_underlying Try.underlying61, hzv, hzs, hst]
  · simp only [List.size_toArray, List.length_append, List.length_take, List.length_drop, hzl, Array.length_toList]; omega
  · rw [List.append_assoc, List.take_append_of_le_length (by simp; omega), List.take_take, Nat.min_self]
/-- What is left: in the same block, ahead of what is cleared. -/
def Left16 (o : Int) (q : List Wt) (A : Option Addr) (c : Nat) (w : World) (e : Ending) (w' : World) : Prop :=
  e = .returned (.slice A (stays o q).length c) ∧ w'.ownsRow 0 75 3 (.slice A (stays o q).length c) (stays o q).length (wtP (stays o q)) ∧ But (fun k => (Value.slice A q.length c).ownBlock = some k) w w'
set_option maxHeartbeats 3200000 in
theorem wdel_any (A : Option Addr) (c : Nat) (q : List Wt) (o : Int) (x : Nat) (w : World) (h : w.ownsRow 0 75 3 (.slice A q.length c) q.length (wtP q)) (hl : q.length ≤ 64) (hx : w.cell? ⟨x, 0, none⟩ = some (.int .u64 o)) (hxl : x < w.heap.size) (hxb : (Value.slice A q.length c).ownBlock ≠ some x) :
    Calls Try.prog 26 #[.slice A q.length c, .func (.func 25) #[] #[.pointer (some ⟨x, 0, none⟩)]] w (Left16 o q A c w) := by
  have CI := Lib.hid (wfirst_any A c q o x w (Row.of_own h) hl hx hxl)
  obtain ⟨n, hn⟩ : ∃ n, q.length = n := ⟨_, rfl⟩
  have HN := Lib.hid hn
  have H := Lib.hid h
  have hcap := (own_cap h).1
  rw [hn] at CI hl hxb H hcap ⊢
  clear h hn
  go_enter Try.func26, Try.ntmps26
  go_wp2_with fail
  refine CI.out.mono ?_
  rintro e w1 ⟨r, rfl, hr, b1⟩
  have HB1 := Lib.hid b1
  clear b1 CI
  rcases hr with ⟨rfl, hall⟩ | ⟨k0, t0, rfl, ht0, hg0, hlow⟩
  · have hst := stays_all hall
    have HF := Lib.hid (show Left16 o q A c w (.returned (.slice A n c)) w1 from ⟨by rw [hst, HN.out], by rw [hst, HN.out]; exact own_below H.out HB1.out (Nat.le_refl _), but_of_below HB1.out⟩)
    clear hall hst
    go_wp2_with fail
    go_ret
    exact HF.out
  · have hk0 : k0 < n := by rw [← HN.out]; exact (List.getElem?_eq_some_iff.1 ht0).1
    have HS := Lib.hid (Del.start ht0 hg0 hlow)
    obtain ⟨b, cur, rfl, _, hW, hsz⟩ := own_wholeX H.out (by omega)
    have hcur : cur = wtA q (cur.toList.drop (n * 3)) := by
      rcases H.out.2 with ⟨hv, _⟩ | ⟨b', cap, cur', hv, _, hb', _, _, _, htk⟩
      · cases hv
      · injection hv with hv _ _
        injection hv with hv
        injection hv with hv _ _
        subst hv
        have e : cur' = cur := by have h1 : w.heap[b]? = some (.cells cur _ (0, 0)) := hW; rw [hb'] at h1; injection h1 with h1; injection h1
        subst e
        unfold wtA
        rw [← htk, List.take_append_drop]
    have hcsz : cur.size = c * 3 := by
      rcases H.out.2 with ⟨hv, _⟩ | ⟨b', cap, cur', hv, _, hb', _, _, hcs, htk⟩
      · cases hv
      · injection hv with hv _ hc
        injection hv with hv
        injection hv with hv _ _
        subst hv
        subst hc
        have e : cur' = cur := by have h1 : w.heap[b]? = some (.cells cur _ (0, 0)) := hW; rw [hb'] at h1; injection h1 with h1; injection h1
        rw [← e]; exact hcs
    obtain ⟨T, hT⟩ : ∃ T, cur.toList.drop (n * 3) = T := ⟨_, rfl⟩
    rw [hT] at hcur
    have HT := Lib.hid (show (wtA q T).size = c * 3 by rw [← hcur]; exact hcsz)
    have hxb2 : x ≠ b := fun e => hxb (by rw [e]; rfl)
    have HW := Lib.hid (show Whole w1 b 75 (wtA q T) by rw [← hcur]; exact hW.below HB1.out hW.lt)
    have hbl := hW.lt
    have HX := Lib.hid hx
    have HM := Lib.hid (own_cap H.out).2
    have hkb : ((k0 : Int) == -1) = false := by simp
    clear hlow ht0 hg0 hW hsz hcur hcsz hT hx hxb H
    go_wp2_with fail
    go_loopw [5, 6] (fun s5 s6 wr => ∃ (i j : Nat) (L : List Wt), s5 = .int .i64 (i : Int) ∧ s6 = .int .i64 (j : Int) ∧ i < j ∧ j ≤ n ∧ Hid (Del o q i j L) ∧ Whole wr b 75 (wtA L T) ∧ But (fun k => k = b) w wr) (fun _ s6 _ => n - (intOf s6).toNat)
    case atStart => exact ⟨k0, k0 + 1, q, rfl, by go_num, by omega, by omega, HS, HW.out, but_of_below HB1.out⟩
    case round =>
      obtain ⟨i, j, L, rfl, rfl, hij, hj, HD, hw, hb⟩ := hrel
      have hsz := hb.size
      have hbr : b < wr.heap.size := by omega
      have hxr : x < wr.heap.size := by omega
      have hbn : b ≠ wr.heap.size := by omega
      have hxn : x ≠ wr.heap.size := by omega
      have HW1 := Lib.hid hw
      have HB := Lib.hid hb
      have hxc := Lib.hid ((World.cell?_of_block (a := ⟨x, 0, none⟩) (hb.block x hxl hxb2)).trans HX.out)
      by_cases hlt : j < n
      · obtain ⟨y, hy⟩ : ∃ y, q[j]? = some y := ⟨_, List.getElem?_eq_getElem (by rw [HN.out]; exact hlt)⟩
        have HY := Lib.hid hy
        obtain ⟨e0, e1, e2⟩ := wtA_get (T := T) ((HD.out.get).trans hy)
        obtain ⟨z, hz⟩ : ∃ z, L[i]? = some z := ⟨_, List.getElem?_eq_getElem (by rw [HD.out.len, HN.out]; omega)⟩
        obtain ⟨z0, z1, z2⟩ := wtA_get (T := T) hz
        have c0 := (hw.cell (j * 3)).trans e0
        have c1 := (hw.cell (j * 3 + 1)).trans e1
        have c2 := (hw.cell (j * 3 + 2)).trans e2
        have HZ := Lib.hid (And.intro z0 (And.intro z1 z2))
        have i0 : (0 : Int) ≤ (j : Int) := by omega
        have i1 : (j : Int) < (n : Int) := by omega
        have k0 : (0 : Int) ≤ (i : Int) := by omega
        have k1 : (i : Int) < (n : Int) := by omega
        obtain ⟨ys, yt, ye⟩ := y
        dsimp only at c0 c1 c2
        have C := Lib.hid (goesB_any ⟨ys, yt, ye⟩ o x (wr.alloc (.cells #[.int .i64 ys, .int .u32 yt, .int .u64 ye] 75)) ((World.cell?_alloc_lt wr _ ⟨x, 0, none⟩ (by simpa using hxr)).trans hxc.out) (by simp; omega))
        have HN1 := Lib.hid (Whole.new wr 75 #[.int .i64 ys, .int .u32 yt, .int .u64 ye])
        have HW2 := Lib.hid (HW1.out.alloc (.cells #[.int .i64 ys, .int .u32 yt, .int .u64 ye] 75))
        have HB2 := Lib.hid (HB.out.alloc (.cells #[.int .i64 ys, .int .u32 yt, .int .u64 ye] 75))
        have hs2 : (wr.alloc (.cells #[.int .i64 ys, .int .u32 yt, .int .u64 ye] 75)).heap.size = wr.heap.size + 1 := by simp
        have HS2 := Lib.hid hs2
        clear hw hb hy e0 e1 e2 z0 z1 z2 hz hs2
        generalize hq : goesB o ⟨ys, yt, ye⟩ = t at C
        have HQ := Lib.hid hq
        clear hq
        cases t with
        | true =>
          go_wp2_with fail
          refine C.out.mono ?_
          rintro e w8 ⟨rfl, b8⟩
          have HBe := Lib.hid b8
          clear b8
          go_wp2_with fail
          go_roundw
          case rel => exact ⟨i, j + 1, L, rfl, by go_num, by omega, by omega, Lib.hid (HD.out.skip HY.out HQ.out), HW2.out.below HBe.out (by rw [HS2.out]; omega), HB2.out.trans (but_of_below HBe.out)⟩
          case measure => simp [intOf]; omega
        | false =>
          go_wp2_with fail
          refine C.out.mono ?_
          rintro e w8 ⟨rfl, b8⟩
          have hs8 := b8.size
          rw [HS2.out] at hs8
          have W8 := HW2.out.below b8 (by rw [HS2.out]; omega)
          have N8 := HN1.out.below b8 (by rw [HS2.out]; omega)
          have d0 := (W8.cell (i * 3)).trans HZ.out.1
          have d1 := (W8.cell (i * 3 + 1)).trans HZ.out.2.1
          have d2 := (W8.cell (i * 3 + 2)).trans HZ.out.2.2
          have f0 := W8.free (i * 3)
          have f1 := W8.free (i * 3 + 1)
          have f2 := W8.free (i * 3 + 2)
          have n0 := N8.cell 0
          have n1 := N8.cell 1
          have n2 := N8.cell 2
          have HW8 := Lib.hid W8
          have HB8 := Lib.hid (HB2.out.trans (but_of_below b8))
          clear b8 W8 N8 c0 c1 c2
          go_wp2_with fail
          go_roundw
          case rel => exact ⟨i + 1, j + 1, L.set i ⟨ys, yt, ye⟩, by go_num, by go_num, by omega, by omega, Lib.hid (HD.out.keep hij (by rw [HN.out]; exact hlt) HY.out HQ.out), by rw [← wtA_set ⟨ys, yt, ye⟩ (by rw [HD.out.len, HN.out]; omega)]; exact ((HW8.out.set (i * 3) _).set (i * 3 + 1) _).set (i * 3 + 2) _, ((HB8.out.set (p := ⟨b, i * 3, none⟩) (.inl rfl) _).set (p := ⟨b, i * 3 + 1, none⟩) (.inl rfl) _).set (p := ⟨b, i * 3 + 2, none⟩) (.inl rfl) _⟩
          case measure => simp [intOf]; omega
      · obtain rfl : j = n := by omega
        have hT2 : j * 3 ≤ (wtA L T).size := by
          have := wtP_length L
          have h2 := HD.out.len
          rw [HN.out] at h2
          unfold wtA
          simp only [List.size_toArray, List.length_append]
          omega
        obtain ⟨wz, cs, hcl, hWz, hcz, htk, hBz⟩ := clear_wt (c := c - i) hw hij hT2
        have hdone := HD.out.done' HN.out (by omega)
        have hLi : (wtA L T).toList.take (i * 3) = wtP (stays o q) := by
          unfold wtA
          rw [List.take_append_of_le_length (by rw [wtP_length, HD.out.len, HN.out]; omega), wtP_take, hdone.1]
        have HF := Lib.hid (show Left16 o q (some ⟨b, 0, none⟩) c w (.returned (.slice (some ⟨b, 0, none⟩) i c)) wz from by
          refine ⟨by rw [hdone.2], ⟨wtP_length _, .inr ⟨b, c, cs, rfl, Nat.zero_le _, hWz, by rw [hdone.2]; omega, HM.out, ?_, ?_⟩⟩, (HB.out.trans hBz).mono fun k _ h => by rw [h]; rfl⟩
          · rw [hcz]
            have h1 : (wtA L T).size = (wtA q T).size := by unfold wtA; simp only [List.size_toArray, List.length_append, wtP_length, HD.out.len]
            rw [h1]; exact HT.out
          · rw [hdone.2, htk, hLi])
        have i0 : (0 : Int) ≤ (i : Int) := by omega
        have i1 : (i : Int) ≤ (j : Int) := by omega
        have i2 : (i : Int) ≤ (c : Int) := by omega
        have i3 : (j : Int) ≤ (c : Int) := by omega
        have hci : ¬ c = i := by omega
        clear hw hb hWz hcz htk hBz hdone hLi hT2
        go_wp2_with fail
        go_ret
        exact HF.out
end Go.Proofs.Ytgacejencnkpmaa
