/-
  Contracts of package delta: where the first one of a row stands of which a function value says so (slices.IndexFunc), and find. The function value's own contract is a premise.
-/
import Derived.Test.YtmmeceehfdbdoaaDeO
namespace Go.Proofs.Ytmmeceehfdbdoaa
open Go.RowKit
open Dl
set_option linter.unusedSimpArgs false
set_option linter.unusedVariables false
set_option maxRecDepth 100000

/-- Function N has a text of its own: a call of it is gone into. -/
def Ent (N : FuncId) : Prop := ∀ (args : Array Value) (w : World), (callFunc N args).run Try.prog w = .ok (.enter N args) w
theorem enters {N : FuncId} {fn : Func} (hf : Try.prog.funcs[N]? = some fn) (hn : (fn.name == "runtime.NumGoroutine") = false) (hb : fn.body.isNone = false) : Ent N := by
  intro args w
  have h1 : fn.name ≠ "runtime.NumGoroutine" := by simpa using hn
  have h2 : fn.body ≠ none := fun e => by rw [e] at hb; cases hb
  simp [callFunc, hf, h1, h2]
namespace Dl
/-- A pointer to an element; below 0: nil. -/
def ptrS (A : Option Addr) (z : Nat) (i : Int) : Option Addr := if i < 0 then none else match A with
  | some a => some ⟨a.block, a.off + i.toNat * z, none⟩
  | none => none
theorem ptrS_no {A : Option Addr} {z : Nat} {i : Int} (h : i < 0) : ptrS A z i = none := by unfold ptrS; rw [if_pos h]
theorem ptrS_at {g o z k : Nat} : ptrS (some ⟨g, o, none⟩) z (k : Int) = some ⟨g, o + k * z, none⟩ := by unfold ptrS; rw [if_neg (by omega)]; simp
end Dl

set_option maxHeartbeats 3200000 in
theorem dixP (N : FuncId) (u1 : Value) (f : Pn → Bool) (A : Option Addr) (c : Nat) (l : List Pn) (w : World) (hN : Ent N) (hr : Row w w.heap.size 3 A l.length (pnC l)) (hl : l.length ≤ 4096)
    (hF : ∀ x ∈ l, ∀ wx : World, Below w.heap.size w wx → Calls Try.prog N #[.agg (pnV x).toArray, u1] wx fun e w' => e = .returned (.bool (f x)) ∧ Below wx.heap.size wx w') :
    Calls Try.prog 80 #[.slice A l.length c, .func (.func N) #[] #[u1]] w fun e w' => e = .returned (.int .i64 (ixS f l)) ∧ Below w.heap.size w w' := by
  obtain ⟨n, hn⟩ : ∃ n, l.length = n := ⟨_, rfl⟩
  have HN := Lib.hid hn
  rw [hn] at hl hr ⊢
  have HR := Lib.hid hr
  have HF := Lib.hid hF
  unfold Ent at hN
  clear hr hn hF
  go_enter Try.func80, Try.ntmps80
  go_wp2_with fail
  go_loopw [8] (fun i wr => ∃ k : Nat, k ≤ n ∧ i = .int .i64 (k : Int) ∧ Hid (∀ (j : Nat) (x : Pn), j < k → l[j]? = some x → f x = false) ∧ Below w.heap.size w wr) (fun i _ => n - (intOf i).toNat)
  case atStart => exact ⟨0, Nat.zero_le _, rfl, Lib.hid (fun j x h => by omega), Below.refl _ _⟩
  case round =>
    obtain ⟨k, hk, rfl, HNO, hb⟩ := hrel
    by_cases hlt : k < n
    · obtain ⟨y, hy⟩ : ∃ y, l[k]? = some y := ⟨_, List.getElem?_eq_getElem (by rw [HN.out]; exact hlt)⟩
      obtain ⟨g, o, rfl, hg, hc⟩ := HR.out.2 (by omega)
      have c0 := (hb.cell (p := ⟨g, o + (k * 3 + 0), none⟩) hg).trans (hc _ _ ((pnC_get hy 0 (by decide)).trans rfl))
      have c1 := (hb.cell (p := ⟨g, o + (k * 3 + 1), none⟩) hg).trans (hc _ _ ((pnC_get hy 1 (by decide)).trans rfl))
      have c2 := (hb.cell (p := ⟨g, o + (k * 3 + 2), none⟩) hg).trans (hc _ _ ((pnC_get hy 2 (by decide)).trans rfl))
      rw [← Nat.add_assoc] at c1 c2
      rw [Nat.add_zero] at c0
      have i0 : (0 : Int) ≤ (k : Int) := by omega
      have i1 : (k : Int) < (n : Int) := by omega
      have lg : g < wr.heap.size := by have := hb.size; omega
      have CF := HF.out y (List.mem_of_getElem? hy) wr hb
      have HY := Lib.hid hy
      have HB := Lib.hid hb
      obtain ⟨bb, hbb⟩ : ∃ z, f y = z := ⟨_, rfl⟩
      rw [hbb] at CF
      have HBB := Lib.hid hbb
      clear hc hy hb hbb
      obtain ⟨xw, xr, xg⟩ := y
      dsimp only [pnV] at c0 c1 c2
      rw [show (pnV ⟨xw, xr, xg⟩).toArray = #[.int .i64 xw, .int .i64 xr, .int .i64 xg] from rfl] at CF
      replace CF := Lib.hid CF
      cases bb with
      | true =>
        have HX := Lib.hid (show ixS f l = k from ixS_at HNO.out HY.out HBB.out)
        clear HY HNO HR HN HF
        go_wp2_with (refine CF.out.mono ?_; rintro e w2 ⟨rfl, b2⟩)
        have HB2 := Lib.hid (HB.out.trans (b2.mono HB.out.size))
        clear b2 CF HB
        go_wp2_with fail
        go_ret
        exact ⟨by rw [HX.out]; rfl, HB2.out⟩
      | false =>
        have HNO2 := Lib.hid (show ∀ (j : Nat) (x : Pn), j < k + 1 → l[j]? = some x → f x = false from fun j x hj hx => by
          rcases Nat.lt_or_ge j k with h | h
          · exact HNO.out j x h hx
          · obtain rfl : j = k := by omega
            rw [HY.out] at hx
            injection hx with hx
            rw [← hx]
            exact HBB.out)
        clear HY HNO
        go_wp2_with (refine CF.out.mono ?_; rintro e w2 ⟨rfl, b2⟩)
        have HB2 := Lib.hid (HB.out.trans (b2.mono HB.out.size))
        clear b2 CF HB
        go_wp2_with fail
        go_roundw
        case rel => exact ⟨k + 1, by omega, by go_num, HNO2, HB2.out⟩
        case measure => simp [intOf]; omega
    · obtain rfl : k = n := by omega
      have HX := Lib.hid (show ixS f l = -1 from ixS_no (fun j x hx => HNO.out j x (by have := (List.getElem?_eq_some_iff.1 hx).1; rw [HN.out] at this; exact this) hx))
      have HB := Lib.hid hb
      clear HNO HR HN HF hb
      go_wp2_with fail
      go_ret
      exact ⟨by rw [HX.out]; rfl, HB.out⟩

theorem dfindP (N : FuncId) (u1 : Value) (f : Pn → Bool) (A : Option Addr) (c : Nat) (l : List Pn) (w : World) (hN : Ent N) (hr : Row w w.heap.size 3 A l.length (pnC l)) (hl : l.length ≤ 4096)
    (hF : ∀ x ∈ l, ∀ wx : World, Below w.heap.size w wx → Calls Try.prog N #[.agg (pnV x).toArray, u1] wx fun e w' => e = .returned (.bool (f x)) ∧ Below wx.heap.size wx w') :
    Calls Try.prog 78 #[.slice A l.length c, .func (.func N) #[] #[u1]] w fun e w' => e = .returned (.pointer (ptrS A 3 (ixS f l))) ∧ Below w.heap.size w w' := by
  have CI := Lib.hid (dixP N u1 f A c l w hN hr hl hF)
  have hix : ixS f l < 0 ∨ ∃ (k : Nat) (g o : Nat), ixS f l = (k : Int) ∧ k < l.length ∧ A = some ⟨g, o, none⟩ := by
    rcases Int.lt_or_le (ixS f l) 0 with h | h
    · exact .inl h
    · obtain ⟨i, x, e, hx, _⟩ := ix_get h
      have hi := (List.getElem?_eq_some_iff.1 hx).1
      obtain ⟨g, o, hA, _⟩ := hr.2 (by omega)
      exact .inr ⟨i, g, o, e, hi, hA⟩
  obtain ⟨n, hn⟩ : ∃ n, l.length = n := ⟨_, rfl⟩
  rw [hn] at CI hl hix ⊢
  obtain ⟨r, hrr⟩ : ∃ z, ixS f l = z := ⟨_, rfl⟩
  rw [hrr] at CI hix ⊢
  clear hr hn hF hrr hN
  rcases hix with h0 | ⟨k, g, o, rfl, hk, rfl⟩
  · rw [ptrS_no h0]
    have hb0 : ¬ (0 : Int) ≤ r := by omega
    go_enter Try.func78, Try.ntmps78
    go_wp2_with fail
    refine CI.out.mono ?_
    rintro e w2 ⟨rfl, b2⟩
    have HB2 := Lib.hid b2
    clear b2 CI
    go_wp2_with fail
    go_ret
    exact ⟨rfl, HB2.out⟩
  · rw [ptrS_at]
    have hb0 : ¬ (k : Int) < 0 := by omega
    have hb1 : (0 : Int) ≤ (k : Int) := by omega
    have hb2 : (k : Int) < (n : Int) := by omega
    go_enter Try.func78, Try.ntmps78
    go_wp2_with fail
    refine CI.out.mono ?_
    rintro e w2 ⟨rfl, b2⟩
    have HB2 := Lib.hid b2
    clear b2 CI
    go_wp2_with fail
    go_ret
    exact ⟨rfl, HB2.out⟩

set_option maxHeartbeats 3200000 in
theorem dixP_2 (N : FuncId) (u1 u2 : Value) (f : Pn → Bool) (A : Option Addr) (c : Nat) (l : List Pn) (w : World) (hN : Ent N) (hr : Row w w.heap.size 3 A l.length (pnC l)) (hl : l.length ≤ 4096)
    (hF : ∀ x ∈ l, ∀ wx : World, Below w.heap.size w wx → Calls Try.prog N #[.agg (pnV x).toArray, u1, u2] wx fun e w' => e = .returned (.bool (f x)) ∧ Below wx.heap.size wx w') :
    Calls Try.prog 80 #[.slice A l.length c, .func (.func N) #[] #[u1, u2]] w fun e w' => e = .returned (.int .i64 (ixS f l)) ∧ Below w.heap.size w w' := by
  obtain ⟨n, hn⟩ : ∃ n, l.length = n := ⟨_, rfl⟩
  have HN := Lib.hid hn
  rw [hn] at hl hr ⊢
  have HR := Lib.hid hr
  have HF := Lib.hid hF
  unfold Ent at hN
  clear hr hn hF
  go_enter Try.func80, Try.ntmps80
  go_wp2_with fail
  go_loopw [8] (fun i wr => ∃ k : Nat, k ≤ n ∧ i = .int .i64 (k : Int) ∧ Hid (∀ (j : Nat) (x : Pn), j < k → l[j]? = some x → f x = false) ∧ Below w.heap.size w wr) (fun i _ => n - (intOf i).toNat)
  case atStart => exact ⟨0, Nat.zero_le _, rfl, Lib.hid (fun j x h => by omega), Below.refl _ _⟩
  case round =>
    obtain ⟨k, hk, rfl, HNO, hb⟩ := hrel
    by_cases hlt : k < n
    · obtain ⟨y, hy⟩ : ∃ y, l[k]? = some y := ⟨_, List.getElem?_eq_getElem (by rw [HN.out]; exact hlt)⟩
      obtain ⟨g, o, rfl, hg, hc⟩ := HR.out.2 (by omega)
      have c0 := (hb.cell (p := ⟨g, o + (k * 3 + 0), none⟩) hg).trans (hc _ _ ((pnC_get hy 0 (by decide)).trans rfl))
      have c1 := (hb.cell (p := ⟨g, o + (k * 3 + 1), none⟩) hg).trans (hc _ _ ((pnC_get hy 1 (by decide)).trans rfl))
      have c2 := (hb.cell (p := ⟨g, o + (k * 3 + 2), none⟩) hg).trans (hc _ _ ((pnC_get hy 2 (by decide)).trans rfl))
      rw [← Nat.add_assoc] at c1 c2
      rw [Nat.add_zero] at c0
      have i0 : (0 : Int) ≤ (k : Int) := by omega
      have i1 : (k : Int) < (n : Int) := by omega
      have lg : g < wr.heap.size := by have := hb.size; omega
      have CF := HF.out y (List.mem_of_getElem? hy) wr hb
      have HY := Lib.hid hy
      have HB := Lib.hid hb
      obtain ⟨bb, hbb⟩ : ∃ z, f y = z := ⟨_, rfl⟩
      rw [hbb] at CF
      have HBB := Lib.hid hbb
      clear hc hy hb hbb
      obtain ⟨xw, xr, xg⟩ := y
      dsimp only [pnV] at c0 c1 c2
      rw [show (pnV ⟨xw, xr, xg⟩).toArray = #[.int .i64 xw, .int .i64 xr, .int .i64 xg] from rfl] at CF
      replace CF := Lib.hid CF
      cases bb with
      | true =>
        have HX := Lib.hid (show ixS f l = k from ixS_at HNO.out HY.out HBB.out)
        clear HY HNO HR HN HF
        go_wp2_with (refine CF.out.mono ?_; rintro e w2 ⟨rfl, b2⟩)
        have HB2 := Lib.hid (HB.out.trans (b2.mono HB.out.size))
        clear b2 CF HB
        go_wp2_with fail
        go_ret
        exact ⟨by rw [HX.out]; rfl, HB2.out⟩
      | false =>
        have HNO2 := Lib.hid (show ∀ (j : Nat) (x : Pn), j < k + 1 → l[j]? = some x → f x = false from fun j x hj hx => by
          rcases Nat.lt_or_ge j k with h | h
          · exact HNO.out j x h hx
          · obtain rfl : j = k := by omega
            rw [HY.out] at hx
            injection hx with hx
            rw [← hx]
            exact HBB.out)
        clear HY HNO
        go_wp2_with (refine CF.out.mono ?_; rintro e w2 ⟨rfl, b2⟩)
        have HB2 := Lib.hid (HB.out.trans (b2.mono HB.out.size))
        clear b2 CF HB
        go_wp2_with fail
        go_roundw
        case rel => exact ⟨k + 1, by omega, by go_num, HNO2, HB2.out⟩
        case measure => simp [intOf]; omega
    · obtain rfl : k = n := by omega
      have HX := Lib.hid (show ixS f l = -1 from ixS_no (fun j x hx => HNO.out j x (by have := (List.getElem?_eq_some_iff.1 hx).1; rw [HN.out] at this; exact this) hx))
      have HB := Lib.hid hb
      clear HNO HR HN HF hb
      go_wp2_with fail
      go_ret
      exact ⟨by rw [HX.out]; rfl, HB.out⟩

theorem dfindP_2 (N : FuncId) (u1 u2 : Value) (f : Pn → Bool) (A : Option Addr) (c : Nat) (l : List Pn) (w : World) (hN : Ent N) (hr : Row w w.heap.size 3 A l.length (pnC l)) (hl : l.length ≤ 4096)
    (hF : ∀ x ∈ l, ∀ wx : World, Below w.heap.size w wx → Calls Try.prog N #[.agg (pnV x).toArray, u1, u2] wx fun e w' => e = .returned (.bool (f x)) ∧ Below wx.heap.size wx w') :
    Calls Try.prog 78 #[.slice A l.length c, .func (.func N) #[] #[u1, u2]] w fun e w' => e = .returned (.pointer (ptrS A 3 (ixS f l))) ∧ Below w.heap.size w w' := by
  have CI := Lib.hid (dixP_2 N u1 u2 f A c l w hN hr hl hF)
  have hix : ixS f l < 0 ∨ ∃ (k : Nat) (g o : Nat), ixS f l = (k : Int) ∧ k < l.length ∧ A = some ⟨g, o, none⟩ := by
    rcases Int.lt_or_le (ixS f l) 0 with h | h
    · exact .inl h
    · obtain ⟨i, x, e, hx, _⟩ := ix_get h
      have hi := (List.getElem?_eq_some_iff.1 hx).1
      obtain ⟨g, o, hA, _⟩ := hr.2 (by omega)
      exact .inr ⟨i, g, o, e, hi, hA⟩
  obtain ⟨n, hn⟩ : ∃ n, l.length = n := ⟨_, rfl⟩
  rw [hn] at CI hl hix ⊢
  obtain ⟨r, hrr⟩ : ∃ z, ixS f l = z := ⟨_, rfl⟩
  rw [hrr] at CI hix ⊢
  clear hr hn hF hrr hN
  rcases hix with h0 | ⟨k, g, o, rfl, hk, rfl⟩
  · rw [ptrS_no h0]
    have hb0 : ¬ (0 : Int) ≤ r := by omega
    go_enter Try.func78, Try.ntmps78
    go_wp2_with fail
    refine CI.out.mono ?_
    rintro e w2 ⟨rfl, b2⟩
    have HB2 := Lib.hid b2
    clear b2 CI
    go_wp2_with fail
    go_ret
    exact ⟨rfl, HB2.out⟩
  · rw [ptrS_at]
    have hb0 : ¬ (k : Int) < 0 := by omega
    have hb1 : (0 : Int) ≤ (k : Int) := by omega
    have hb2 : (k : Int) < (n : Int) := by omega
    go_enter Try.func78, Try.ntmps78
    go_wp2_with fail
    refine CI.out.mono ?_
    rintro e w2 ⟨rfl, b2⟩
    have HB2 := Lib.hid b2
    clear b2 CI
    go_wp2_with fail
    go_ret
    exact ⟨rfl, HB2.out⟩

set_option maxHeartbeats 3200000 in
theorem dixT (N : FuncId) (u1 : Value) (f : Tm → Bool) (A : Option Addr) (c : Nat) (l : List Tm) (w : World) (hN : Ent N) (hr : Row w w.heap.size 4 A l.length (tmC l)) (hl : l.length ≤ 4096)
    (hF : ∀ x ∈ l, ∀ wx : World, Below w.heap.size w wx → Calls Try.prog N #[.agg (tmV x).toArray, u1] wx fun e w' => e = .returned (.bool (f x)) ∧ Below wx.heap.size wx w') :
    Calls Try.prog 83 #[.slice A l.length c, .func (.func N) #[] #[u1]] w fun e w' => e = .returned (.int .i64 (ixS f l)) ∧ Below w.heap.size w w' := by
  obtain ⟨n, hn⟩ : ∃ n, l.length = n := ⟨_, rfl⟩
  have HN := Lib.hid hn
  rw [hn] at hl hr ⊢
  have HR := Lib.hid hr
  have HF := Lib.hid hF
  unfold Ent at hN
  clear hr hn hF
  go_enter Try.func83, Try.ntmps83
  go_wp2_with fail
  go_loopw [8] (fun i wr => ∃ k : Nat, k ≤ n ∧ i = .int .i64 (k : Int) ∧ Hid (∀ (j : Nat) (x : Tm), j < k → l[j]? = some x → f x = false) ∧ Below w.heap.size w wr) (fun i _ => n - (intOf i).toNat)
  case atStart => exact ⟨0, Nat.zero_le _, rfl, Lib.hid (fun j x h => by omega), Below.refl _ _⟩
  case round =>
    obtain ⟨k, hk, rfl, HNO, hb⟩ := hrel
    by_cases hlt : k < n
    · obtain ⟨y, hy⟩ : ∃ y, l[k]? = some y := ⟨_, List.getElem?_eq_getElem (by rw [HN.out]; exact hlt)⟩
      obtain ⟨g, o, rfl, hg, hc⟩ := HR.out.2 (by omega)
      have c0 := (hb.cell (p := ⟨g, o + (k * 4 + 0), none⟩) hg).trans (hc _ _ ((tmC_get hy 0 (by decide)).trans rfl))
      have c1 := (hb.cell (p := ⟨g, o + (k * 4 + 1), none⟩) hg).trans (hc _ _ ((tmC_get hy 1 (by decide)).trans rfl))
      have c2 := (hb.cell (p := ⟨g, o + (k * 4 + 2), none⟩) hg).trans (hc _ _ ((tmC_get hy 2 (by decide)).trans rfl))
      have c3 := (hb.cell (p := ⟨g, o + (k * 4 + 3), none⟩) hg).trans (hc _ _ ((tmC_get hy 3 (by decide)).trans rfl))
      rw [← Nat.add_assoc] at c1 c2 c3
      rw [Nat.add_zero] at c0
      have i0 : (0 : Int) ≤ (k : Int) := by omega
      have i1 : (k : Int) < (n : Int) := by omega
      have lg : g < wr.heap.size := by have := hb.size; omega
      have CF := HF.out y (List.mem_of_getElem? hy) wr hb
      have HY := Lib.hid hy
      have HB := Lib.hid hb
      obtain ⟨bb, hbb⟩ : ∃ z, f y = z := ⟨_, rfl⟩
      rw [hbb] at CF
      have HBB := Lib.hid hbb
      clear hc hy hb hbb
      obtain ⟨⟨xi, xo, xf, xs⟩, xA, xc⟩ := y
      dsimp only [tmV] at c0 c1 c2 c3
      obtain ⟨n5, hn5⟩ : ∃ z, xs.length = z := ⟨_, rfl⟩
      rw [hn5] at c3
      rw [show (tmV ⟨⟨xi, xo, xf, xs⟩, xA, xc⟩).toArray = #[.int .i64 xi, .int .i64 xo, .int .i64 xf, .slice xA n5 xc] from by rw [← hn5]; rfl] at CF
      clear hn5
      replace CF := Lib.hid CF
      cases bb with
      | true =>
        have HX := Lib.hid (show ixS f l = k from ixS_at HNO.out HY.out HBB.out)
        clear HY HNO HR HN HF
        go_wp2_with (refine CF.out.mono ?_; rintro e w2 ⟨rfl, b2⟩)
        have HB2 := Lib.hid (HB.out.trans (b2.mono HB.out.size))
        clear b2 CF HB
        go_wp2_with fail
        go_ret
        exact ⟨by rw [HX.out]; rfl, HB2.out⟩
      | false =>
        have HNO2 := Lib.hid (show ∀ (j : Nat) (x : Tm), j < k + 1 → l[j]? = some x → f x = false from fun j x hj hx => by
          rcases Nat.lt_or_ge j k with h | h
          · exact HNO.out j x h hx
          · obtain rfl : j = k := by omega
            rw [HY.out] at hx
            injection hx with hx
            rw [← hx]
            exact HBB.out)
        clear HY HNO
        go_wp2_with (refine CF.out.mono ?_; rintro e w2 ⟨rfl, b2⟩)
        have HB2 := Lib.hid (HB.out.trans (b2.mono HB.out.size))
        clear b2 CF HB
        go_wp2_with fail
        go_roundw
        case rel => exact ⟨k + 1, by omega, by go_num, HNO2, HB2.out⟩
        case measure => simp [intOf]; omega
    · obtain rfl : k = n := by omega
      have HX := Lib.hid (show ixS f l = -1 from ixS_no (fun j x hx => HNO.out j x (by have := (List.getElem?_eq_some_iff.1 hx).1; rw [HN.out] at this; exact this) hx))
      have HB := Lib.hid hb
      clear HNO HR HN HF hb
      go_wp2_with fail
      go_ret
      exact ⟨by rw [HX.out]; rfl, HB.out⟩

theorem dfindT (N : FuncId) (u1 : Value) (f : Tm → Bool) (A : Option Addr) (c : Nat) (l : List Tm) (w : World) (hN : Ent N) (hr : Row w w.heap.size 4 A l.length (tmC l)) (hl : l.length ≤ 4096)
    (hF : ∀ x ∈ l, ∀ wx : World, Below w.heap.size w wx → Calls Try.prog N #[.agg (tmV x).toArray, u1] wx fun e w' => e = .returned (.bool (f x)) ∧ Below wx.heap.size wx w') :
    Calls Try.prog 85 #[.slice A l.length c, .func (.func N) #[] #[u1]] w fun e w' => e = .returned (.pointer (ptrS A 4 (ixS f l))) ∧ Below w.heap.size w w' := by
  have CI := Lib.hid (dixT N u1 f A c l w hN hr hl hF)
  have hix : ixS f l < 0 ∨ ∃ (k : Nat) (g o : Nat), ixS f l = (k : Int) ∧ k < l.length ∧ A = some ⟨g, o, none⟩ := by
    rcases Int.lt_or_le (ixS f l) 0 with h | h
    · exact .inl h
    · obtain ⟨i, x, e, hx, _⟩ := ix_get h
      have hi := (List.getElem?_eq_some_iff.1 hx).1
      obtain ⟨g, o, hA, _⟩ := hr.2 (by omega)
      exact .inr ⟨i, g, o, e, hi, hA⟩
  obtain ⟨n, hn⟩ : ∃ n, l.length = n := ⟨_, rfl⟩
  rw [hn] at CI hl hix ⊢
  obtain ⟨r, hrr⟩ : ∃ z, ixS f l = z := ⟨_, rfl⟩
  rw [hrr] at CI hix ⊢
  clear hr hn hF hrr hN
  rcases hix with h0 | ⟨k, g, o, rfl, hk, rfl⟩
  · rw [ptrS_no h0]
    have hb0 : ¬ (0 : Int) ≤ r := by omega
    go_enter Try.func85, Try.ntmps85
    go_wp2_with fail
    refine CI.out.mono ?_
    rintro e w2 ⟨rfl, b2⟩
    have HB2 := Lib.hid b2
    clear b2 CI
    go_wp2_with fail
    go_ret
    exact ⟨rfl, HB2.out⟩
  · rw [ptrS_at]
    have hb0 : ¬ (k : Int) < 0 := by omega
    have hb1 : (0 : Int) ≤ (k : Int) := by omega
    have hb2 : (k : Int) < (n : Int) := by omega
    go_enter Try.func85, Try.ntmps85
    go_wp2_with fail
    refine CI.out.mono ?_
    rintro e w2 ⟨rfl, b2⟩
    have HB2 := Lib.hid b2
    clear b2 CI
    go_wp2_with fail
    go_ret
    exact ⟨rfl, HB2.out⟩

set_option maxHeartbeats 3200000 in
theorem dixT_2 (N : FuncId) (u1 u2 : Value) (f : Tm → Bool) (A : Option Addr) (c : Nat) (l : List Tm) (w : World) (hN : Ent N) (hr : Row w w.heap.size 4 A l.length (tmC l)) (hl : l.length ≤ 4096)
    (hF : ∀ x ∈ l, ∀ wx : World, Below w.heap.size w wx → Calls Try.prog N #[.agg (tmV x).toArray, u1, u2] wx fun e w' => e = .returned (.bool (f x)) ∧ Below wx.heap.size wx w') :
    Calls Try.prog 83 #[.slice A l.length c, .func (.func N) #[] #[u1, u2]] w fun e w' => e = .returned (.int .i64 (ixS f l)) ∧ Below w.heap.size w w' := by
  obtain ⟨n, hn⟩ : ∃ n, l.length = n := ⟨_, rfl⟩
  have HN := Lib.hid hn
  rw [hn] at hl hr ⊢
  have HR := Lib.hid hr
  have HF := Lib.hid hF
  unfold Ent at hN
  clear hr hn hF
  go_enter Try.func83, Try.ntmps83
  go_wp2_with fail
  go_loopw [8] (fun i wr => ∃ k : Nat, k ≤ n ∧ i = .int .i64 (k : Int) ∧ Hid (∀ (j : Nat) (x : Tm), j < k → l[j]? = some x → f x = false) ∧ Below w.heap.size w wr) (fun i _ => n - (intOf i).toNat)
  case atStart => exact ⟨0, Nat.zero_le _, rfl, Lib.hid (fun j x h => by omega), Below.refl _ _⟩
  case round =>
    obtain ⟨k, hk, rfl, HNO, hb⟩ := hrel
    by_cases hlt : k < n
    · obtain ⟨y, hy⟩ : ∃ y, l[k]? = some y := ⟨_, List.getElem?_eq_getElem (by rw [HN.out]; exact hlt)⟩
      obtain ⟨g, o, rfl, hg, hc⟩ := HR.out.2 (by omega)
      have c0 := (hb.cell (p := ⟨g, o + (k * 4 + 0), none⟩) hg).trans (hc _ _ ((tmC_get hy 0 (by decide)).trans rfl))
      have c1 := (hb.cell (p := ⟨g, o + (k * 4 + 1), none⟩) hg).trans (hc _ _ ((tmC_get hy 1 (by decide)).trans rfl))
      have c2 := (hb.cell (p := ⟨g, o + (k * 4 + 2), none⟩) hg).trans (hc _ _ ((tmC_get hy 2 (by decide)).trans rfl))
      have c3 := (hb.cell (p := ⟨g, o + (k * 4 + 3), none⟩) hg).trans (hc _ _ ((tmC_get hy 3 (by decide)).trans rfl))
      rw [← Nat.add_assoc] at c1 c2 c3
      rw [Nat.add_zero] at c0
      have i0 : (0 : Int) ≤ (k : Int) := by omega
      have i1 : (k : Int) < (n : Int) := by omega
      have lg : g < wr.heap.size := by have := hb.size; omega
      have CF := HF.out y (List.mem_of_getElem? hy) wr hb
      have HY := Lib.hid hy
      have HB := Lib.hid hb
      obtain ⟨bb, hbb⟩ : ∃ z, f y = z := ⟨_, rfl⟩
      rw [hbb] at CF
      have HBB := Lib.hid hbb
      clear hc hy hb hbb
      obtain ⟨⟨xi, xo, xf, xs⟩, xA, xc⟩ := y
      dsimp only [tmV] at c0 c1 c2 c3
      obtain ⟨n5, hn5⟩ : ∃ z, xs.length = z := ⟨_, rfl⟩
      rw [hn5] at c3
      rw [show (tmV ⟨⟨xi, xo, xf, xs⟩, xA, xc⟩).toArray = #[.int .i64 xi, .int .i64 xo, .int .i64 xf, .slice xA n5 xc] from by rw [← hn5]; rfl] at CF
      clear hn5
      replace CF := Lib.hid CF
      cases bb with
      | true =>
        have HX := Lib.hid (show ixS f l = k from ixS_at HNO.out HY.out HBB.out)
        clear HY HNO HR HN HF
        go_wp2_with (refine CF.out.mono ?_; rintro e w2 ⟨rfl, b2⟩)
        have HB2 := Lib.hid (HB.out.trans (b2.mono HB.out.size))
        clear b2 CF HB
        go_wp2_with fail
        go_ret
        exact ⟨by rw [HX.out]; rfl, HB2.out⟩
      | false =>
        have HNO2 := Lib.hid (show ∀ (j : Nat) (x : Tm), j < k + 1 → l[j]? = some x → f x = false from fun j x hj hx => by
          rcases Nat.lt_or_ge j k with h | h
          · exact HNO.out j x h hx
          · obtain rfl : j = k := by omega
            rw [HY.out] at hx
            injection hx with hx
            rw [← hx]
            exact HBB.out)
        clear HY HNO
        go_wp2_with (refine CF.out.mono ?_; rintro e w2 ⟨rfl, b2⟩)
        have HB2 := Lib.hid (HB.out.trans (b2.mono HB.out.size))
        clear b2 CF HB
        go_wp2_with fail
        go_roundw
        case rel => exact ⟨k + 1, by omega, by go_num, HNO2, HB2.out⟩
        case measure => simp [intOf]; omega
    · obtain rfl : k = n := by omega
      have HX := Lib.hid (show ixS f l = -1 from ixS_no (fun j x hx => HNO.out j x (by have := (List.getElem?_eq_some_iff.1 hx).1; rw [HN.out] at this; exact this) hx))
      have HB := Lib.hid hb
      clear HNO HR HN HF hb
      go_wp2_with fail
      go_ret
      exact ⟨by rw [HX.out]; rfl, HB.out⟩

theorem dfindT_2 (N : FuncId) (u1 u2 : Value) (f : Tm → Bool) (A : Option Addr) (c : Nat) (l : List Tm) (w : World) (hN : Ent N) (hr : Row w w.heap.size 4 A l.length (tmC l)) (hl : l.length ≤ 4096)
    (hF : ∀ x ∈ l, ∀ wx : World, Below w.heap.size w wx → Calls Try.prog N #[.agg (tmV x).toArray, u1, u2] wx fun e w' => e = .returned (.bool (f x)) ∧ Below wx.heap.size wx w') :
    Calls Try.prog 85 #[.slice A l.length c, .func (.func N) #[] #[u1, u2]] w fun e w' => e = .returned (.pointer (ptrS A 4 (ixS f l))) ∧ Below w.heap.size w w' := by
  have CI := Lib.hid (dixT_2 N u1 u2 f A c l w hN hr hl hF)
  have hix : ixS f l < 0 ∨ ∃ (k : Nat) (g o : Nat), ixS f l = (k : Int) ∧ k < l.length ∧ A = some ⟨g, o, none⟩ := by
    rcases Int.lt_or_le (ixS f l) 0 with h | h
    · exact .inl h
    · obtain ⟨i, x, e, hx, _⟩ := ix_get h
      have hi := (List.getElem?_eq_some_iff.1 hx).1
      obtain ⟨g, o, hA, _⟩ := hr.2 (by omega)
      exact .inr ⟨i, g, o, e, hi, hA⟩
  obtain ⟨n, hn⟩ : ∃ n, l.length = n := ⟨_, rfl⟩
  rw [hn] at CI hl hix ⊢
  obtain ⟨r, hrr⟩ : ∃ z, ixS f l = z := ⟨_, rfl⟩
  rw [hrr] at CI hix ⊢
  clear hr hn hF hrr hN
  rcases hix with h0 | ⟨k, g, o, rfl, hk, rfl⟩
  · rw [ptrS_no h0]
    have hb0 : ¬ (0 : Int) ≤ r := by omega
    go_enter Try.func85, Try.ntmps85
    go_wp2_with fail
    refine CI.out.mono ?_
    rintro e w2 ⟨rfl, b2⟩
    have HB2 := Lib.hid b2
    clear b2 CI
    go_wp2_with fail
    go_ret
    exact ⟨rfl, HB2.out⟩
  · rw [ptrS_at]
    have hb0 : ¬ (k : Int) < 0 := by omega
    have hb1 : (0 : Int) ≤ (k : Int) := by omega
    have hb2 : (k : Int) < (n : Int) := by omega
    go_enter Try.func85, Try.ntmps85
    go_wp2_with fail
    refine CI.out.mono ?_
    rintro e w2 ⟨rfl, b2⟩
    have HB2 := Lib.hid b2
    clear b2 CI
    go_wp2_with fail
    go_ret
    exact ⟨rfl, HB2.out⟩

set_option maxHeartbeats 3200000 in
theorem dixB (N : FuncId) (u1 : Value) (f : Sb → Bool) (A : Option Addr) (c : Nat) (l : List Sb) (w : World) (hN : Ent N) (hr : Row w w.heap.size 5 A l.length (sbC l)) (hl : l.length ≤ 4096)
    (hF : ∀ x ∈ l, ∀ wx : World, Below w.heap.size w wx → Calls Try.prog N #[.agg (sbV x).toArray, u1] wx fun e w' => e = .returned (.bool (f x)) ∧ Below wx.heap.size wx w') :
    Calls Try.prog 53 #[.slice A l.length c, .func (.func N) #[] #[u1]] w fun e w' => e = .returned (.int .i64 (ixS f l)) ∧ Below w.heap.size w w' := by
  obtain ⟨n, hn⟩ : ∃ n, l.length = n := ⟨_, rfl⟩
  have HN := Lib.hid hn
  rw [hn] at hl hr ⊢
  have HR := Lib.hid hr
  have HF := Lib.hid hF
  unfold Ent at hN
  clear hr hn hF
  go_enter Try.func53, Try.ntmps53
  go_wp2_with fail
  go_loopw [8] (fun i wr => ∃ k : Nat, k ≤ n ∧ i = .int .i64 (k : Int) ∧ Hid (∀ (j : Nat) (x : Sb), j < k → l[j]? = some x → f x = false) ∧ Below w.heap.size w wr) (fun i _ => n - (intOf i).toNat)
  case atStart => exact ⟨0, Nat.zero_le _, rfl, Lib.hid (fun j x h => by omega), Below.refl _ _⟩
  case round =>
    obtain ⟨k, hk, rfl, HNO, hb⟩ := hrel
    by_cases hlt : k < n
    · obtain ⟨y, hy⟩ : ∃ y, l[k]? = some y := ⟨_, List.getElem?_eq_getElem (by rw [HN.out]; exact hlt)⟩
      obtain ⟨g, o, rfl, hg, hc⟩ := HR.out.2 (by omega)
      have c0 := (hb.cell (p := ⟨g, o + (k * 5 + 0), none⟩) hg).trans (hc _ _ ((sbC_get hy 0 (by decide)).trans rfl))
      have c1 := (hb.cell (p := ⟨g, o + (k * 5 + 1), none⟩) hg).trans (hc _ _ ((sbC_get hy 1 (by decide)).trans rfl))
      have c2 := (hb.cell (p := ⟨g, o + (k * 5 + 2), none⟩) hg).trans (hc _ _ ((sbC_get hy 2 (by decide)).trans rfl))
      have c3 := (hb.cell (p := ⟨g, o + (k * 5 + 3), none⟩) hg).trans (hc _ _ ((sbC_get hy 3 (by decide)).trans rfl))
      have c4 := (hb.cell (p := ⟨g, o + (k * 5 + 4), none⟩) hg).trans (hc _ _ ((sbC_get hy 4 (by decide)).trans rfl))
      rw [← Nat.add_assoc] at c1 c2 c3 c4
      rw [Nat.add_zero] at c0
      have i0 : (0 : Int) ≤ (k : Int) := by omega
      have i1 : (k : Int) < (n : Int) := by omega
      have lg : g < wr.heap.size := by have := hb.size; omega
      have CF := HF.out y (List.mem_of_getElem? hy) wr hb
      have HY := Lib.hid hy
      have HB := Lib.hid hb
      obtain ⟨bb, hbb⟩ : ∃ z, f y = z := ⟨_, rfl⟩
      rw [hbb] at CF
      have HBB := Lib.hid hbb
      clear hc hy hb hbb
      obtain ⟨xw, xt, xl, xd, xm⟩ := y
      dsimp only [sbV] at c0 c1 c2 c3 c4
      rw [show (sbV ⟨xw, xt, xl, xd, xm⟩).toArray = #[.int .i64 xw, .int .i64 xt, .int .i64 xl, .int .i64 xd, .bool xm] from rfl] at CF
      replace CF := Lib.hid CF
      cases bb with
      | true =>
        have HX := Lib.hid (show ixS f l = k from ixS_at HNO.out HY.out HBB.out)
        clear HY HNO HR HN HF
        go_wp2_with (refine CF.out.mono ?_; rintro e w2 ⟨rfl, b2⟩)
        have HB2 := Lib.hid (HB.out.trans (b2.mono HB.out.size))
        clear b2 CF HB
        go_wp2_with fail
        go_ret
        exact ⟨by rw [HX.out]; rfl, HB2.out⟩
      | false =>
        have HNO2 := Lib.hid (show ∀ (j : Nat) (x : Sb), j < k + 1 → l[j]? = some x → f x = false from fun j x hj hx => by
          rcases Nat.lt_or_ge j k with h | h
          · exact HNO.out j x h hx
          · obtain rfl : j = k := by omega
            rw [HY.out] at hx
            injection hx with hx
            rw [← hx]
            exact HBB.out)
        clear HY HNO
        go_wp2_with (refine CF.out.mono ?_; rintro e w2 ⟨rfl, b2⟩)
        have HB2 := Lib.hid (HB.out.trans (b2.mono HB.out.size))
        clear b2 CF HB
        go_wp2_with fail
        go_roundw
        case rel => exact ⟨k + 1, by omega, by go_num, HNO2, HB2.out⟩
        case measure => simp [intOf]; omega
    · obtain rfl : k = n := by omega
      have HX := Lib.hid (show ixS f l = -1 from ixS_no (fun j x hx => HNO.out j x (by have := (List.getElem?_eq_some_iff.1 hx).1; rw [HN.out] at this; exact this) hx))
      have HB := Lib.hid hb
      clear HNO HR HN HF hb
      go_wp2_with fail
      go_ret
      exact ⟨by rw [HX.out]; rfl, HB.out⟩

theorem dfindB (N : FuncId) (u1 : Value) (f : Sb → Bool) (A : Option Addr) (c : Nat) (l : List Sb) (w : World) (hN : Ent N) (hr : Row w w.heap.size 5 A l.length (sbC l)) (hl : l.length ≤ 4096)
    (hF : ∀ x ∈ l, ∀ wx : World, Below w.heap.size w wx → Calls Try.prog N #[.agg (sbV x).toArray, u1] wx fun e w' => e = .returned (.bool (f x)) ∧ Below wx.heap.size wx w') :
    Calls Try.prog 54 #[.slice A l.length c, .func (.func N) #[] #[u1]] w fun e w' => e = .returned (.pointer (ptrS A 5 (ixS f l))) ∧ Below w.heap.size w w' := by
  have CI := Lib.hid (dixB N u1 f A c l w hN hr hl hF)
  have hix : ixS f l < 0 ∨ ∃ (k : Nat) (g o : Nat), ixS f l = (k : Int) ∧ k < l.length ∧ A = some ⟨g, o, none⟩ := by
    rcases Int.lt_or_le (ixS f l) 0 with h | h
    · exact .inl h
    · obtain ⟨i, x, e, hx, _⟩ := ix_get h
      have hi := (List.getElem?_eq_some_iff.1 hx).1
      obtain ⟨g, o, hA, _⟩ := hr.2 (by omega)
      exact .inr ⟨i, g, o, e, hi, hA⟩
  obtain ⟨n, hn⟩ : ∃ n, l.length = n := ⟨_, rfl⟩
  rw [hn] at CI hl hix ⊢
  obtain ⟨r, hrr⟩ : ∃ z, ixS f l = z := ⟨_, rfl⟩
  rw [hrr] at CI hix ⊢
  clear hr hn hF hrr hN
  rcases hix with h0 | ⟨k, g, o, rfl, hk, rfl⟩
  · rw [ptrS_no h0]
    have hb0 : ¬ (0 : Int) ≤ r := by omega
    go_enter Try.func54, Try.ntmps54
    go_wp2_with fail
    refine CI.out.mono ?_
    rintro e w2 ⟨rfl, b2⟩
    have HB2 := Lib.hid b2
    clear b2 CI
    go_wp2_with fail
    go_ret
    exact ⟨rfl, HB2.out⟩
  · rw [ptrS_at]
    have hb0 : ¬ (k : Int) < 0 := by omega
    have hb1 : (0 : Int) ≤ (k : Int) := by omega
    have hb2 : (k : Int) < (n : Int) := by omega
    go_enter Try.func54, Try.ntmps54
    go_wp2_with fail
    refine CI.out.mono ?_
    rintro e w2 ⟨rfl, b2⟩
    have HB2 := Lib.hid b2
    clear b2 CI
    go_wp2_with fail
    go_ret
    exact ⟨rfl, HB2.out⟩

set_option maxHeartbeats 3200000 in
theorem dixB_2 (N : FuncId) (u1 u2 : Value) (f : Sb → Bool) (A : Option Addr) (c : Nat) (l : List Sb) (w : World) (hN : Ent N) (hr : Row w w.heap.size 5 A l.length (sbC l)) (hl : l.length ≤ 4096)
    (hF : ∀ x ∈ l, ∀ wx : World, Below w.heap.size w wx → Calls Try.prog N #[.agg (sbV x).toArray, u1, u2] wx fun e w' => e = .returned (.bool (f x)) ∧ Below wx.heap.size wx w') :
    Calls Try.prog 53 #[.slice A l.length c, .func (.func N) #[] #[u1, u2]] w fun e w' => e = .returned (.int .i64 (ixS f l)) ∧ Below w.heap.size w w' := by
  obtain ⟨n, hn⟩ : ∃ n, l.length = n := ⟨_, rfl⟩
  have HN := Lib.hid hn
  rw [hn] at hl hr ⊢
  have HR := Lib.hid hr
  have HF := Lib.hid hF
  unfold Ent at hN
  clear hr hn hF
  go_enter Try.func53, Try.ntmps53
  go_wp2_with fail
  go_loopw [8] (fun i wr => ∃ k : Nat, k ≤ n ∧ i = .int .i64 (k : Int) ∧ Hid (∀ (j : Nat) (x : Sb), j < k → l[j]? = some x → f x = false) ∧ Below w.heap.size w wr) (fun i _ => n - (intOf i).toNat)
  case atStart => exact ⟨0, Nat.zero_le _, rfl, Lib.hid (fun j x h => by omega), Below.refl _ _⟩
  case round =>
    obtain ⟨k, hk, rfl, HNO, hb⟩ := hrel
    by_cases hlt : k < n
    · obtain ⟨y, hy⟩ : ∃ y, l[k]? = some y := ⟨_, List.getElem?_eq_getElem (by rw [HN.out]; exact hlt)⟩
      obtain ⟨g, o, rfl, hg, hc⟩ := HR.out.2 (by omega)
      have c0 := (hb.cell (p := ⟨g, o + (k * 5 + 0), none⟩) hg).trans (hc _ _ ((sbC_get hy 0 (by decide)).trans rfl))
      have c1 := (hb.cell (p := ⟨g, o + (k * 5 + 1), none⟩) hg).trans (hc _ _ ((sbC_get hy 1 (by decide)).trans rfl))
      have c2 := (hb.cell (p := ⟨g, o + (k * 5 + 2), none⟩) hg).trans (hc _ _ ((sbC_get hy 2 (by decide)).trans rfl))
      have c3 := (hb.cell (p := ⟨g, o + (k * 5 + 3), none⟩) hg).trans (hc _ _ ((sbC_get hy 3 (by decide)).trans rfl))
      have c4 := (hb.cell (p := ⟨g, o + (k * 5 + 4), none⟩) hg).trans (hc _ _ ((sbC_get hy 4 (by decide)).trans rfl))
      rw [← Nat.add_assoc] at c1 c2 c3 c4
      rw [Nat.add_zero] at c0
      have i0 : (0 : Int) ≤ (k : Int) := by omega
      have i1 : (k : Int) < (n : Int) := by omega
      have lg : g < wr.heap.size := by have := hb.size; omega
      have CF := HF.out y (List.mem_of_getElem? hy) wr hb
      have HY := Lib.hid hy
      have HB := Lib.hid hb
      obtain ⟨bb, hbb⟩ : ∃ z, f y = z := ⟨_, rfl⟩
      rw [hbb] at CF
      have HBB := Lib.hid hbb
      clear hc hy hb hbb
      obtain ⟨xw, xt, xl, xd, xm⟩ := y
      dsimp only [sbV] at c0 c1 c2 c3 c4
      rw [show (sbV ⟨xw, xt, xl, xd, xm⟩).toArray = #[.int .i64 xw, .int .i64 xt, .int .i64 xl, .int .i64 xd, .bool xm] from rfl] at CF
      replace CF := Lib.hid CF
      cases bb with
      | true =>
        have HX := Lib.hid (show ixS f l = k from ixS_at HNO.out HY.out HBB.out)
        clear HY HNO HR HN HF
        go_wp2_with (refine CF.out.mono ?_; rintro e w2 ⟨rfl, b2⟩)
        have HB2 := Lib.hid (HB.out.trans (b2.mono HB.out.size))
        clear b2 CF HB
        go_wp2_with fail
        go_ret
        exact ⟨by rw [HX.out]; rfl, HB2.out⟩
      | false =>
        have HNO2 := Lib.hid (show ∀ (j : Nat) (x : Sb), j < k + 1 → l[j]? = some x → f x = false from fun j x hj hx => by
          rcases Nat.lt_or_ge j k with h | h
          · exact HNO.out j x h hx
          · obtain rfl : j = k := by omega
            rw [HY.out] at hx
            injection hx with hx
            rw [← hx]
            exact HBB.out)
        clear HY HNO
        go_wp2_with (refine CF.out.mono ?_; rintro e w2 ⟨rfl, b2⟩)
        have HB2 := Lib.hid (HB.out.trans (b2.mono HB.out.size))
        clear b2 CF HB
        go_wp2_with fail
        go_roundw
        case rel => exact ⟨k + 1, by omega, by go_num, HNO2, HB2.out⟩
        case measure => simp [intOf]; omega
    · obtain rfl : k = n := by omega
      have HX := Lib.hid (show ixS f l = -1 from ixS_no (fun j x hx => HNO.out j x (by have := (List.getElem?_eq_some_iff.1 hx).1; rw [HN.out] at this; exact this) hx))
      have HB := Lib.hid hb
      clear HNO HR HN HF hb
      go_wp2_with fail
      go_ret
      exact ⟨by rw [HX.out]; rfl, HB.out⟩

theorem dfindB_2 (N : FuncId) (u1 u2 : Value) (f : Sb → Bool) (A : Option Addr) (c : Nat) (l : List Sb) (w : World) (hN : Ent N) (hr : Row w w.heap.size 5 A l.length (sbC l)) (hl : l.length ≤ 4096)
    (hF : ∀ x ∈ l, ∀ wx : World, Below w.heap.size w wx → Calls Try.prog N #[.agg (sbV x).toArray, u1, u2] wx fun e w' => e = .returned (.bool (f x)) ∧ Below wx.heap.size wx w') :
    Calls Try.prog 54 #[.slice A l.length c, .func (.func N) #[] #[u1, u2]] w fun e w' => e = .returned (.pointer (ptrS A 5 (ixS f l))) ∧ Below w.heap.size w w' := by
  have CI := Lib.hid (dixB_2 N u1 u2 f A c l w hN hr hl hF)
  have hix : ixS f l < 0 ∨ ∃ (k : Nat) (g o : Nat), ixS f l = (k : Int) ∧ k < l.length ∧ A = some ⟨g, o, none⟩ := by
    rcases Int.lt_or_le (ixS f l) 0 with h | h
    · exact .inl h
    · obtain ⟨i, x, e, hx, _⟩ := ix_get h
      have hi := (List.getElem?_eq_some_iff.1 hx).1
      obtain ⟨g, o, hA, _⟩ := hr.2 (by omega)
      exact .inr ⟨i, g, o, e, hi, hA⟩
  obtain ⟨n, hn⟩ : ∃ n, l.length = n := ⟨_, rfl⟩
  rw [hn] at CI hl hix ⊢
  obtain ⟨r, hrr⟩ : ∃ z, ixS f l = z := ⟨_, rfl⟩
  rw [hrr] at CI hix ⊢
  clear hr hn hF hrr hN
  rcases hix with h0 | ⟨k, g, o, rfl, hk, rfl⟩
  · rw [ptrS_no h0]
    have hb0 : ¬ (0 : Int) ≤ r := by omega
    go_enter Try.func54, Try.ntmps54
    go_wp2_with fail
    refine CI.out.mono ?_
    rintro e w2 ⟨rfl, b2⟩
    have HB2 := Lib.hid b2
    clear b2 CI
    go_wp2_with fail
    go_ret
    exact ⟨rfl, HB2.out⟩
  · rw [ptrS_at]
    have hb0 : ¬ (k : Int) < 0 := by omega
    have hb1 : (0 : Int) ≤ (k : Int) := by omega
    have hb2 : (k : Int) < (n : Int) := by omega
    go_enter Try.func54, Try.ntmps54
    go_wp2_with fail
    refine CI.out.mono ?_
    rintro e w2 ⟨rfl, b2⟩
    have HB2 := Lib.hid b2
    clear b2 CI
    go_wp2_with fail
    go_ret
    exact ⟨rfl, HB2.out⟩
end Go.Proofs.Ytmmeceehfdbdoaa
