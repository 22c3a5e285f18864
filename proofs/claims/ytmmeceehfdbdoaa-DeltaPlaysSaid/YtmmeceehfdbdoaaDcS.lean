/-
  A state of package delta in memory, and the contracts of the function values that it hands to package slices.
-/
import Derived.Test.YtmmeceehfdbdoaaDcD
import Derived.Test.YtmmeceehfdbdoaaDcI
import Derived.Test.YtmmeceehfdbdoaaDeD
namespace Go.Proofs.Ytmmeceehfdbdoaa
open Go.RowKit
open Dl
set_option linter.unusedSimpArgs false
set_option linter.unusedVariables false
set_option maxRecDepth 100000

namespace Dl
/-- A state in memory: where its rows lie. -/
structure Sm where
  X : St
  T : List Tm
  A : Option Addr
  a : Nat
  B : Option Addr
  b : Nat
  C : Option Addr
  c : Nat
def smA (s : Sm) : Array Value := #[.int .i64 s.X.cf.ps, .int .i64 s.X.cf.ts, .int .i64 s.X.cf.bs, .int .i64 s.X.cf.sl, .slice s.A s.X.ps.length s.a, .slice s.B s.T.length s.b, .slice s.C s.X.bs.length s.c]
end Dl
/-- A state that lies at block g, as far as it is read. -/
structure Rd (w : World) (g : Nat) (s : Sm) : Prop where
  at' : Whole w g 31 (smA s)
  rp : Row w w.heap.size 3 s.A s.X.ps.length (pnC s.X.ps)
  rt : TsAt w w.heap.size s.B s.T
  rb : Row w w.heap.size 5 s.C s.X.bs.length (sbC s.X.bs)
  ts : s.X.ts = tks s.T
  small : s.X.ps.length ≤ 64 ∧ s.T.length ≤ 64 ∧ s.X.bs.length ≤ 64
theorem Rd.next {w w' : World} {g : Nat} {s : Sm} (h : Rd w g s) (hb : Below w.heap.size w w') : Rd w' g s :=
  ⟨h.at'.below hb h.at'.lt, (h.rp.below hb (Nat.le_refl _)).more hb.size, (h.rt.below hb (Nat.le_refl _)).more hb.size, (h.rb.below hb (Nat.le_refl _)).more hb.size, h.ts, h.small⟩

set_option maxHeartbeats 1600000 in
theorem cl_person (x : Pn) (q : Nat) (k1 : Int) (wx : World) (h0 : wx.cell? ⟨q, 0, none⟩ = some (.int .i64 k1)) (hl : q < wx.heap.size) :
    Calls Try.prog 79 #[.agg (pnV x).toArray, .pointer (some ⟨q, 0, none⟩)] wx fun e w' => e = .returned (.bool (isP k1 x)) ∧ Below wx.heap.size wx w' := by
  obtain ⟨xw, xr, xg⟩ := x
  rw [show (pnV ⟨xw, xr, xg⟩).toArray = #[.int .i64 xw, .int .i64 xr, .int .i64 xg] from rfl]
  have hne : q ≠ wx.heap.size := by omega
  show Calls _ _ _ _ fun e w' => e = .returned (.bool (decide (xw = k1))) ∧ _
  have HB := Lib.hid (fun cs : Array Value => (Below.refl wx.heap.size wx).alloc (Nat.le_refl _) (.cells cs 71))
  by_cases e1 : xw = k1
  · first
      | (exfalso; omega)
      | (go_enter Try.func79, Try.ntmps79
         go_wp2
         go_ret
         exact ⟨ret_bool (by simp [*] <;> omega), HB.out _⟩)
  · first
      | (exfalso; omega)
      | (go_enter Try.func79, Try.ntmps79
         go_wp2
         go_ret
         exact ⟨ret_bool (by simp [*] <;> omega), HB.out _⟩)

set_option maxHeartbeats 1600000 in
theorem cl_track (x : Tm) (q : Nat) (k1 : Int) (wx : World) (h0 : wx.cell? ⟨q, 0, none⟩ = some (.int .i64 k1)) (hl : q < wx.heap.size) :
    Calls Try.prog 86 #[.agg (tmV x).toArray, .pointer (some ⟨q, 0, none⟩)] wx fun e w' => e = .returned (.bool (isT k1 x.t)) ∧ Below wx.heap.size wx w' := by
  obtain ⟨⟨xi, xo, xf, xs⟩, xA, xc⟩ := x
  obtain ⟨n5, hn5⟩ : ∃ z, xs.length = z := ⟨_, rfl⟩
  rw [show (tmV ⟨⟨xi, xo, xf, xs⟩, xA, xc⟩).toArray = #[.int .i64 xi, .int .i64 xo, .int .i64 xf, .slice xA n5 xc] from by rw [← hn5]; rfl]
  have hne : q ≠ wx.heap.size := by omega
  show Calls _ _ _ _ fun e w' => e = .returned (.bool (decide (xi = k1))) ∧ _
  clear hn5
  have HB := Lib.hid (fun cs : Array Value => (Below.refl wx.heap.size wx).alloc (Nat.le_refl _) (.cells cs 72))
  by_cases e1 : xi = k1
  · first
      | (exfalso; omega)
      | (go_enter Try.func86, Try.ntmps86
         go_wp2
         go_ret
         exact ⟨ret_bool (by simp [*] <;> omega), HB.out _⟩)
  · first
      | (exfalso; omega)
      | (go_enter Try.func86, Try.ntmps86
         go_wp2
         go_ret
         exact ⟨ret_bool (by simp [*] <;> omega), HB.out _⟩)

set_option maxHeartbeats 1600000 in
theorem cl_drop (x : Sb) (q : Nat) (k1 : Int) (wx : World) (h0 : wx.cell? ⟨q, 0, none⟩ = some (.int .i64 k1)) (hl : q < wx.heap.size) :
    Calls Try.prog 82 #[.agg (sbV x).toArray, .pointer (some ⟨q, 0, none⟩)] wx fun e w' => e = .returned (.bool (decide (x.track = k1))) ∧ Below wx.heap.size wx w' := by
  obtain ⟨xw, xt, xl, xd, xm⟩ := x
  rw [show (sbV ⟨xw, xt, xl, xd, xm⟩).toArray = #[.int .i64 xw, .int .i64 xt, .int .i64 xl, .int .i64 xd, .bool xm] from rfl]
  have hne : q ≠ wx.heap.size := by omega
  show Calls _ _ _ _ fun e w' => e = .returned (.bool (decide (xt = k1))) ∧ _
  have HB := Lib.hid (fun cs : Array Value => (Below.refl wx.heap.size wx).alloc (Nat.le_refl _) (.cells cs 55))
  by_cases e1 : xt = k1
  · first
      | (exfalso; omega)
      | (go_enter Try.func82, Try.ntmps82
         go_wp2
         go_ret
         exact ⟨ret_bool (by simp [*] <;> omega), HB.out _⟩)
  · first
      | (exfalso; omega)
      | (go_enter Try.func82, Try.ntmps82
         go_wp2
         go_ret
         exact ⟨ret_bool (by simp [*] <;> omega), HB.out _⟩)

set_option maxHeartbeats 1600000 in
theorem cl_sub (x : Sb) (q q2 : Nat) (k1 k2 : Int) (wx : World) (h0 : wx.cell? ⟨q, 0, none⟩ = some (.int .i64 k1)) (hl : q < wx.heap.size) (h2 : wx.cell? ⟨q2, 0, none⟩ = some (.int .i64 k2)) (hl2 : q2 < wx.heap.size) :
    Calls Try.prog 55 #[.agg (sbV x).toArray, .pointer (some ⟨q, 0, none⟩), .pointer (some ⟨q2, 0, none⟩)] wx fun e w' => e = .returned (.bool (isB k1 k2 x)) ∧ Below wx.heap.size wx w' := by
  obtain ⟨xw, xt, xl, xd, xm⟩ := x
  rw [show (sbV ⟨xw, xt, xl, xd, xm⟩).toArray = #[.int .i64 xw, .int .i64 xt, .int .i64 xl, .int .i64 xd, .bool xm] from rfl]
  have hne : q ≠ wx.heap.size := by omega
  have hne2 : q2 ≠ wx.heap.size := by omega
  show Calls _ _ _ _ fun e w' => e = .returned (.bool (decide (xw = k1 ∧ xt = k2))) ∧ _
  have HB := Lib.hid (fun cs : Array Value => (Below.refl wx.heap.size wx).alloc (Nat.le_refl _) (.cells cs 55))
  by_cases e2 : xw = k1
  · by_cases e1 : xt = k2
    · first
        | (exfalso; omega)
        | (go_enter Try.func55, Try.ntmps55
           go_wp2
           go_ret
           exact ⟨ret_bool (by simp [*] <;> omega), HB.out _⟩)
    · first
        | (exfalso; omega)
        | (go_enter Try.func55, Try.ntmps55
           go_wp2
           go_ret
           exact ⟨ret_bool (by simp [*] <;> omega), HB.out _⟩)
  · by_cases e1 : xt = k2
    · first
        | (exfalso; omega)
        | (go_enter Try.func55, Try.ntmps55
           go_wp2
           go_ret
           exact ⟨ret_bool (by simp [*] <;> omega), HB.out _⟩)
    · first
        | (exfalso; omega)
        | (go_enter Try.func55, Try.ntmps55
           go_wp2
           go_ret
           exact ⟨ret_bool (by simp [*] <;> omega), HB.out _⟩)

set_option maxHeartbeats 1600000 in
theorem cl_join (x : Pn) (q : Nat) (k1 : Int) (wx : World) (h1 : wx.cell? ⟨q, 1, none⟩ = some (.int .i64 k1)) (hl : q < wx.heap.size) :
    Calls Try.prog 57 #[.agg (pnV x).toArray, .pointer (some ⟨q, 0, none⟩)] wx fun e w' => e = .returned (.bool (decide (k1 < x.who))) ∧ Below wx.heap.size wx w' := by
  obtain ⟨xw, xr, xg⟩ := x
  rw [show (pnV ⟨xw, xr, xg⟩).toArray = #[.int .i64 xw, .int .i64 xr, .int .i64 xg] from rfl]
  have hne : q ≠ wx.heap.size := by omega
  show Calls _ _ _ _ fun e w' => e = .returned (.bool (decide (k1 < xw))) ∧ _
  have HB := Lib.hid (fun cs : Array Value => (Below.refl wx.heap.size wx).alloc (Nat.le_refl _) (.cells cs 71))
  by_cases e1 : k1 < xw
  · first
      | (exfalso; omega)
      | (go_enter Try.func57, Try.ntmps57
         go_wp2
         go_ret
         exact ⟨ret_bool (by simp [*] <;> omega), HB.out _⟩)
  · first
      | (exfalso; omega)
      | (go_enter Try.func57, Try.ntmps57
         go_wp2
         go_ret
         exact ⟨ret_bool (by simp [*] <;> omega), HB.out _⟩)

set_option maxHeartbeats 1600000 in
theorem cl_publish (x : Tm) (q : Nat) (k1 : Int) (wx : World) (h4 : wx.cell? ⟨q, 4, none⟩ = some (.int .i64 k1)) (hl : q < wx.heap.size) :
    Calls Try.prog 68 #[.agg (tmV x).toArray, .pointer (some ⟨q, 0, none⟩)] wx fun e w' => e = .returned (.bool (decide (k1 < x.t.id))) ∧ Below wx.heap.size wx w' := by
  obtain ⟨⟨xi, xo, xf, xs⟩, xA, xc⟩ := x
  obtain ⟨n5, hn5⟩ : ∃ z, xs.length = z := ⟨_, rfl⟩
  rw [show (tmV ⟨⟨xi, xo, xf, xs⟩, xA, xc⟩).toArray = #[.int .i64 xi, .int .i64 xo, .int .i64 xf, .slice xA n5 xc] from by rw [← hn5]; rfl]
  have hne : q ≠ wx.heap.size := by omega
  show Calls _ _ _ _ fun e w' => e = .returned (.bool (decide (k1 < xi))) ∧ _
  clear hn5
  have HB := Lib.hid (fun cs : Array Value => (Below.refl wx.heap.size wx).alloc (Nat.le_refl _) (.cells cs 72))
  by_cases e1 : k1 < xi
  · first
      | (exfalso; omega)
      | (go_enter Try.func68, Try.ntmps68
         go_wp2
         go_ret
         exact ⟨ret_bool (by simp [*] <;> omega), HB.out _⟩)
  · first
      | (exfalso; omega)
      | (go_enter Try.func68, Try.ntmps68
         go_wp2
         go_ret
         exact ⟨ret_bool (by simp [*] <;> omega), HB.out _⟩)

set_option maxHeartbeats 1600000 in
theorem cl_owns (x : Tm) (q : Nat) (k1 : Int) (wx : World) (h1 : wx.cell? ⟨q, 1, none⟩ = some (.int .i64 k1)) (hl : q < wx.heap.size) :
    Calls Try.prog 58 #[.agg (tmV x).toArray, .pointer (some ⟨q, 0, none⟩)] wx fun e w' => e = .returned (.bool (decide (x.t.owner = k1))) ∧ Below wx.heap.size wx w' := by
  obtain ⟨⟨xi, xo, xf, xs⟩, xA, xc⟩ := x
  obtain ⟨n5, hn5⟩ : ∃ z, xs.length = z := ⟨_, rfl⟩
  rw [show (tmV ⟨⟨xi, xo, xf, xs⟩, xA, xc⟩).toArray = #[.int .i64 xi, .int .i64 xo, .int .i64 xf, .slice xA n5 xc] from by rw [← hn5]; rfl]
  have hne : q ≠ wx.heap.size := by omega
  show Calls _ _ _ _ fun e w' => e = .returned (.bool (decide (xo = k1))) ∧ _
  clear hn5
  have HB := Lib.hid (fun cs : Array Value => (Below.refl wx.heap.size wx).alloc (Nat.le_refl _) (.cells cs 72))
  by_cases e1 : xo = k1
  · first
      | (exfalso; omega)
      | (go_enter Try.func58, Try.ntmps58
         go_wp2
         go_ret
         exact ⟨ret_bool (by simp [*] <;> omega), HB.out _⟩)
  · first
      | (exfalso; omega)
      | (go_enter Try.func58, Try.ntmps58
         go_wp2
         go_ret
         exact ⟨ret_bool (by simp [*] <;> omega), HB.out _⟩)

set_option maxHeartbeats 1600000 in
theorem cl_leaveB (x : Sb) (q : Nat) (k1 : Int) (wx : World) (h1 : wx.cell? ⟨q, 1, none⟩ = some (.int .i64 k1)) (hl : q < wx.heap.size) :
    Calls Try.prog 60 #[.agg (sbV x).toArray, .pointer (some ⟨q, 0, none⟩)] wx fun e w' => e = .returned (.bool (ofB k1 x)) ∧ Below wx.heap.size wx w' := by
  obtain ⟨xw, xt, xl, xd, xm⟩ := x
  rw [show (sbV ⟨xw, xt, xl, xd, xm⟩).toArray = #[.int .i64 xw, .int .i64 xt, .int .i64 xl, .int .i64 xd, .bool xm] from rfl]
  have hne : q ≠ wx.heap.size := by omega
  show Calls _ _ _ _ fun e w' => e = .returned (.bool (decide (xw = k1))) ∧ _
  have HB := Lib.hid (fun cs : Array Value => (Below.refl wx.heap.size wx).alloc (Nat.le_refl _) (.cells cs 55))
  by_cases e1 : xw = k1
  · first
      | (exfalso; omega)
      | (go_enter Try.func60, Try.ntmps60
         go_wp2
         go_ret
         exact ⟨ret_bool (by simp [*] <;> omega), HB.out _⟩)
  · first
      | (exfalso; omega)
      | (go_enter Try.func60, Try.ntmps60
         go_wp2
         go_ret
         exact ⟨ret_bool (by simp [*] <;> omega), HB.out _⟩)

set_option maxHeartbeats 1600000 in
theorem cl_leaveP (x : Pn) (q : Nat) (k1 : Int) (wx : World) (h1 : wx.cell? ⟨q, 1, none⟩ = some (.int .i64 k1)) (hl : q < wx.heap.size) :
    Calls Try.prog 63 #[.agg (pnV x).toArray, .pointer (some ⟨q, 0, none⟩)] wx fun e w' => e = .returned (.bool (isP k1 x)) ∧ Below wx.heap.size wx w' := by
  obtain ⟨xw, xr, xg⟩ := x
  rw [show (pnV ⟨xw, xr, xg⟩).toArray = #[.int .i64 xw, .int .i64 xr, .int .i64 xg] from rfl]
  have hne : q ≠ wx.heap.size := by omega
  show Calls _ _ _ _ fun e w' => e = .returned (.bool (decide (xw = k1))) ∧ _
  have HB := Lib.hid (fun cs : Array Value => (Below.refl wx.heap.size wx).alloc (Nat.le_refl _) (.cells cs 71))
  by_cases e1 : xw = k1
  · first
      | (exfalso; omega)
      | (go_enter Try.func63, Try.ntmps63
         go_wp2
         go_ret
         exact ⟨ret_bool (by simp [*] <;> omega), HB.out _⟩)
  · first
      | (exfalso; omega)
      | (go_enter Try.func63, Try.ntmps63
         go_wp2
         go_ret
         exact ⟨ret_bool (by simp [*] <;> omega), HB.out _⟩)

set_option maxHeartbeats 1600000 in
theorem cl_unpub (x : Tm) (q : Nat) (k1 : Int) (wx : World) (h4 : wx.cell? ⟨q, 4, none⟩ = some (.int .i64 k1)) (hl : q < wx.heap.size) :
    Calls Try.prog 70 #[.agg (tmV x).toArray, .pointer (some ⟨q, 0, none⟩)] wx fun e w' => e = .returned (.bool (isT k1 x.t)) ∧ Below wx.heap.size wx w' := by
  obtain ⟨⟨xi, xo, xf, xs⟩, xA, xc⟩ := x
  obtain ⟨n5, hn5⟩ : ∃ z, xs.length = z := ⟨_, rfl⟩
  rw [show (tmV ⟨⟨xi, xo, xf, xs⟩, xA, xc⟩).toArray = #[.int .i64 xi, .int .i64 xo, .int .i64 xf, .slice xA n5 xc] from by rw [← hn5]; rfl]
  have hne : q ≠ wx.heap.size := by omega
  show Calls _ _ _ _ fun e w' => e = .returned (.bool (decide (xi = k1))) ∧ _
  clear hn5
  have HB := Lib.hid (fun cs : Array Value => (Below.refl wx.heap.size wx).alloc (Nat.le_refl _) (.cells cs 72))
  by_cases e1 : xi = k1
  · first
      | (exfalso; omega)
      | (go_enter Try.func70, Try.ntmps70
         go_wp2
         go_ret
         exact ⟨ret_bool (by simp [*] <;> omega), HB.out _⟩)
  · first
      | (exfalso; omega)
      | (go_enter Try.func70, Try.ntmps70
         go_wp2
         go_ret
         exact ⟨ret_bool (by simp [*] <;> omega), HB.out _⟩)

set_option maxHeartbeats 1600000 in
theorem cl_unsub (x : Sb) (q : Nat) (k1 k2 : Int) (wx : World) (h1 : wx.cell? ⟨q, 1, none⟩ = some (.int .i64 k1)) (h4 : wx.cell? ⟨q, 4, none⟩ = some (.int .i64 k2)) (hl : q < wx.heap.size) :
    Calls Try.prog 76 #[.agg (sbV x).toArray, .pointer (some ⟨q, 0, none⟩)] wx fun e w' => e = .returned (.bool (isB k1 k2 x)) ∧ Below wx.heap.size wx w' := by
  obtain ⟨xw, xt, xl, xd, xm⟩ := x
  rw [show (sbV ⟨xw, xt, xl, xd, xm⟩).toArray = #[.int .i64 xw, .int .i64 xt, .int .i64 xl, .int .i64 xd, .bool xm] from rfl]
  have hne : q ≠ wx.heap.size := by omega
  show Calls _ _ _ _ fun e w' => e = .returned (.bool (decide (xw = k1 ∧ xt = k2))) ∧ _
  have HB := Lib.hid (fun cs : Array Value => (Below.refl wx.heap.size wx).alloc (Nat.le_refl _) (.cells cs 55))
  by_cases e2 : xw = k1
  · by_cases e1 : xt = k2
    · first
        | (exfalso; omega)
        | (go_enter Try.func76, Try.ntmps76
           go_wp2
           go_ret
           exact ⟨ret_bool (by simp [*] <;> omega), HB.out _⟩)
    · first
        | (exfalso; omega)
        | (go_enter Try.func76, Try.ntmps76
           go_wp2
           go_ret
           exact ⟨ret_bool (by simp [*] <;> omega), HB.out _⟩)
  · by_cases e1 : xt = k2
    · first
        | (exfalso; omega)
        | (go_enter Try.func76, Try.ntmps76
           go_wp2
           go_ret
           exact ⟨ret_bool (by simp [*] <;> omega), HB.out _⟩)
    · first
        | (exfalso; omega)
        | (go_enter Try.func76, Try.ntmps76
           go_wp2
           go_ret
           exact ⟨ret_bool (by simp [*] <;> omega), HB.out _⟩)

set_option maxHeartbeats 1600000 in
theorem cl_subscribe (x : Sb) (q : Nat) (k1 k2 : Int) (wx : World) (h1 : wx.cell? ⟨q, 1, none⟩ = some (.int .i64 k1)) (h4 : wx.cell? ⟨q, 4, none⟩ = some (.int .i64 k2)) (hl : q < wx.heap.size) :
    Calls Try.prog 75 #[.agg (sbV x).toArray, .pointer (some ⟨q, 0, none⟩)] wx fun e w' => e = .returned (.bool (decide (k1 < x.who ∨ x.who = k1 ∧ k2 < x.track))) ∧ Below wx.heap.size wx w' := by
  obtain ⟨xw, xt, xl, xd, xm⟩ := x
  rw [show (sbV ⟨xw, xt, xl, xd, xm⟩).toArray = #[.int .i64 xw, .int .i64 xt, .int .i64 xl, .int .i64 xd, .bool xm] from rfl]
  have hne : q ≠ wx.heap.size := by omega
  show Calls _ _ _ _ fun e w' => e = .returned (.bool (decide (k1 < xw ∨ xw = k1 ∧ k2 < xt))) ∧ _
  have HB := Lib.hid (fun cs : Array Value => (Below.refl wx.heap.size wx).alloc (Nat.le_refl _) (.cells cs 55))
  by_cases e3 : k1 < xw
  · by_cases e2 : xw = k1
    · by_cases e1 : k2 < xt
      · first
          | (exfalso; omega)
          | (go_enter Try.func75, Try.ntmps75
             go_wp2
             go_ret
             exact ⟨ret_bool (by simp [*] <;> omega), HB.out _⟩)
      · first
          | (exfalso; omega)
          | (go_enter Try.func75, Try.ntmps75
             go_wp2
             go_ret
             exact ⟨ret_bool (by simp [*] <;> omega), HB.out _⟩)
    · by_cases e1 : k2 < xt
      · first
          | (exfalso; omega)
          | (go_enter Try.func75, Try.ntmps75
             go_wp2
             go_ret
             exact ⟨ret_bool (by simp [*] <;> omega), HB.out _⟩)
      · first
          | (exfalso; omega)
          | (go_enter Try.func75, Try.ntmps75
             go_wp2
             go_ret
             exact ⟨ret_bool (by simp [*] <;> omega), HB.out _⟩)
  · by_cases e2 : xw = k1
    · by_cases e1 : k2 < xt
      · first
          | (exfalso; omega)
          | (go_enter Try.func75, Try.ntmps75
             go_wp2
             go_ret
             exact ⟨ret_bool (by simp [*] <;> omega), HB.out _⟩)
      · first
          | (exfalso; omega)
          | (go_enter Try.func75, Try.ntmps75
             go_wp2
             go_ret
             exact ⟨ret_bool (by simp [*] <;> omega), HB.out _⟩)
    · by_cases e1 : k2 < xt
      · first
          | (exfalso; omega)
          | (go_enter Try.func75, Try.ntmps75
             go_wp2
             go_ret
             exact ⟨ret_bool (by simp [*] <;> omega), HB.out _⟩)
      · first
          | (exfalso; omega)
          | (go_enter Try.func75, Try.ntmps75
             go_wp2
             go_ret
             exact ⟨ret_bool (by simp [*] <;> omega), HB.out _⟩)
end Go.Proofs.Ytmmeceehfdbdoaa
