/-
  Package rtcp's map of readers (bodies).
-/
import Derived.Test.YtcjmiidnhbmclaaDoorRcM
import Derived.Maps.OwnSet
namespace Go.Proofs.YtcjmiidnhbmclaaDoor
open Go.RowKit Go.Maps
set_option maxRecDepth 100000
variable {lo : Nat}

/-- The closure that reads a kind's body; what it holds lies in blocks b, b + 1, b + 2. -/
def clo (b : Nat) : Nat → Value
  | 0 => .func (.func 61) #[] #[.pointer (some ⟨b, 0, none⟩), .pointer (some ⟨b + 1, 0, none⟩), .pointer (some ⟨b + 2, 0, none⟩)]
  | 1 => .func (.func 66) #[] #[.pointer (some ⟨b, 0, none⟩), .pointer (some ⟨b + 1, 0, none⟩), .pointer (some ⟨b + 2, 0, none⟩)]
  | 2 => .func (.func 67) #[] #[.pointer (some ⟨b + 2, 0, none⟩), .pointer (some ⟨b, 0, none⟩), .pointer (some ⟨b + 1, 0, none⟩)]
  | 3 => .func (.func 69) #[] #[.pointer (some ⟨b, 0, none⟩), .pointer (some ⟨b + 1, 0, none⟩)]
  | 4 => .func (.func 72) #[] #[.pointer (some ⟨b, 0, none⟩), .pointer (some ⟨b + 1, 0, none⟩)]
  | _ => .func (.func 73) #[] #[.pointer (some ⟨b, 0, none⟩), .pointer (some ⟨b + 1, 0, none⟩)]
/-- How a function reads: as itself. -/
def fnR (v : Value) : Option (DataW Value × List MemPlace) := some (.held v, [])
theorem keyI : Maps.Keyed Tryd.prog 3 := Maps.int_keyed Tryd.underlying3
theorem zero_fn : ∃ z, ∀ w, (zeroValue 1).run Tryd.prog w = .ok z w := ⟨.nilFunc, fun w => by kernel_rfl⟩
theorem key_of {k : Int} (h : (Lit.int .i64 k).wf = true) : keyOf Tryd.prog 3 (.int .i64 k) = some (.int .i64 k) := keyOf_int_mk Tryd.underlying3 h
theorem keyl (k : Int) : WideAt.IsKeyLit (.int .i64 k) := trivial
theorem key_ne_i {k k' : Int} (h : k' ≠ k) : (Lit.int .i64 k') ≠ .int .i64 k := fun e => h (by injection e)
theorem turned_only {w w' : World} {b : Nat} (h : w.mapTurned w' b) : w.grownBy w' (some b) := h.grown
/-- What bodies tells. -/
def Bodied (g gm c : Nat) (w : World) (e : Ending) (w' : World) : Prop :=
  ∃ m, e = .returned (.map (some m)) ∧ Below w.heap.size w w' ∧ Whole w' w.heap.size 74 #[.pointer (some ⟨g, 0, none⟩)] ∧ Whole w' (w.heap.size + 1) 126 #[.pointer (some ⟨gm, 0, none⟩)] ∧ Whole w' (w.heap.size + 2) 3 #[.int .i64 (c : Int)] ∧
    ∀ k : Nat, k < 6 → (Instr.lookup 124 (.map (some m)) (.int .i64 (k : Int)) false).run Tryd.prog w' = .ok (clo w.heap.size k) w'
set_option maxHeartbeats 3200000 in
theorem bodies_any (g gm c : Nat) (w : World) : Calls Tryd.prog 57 #[.agg #[.pointer (some ⟨g, 0, none⟩)], .pointer (some ⟨gm, 0, none⟩), .int .i64 (c : Int)] w (Bodied g gm c w) := by
  have hmm := @run_makeMap Tryd.prog
  obtain ⟨zf, hzf⟩ := zero_fn
  have B0 := ((((Below.refl w.heap.size w).alloc (Nat.le_refl _) (.cells #[.pointer (some ⟨g, 0, none⟩)] 74)).alloc (by simp) (.cells #[.pointer (some ⟨gm, 0, none⟩)] 126)).alloc (by simp; omega) (.cells #[.int .i64 (c : Int)] 3)).alloc (by simp; omega) (.map #[] 0)
  have W3 := (((Whole.new w 74 #[.pointer (some ⟨g, 0, none⟩)]).alloc (.cells #[.pointer (some ⟨gm, 0, none⟩)] 126)).alloc (.cells #[.int .i64 (c : Int)] 3)).alloc (.map #[] 0)
  have W4 := ((Whole.new2 w (.cells #[.pointer (some ⟨g, 0, none⟩)] 74) 126 #[.pointer (some ⟨gm, 0, none⟩)]).alloc (.cells #[.int .i64 (c : Int)] 3)).alloc (.map #[] 0)
  have W5 := (Whole.new2 (w.alloc (.cells #[.pointer (some ⟨g, 0, none⟩)] 74)) (.cells #[.pointer (some ⟨gm, 0, none⟩)] 126) 3 #[.int .i64 (c : Int)]).alloc (.map #[] 0)
  have o0 := World.ownsMap_made (((w.alloc (.cells #[.pointer (some ⟨g, 0, none⟩)] 74)).alloc (.cells #[.pointer (some ⟨gm, 0, none⟩)] 126)).alloc (.cells #[.int .i64 (c : Int)] 3)) Tryd.prog 3 fnR
  obtain ⟨w0, hw0⟩ : ∃ w0, (((w.alloc (.cells #[.pointer (some ⟨g, 0, none⟩)] 74)).alloc (.cells #[.pointer (some ⟨gm, 0, none⟩)] 126)).alloc (.cells #[.int .i64 (c : Int)] 3)).alloc (.map #[] 0) = w0 := ⟨_, rfl⟩
  have e2 : (w.alloc (.cells #[.pointer (some ⟨g, 0, none⟩)] 74)).heap.size = w.heap.size + 1 := by simp
  have e3 : (((w.alloc (.cells #[.pointer (some ⟨g, 0, none⟩)] 74)).alloc (.cells #[.pointer (some ⟨gm, 0, none⟩)] 126)).alloc (.cells #[.int .i64 (c : Int)] 3)).heap.size = w.heap.size + 1 + 1 + 1 := by simp
  rw [e2] at W5
  rw [e3] at o0
  rw [hw0] at B0 W3 W4 W5 o0
  obtain ⟨m, hm⟩ : ∃ m, w.heap.size + 1 + 1 + 1 = m := ⟨_, rfl⟩
  rw [hm] at o0
  obtain ⟨w1, r1, o1, t1⟩ := o0.store keyI Tryd.underlying124 (by decide) (key_of (k := 0) (by decide)) (show fnR (clo w.heap.size 0) = _ from rfl)
  obtain ⟨w2, r2, o2, t2⟩ := o1.store keyI Tryd.underlying124 (by decide) (key_of (k := 1) (by decide)) (show fnR (clo w.heap.size 1) = _ from rfl)
  obtain ⟨w3, r3, o3, t3⟩ := o2.store keyI Tryd.underlying124 (by decide) (key_of (k := 2) (by decide)) (show fnR (clo w.heap.size 2) = _ from rfl)
  obtain ⟨w4, r4, o4, t4⟩ := o3.store keyI Tryd.underlying124 (by decide) (key_of (k := 3) (by decide)) (show fnR (clo w.heap.size 3) = _ from rfl)
  obtain ⟨w5, r5, o5, t5⟩ := o4.store keyI Tryd.underlying124 (by decide) (key_of (k := 4) (by decide)) (show fnR (clo w.heap.size 4) = _ from rfl)
  obtain ⟨w6, r6, o6, t6⟩ := o5.store keyI Tryd.underlying124 (by decide) (key_of (k := 5) (by decide)) (show fnR (clo w.heap.size 5) = _ from rfl)
  have T := only_trans (only_trans (only_trans (only_trans (only_trans t1.grown t2.grown) t3.grown) t4.grown) t5.grown) t6.grown
  have L : ∀ k : Nat, k < 6 → (Instr.lookup 124 (.map (some m)) (.int .i64 (k : Int)) false).run Tryd.prog w6 = .ok (clo w.heap.size k) w6 := by
    intro k hk
    obtain ⟨v, ps, hrun, hv⟩ := o6.lookup keyI Tryd.underlying124 (hzf w6) (show fnR zf = _ from rfl) (key_of (k := (k : Int)) (by
      match k, hk with
      | 0, _ => decide
      | 1, _ => decide
      | 2, _ => decide
      | 3, _ => decide
      | 4, _ => decide
      | 5, _ => decide))
    have hvv : v = clo w.heap.size k := by
      unfold fnR at hv
      have hv2 := (Prod.mk.injEq _ _ _ _ ▸ Option.some.inj hv).1
      match k, hk with
      | 0, _ => rw [show ((0 : Nat) : Int) = 0 from rfl, Maps.atKey_put_other (key_ne_i (by decide)), Maps.atKey_put_other (key_ne_i (by decide)), Maps.atKey_put_other (key_ne_i (by decide)), Maps.atKey_put_other (key_ne_i (by decide)), Maps.atKey_put_other (key_ne_i (by decide)), Maps.atKey_put_same o0.isMap (keyl _)] at hv2; injection hv2
      | 1, _ => rw [show ((1 : Nat) : Int) = 1 from rfl, Maps.atKey_put_other (key_ne_i (by decide)), Maps.atKey_put_other (key_ne_i (by decide)), Maps.atKey_put_other (key_ne_i (by decide)), Maps.atKey_put_other (key_ne_i (by decide)), Maps.atKey_put_same o1.isMap (keyl _)] at hv2; injection hv2
      | 2, _ => rw [show ((2 : Nat) : Int) = 2 from rfl, Maps.atKey_put_other (key_ne_i (by decide)), Maps.atKey_put_other (key_ne_i (by decide)), Maps.atKey_put_other (key_ne_i (by decide)), Maps.atKey_put_same o2.isMap (keyl _)] at hv2; injection hv2
      | 3, _ => rw [show ((3 : Nat) : Int) = 3 from rfl, Maps.atKey_put_other (key_ne_i (by decide)), Maps.atKey_put_other (key_ne_i (by decide)), Maps.atKey_put_same o3.isMap (keyl _)] at hv2; injection hv2
      | 4, _ => rw [show ((4 : Nat) : Int) = 4 from rfl, Maps.atKey_put_other (key_ne_i (by decide)), Maps.atKey_put_same o4.isMap (keyl _)] at hv2; injection hv2
      | 5, _ => rw [show ((5 : Nat) : Int) = 5 from rfl, Maps.atKey_put_same o5.isMap (keyl _)] at hv2; injection hv2
    rw [hrun, hvv]
  have HF : Hid (Bodied g gm c w (.returned (.map (some m))) w6) := Lib.hid ⟨m, rfl, B0.grown T (by have := B0.size; omega) (fun k hk => by injection hk; omega), W3.grown T (fun e => by injection e; omega), W4.grown T (fun e => by injection e; omega), W5.grown T (fun e => by injection e; omega), L⟩
  clear B0 W3 W4 W5 o0 o1 o2 o3 o4 o5 o6 t1 t2 t3 t4 t5 t6 T L e2 e3 hzf
  simp only [clo] at r1 r2 r3 r4 r5 r6
  go_enter Tryd.func57, Tryd.ntmps57
  go_wp2
  go_ret
  exact HF.out
end Go.Proofs.YtcjmiidnhbmclaaDoor
