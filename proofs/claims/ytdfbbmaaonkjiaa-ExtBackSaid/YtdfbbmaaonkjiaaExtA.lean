/-
  Items in memory, and contracts of package ext's small calls: isWrong, isLong, the search for an item, the heads.
-/
import Derived.Test.YtdfbbmaaonkjiaaOctB
import Derived.Test.YtdfbbmaaonkjiaaExtL
namespace Go.Proofs.Ytdfbbmaaonkjiaa
open Go.RowKit

theorem bnext {w w1 w2 : World} (h1 : Below w.heap.size w w1) (h2 : Below w1.heap.size w1 w2) : Below w.heap.size w w2 := h1.trans (h2.mono h1.size)
theorem bdrewN {w w' : World} {B : Nat} (h : Below B w w') (m : Nat) : Below B w (w'.drewN m) := ⟨h.os, h.tape, h.output, h.size, h.block⟩
theorem ret_i64 {a b : Int} (h : a = b) : Ending.returned (.int .i64 a) = .returned (.int .i64 b) := by rw [h]
theorem ret_bool {a b : Bool} (h : a = b) : Ending.returned (.bool a) = .returned (.bool b) := by rw [h]
theorem own_below {w w' : World} {base : Nat} {e : TypeId} {z n : Nat} {v : Value} {xs : List Value} {b : Nat} (h : w.ownsRow base e z v n xs) (k : Below b w w') (hb : w.heap.size ≤ b) : w'.ownsRow base e z v n xs :=
  h.kept (row := none) ⟨k.os, k.tape, k.output, k.size, fun i hi _ => k.block i (by omega)⟩ (by cases v.ownBlock <;> simp)

theorem Row.fresh2 (w : World) (o : Obj) (t : TypeId) (cs : Array Value) (z n : Nat) (xs : List Value) (h : cs.size = n * z) (hx : cs.toList = xs) :
    Row ((w.alloc o).alloc (.cells cs t)) ((w.alloc o).alloc (.cells cs t)).heap.size z (some ⟨w.heap.size + 1, 0, none⟩) n xs := by
  have := Row.fresh (w.alloc o) t cs z n xs h hx
  simpa using this
/-- An item in memory: where its data lie, and what room they have. -/
structure Ip where
  it : It
  A : Option Addr
  c : Nat
def Ip.cells (p : Ip) : List Value := [.int .u8 (p.it.id.toNat : Int), .slice p.A p.it.d.length p.c]
def ipC (ps : List Ip) : List Value := ps.flatMap Ip.cells
theorem ipC_length (ps : List Ip) : (ipC ps).length = ps.length * 2 := by induction ps <;> simp_all [ipC, Ip.cells]; omega
theorem ipC_get (ps : List Ip) (k : Nat) (hk : k < ps.length) : (ipC ps)[k * 2]? = some (.int .u8 (ps[k].it.id.toNat : Int)) ∧ (ipC ps)[k * 2 + 1]? = some (.slice ps[k].A ps[k].it.d.length ps[k].c) := by
  induction ps generalizing k with
  | nil => simp at hk
  | cons p l ih =>
    cases k with
    | zero => simp [ipC, Ip.cells]
    | succ k =>
      have h := ih k (by simpa using hk)
      have e : (k + 1) * 2 = k * 2 + 1 + 1 := by omega
      simpa [ipC, Ip.cells, e] using h
theorem ipC_snoc (ps : List Ip) (p : Ip) : ipC (ps ++ [p]) = ipC ps ++ p.cells := by simp [ipC]

/-- Items in memory. -/
def Its (w : World) (A : Option Addr) (ps : List Ip) : Prop :=
  Row w w.heap.size 2 A ps.length (ipC ps) ∧ ∀ p ∈ ps, Row w w.heap.size 1 p.A p.it.d.length (u8s p.it.d) ∧ p.it.d.length ≤ maxLen
theorem Its.next {w w' : World} {A : Option Addr} {ps : List Ip} (h : Its w A ps) (hb : Below w.heap.size w w') : Its w' A ps :=
  ⟨(h.1.below hb (Nat.le_refl _)).more hb.size, fun p hp => ⟨((h.2 p hp).1.below hb (Nat.le_refl _)).more hb.size, (h.2 p hp).2⟩⟩
theorem Its.at {w : World} {A : Option Addr} {ps : List Ip} (h : Its w A ps) (k : Nat) (hk : k < ps.length) :
    ∃ g o, A = some ⟨g, o, none⟩ ∧ g < w.heap.size ∧ w.cell? ⟨g, o + k * 2, none⟩ = some (.int .u8 (ps[k].it.id.toNat : Int)) ∧ w.cell? ⟨g, o + k * 2 + 1, none⟩ = some (.slice ps[k].A ps[k].it.d.length ps[k].c) := by
  obtain ⟨g, o, hA, hg, hc⟩ := h.1.2 (by omega)
  exact ⟨g, o, hA, hg, hc _ _ (ipC_get ps k hk).1, hc _ _ (ipC_get ps k hk).2⟩
theorem Its.drewN {w : World} {A : Option Addr} {ps : List Ip} (h : Its w A ps) (m : Nat) : Its (w.drewN m) A ps := h

theorem isWrong_any (i : It) (A : Option Addr) (c : Nat) (w : World) (h : i.d.length ≤ maxLen) :
    Calls Try.prog 19 #[.agg #[.int .u8 (i.id.toNat : Int), .slice A i.d.length c]] w fun e w' => e = .returned (.bool i.wrong) ∧ Below w.heap.size w w' := by
  unfold maxLen at h
  obtain ⟨id, d⟩ := i
  have hb := id.toNat_lt
  dsimp only at h ⊢
  have hw : It.wrong ⟨id, d⟩ = decide (id.toNat = 0 ∨ 255 < d.length) := rfl
  rw [hw]
  clear hw
  generalize id.toNat = x at *
  generalize d.length = n at *
  by_cases h0 : x = 0 <;> by_cases h1 : 255 < n
  all_goals
    go_enter Try.func19, Try.ntmps19
    go_wp2
    go_ret
    exact ⟨ret_bool (by simp [*] <;> omega), (Below.refl _ _).alloc (Nat.le_refl _) _⟩

theorem isLong_any (i : It) (A : Option Addr) (c : Nat) (w : World) (h : i.d.length ≤ maxLen) :
    Calls Try.prog 20 #[.agg #[.int .u8 (i.id.toNat : Int), .slice A i.d.length c]] w fun e w' => e = .returned (.bool i.big) ∧ Below w.heap.size w w' := by
  unfold maxLen at h
  obtain ⟨id, d⟩ := i
  have hb := id.toNat_lt
  dsimp only at h ⊢
  have hw : It.big ⟨id, d⟩ = decide (14 < id.toNat ∨ d.length < 1 ∨ 16 < d.length) := rfl
  rw [hw]
  clear hw
  generalize id.toNat = x at *
  generalize d.length = n at *
  by_cases h0 : 14 < x <;> by_cases h1 : n < 1 <;> by_cases h2 : 16 < n
  all_goals
    try (exfalso; omega)
  all_goals
    go_enter Try.func20, Try.ntmps20
    go_wp2
    go_ret
    exact ⟨ret_bool (by simp [*] <;> omega), (Below.refl _ _).alloc (Nat.le_refl _) _⟩

def isIdB (k : UInt8) (i : It) : Bool := decide (i.id = k)
theorem isId_any (i : It) (A : Option Addr) (c : Nat) (k : UInt8) (bx : Nat) (w : World) (hc : w.cell? ⟨bx, 0, none⟩ = some (.int .u8 (k.toNat : Int))) (hlt : bx < w.heap.size) :
    Calls Try.prog 29 #[.agg #[.int .u8 (i.id.toNat : Int), .slice A i.d.length c], .pointer (some ⟨bx, 0, none⟩)] w fun e w' => e = .returned (.bool (isIdB k i)) ∧ Below w.heap.size w w' := by
  have hne : bx ≠ w.heap.size := by omega
  have e : isIdB k i = decide (i.id.toNat = k.toNat) := by simp only [isIdB, UInt8.toNat_inj]
  rw [e]
  clear e
  generalize i.id.toNat = x at *
  generalize k.toNat = y at *
  generalize i.d.length = n at *
  by_cases h0 : x = y
  all_goals
    go_enter Try.func29, Try.ntmps29
    go_wp2
    go_ret
    exact ⟨ret_bool (by simp [*] <;> omega), (Below.refl _ _).alloc (Nat.le_refl _) _⟩
end Go.Proofs.Ytdfbbmaaonkjiaa
