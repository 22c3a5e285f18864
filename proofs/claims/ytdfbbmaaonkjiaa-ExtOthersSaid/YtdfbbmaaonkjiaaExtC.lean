/-
  Contracts of package ext's heads.
-/
import Derived.Test.YtdfbbmaaonkjiaaExtB
namespace Go.Proofs.Ytdfbbmaaonkjiaa
open Go.RowKit

/-- A head: new bytes. -/
def Headed (hd : It → List UInt8) (i : It) (w : World) (e : Ending) (w' : World) : Prop :=
  ∃ A c, e = .returned (.slice A (hd i).length c) ∧ Row w' w'.heap.size 1 A (hd i).length (u8s (hd i)) ∧ Below w.heap.size w w'

theorem bytesN_one (x : Nat) : bytesN x 1 = [UInt8.ofNat x] := by simp [bytesN]
theorem putOne_one (x : Nat) : putOne (x, 1) = [UInt8.ofNat x] := by
  have := putOne_yes x (s := 1) (by omega) (by omega)
  rwa [bytesN_one] at this
theorem or_four (x n : Nat) (hx : x ≤ 14) (h1 : 1 ≤ n) (hn : n ≤ 16) : bits .or .u64 ((x : Int) * 16) ((n : Int) - 1) = ((x * 16 + (n - 1) : Nat) : Int) := by
  have e1 : (x : Int) * 16 = ((x * 16 : Nat) : Int) := by omega
  have e2 : (n : Int) - 1 = ((n - 1 : Nat) : Int) := by omega
  rw [e1, e2, u64_or_nat _ _ (by omega) (by omega)]
  congr 1
  have := Nat.shiftLeft_add_eq_or_of_lt (i := 4) (b := n - 1) (by omega) x
  rw [Nat.shiftLeft_eq] at this
  exact this.symm

theorem longHead_any (i : It) (A : Option Addr) (c : Nat) (w : World) (h : i.d.length ≤ 255) :
    Calls Try.prog 22 #[.agg #[.int .u8 (i.id.toNat : Int), .slice A i.d.length c]] w (Headed hdL i w) := by
  obtain ⟨id, d⟩ := i
  have hb := id.toNat_lt
  dsimp only at h
  have e : putS [(id.toNat, 1), (d.length, 1)] = hdL ⟨id, d⟩ := by
    rw [putS_cons, putS_cons, putS_nil, putOne_one, putOne_one]
    simp [hdL]
  have HE := Lib.hid e
  clear e
  dsimp only
  generalize id.toNat = x at *
  generalize d.length = n at *
  go_enter Try.func22, Try.ntmps22
  go_wp2_with fail
  refine (put_any _ 2 2 [(x, 1), (n, 1)] _ (Row.fresh2 _ _ _ _ _ _ _ rfl rfl) (by omega) (by simp; omega)).mono ?_
  rintro e w2 ⟨A2, c2, rfl, hown, b2⟩
  rw [HE.out] at hown ⊢
  have H : Headed hdL ⟨id, d⟩ w (.returned (.slice A2 (hdL ⟨id, d⟩).length c2)) w2 := ⟨A2, c2, rfl, Row.of_own hown, (((Below.refl _ _).alloc (Nat.le_refl _) _).alloc (by simp) _).trans (b2.mono (by simp; omega))⟩
  have HF := Lib.hid H
  clear H hown b2
  go_wp2
  go_ret
  exact HF.out

theorem shortHead_any (i : It) (A : Option Addr) (c : Nat) (w : World) (h : i.d.length ≤ 16) (h1 : 1 ≤ i.d.length) (h2 : i.id.toNat ≤ 14) :
    Calls Try.prog 23 #[.agg #[.int .u8 (i.id.toNat : Int), .slice A i.d.length c]] w (Headed hdS i w) := by
  obtain ⟨id, d⟩ := i
  dsimp only at h h1 h2
  dsimp only
  have e : putS [(id.toNat * 16 + (d.length - 1), 1)] = hdS ⟨id, d⟩ := by
    rw [putS_cons, putS_nil, putOne_one]
    simp [hdS]
  have HE := Lib.hid e
  clear e
  generalize id.toNat = x at *
  generalize d.length = n at *
  have HO := Lib.hid (or_four x n h2 h1 h)
  go_enter Try.func23, Try.ntmps23
  go_wp2_with fail
  rw [HO.out]
  refine (put_any _ 1 1 [(x * 16 + (n - 1), 1)] _ (Row.fresh2 _ _ _ _ _ _ _ rfl rfl) (by omega) (by simp; omega)).mono ?_
  rintro e w2 ⟨A2, c2, rfl, hown, b2⟩
  rw [HE.out] at hown ⊢
  have H : Headed hdS ⟨id, d⟩ w (.returned (.slice A2 (hdS ⟨id, d⟩).length c2)) w2 := ⟨A2, c2, rfl, Row.of_own hown, (((Below.refl _ _).alloc (Nat.le_refl _) _).alloc (by simp) _).trans (b2.mono (by simp; omega))⟩
  have HF := Lib.hid H
  clear H hown b2
  go_wp2
  go_ret
  exact HF.out
end Go.Proofs.Ytdfbbmaaonkjiaa
