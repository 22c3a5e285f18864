/-
  Contracts of package nack: take, Pack.
-/
import Derived.Test.YtoooemmjfmdiaaaNacA
import Derived.Test.YtoooemmjfmdiaaaSerF
namespace Go.Proofs.Ytoooemmjfmdiaaa
open Go.RowKit

/-- One number more is packed. -/
def stepP (ps : List (Nat × Nat)) (x : Nat) : List (Nat × Nat) :=
  match ps.getLast? with
  | none => [(x, 0)]
  | some (p, m) => if 16 < farN p x then ps ++ [(x, 0)] else if farN p x = 0 then ps else ps.dropLast ++ [(p, setb m (farN p x - 1))]
theorem stepP_nil (x : Nat) : stepP [] x = [(x, 0)] := rfl
theorem stepP_snoc (acc : List (Nat × Nat)) (p m x : Nat) : stepP (acc ++ [(p, m)]) x = if 16 < farN p x then acc ++ [(p, m)] ++ [(x, 0)] else if farN p x = 0 then acc ++ [(p, m)] else acc ++ [(p, setb m (farN p x - 1))] := by
  unfold stepP
  simp
theorem fold_packC : ∀ (r : List Nat) (acc : List (Nat × Nat)) (p m : Nat), r.foldl stepP (acc ++ [(p, m)]) = acc ++ packC p m r
  | [], acc, p, m => rfl
  | x :: r, acc, p, m => by
    rw [List.foldl_cons, stepP_snoc]
    unfold packC
    split
    · rw [fold_packC r (acc ++ [(p, m)]) x 0]; simp
    · split
      · exact fold_packC r acc p m
      · exact fold_packC r acc p _
theorem fold_packS (l : List Nat) : l.foldl stepP [] = packS l := by
  cases l with
  | nil => rfl
  | cons x r =>
    rw [List.foldl_cons, stepP_nil]
    exact fold_packC r [] x 0
theorem fold_take (l : List Nat) (k x : Nat) (h : l[k]? = some x) : (l.take (k + 1)).foldl stepP [] = stepP ((l.take k).foldl stepP []) x := by
  rw [List.take_add_one, h, List.foldl_append]
  rfl
theorem stepP_length (ps : List (Nat × Nat)) (x : Nat) : (stepP ps x).length ≤ ps.length + 1 := by
  rcases List.eq_nil_or_concat ps with rfl | ⟨acc, ⟨p, m⟩, rfl⟩
  · simp [stepP_nil]
  · rw [List.concat_eq_append, stepP_snoc]
    split
    · simp
    · split <;> simp
theorem stepP_fit (ps : List (Nat × Nat)) (x : Nat) (h : Fit ps) (hx : x < 65536) : Fit (stepP ps x) := by
  rcases List.eq_nil_or_concat ps with rfl | ⟨acc, ⟨p, m⟩, rfl⟩
  · intro q hq
    rw [stepP_nil] at hq
    simp at hq
    subst hq
    exact ⟨hx, Nat.zero_lt_succ _⟩
  · rw [List.concat_eq_append] at h ⊢
    rw [stepP_snoc]
    have hp := h (p, m) (by simp)
    split
    · intro q hq
      rcases List.mem_append.1 hq with hq | hq
      · exact h q hq
      · simp at hq; subst hq; exact ⟨hx, Nat.zero_lt_succ _⟩
    · split
      · exact h
      · intro q hq
        rcases List.mem_append.1 hq with hq | hq
        · exact h q (by simp [hq])
        · simp at hq; subst hq; exact ⟨hp.1, setb_lt hp.2 (by omega)⟩

theorem far_d16 (p x : Nat) (hp : p < 65536) (hx : x < 65536) (h : farN p x ≤ 16) : d16 p x = (farN p x : Nat) := by
  unfold farN at *; unfold d16; omega
theorem far_not (p x : Nat) (_hp : p < 65536) (_hx : x < 65536) (h : 16 < farN p x) : d16 p x < 0 ∨ 16 < d16 p x := by
  unfold farN at *; unfold d16; omega
theorem or_setb (m k : Nat) (hm : m < 65536) (hk : k < 16) : bits .or .u16 (m : Int) (IntKind.u16.wrap (2 ^ k)) = ((setb m k : Nat) : Int) := by
  have h2 : (2 : Nat) ^ k < 65536 := Nat.pow_lt_pow_right (a := 2) (m := k) (n := 16) (by decide) hk
  have e : IntKind.u16.wrap ((2 : Int) ^ k) = ((2 ^ k : Nat) : Int) := by
    rw [IntKind.wrap_u16]
    have e1 : ((2 : Int) ^ k) = ((2 ^ k : Nat) : Int) := by simp
    rw [e1]
    obtain ⟨y, hy⟩ : ∃ y : Nat, 2 ^ k = y := ⟨_, rfl⟩
    rw [hy] at h2 ⊢
    omega
  rw [e]
  exact u16_or_nat m (2 ^ k) hm h2

section
variable (g q p m x : Nat) (w : World) (hp : p < 65536) (hm : m < 65536) (hx : x < 65536)
  (h0 : w.cell? ⟨g, q, none⟩ = some (.int .u16 (p : Int))) (h1 : w.cell? ⟨g, q + 1, none⟩ = some (.int .u16 (m : Int))) (hfz : w.frozen? ⟨g, q + 1, none⟩ = false)
include hp hx h0
set_option maxRecDepth 100000 in
theorem take_no (h : 16 < farN p x) : Calls Try.prog 14 #[.pointer (some ⟨g, q, none⟩), .int .u16 (x : Int)] w fun e w' => e = .returned (.bool false) ∧ Below w.heap.size w w' := by
  have hd := far_not p x hp hx h
  have hbd := d16_bd p x
  clear h
  go_enter Try.func14, Try.ntmps14
  go_wp2_with fail
  refine (from16_any p x _).mono ?_
  rintro e w1 ⟨rfl, b1⟩
  generalize d16 (p : Int) (x : Int) = d at hd hbd
  rcases hd with hd | hd
  · go_wp2
    go_ret
    exact ⟨rfl, b1⟩
  · go_wp2
    go_ret
    exact ⟨rfl, b1⟩
set_option maxRecDepth 100000 in
theorem take_same (h : farN p x = 0) : Calls Try.prog 14 #[.pointer (some ⟨g, q, none⟩), .int .u16 (x : Int)] w fun e w' => e = .returned (.bool true) ∧ Below w.heap.size w w' := by
  have hd := far_d16 p x hp hx (by omega)
  rw [h] at hd
  clear h
  go_enter Try.func14, Try.ntmps14
  go_wp2_with fail
  refine (from16_any p x _).mono ?_
  rintro e w1 ⟨rfl, b1⟩
  rw [hd]
  clear hd
  go_wp2
  go_ret
  exact ⟨rfl, b1⟩
include hm h1 hfz
set_option maxRecDepth 100000 in
theorem take_bit (hg : g < w.heap.size) (h : ¬ 16 < farN p x) (h0' : farN p x ≠ 0) : Calls Try.prog 14 #[.pointer (some ⟨g, q, none⟩), .int .u16 (x : Int)] w fun e w' => e = .returned (.bool true) ∧ ∃ w1, Below w.heap.size w w1 ∧ w' = (w1.setCell ⟨g, q + 1, none⟩ (.int .u16 ((setb m (farN p x - 1) : Nat) : Int))).drew := by
  have hd := far_d16 p x hp hx (by omega)
  obtain ⟨f, hf⟩ : ∃ f, farN p x = f := ⟨_, rfl⟩
  rw [hf] at hd h h0' ⊢
  have hf16 : f ≤ 16 := by omega
  have hpos : 0 < f := by omega
  have HS := Lib.hid (or_setb m (f - 1) hm (by omega))
  have HC1 := Lib.hid (fun w' (b : Below w.heap.size w w') => (b.cell (p := ⟨g, q + 1, none⟩) hg).trans h1)
  have HF1 := Lib.hid (fun w' (b : Below w.heap.size w w') => (show w'.frozen? ⟨g, q + 1, none⟩ = false from (World.frozen?_of_block (a := ⟨g, q + 1, none⟩) (b.block g hg)).trans hfz))
  clear hf h h0' h1 hfz
  go_enter Try.func14, Try.ntmps14
  go_wp2_with fail
  refine (from16_any p x _).mono ?_
  rintro e w1 ⟨rfl, b1⟩
  rw [hd]
  clear hd h0
  have hc1 := HC1.out _ b1
  have hf1 := HF1.out _ b1
  have HB := Lib.hid b1
  clear b1 HC1 HF1
  go_wp2_with fail
  go_region
  go_wp2
  go_ret
  exact ⟨rfl, w1, HB.out, by rw [HS.out]⟩
end
end Go.Proofs.Ytoooemmjfmdiaaa
