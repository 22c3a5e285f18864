/-
  Several texts in one (ExtA, ExtB, ExtC, ExtD): what each of them says stands at its head.
-/
import Derived.Test.YticnaljfnjiofaaGpl
import Derived.Test.YticnaljfnjiofaaGoc
/-
  Items in memory, and contracts of package ext's small calls: isWrong, isLong, the search for an item, the heads.
-/
namespace Go.Proofs.Yticnaljfnjiofaa
open Go.RowKit

/-- An item in memory: where its data lie, and what room they have. -/
structure Ip where
  it : It
  A : Option Addr
  c : Nat
def Ip.cells (p : Ip) : List Value := [.int .u8 (p.it.id.toNat : Int), .slice p.A p.it.d.length p.c]
def ipC (ps : List Ip) : List Value := ps.flatMap Ip.cells
theorem ipC_length (ps : List Ip) : (ipC ps).length = ps.length * 2 := by induction ps <;> simp_all [ipC, Ip.cells]; omega
theorem ipC_get (ps : List Ip) (k : Nat) (hk : k < ps.length) : (ipC ps)[k * 2]? = some (.int .u8 (ps[k].it.id.toNat : Int)) ∧ (ipC ps)[k * 2 + 1]? = some (.slice ps[k].A ps[k].it.d.length ps[k].c) := by
  induction ps generalizing k with
  | nil => simp at hk
  | cons p l ih =>
    cases k with
    | zero => simp [ipC, Ip.cells]
    | succ k =>
      have h := ih k (by simpa using hk)
      have e : (k + 1) * 2 = k * 2 + 1 + 1 := by omega
      simpa [ipC, Ip.cells, e] using h
theorem ipC_snoc (ps : List Ip) (p : Ip) : ipC (ps ++ [p]) = ipC ps ++ p.cells := by simp [ipC]

/-- Items in memory. -/
def Its (w : World) (A : Option Addr) (ps : List Ip) : Prop :=
  Row w w.heap.size 2 A ps.length (ipC ps) ∧ ∀ p ∈ ps, Row w w.heap.size 1 p.A p.it.d.length (u8s p.it.d) ∧ p.it.d.length ≤ maxLen
theorem Its.next {w w' : World} {A : Option Addr} {ps : List Ip} (h : Its w A ps) (hb : Below w.heap.size w w') : Its w' A ps :=
  ⟨(h.1.below hb (Nat.le_refl _)).more hb.size, fun p hp => ⟨((h.2 p hp).1.below hb (Nat.le_refl _)).more hb.size, (h.2 p hp).2⟩⟩
theorem Its.at {w : World} {A : Option Addr} {ps : List Ip} (h : Its w A ps) (k : Nat) (hk : k < ps.length) :
    ∃ g o, A = some ⟨g, o, none⟩ ∧ g < w.heap.size ∧ w.cell? ⟨g, o + k * 2, none⟩ = some (.int .u8 (ps[k].it.id.toNat : Int)) ∧ w.cell? ⟨g, o + k * 2 + 1, none⟩ = some (.slice ps[k].A ps[k].it.d.length ps[k].c) := by
  obtain ⟨g, o, hA, hg, hc⟩ := h.1.2 (by omega)
  exact ⟨g, o, hA, hg, hc _ _ (ipC_get ps k hk).1, hc _ _ (ipC_get ps k hk).2⟩
theorem Its.drewN {w : World} {A : Option Addr} {ps : List Ip} (h : Its w A ps) (m : Nat) : Its (w.drewN m) A ps := h

theorem isWrong_any (i : It) (A : Option Addr) (c : Nat) (w : World) (h : i.d.length ≤ maxLen) :
    Calls Try.prog 87 #[.agg #[.int .u8 (i.id.toNat : Int), .slice A i.d.length c]] w fun e w' => e = .returned (.bool i.wrong) ∧ Below w.heap.size w w' := by
  unfold maxLen at h
  obtain ⟨id, d⟩ := i
  have hb := id.toNat_lt
  dsimp only at h ⊢
  have hw : It.wrong ⟨id, d⟩ = decide (id.toNat = 0 ∨ 255 < d.length) := rfl
  rw [hw]
  clear hw
  generalize id.toNat = x at *
  generalize d.length = n at *
  by_cases h0 : x = 0 <;> by_cases h1 : 255 < n
  all_goals
    go_enter Try.func87, Try.ntmps87
    go_wp2
    go_ret
    exact ⟨ret_bool (by simp [*] <;> omega), (Below.refl _ _).alloc (Nat.le_refl _) _⟩

theorem isLong_any (i : It) (A : Option Addr) (c : Nat) (w : World) (h : i.d.length ≤ maxLen) :
    Calls Try.prog 88 #[.agg #[.int .u8 (i.id.toNat : Int), .slice A i.d.length c]] w fun e w' => e = .returned (.bool i.big) ∧ Below w.heap.size w w' := by
  unfold maxLen at h
  obtain ⟨id, d⟩ := i
  have hb := id.toNat_lt
  dsimp only at h ⊢
  have hw : It.big ⟨id, d⟩ = decide (14 < id.toNat ∨ d.length < 1 ∨ 16 < d.length) := rfl
  rw [hw]
  clear hw
  generalize id.toNat = x at *
  generalize d.length = n at *
  by_cases h0 : 14 < x <;> by_cases h1 : n < 1 <;> by_cases h2 : 16 < n
  all_goals
    try (exfalso; omega)
  all_goals
    go_enter Try.func88, Try.ntmps88
    go_wp2
    go_ret
    exact ⟨ret_bool (by simp [*] <;> omega), (Below.refl _ _).alloc (Nat.le_refl _) _⟩
end Go.Proofs.Yticnaljfnjiofaa
/-
  Contracts of the search for an item (slices.IndexFunc, slices.ContainsFunc), by the three tests that package ext hands it.
-/
namespace Go.Proofs.Yticnaljfnjiofaa
open Go.RowKit

/-- Where the first item is of which q is true, or -1. -/
def IxAt (q : It → Bool) (ps : List Ip) (r : Int) : Prop :=
  (r = -1 ∧ ∀ p ∈ ps, q p.it = false) ∨ ∃ (k : Nat) (p : Ip), r = k ∧ ps[k]? = some p ∧ q p.it = true ∧ ∀ (j : Nat) (p' : Ip), j < k → ps[j]? = some p' → q p'.it = false
theorem IxAt.none {q : It → Bool} {ps : List Ip} (h : ∀ (j : Nat) (p : Ip), j < ps.length → ps[j]? = some p → q p.it = false) : IxAt q ps (-1) :=
  .inl ⟨rfl, fun p hp => by
    obtain ⟨j, hj⟩ := List.getElem?_of_mem hp
    exact h j p (List.getElem?_eq_some_iff.1 hj).1 hj⟩
theorem ix_next {q : It → Bool} {ps : List Ip} {k : Nat} {p : Ip} (h : ∀ (j : Nat) (p : Ip), j < k → ps[j]? = some p → q p.it = false) (hp : ps[k]? = some p) (hq : q p.it = false) : ∀ (j : Nat) (p : Ip), j < k + 1 → ps[j]? = some p → q p.it = false := by
  intro j p' hj hp'
  rcases Nat.lt_or_ge j k with h1 | h1
  · exact h j p' h1 hp'
  · obtain rfl : j = k := by omega
    rw [hp] at hp'
    injection hp' with hp'
    rw [← hp']
    exact hq
theorem IxAt.any {q : It → Bool} {ps : List Ip} {r : Int} (h : IxAt q ps r) : decide (0 ≤ r) = (ps.map Ip.it).any q := by
  rcases h with ⟨rfl, h⟩ | ⟨k, p, rfl, hp, hq, _⟩
  · symm
    simpa using h
  · have hm := List.mem_of_getElem? hp
    symm
    simp
    exact ⟨p, hm, hq⟩
def Ixed (q : It → Bool) (ps : List Ip) (w : World) (e : Ending) (w' : World) : Prop := ∃ r : Int, e = .returned (.int .i64 r) ∧ IxAt q ps r ∧ Below w.heap.size w w'

set_option maxRecDepth 100000 in
theorem index_wrong (A : Option Addr) (c : Nat) (ps : List Ip) (w : World) (h : Its w A ps) (hl : ps.length ≤ maxLen) :
    Calls Try.prog 95 #[.slice A ps.length c, .func (.func 87) #[] #[]] w (Ixed It.wrong ps w) := by
  unfold maxLen at hl
  have H := Lib.hid h
  clear h
  go_enter Try.func95, Try.ntmps95
  go_wp2
  go_loopw [8] (fun i wr => ∃ k : Nat, k ≤ ps.length ∧ i = .int .i64 k ∧ Hid (∀ (j : Nat) (p : Ip), j < k → ps[j]? = some p → It.wrong p.it = false) ∧ Below w.heap.size w wr) (fun i _ => ps.length - (intOf i).toNat)
  case atStart => exact ⟨0, Nat.zero_le _, rfl, fun j p hj => absurd hj (by omega), Below.refl _ _⟩
  case round =>
    obtain ⟨k, hk, rfl, hn, hb⟩ := hrel
    by_cases hlt : k < ps.length
    · obtain ⟨g, o, hA, hg, hc0, hc1⟩ := (H.out.next hb).at k hlt
      subst hA
      have hlen := (H.out.2 ps[k] (List.getElem_mem _)).2
      have hp : ps[k]? = some ps[k] := by simp [hlt]
      generalize ps[k] = p at hc0 hc1 hlen hp
      have hi1 : (0 : Int) ≤ (k : Int) := by omega
      have hi2 : (k : Int) < (ps.length : Int) := by omega
      have C := fun wx => isWrong_any p.it p.A p.c wx hlen
      have hyes := Lib.hid (fun hq => show IxAt It.wrong ps k from .inr ⟨k, p, rfl, hp, hq, hn.out⟩)
      have hnext := Lib.hid (fun hq => ix_next (q := It.wrong) hn.out hp hq)
      have HB := Lib.hid hb
      clear hn hp hb hlen
      generalize hq : It.wrong p.it = t at C
      have HQ := Lib.hid hq
      clear hq
      cases t with
      | true =>
        go_wp2_with (go_at_call 87; refine (C _).mono ?_; rintro e w2 ⟨rfl, b2⟩)
        go_ret
        exact ⟨_, rfl, hyes.out HQ.out, bnext HB.out b2⟩
      | false =>
        go_wp2_with (go_at_call 87; refine (C _).mono ?_; rintro e w2 ⟨rfl, b2⟩)
        go_roundw
        case rel => exact ⟨k + 1, by omega, by go_num, hnext.out HQ.out, bnext HB.out b2⟩
        case measure => simp [intOf]; omega
    · obtain rfl : k = ps.length := by omega
      have HF := Lib.hid (show Ixed It.wrong ps w (.returned (.int .i64 (-1))) wr from ⟨-1, rfl, IxAt.none hn.out, hb⟩)
      clear hn hb
      go_wp2
      go_ret
      exact HF.out

theorem contains_wrong (A : Option Addr) (c : Nat) (ps : List Ip) (w : World) (h : Its w A ps) (hl : ps.length ≤ maxLen) :
    Calls Try.prog 86 #[.slice A ps.length c, .func (.func 87) #[] #[]] w fun e w' => e = .returned (.bool ((ps.map Ip.it).any It.wrong)) ∧ Below w.heap.size w w' := by
  go_enter Try.func86, Try.ntmps86
  go_wp2_with fail
  refine (index_wrong A c ps w h hl).mono ?_
  rintro e w2 ⟨r, rfl, hr, b2⟩
  have H := Lib.hid hr.any
  clear hr
  go_wp2
  go_ret
  exact ⟨ret_bool H.out, b2⟩

set_option maxRecDepth 100000 in
theorem index_long (A : Option Addr) (c : Nat) (ps : List Ip) (w : World) (h : Its w A ps) (hl : ps.length ≤ maxLen) :
    Calls Try.prog 95 #[.slice A ps.length c, .func (.func 88) #[] #[]] w (Ixed It.big ps w) := by
  unfold maxLen at hl
  have H := Lib.hid h
  clear h
  go_enter Try.func95, Try.ntmps95
  go_wp2
  go_loopw [8] (fun i wr => ∃ k : Nat, k ≤ ps.length ∧ i = .int .i64 k ∧ Hid (∀ (j : Nat) (p : Ip), j < k → ps[j]? = some p → It.big p.it = false) ∧ Below w.heap.size w wr) (fun i _ => ps.length - (intOf i).toNat)
  case atStart => exact ⟨0, Nat.zero_le _, rfl, fun j p hj => absurd hj (by omega), Below.refl _ _⟩
  case round =>
    obtain ⟨k, hk, rfl, hn, hb⟩ := hrel
    by_cases hlt : k < ps.length
    · obtain ⟨g, o, hA, hg, hc0, hc1⟩ := (H.out.next hb).at k hlt
      subst hA
      have hlen := (H.out.2 ps[k] (List.getElem_mem _)).2
      have hp : ps[k]? = some ps[k] := by simp [hlt]
      generalize ps[k] = p at hc0 hc1 hlen hp
      have hi1 : (0 : Int) ≤ (k : Int) := by omega
      have hi2 : (k : Int) < (ps.length : Int) := by omega
      have C := fun wx => isLong_any p.it p.A p.c wx hlen
      have hyes := Lib.hid (fun hq => show IxAt It.big ps k from .inr ⟨k, p, rfl, hp, hq, hn.out⟩)
      have hnext := Lib.hid (fun hq => ix_next (q := It.big) hn.out hp hq)
      have HB := Lib.hid hb
      clear hn hp hb hlen
      generalize hq : It.big p.it = t at C
      have HQ := Lib.hid hq
      clear hq
      cases t with
      | true =>
        go_wp2_with (go_at_call 88; refine (C _).mono ?_; rintro e w2 ⟨rfl, b2⟩)
        go_ret
        exact ⟨_, rfl, hyes.out HQ.out, bnext HB.out b2⟩
      | false =>
        go_wp2_with (go_at_call 88; refine (C _).mono ?_; rintro e w2 ⟨rfl, b2⟩)
        go_roundw
        case rel => exact ⟨k + 1, by omega, by go_num, hnext.out HQ.out, bnext HB.out b2⟩
        case measure => simp [intOf]; omega
    · obtain rfl : k = ps.length := by omega
      have HF := Lib.hid (show Ixed It.big ps w (.returned (.int .i64 (-1))) wr from ⟨-1, rfl, IxAt.none hn.out, hb⟩)
      clear hn hb
      go_wp2
      go_ret
      exact HF.out

theorem contains_long (A : Option Addr) (c : Nat) (ps : List Ip) (w : World) (h : Its w A ps) (hl : ps.length ≤ maxLen) :
    Calls Try.prog 86 #[.slice A ps.length c, .func (.func 88) #[] #[]] w fun e w' => e = .returned (.bool ((ps.map Ip.it).any It.big)) ∧ Below w.heap.size w w' := by
  go_enter Try.func86, Try.ntmps86
  go_wp2_with fail
  refine (index_long A c ps w h hl).mono ?_
  rintro e w2 ⟨r, rfl, hr, b2⟩
  have H := Lib.hid hr.any
  clear hr
  go_wp2
  go_ret
  exact ⟨ret_bool H.out, b2⟩
end Go.Proofs.Yticnaljfnjiofaa
/-
  Contracts of package ext's heads.
-/
namespace Go.Proofs.Yticnaljfnjiofaa
open Go.RowKit

/-- A head: new bytes. -/
def Headed (hd : It → List UInt8) (i : It) (w : World) (e : Ending) (w' : World) : Prop :=
  ∃ A c, e = .returned (.slice A (hd i).length c) ∧ Row w' w'.heap.size 1 A (hd i).length (u8s (hd i)) ∧ Below w.heap.size w w'

theorem or_four (x n : Nat) (hx : x ≤ 14) (h1 : 1 ≤ n) (hn : n ≤ 16) : bits .or .u64 ((x : Int) * 16) ((n : Int) - 1) = ((x * 16 + (n - 1) : Nat) : Int) := by
  have e1 : (x : Int) * 16 = ((x * 16 : Nat) : Int) := by omega
  have e2 : (n : Int) - 1 = ((n - 1 : Nat) : Int) := by omega
  rw [e1, e2, u64_or_nat _ _ (by omega) (by omega)]
  congr 1
  have := Nat.shiftLeft_add_eq_or_of_lt (i := 4) (b := n - 1) (by omega) x
  rw [Nat.shiftLeft_eq] at this
  exact this.symm

theorem longHead_any (i : It) (A : Option Addr) (c : Nat) (w : World) (h : i.d.length ≤ 255) :
    Calls Try.prog 90 #[.agg #[.int .u8 (i.id.toNat : Int), .slice A i.d.length c]] w (Headed hdL i w) := by
  obtain ⟨id, d⟩ := i
  have hb := id.toNat_lt
  dsimp only at h
  have e : putS [(id.toNat, 1), (d.length, 1)] = hdL ⟨id, d⟩ := by
    rw [putS_cons, putS_cons, putS_nil, putOne_one, putOne_one]
    simp [hdL]
  have HE := Lib.hid e
  clear e
  dsimp only
  generalize id.toNat = x at *
  generalize d.length = n at *
  go_enter Try.func90, Try.ntmps90
  go_wp2_with fail
  refine (put_any _ 2 2 [(x, 1), (n, 1)] _ (Row.fresh2 _ _ _ _ _ _ _ rfl rfl) (by omega) (by simp; omega)).mono ?_
  rintro e w2 ⟨A2, c2, rfl, hown, b2⟩
  rw [HE.out] at hown ⊢
  have H : Headed hdL ⟨id, d⟩ w (.returned (.slice A2 (hdL ⟨id, d⟩).length c2)) w2 := ⟨A2, c2, rfl, Row.of_own hown, (((Below.refl _ _).alloc (Nat.le_refl _) _).alloc (by simp) _).trans (b2.mono (by simp; omega))⟩
  have HF := Lib.hid H
  clear H hown b2
  go_wp2
  go_ret
  exact HF.out

theorem shortHead_any (i : It) (A : Option Addr) (c : Nat) (w : World) (h : i.d.length ≤ 16) (h1 : 1 ≤ i.d.length) (h2 : i.id.toNat ≤ 14) :
    Calls Try.prog 91 #[.agg #[.int .u8 (i.id.toNat : Int), .slice A i.d.length c]] w (Headed hdS i w) := by
  obtain ⟨id, d⟩ := i
  dsimp only at h h1 h2
  dsimp only
  have e : putS [(id.toNat * 16 + (d.length - 1), 1)] = hdS ⟨id, d⟩ := by
    rw [putS_cons, putS_nil, putOne_one]
    simp [hdS]
  have HE := Lib.hid e
  clear e
  generalize id.toNat = x at *
  generalize d.length = n at *
  have HO := Lib.hid (or_four x n h2 h1 h)
  go_enter Try.func91, Try.ntmps91
  go_wp2_with fail
  rw [HO.out]
  refine (put_any _ 1 1 [(x * 16 + (n - 1), 1)] _ (Row.fresh2 _ _ _ _ _ _ _ rfl rfl) (by omega) (by simp; omega)).mono ?_
  rintro e w2 ⟨A2, c2, rfl, hown, b2⟩
  rw [HE.out] at hown ⊢
  have H : Headed hdS ⟨id, d⟩ w (.returned (.slice A2 (hdS ⟨id, d⟩).length c2)) w2 := ⟨A2, c2, rfl, Row.of_own hown, (((Below.refl _ _).alloc (Nat.le_refl _) _).alloc (by simp) _).trans (b2.mono (by simp; omega))⟩
  have HF := Lib.hid H
  clear H hown b2
  go_wp2
  go_ret
  exact HF.out
end Go.Proofs.Yticnaljfnjiofaa
/-
  Contracts of package ext's bytesOf, by either head, and of Put.
-/
namespace Go.Proofs.Yticnaljfnjiofaa
open Go.RowKit

/-- New bytes. -/
def NewBytes (bs : List UInt8) (w : World) (e : Ending) (w' : World) : Prop :=
  ∃ A c, e = .returned (.slice A bs.length c) ∧ Row w' w'.heap.size 1 A bs.length (u8s bs) ∧ Below w.heap.size w w'
def lenV : Value → Nat
  | .slice _ n _ => n
  | _ => 0
set_option maxRecDepth 100000 in
set_option maxHeartbeats 800000 in
theorem bytesOf_long (A : Option Addr) (c : Nat) (ps : List Ip) (w : World) (h : Its w A ps) (hl : ps.length ≤ 14) (hq : ∀ p ∈ ps, p.it.d.length ≤ 255) :
    Calls Try.prog 89 #[.slice A ps.length c, .func (.func 90) #[] #[]] w (NewBytes (pad (enc hdL (ps.map Ip.it))) w) := by
  have H := Lib.hid h
  have HQ := Lib.hid hq
  obtain ⟨l, hll⟩ : ∃ l, l = ps.map Ip.it := ⟨_, rfl⟩
  have HL := Lib.hid hll
  rw [← hll]
  obtain ⟨bs, hbs⟩ : ∃ bs, bs = enc hdL l := ⟨_, rfl⟩
  have HBS := Lib.hid hbs
  rw [← hbs]
  clear h hq hll hbs
  have hacc0 : Hid (∀ k, (enc hdL (l.take k)).length ≤ 3598) := by
    intro k
    have := enc_len hdL 2 255 hdL_len (l.take k) (fun i hi => by
      have := List.mem_of_mem_take hi
      rw [HL.out] at this
      obtain ⟨p, hp, rfl⟩ := List.mem_map.1 this
      have := HQ.out p hp
      omega)
    have h2 : (l.take k).length ≤ 14 := by rw [HL.out]; simp; omega
    have h3 : (l.take k).length * (2 + 255) ≤ 14 * (2 + 255) := Nat.mul_le_mul_right _ h2
    omega
  go_enter Try.func89, Try.ntmps89
  go_wp2
  go_loopw [5, 10] (fun v i wr => ∃ k : Nat, k ≤ ps.length ∧ i = .int .i64 k ∧ wr.ownsRow w.heap.size 5 1 v (enc hdL (l.take k)).length (u8s (enc hdL (l.take k))) ∧ Below w.heap.size w wr) (fun _ i _ => ps.length - (intOf i).toNat)
  case atStart => exact ⟨0, Nat.zero_le _, rfl, World.ownsRow_nil _ _ _ _, Below.refl _ _⟩
  case round =>
    obtain ⟨k, hk, rfl, hown, hb⟩ := hrel
    by_cases hlt : k < ps.length
    · obtain ⟨g, o, hA, hg, hc0, hc1⟩ := (H.out.next hb).at k hlt
      subst hA
      have hd := (H.out.2 ps[k] (List.getElem_mem _)).1
      have hlen := HQ.out ps[k] (List.getElem_mem _)
      have hkl : k < l.length := by rw [HL.out]; simpa using hlt
      have htk := enc_take hdL l k hkl
      have hlk : l[k] = ps[k].it := by simp [HL.out]
      rw [hlk] at htk
      have hacc := hacc0.out k
      generalize ps[k] = p at hc0 hc1 hd hlen htk
      generalize enc hdL (l.take k) = acc at hown htk hacc
      have HT := Lib.hid htk
      have hi1 : (0 : Int) ≤ (k : Int) := by omega
      have hi2 : (k : Int) < (ps.length : Int) := by omega
      have hhd := hdL_len p.it
      clear htk hlk hkl
      go_wp2_with fail
      refine (longHead_any p.it p.A p.c _ hlen).mono ?_
      rintro e w2 ⟨A2, c2, rfl, r2, b2⟩
      have b2' : Below wr.heap.size wr w2 := ((Below.refl _ wr).alloc (Nat.le_refl _) _).trans (b2.mono (by simp))
      have own2 := own_below hown b2' (Nat.le_refl _)
      have hw2 : Whole w2 wr.heap.size 68 #[.int .u8 (p.it.id.toNat : Int), .slice p.A p.it.d.length p.c] := (Whole.new wr _ _).below b2 (by simp)
      have B2 := bnext hb b2'
      have hlen' : p.it.d.length ≤ 255 := by omega
      rw [hhd] at r2
      clear hown hb b2 b2' hc0 hc1 hg hlen
      go_wp2_with (at_builtin; go_loud (refine wpl_append _ rfl (.tmp 14) (.tmp 17) 33 rfl w.heap.size 5 (.int .u8 0) 1 1 Try.underlying33 info_u8 rfl (by decide) _ _ _ rfl own2 _ _ _ _ _ rfl r2 (u8s_one _) ?c1 ?c2 ?c3 ?_))
      case c1 => unfold maxLen; omega
      case c2 => omega
      case c3 => exact B2.size
      intro v3 w3 own3 g3 _
      have hw3 := hw2.grown g3 (own_far own2 hw2 (by decide))
      have B3 := B2.grown g3 B2.size (fun q hq => (own2.lt q hq).1)
      have hd3 := hd.below B3 (Nat.le_refl _)
      have hc3 := hw3.cell 1
      clear own2 g3 hw2 hw3 B2 r2 hd
      go_wp2_with (at_builtin; go_loud (refine wpl_append _ rfl (.tmp 19) (.tmp 21) 33 rfl w.heap.size 5 (.int .u8 0) 1 1 Try.underlying33 info_u8 rfl (by decide) _ _ _ rfl own3 _ _ _ _ _ rfl hd3 (u8s_one _) ?d1 ?d2 ?d3 ?_))
      case d1 => unfold maxLen; omega
      case d2 => omega
      case d3 => exact B3.size
      intro v4 w4 own4 g4 _
      have B4 := B3.grown g4 B3.size (fun q hq => (own3.lt q hq).1)
      have R : w4.ownsRow w.heap.size 5 1 v4 (enc hdL (l.take (k + 1))).length (u8s (enc hdL (l.take (k + 1)))) := by
        have e : (acc ++ (hdL p.it ++ p.it.d)).length = acc.length + 2 + p.it.d.length := by simp [hhd]; omega
        rw [HT.out, e, u8s_append, u8s_append]
        exact own4
      clear own3 own4 g4 B3 hd3 hc3
      go_wp2
      go_roundw
      case rel => exact ⟨k + 1, by omega, by go_num, R, B4⟩
      case measure => simp [intOf]; omega
    · obtain rfl : k = ps.length := by omega
      have hl2 : ps.length = l.length := by rw [HL.out]; simp
      have hacc := hacc0.out ps.length
      rw [hl2, List.take_length, ← HBS.out] at hown hacc
      clear hacc0
      have HL2 := Lib.hid hl2
      clear hl2 H
      go_wp2_with fail
      go_loopw [5] (fun v wr => ∃ m : Nat, m ≤ padN bs.length ∧ wr.ownsRow w.heap.size 5 1 v (bs ++ List.replicate m (0 : UInt8)).length (u8s (bs ++ List.replicate m (0 : UInt8))) ∧ Below w.heap.size w wr) (fun v _ => bs.length + 4 - lenV v)
      case atStart => exact ⟨0, Nat.zero_le _, by simpa using hown, hb⟩
      case round =>
        clear hown hb
        obtain ⟨m, hm, hown, hb⟩ := hrel
        have hm3 : padN bs.length ≤ 3 := by unfold padN; omega
        have hN3 : (bs ++ List.replicate m (0 : UInt8)).length = bs.length + m := by simp
        by_cases hlt : m < padN bs.length
        · have h4 := pad_step bs m hlt
          have hrep : bs ++ List.replicate (m + 1) (0 : UInt8) = (bs ++ List.replicate m (0 : UInt8)) ++ [0] := by rw [List.replicate_succ', List.append_assoc]
          generalize bs ++ List.replicate m (0 : UInt8) = L at hown h4 hrep hN3
          have HR := Lib.hid hrep
          rw [hN3] at hown h4
          obtain ⟨A5, c5, rfl⟩ := own_form hown
          have h4' : ¬ ((bs.length : Int) + m) % 4 = 0 := by omega
          have HN := Lib.hid hN3
          clear hrep hN3 h4
          go_wp2_with (at_builtin; go_loud (refine wpl_append _ rfl (.tmp 28) (.tmp 29) 33 rfl w.heap.size 5 (.int .u8 0) 1 1 Try.underlying33 info_u8 rfl (by decide) _ _ _ rfl (hown.alloc _) _ _ 1 1 [.int .u8 0] rfl (Row.one _ _ _) ?e0 ?e1 ?e2 ?e3 ?_))
          case e0 => intro u hu; simp at hu; subst hu; rfl
          case e1 => unfold maxLen; omega
          case e2 => omega
          case e3 => have := hb.size; simp; omega
          intro v6 w6 own6 g6 _
          have B6 := (hb.alloc hb.size _).grown g6 (by have := hb.size; simp; omega) (fun q hq => (hown.lt q hq).1)
          have R : w6.ownsRow w.heap.size 5 1 v6 (bs ++ List.replicate (m + 1) (0 : UInt8)).length (u8s (bs ++ List.replicate (m + 1) (0 : UInt8))) := by
            have e : (L ++ [(0 : UInt8)]).length = bs.length + m + 1 := by simp [HN.out]
            rw [HR.out, u8s_append, e]
            exact own6
          obtain ⟨A7, c7, rfl⟩ := own_form own6
          clear own6 g6 hown hb
          go_wp2
          go_roundw
          case rel => exact ⟨m + 1, by omega, R, B6⟩
          case measure => simp [lenV]; omega
        · obtain ⟨h4, hp⟩ := pad_done bs m hm hlt
          rw [hp] at hown h4
          have HF := Lib.hid (show ∀ v, wr.ownsRow w.heap.size 5 1 v (pad bs).length (u8s (pad bs)) → NewBytes (pad bs) w (.returned v) wr from fun v hv => by
            obtain ⟨A5, c5, rfl⟩ := own_form hv
            exact ⟨A5, c5, rfl, Row.of_own hv, hb⟩)
          have HF2 := Lib.hid (HF.out _ hown)
          obtain ⟨A5, c5, rfl⟩ := own_form hown
          have h4' : ((pad bs).length : Int) % 4 = 0 := by omega
          have hpb : (pad bs).length ≤ 3601 := by rw [← hp, hN3]; omega
          clear hp hown hb HF h4 hN3
          go_wp2
          go_ret
          exact HF2.out

set_option maxRecDepth 100000 in
set_option maxHeartbeats 800000 in
theorem bytesOf_short (A : Option Addr) (c : Nat) (ps : List Ip) (w : World) (h : Its w A ps) (hl : ps.length ≤ 14) (hq : ∀ p ∈ ps, p.it.id.toNat ≤ 14 ∧ 1 ≤ p.it.d.length ∧ p.it.d.length ≤ 16) :
    Calls Try.prog 89 #[.slice A ps.length c, .func (.func 91) #[] #[]] w (NewBytes (pad (enc hdS (ps.map Ip.it))) w) := by
  have H := Lib.hid h
  have HQ := Lib.hid hq
  obtain ⟨l, hll⟩ : ∃ l, l = ps.map Ip.it := ⟨_, rfl⟩
  have HL := Lib.hid hll
  rw [← hll]
  obtain ⟨bs, hbs⟩ : ∃ bs, bs = enc hdS l := ⟨_, rfl⟩
  have HBS := Lib.hid hbs
  rw [← hbs]
  clear h hq hll hbs
  have hacc0 : Hid (∀ k, (enc hdS (l.take k)).length ≤ 3598) := by
    intro k
    have := enc_len hdS 1 255 hdS_len (l.take k) (fun i hi => by
      have := List.mem_of_mem_take hi
      rw [HL.out] at this
      obtain ⟨p, hp, rfl⟩ := List.mem_map.1 this
      have := HQ.out p hp
      omega)
    have h2 : (l.take k).length ≤ 14 := by rw [HL.out]; simp; omega
    have h3 : (l.take k).length * (1 + 255) ≤ 14 * (1 + 255) := Nat.mul_le_mul_right _ h2
    omega
  go_enter Try.func89, Try.ntmps89
  go_wp2
  go_loopw [5, 10] (fun v i wr => ∃ k : Nat, k ≤ ps.length ∧ i = .int .i64 k ∧ wr.ownsRow w.heap.size 5 1 v (enc hdS (l.take k)).length (u8s (enc hdS (l.take k))) ∧ Below w.heap.size w wr) (fun _ i _ => ps.length - (intOf i).toNat)
  case atStart => exact ⟨0, Nat.zero_le _, rfl, World.ownsRow_nil _ _ _ _, Below.refl _ _⟩
  case round =>
    obtain ⟨k, hk, rfl, hown, hb⟩ := hrel
    by_cases hlt : k < ps.length
    · obtain ⟨g, o, hA, hg, hc0, hc1⟩ := (H.out.next hb).at k hlt
      subst hA
      have hd := (H.out.2 ps[k] (List.getElem_mem _)).1
      have hlen := HQ.out ps[k] (List.getElem_mem _)
      have hkl : k < l.length := by rw [HL.out]; simpa using hlt
      have htk := enc_take hdS l k hkl
      have hlk : l[k] = ps[k].it := by simp [HL.out]
      rw [hlk] at htk
      have hacc := hacc0.out k
      generalize ps[k] = p at hc0 hc1 hd hlen htk
      generalize enc hdS (l.take k) = acc at hown htk hacc
      have HT := Lib.hid htk
      have hi1 : (0 : Int) ≤ (k : Int) := by omega
      have hi2 : (k : Int) < (ps.length : Int) := by omega
      have hhd := hdS_len p.it
      clear htk hlk hkl
      go_wp2_with fail
      refine (shortHead_any p.it p.A p.c _ hlen.2.2 hlen.2.1 hlen.1).mono ?_
      rintro e w2 ⟨A2, c2, rfl, r2, b2⟩
      have b2' : Below wr.heap.size wr w2 := ((Below.refl _ wr).alloc (Nat.le_refl _) _).trans (b2.mono (by simp))
      have own2 := own_below hown b2' (Nat.le_refl _)
      have hw2 : Whole w2 wr.heap.size 68 #[.int .u8 (p.it.id.toNat : Int), .slice p.A p.it.d.length p.c] := (Whole.new wr _ _).below b2 (by simp)
      have B2 := bnext hb b2'
      have hlen' : p.it.d.length ≤ 255 := by omega
      rw [hhd] at r2
      clear hown hb b2 b2' hc0 hc1 hg hlen
      go_wp2_with (at_builtin; go_loud (refine wpl_append _ rfl (.tmp 14) (.tmp 17) 33 rfl w.heap.size 5 (.int .u8 0) 1 1 Try.underlying33 info_u8 rfl (by decide) _ _ _ rfl own2 _ _ _ _ _ rfl r2 (u8s_one _) ?c1 ?c2 ?c3 ?_))
      case c1 => unfold maxLen; omega
      case c2 => omega
      case c3 => exact B2.size
      intro v3 w3 own3 g3 _
      have hw3 := hw2.grown g3 (own_far own2 hw2 (by decide))
      have B3 := B2.grown g3 B2.size (fun q hq => (own2.lt q hq).1)
      have hd3 := hd.below B3 (Nat.le_refl _)
      have hc3 := hw3.cell 1
      clear own2 g3 hw2 hw3 B2 r2 hd
      go_wp2_with (at_builtin; go_loud (refine wpl_append _ rfl (.tmp 19) (.tmp 21) 33 rfl w.heap.size 5 (.int .u8 0) 1 1 Try.underlying33 info_u8 rfl (by decide) _ _ _ rfl own3 _ _ _ _ _ rfl hd3 (u8s_one _) ?d1 ?d2 ?d3 ?_))
      case d1 => unfold maxLen; omega
      case d2 => omega
      case d3 => exact B3.size
      intro v4 w4 own4 g4 _
      have B4 := B3.grown g4 B3.size (fun q hq => (own3.lt q hq).1)
      have R : w4.ownsRow w.heap.size 5 1 v4 (enc hdS (l.take (k + 1))).length (u8s (enc hdS (l.take (k + 1)))) := by
        have e : (acc ++ (hdS p.it ++ p.it.d)).length = acc.length + 1 + p.it.d.length := by simp [hhd]; omega
        rw [HT.out, e, u8s_append, u8s_append]
        exact own4
      clear own3 own4 g4 B3 hd3 hc3
      go_wp2
      go_roundw
      case rel => exact ⟨k + 1, by omega, by go_num, R, B4⟩
      case measure => simp [intOf]; omega
    · obtain rfl : k = ps.length := by omega
      have hl2 : ps.length = l.length := by rw [HL.out]; simp
      have hacc := hacc0.out ps.length
      rw [hl2, List.take_length, ← HBS.out] at hown hacc
      clear hacc0
      have HL2 := Lib.hid hl2
      clear hl2 H
      go_wp2_with fail
      go_loopw [5] (fun v wr => ∃ m : Nat, m ≤ padN bs.length ∧ wr.ownsRow w.heap.size 5 1 v (bs ++ List.replicate m (0 : UInt8)).length (u8s (bs ++ List.replicate m (0 : UInt8))) ∧ Below w.heap.size w wr) (fun v _ => bs.length + 4 - lenV v)
      case atStart => exact ⟨0, Nat.zero_le _, by simpa using hown, hb⟩
      case round =>
        clear hown hb
        obtain ⟨m, hm, hown, hb⟩ := hrel
        have hm3 : padN bs.length ≤ 3 := by unfold padN; omega
        have hN3 : (bs ++ List.replicate m (0 : UInt8)).length = bs.length + m := by simp
        by_cases hlt : m < padN bs.length
        · have h4 := pad_step bs m hlt
          have hrep : bs ++ List.replicate (m + 1) (0 : UInt8) = (bs ++ List.replicate m (0 : UInt8)) ++ [0] := by rw [List.replicate_succ', List.append_assoc]
          generalize bs ++ List.replicate m (0 : UInt8) = L at hown h4 hrep hN3
          have HR := Lib.hid hrep
          rw [hN3] at hown h4
          obtain ⟨A5, c5, rfl⟩ := own_form hown
          have h4' : ¬ ((bs.length : Int) + m) % 4 = 0 := by omega
          have HN := Lib.hid hN3
          clear hrep hN3 h4
          go_wp2_with (at_builtin; go_loud (refine wpl_append _ rfl (.tmp 28) (.tmp 29) 33 rfl w.heap.size 5 (.int .u8 0) 1 1 Try.underlying33 info_u8 rfl (by decide) _ _ _ rfl (hown.alloc _) _ _ 1 1 [.int .u8 0] rfl (Row.one _ _ _) ?e0 ?e1 ?e2 ?e3 ?_))
          case e0 => intro u hu; simp at hu; subst hu; rfl
          case e1 => unfold maxLen; omega
          case e2 => omega
          case e3 => have := hb.size; simp; omega
          intro v6 w6 own6 g6 _
          have B6 := (hb.alloc hb.size _).grown g6 (by have := hb.size; simp; omega) (fun q hq => (hown.lt q hq).1)
          have R : w6.ownsRow w.heap.size 5 1 v6 (bs ++ List.replicate (m + 1) (0 : UInt8)).length (u8s (bs ++ List.replicate (m + 1) (0 : UInt8))) := by
            have e : (L ++ [(0 : UInt8)]).length = bs.length + m + 1 := by simp [HN.out]
            rw [HR.out, u8s_append, e]
            exact own6
          obtain ⟨A7, c7, rfl⟩ := own_form own6
          clear own6 g6 hown hb
          go_wp2
          go_roundw
          case rel => exact ⟨m + 1, by omega, R, B6⟩
          case measure => simp [lenV]; omega
        · obtain ⟨h4, hp⟩ := pad_done bs m hm hlt
          rw [hp] at hown h4
          have HF := Lib.hid (show ∀ v, wr.ownsRow w.heap.size 5 1 v (pad bs).length (u8s (pad bs)) → NewBytes (pad bs) w (.returned v) wr from fun v hv => by
            obtain ⟨A5, c5, rfl⟩ := own_form hv
            exact ⟨A5, c5, rfl, Row.of_own hv, hb⟩)
          have HF2 := Lib.hid (HF.out _ hown)
          obtain ⟨A5, c5, rfl⟩ := own_form hown
          have h4' : ((pad bs).length : Int) % 4 = 0 := by omega
          have hpb : (pad bs).length ≤ 3601 := by rw [← hp, hN3]; omega
          clear hp hown hb HF h4 hN3
          go_wp2
          go_ret
          exact HF2.out

/-- What Put tells. -/
def PutTold (l : List It) (w : World) (e : Ending) (w' : World) : Prop :=
  ∃ A c, e = .returned (.tuple #[.int .u16 (putP l), .slice A (putB l).length c, .int .i64 (putE l)]) ∧ Row w' w'.heap.size 1 A (putB l).length (u8s (putB l)) ∧ Below w.heap.size w w'
set_option maxRecDepth 100000 in
theorem extPut_any (A : Option Addr) (c : Nat) (ps : List Ip) (w : World) (h : Its w A ps) (hl : ps.length ≤ maxLen) :
    Calls Try.prog 72 #[.slice A ps.length c] w (PutTold (ps.map Ip.it) w) := by
  have hl' := hl
  unfold maxLen at hl'
  by_cases h14 : 14 < ps.length
  · have he : putE (ps.map Ip.it) = 13 := by unfold putE; rw [if_pos (by simpa using h14)]
    have HF := Lib.hid (show PutTold (ps.map Ip.it) w (.returned (.tuple #[.int .u16 0, .slice none 0 0, .int .i64 13])) w from ⟨none, 0, by rw [putB_no (by simp [he]), putP_no (by simp [he]), he]; rfl, by rw [putB_no (by simp [he])]; exact Row.nil, Below.refl _ _⟩)
    clear he h
    go_enter Try.func72, Try.ntmps72
    go_wp2
    go_ret3
    exact HF.out
  cases hw : (ps.map Ip.it).any It.wrong with
  | true =>
    have he : putE (ps.map Ip.it) = 1 := by unfold putE; rw [if_neg (by simpa using h14), if_pos hw]
    have HF := Lib.hid (fun w' (hb : Below w.heap.size w w') => show PutTold (ps.map Ip.it) w (.returned (.tuple #[.int .u16 0, .slice none 0 0, .int .i64 1])) w' from ⟨none, 0, by rw [putB_no (by simp [he]), putP_no (by simp [he]), he]; rfl, by rw [putB_no (by simp [he])]; exact Row.nil, hb⟩)
    have C := contains_wrong A c ps w h hl
    rw [hw] at C
    clear he h hw
    go_enter Try.func72, Try.ntmps72
    go_wp2_with fail
    refine C.mono ?_
    rintro e w2 ⟨rfl, b2⟩
    go_wp2
    go_ret3
    exact HF.out _ b2
  | false =>
    have he : putE (ps.map Ip.it) = 0 := by unfold putE; rw [if_neg (by simpa using h14), if_neg (by simp [hw])]
    have hok := (any_wrong he).2
    have C := contains_wrong A c ps w h hl
    rw [hw] at C
    cases hg : (ps.map Ip.it).any It.big with
    | true =>
      have HF := Lib.hid (fun A2 c2 w' (hr : Row w' w'.heap.size 1 A2 (pad (enc hdL (ps.map Ip.it))).length (u8s (pad (enc hdL (ps.map Ip.it))))) (hb : Below w.heap.size w w') => show PutTold (ps.map Ip.it) w (.returned (.tuple #[.int .u16 4096, .slice A2 (pad (enc hdL (ps.map Ip.it))).length c2, .int .i64 0])) w' from
        ⟨A2, c2, by rw [putB_big he hg, putP_big he hg, he], by rw [putB_big he hg]; exact hr, hb⟩)
      have hq : ∀ p ∈ ps, p.it.d.length ≤ 255 := fun p hp => (It.wrong_no (hok p.it (List.mem_map.2 ⟨p, hp, rfl⟩))).2
      have D := Lib.hid (fun w' hb => contains_long A c ps w' (h.next hb) hl)
      have E := Lib.hid (fun w' hb => bytesOf_long A c ps w' (h.next hb) (by omega) hq)
      rw [hg] at D
      have H := Lib.hid h
      clear he h hw hok hq hg
      go_enter Try.func72, Try.ntmps72
      go_wp2_with fail
      refine C.mono ?_
      rintro e w2 ⟨rfl, b2⟩
      clear C
      go_wp2_with fail
      refine (D.out w2 b2).mono ?_
      rintro e w3 ⟨rfl, b3⟩
      have B3 := bnext b2 b3
      clear b2 b3
      go_wp2_with fail
      refine (E.out w3 B3).mono ?_
      rintro e w4 ⟨A2, c2, rfl, r4, b4⟩
      have HG := Lib.hid (HF.out A2 c2 w4 r4 (bnext B3 b4))
      clear r4 b4 B3
      go_wp2
      go_ret3
      exact HG.out
    | false =>
      have HF := Lib.hid (fun A2 c2 w' (hr : Row w' w'.heap.size 1 A2 (pad (enc hdS (ps.map Ip.it))).length (u8s (pad (enc hdS (ps.map Ip.it))))) (hb : Below w.heap.size w w') => show PutTold (ps.map Ip.it) w (.returned (.tuple #[.int .u16 48862, .slice A2 (pad (enc hdS (ps.map Ip.it))).length c2, .int .i64 0])) w' from
        ⟨A2, c2, by rw [putB_small he hg, putP_small he hg, he], by rw [putB_small he hg]; exact hr, hb⟩)
      have hq : ∀ p ∈ ps, p.it.id.toNat ≤ 14 ∧ 1 ≤ p.it.d.length ∧ p.it.d.length ≤ 16 := fun p hp => It.big_no (any_big hg p.it (List.mem_map.2 ⟨p, hp, rfl⟩))
      have D := Lib.hid (fun w' hb => contains_long A c ps w' (h.next hb) hl)
      have E := Lib.hid (fun w' hb => bytesOf_short A c ps w' (h.next hb) (by omega) hq)
      rw [hg] at D
      have H := Lib.hid h
      clear he h hw hok hq hg
      go_enter Try.func72, Try.ntmps72
      go_wp2_with fail
      refine C.mono ?_
      rintro e w2 ⟨rfl, b2⟩
      clear C
      go_wp2_with fail
      refine (D.out w2 b2).mono ?_
      rintro e w3 ⟨rfl, b3⟩
      have B3 := bnext b2 b3
      clear b2 b3
      go_wp2_with fail
      refine (E.out w3 B3).mono ?_
      rintro e w4 ⟨A2, c2, rfl, r4, b4⟩
      have HG := Lib.hid (HF.out A2 c2 w4 r4 (bnext B3 b4))
      clear r4 b4 B3
      go_wp2
      go_ret3
      exact HG.out
end Go.Proofs.Yticnaljfnjiofaa
