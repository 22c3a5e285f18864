/-
  What workers go by, as plain functions: routes, downtracks; what a table may be; what is told of it. Nothing here names the program.
-/
import Derived.Test.YtgjhcnpegaemoaaWords
namespace Go.Proofs.Ytgjhcnpegaemoaa

structure Rt where
  ssrc : Int
  track : Int
  src : Int
  layer : Int
  shard : Int
structure Dn where
  ssrc : Int
  slot : Int
  turn : Int
  who : Int
  track : Int
  shard : Int
  src : Int
  layer : Int
  tid : Int
  muted : Bool
def Rt.cells (x : Rt) : List Value := [.int .u32 x.ssrc, .int .i64 x.track, .int .i64 x.src, .int .i64 x.layer, .int .i64 x.shard]
def Dn.cells (x : Dn) : List Value := [.int .u32 x.ssrc, .int .i64 x.slot, .int .u32 x.turn, .int .i64 x.who, .int .i64 x.track, .int .i64 x.shard, .int .i64 x.src, .int .i64 x.layer, .int .i64 x.tid, .bool x.muted]
def rtC (l : List Rt) : List Value := (l.map Rt.cells).flatten
def dnC (l : List Dn) : List Value := (l.map Dn.cells).flatten
theorem flat_get {α : Type} {f : α → List Value} {z : Nat} (hf : ∀ x, (f x).length = z) : ∀ {l : List α} {i : Nat} {x : α} {j : Nat}, l[i]? = some x → j < z → ((l.map f).flatten)[i * z + j]? = (f x)[j]?
  | [], i, x, j, h, _ => by simp at h
  | a :: l, i, x, j, h, hj => by
    rw [List.map_cons, List.flatten_cons]
    cases i with
    | zero =>
      simp at h
      subst h
      rw [Nat.zero_mul, Nat.zero_add, List.getElem?_append_left (by rw [hf]; exact hj)]
    | succ i =>
      rw [List.getElem?_append_right (by rw [hf, Nat.succ_mul]; omega), hf, show (i + 1) * z + j - z = i * z + j by rw [Nat.succ_mul]; omega]
      exact flat_get hf (by simpa using h) hj
theorem flat_length {α : Type} {f : α → List Value} {z : Nat} (hf : ∀ x, (f x).length = z) : ∀ (l : List α), ((l.map f).flatten).length = l.length * z
  | [] => by simp
  | a :: l => by rw [List.map_cons, List.flatten_cons, List.length_append, flat_length hf l, hf, List.length_cons, Nat.succ_mul]; omega
theorem rtC_length (l : List Rt) : (rtC l).length = l.length * 5 := flat_length (f := Rt.cells) (fun _ => rfl) l
theorem dnC_length (l : List Dn) : (dnC l).length = l.length * 10 := flat_length (f := Dn.cells) (fun _ => rfl) l
theorem rtC_get {l : List Rt} {i : Nat} {x : Rt} (h : l[i]? = some x) (j : Nat) (hj : j < 5) : (rtC l)[i * 5 + j]? = x.cells[j]? := flat_get (f := Rt.cells) (fun _ => rfl) h hj
theorem dnC_get {l : List Dn} {i : Nat} {x : Dn} (h : l[i]? = some x) (j : Nat) (hj : j < 10) : (dnC l)[i * 10 + j]? = x.cells[j]? := flat_get (f := Dn.cells) (fun _ => rfl) h hj
theorem rtC_add (l : List Rt) (x : Rt) : rtC (l ++ [x]) = rtC l ++ x.cells := by simp [rtC]
theorem dnC_add (l : List Dn) (x : Dn) : dnC (l ++ [x]) = dnC l ++ x.cells := by simp [dnC]
theorem dnC_append (l m : List Dn) : dnC (l ++ m) = dnC l ++ dnC m := by simp [dnC]
theorem dnC_take (l : List Dn) (k : Nat) : dnC (l.take k) = (dnC l).take (k * 10) := by
  induction l generalizing k with
  | nil => simp [dnC]
  | cons a l ih =>
    cases k with
    | zero => simp [dnC]
    | succ k =>
      have e1 : dnC (a :: l) = a.cells ++ dnC l := rfl
      have e2 : dnC ((a :: l).take (k + 1)) = a.cells ++ dnC (l.take k) := rfl
      rw [e1, e2, ih, List.take_append, show a.cells.length = 10 from rfl, List.take_of_length_le (show a.cells.length ≤ (k + 1) * 10 by show 10 ≤ _; omega), show (k + 1) * 10 - 10 = k * 10 by omega]
theorem dnC_drop (l : List Dn) (k : Nat) : dnC (l.drop k) = (dnC l).drop (k * 10) := by
  induction l generalizing k with
  | nil => simp [dnC]
  | cons a l ih =>
    cases k with
    | zero => simp
    | succ k =>
      have e1 : dnC (a :: l) = a.cells ++ dnC l := rfl
      have e2 : dnC ((a :: l).drop (k + 1)) = dnC (l.drop k) := rfl
      rw [e1, e2, ih, List.drop_append, show a.cells.length = 10 from rfl, List.drop_eq_nil_of_le (show a.cells.length ≤ (k + 1) * 10 by show 10 ≤ _; omega), show (k + 1) * 10 - 10 = k * 10 by omega, List.nil_append]
theorem rt_one (l : List Rt) : ∀ u ∈ rtC l, u.oneCell' = true := by
  intro u hu
  unfold rtC at hu
  rw [List.mem_flatten] at hu
  obtain ⟨r, hr, hu⟩ := hu
  obtain ⟨y, hy, rfl⟩ := List.mem_map.1 hr
  simp [Rt.cells] at hu
  rcases hu with rfl | rfl | rfl | rfl | rfl <;> rfl
theorem dn_one (l : List Dn) : ∀ u ∈ dnC l, u.oneCell' = true := by
  intro u hu
  unfold dnC at hu
  rw [List.mem_flatten] at hu
  obtain ⟨r, hr, hu⟩ := hu
  obtain ⟨y, hy, rfl⟩ := List.mem_map.1 hr
  simp [Dn.cells] at hu
  rcases hu with rfl | rfl | rfl | rfl | rfl | rfl | rfl | rfl | rfl | rfl <;> rfl

/-! ### What may be a table -/
def badR (x y : Rt) : Prop := x.ssrc = y.ssrc ∨ x.track = y.track ∧ x.layer = y.layer
def badD (x y : Dn) : Prop := x.ssrc = y.ssrc ∨ (x.slot = y.slot ∧ x.turn = y.turn) ∨ x.who = y.who ∧ x.track = y.track
instance (x y : Rt) : Decidable (badR x y) := by unfold badR; infer_instance
instance (x y : Dn) : Decidable (badD x y) := by unfold badD; infer_instance
structure OkR (l : List Rt) : Prop where
  own : ∀ x ∈ l, x.ssrc ≤ 2147483647
  two : l.Pairwise fun y x => ¬ badR x y
structure OkD (l : List Dn) : Prop where
  own : ∀ x ∈ l, 2147483648 ≤ x.ssrc
  two : l.Pairwise fun y x => ¬ badD x y
def May (r : List Rt) (d : List Dn) : Prop := OkR r ∧ OkD d
instance (l : List Rt) : Decidable (OkR l) := decidable_of_iff ((∀ x ∈ l, x.ssrc ≤ 2147483647) ∧ l.Pairwise fun y x => ¬ badR x y) ⟨fun h => ⟨h.1, h.2⟩, fun h => ⟨h.1, h.2⟩⟩
instance (l : List Dn) : Decidable (OkD l) := decidable_of_iff ((∀ x ∈ l, 2147483648 ≤ x.ssrc) ∧ l.Pairwise fun y x => ¬ badD x y) ⟨fun h => ⟨h.1, h.2⟩, fun h => ⟨h.1, h.2⟩⟩
instance (r : List Rt) (d : List Dn) : Decidable (May r d) := by unfold May; infer_instance
theorem OkR.nil : OkR [] := ⟨fun x hx => by simp at hx, .nil⟩
theorem OkD.nil : OkD [] := ⟨fun x hx => by simp at hx, .nil⟩
theorem OkR.add {l : List Rt} {x : Rt} (h : OkR l) (h1 : x.ssrc ≤ 2147483647) (h2 : ∀ y ∈ l, ¬ badR x y) : OkR (l ++ [x]) :=
  ⟨fun y hy => (List.mem_append.1 hy).elim (h.own y) (fun e => by rw [List.mem_singleton.1 e]; exact h1), List.pairwise_append.2 ⟨h.two, List.pairwise_singleton _ _, fun y hy z hz => by rw [List.mem_singleton.1 hz]; exact h2 y hy⟩⟩
theorem OkD.add {l : List Dn} {x : Dn} (h : OkD l) (h1 : 2147483648 ≤ x.ssrc) (h2 : ∀ y ∈ l, ¬ badD x y) : OkD (l ++ [x]) :=
  ⟨fun y hy => (List.mem_append.1 hy).elim (h.own y) (fun e => by rw [List.mem_singleton.1 e]; exact h1), List.pairwise_append.2 ⟨h.two, List.pairwise_singleton _ _, fun y hy z hz => by rw [List.mem_singleton.1 hz]; exact h2 y hy⟩⟩
theorem two_at {α : Type} {P : α → α → Prop} {l : List α} (h : l.Pairwise P) {i k : Nat} {x y : α} (hk : k < i) (hx : l[i]? = some x) (hy : l[k]? = some y) : P y x := by
  have hi := (List.getElem?_eq_some_iff.1 hx)
  have hk2 := (List.getElem?_eq_some_iff.1 hy)
  obtain ⟨h1, e1⟩ := hi
  obtain ⟨h2, e2⟩ := hk2
  have := List.pairwise_iff_getElem.1 h k i h2 h1 hk
  rw [e1, e2] at this
  exact this
theorem OkR.bad {l : List Rt} {i k : Nat} {x y : Rt} (hk : k < i) (hx : l[i]? = some x) (hy : l[k]? = some y) (h : badR x y) : ¬ OkR l := fun o => two_at o.two hk hx hy h
theorem OkD.bad {l : List Dn} {i k : Nat} {x y : Dn} (hk : k < i) (hx : l[i]? = some x) (hy : l[k]? = some y) (h : badD x y) : ¬ OkD l := fun o => two_at o.two hk hx hy h
theorem take_add {α : Type} {l : List α} {k : Nat} {y : α} (h : l[k]? = some y) : l.take (k + 1) = l.take k ++ [y] := by rw [List.take_add_one, h]; rfl

/-! ### What is told of it -/
def routeS (l : List Rt) (s : Int) : Option Rt := l.find? fun x => decide (x.ssrc = s)
def ownS (l : List Dn) (s : Int) : Option Dn := l.find? fun x => decide (x.ssrc = s)
def sourceS (l : List Rt) (t y : Int) : Option Rt := l.find? fun x => decide (x.track = t ∧ x.layer = y)
def zeroR : Rt := ⟨0, 0, 0, 0, 0⟩
def zeroD : Dn := ⟨0, 0, 0, 0, 0, 0, 0, 0, 0, false⟩
/-- Where one goes among those that rise. -/
def placeD (l : List Dn) (x : Dn) : Nat := (l.takeWhile fun y => decide (y.who < x.who)).length
def insD (l : List Dn) (x : Dn) : List Dn := l.take (placeD l x) ++ x :: l.drop (placeD l x)
def downsS (l : List Dn) (t : Int) : List Dn := (l.filter fun x => decide (x.track = t)).foldl insD []
theorem insD_length (l : List Dn) (x : Dn) : (insD l x).length = l.length + 1 := by
  unfold insD
  rw [List.length_append, List.length_cons, List.length_take, List.length_drop]
  omega
theorem placeD_le (l : List Dn) (x : Dn) : placeD l x ≤ l.length := by unfold placeD; exact (List.takeWhile_sublist _).length_le
theorem find_take {α : Type} {p : α → Bool} {l : List α} {k : Nat} {y : α} (h : l[k]? = some y) (hn : ∀ (j : Nat) (x : α), j < k → l[j]? = some x → p x = false) (hp : p y = true) : l.find? p = some y := by
  induction l generalizing k with
  | nil => simp at h
  | cons a l ih =>
    cases k with
    | zero => simp at h; subst h; simp [List.find?, hp]
    | succ k =>
      have h0 := hn 0 a (by omega) rfl
      rw [List.find?_cons, h0]
      exact ih (k := k) (by simpa using h) (fun j x hj hx => hn (j + 1) x (by omega) (by simpa using hx))
theorem find_no {α : Type} {p : α → Bool} {l : List α} (hn : ∀ (j : Nat) (x : α), l[j]? = some x → p x = false) : l.find? p = none := by
  rw [List.find?_eq_none]
  intro x hx
  obtain ⟨j, hj⟩ := List.mem_iff_getElem?.1 hx
  rw [hn j x hj]
  simp
end Go.Proofs.Ytgjhcnpegaemoaa
