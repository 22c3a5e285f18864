/-
  Who is there, and is sent what, as plain functions. Nothing here names the program.
-/
import Derived.Test.YtmmeceehfdbdoaaWords
namespace Go.Proofs.Ytmmeceehfdbdoaa.Dl

/-- Somebody. -/
structure Pn where
  who : Int
  room : Int
  rights : Int
/-- A track. -/
structure Tk where
  id : Int
  owner : Int
  from' : Int
  ss : List Int
/-- A sub. -/
structure Sb where
  who : Int
  track : Int
  layer : Int
  tid : Int
  muted : Bool
/-- How many there may be. -/
structure Cf where
  ps : Int
  ts : Int
  bs : Int
  sl : Int
/-- A state. -/
structure St where
  cf : Cf
  ps : List Pn
  ts : List Tk
  bs : List Sb
/-- A request. -/
structure Rq where
  kind : Int
  who : Int
  room : Int
  rights : Int
  track : Int
  ss : List Int
  layer : Int
  tid : Int

def bump (x : Int) : Int := (x + 1 + 9223372036854775808) % 18446744073709551616 - 9223372036854775808
/-- Put in ahead of the first one that isn't lower. -/
def insK {α : Type} (lt : α → α → Bool) (l : List α) (x : α) : List α := (l.takeWhile fun z => lt z x) ++ x :: (l.dropWhile fun z => lt z x)
def ltP (a b : Pn) : Bool := decide (a.who < b.who)
def ltT (a b : Tk) : Bool := decide (a.id < b.id)
def ltB (a b : Sb) : Bool := decide (a.who < b.who ∨ a.who = b.who ∧ a.track < b.track)
def isP (k : Int) (p : Pn) : Bool := decide (p.who = k)
def isT (k : Int) (t : Tk) : Bool := decide (t.id = k)
def isB (k i : Int) (b : Sb) : Bool := decide (b.who = k ∧ b.track = i)
def ofB (k : Int) (b : Sb) : Bool := decide (b.who = k)
def mayL (l : List Int) : Bool := decide (1 ≤ l.length ∧ l.length ≤ 3) && l.all (fun x => decide (1 ≤ x ∧ x ≤ 2147483647)) && decide l.Nodup
def takenS (X : St) (l : List Int) : Bool := X.ts.any fun t => t.ss.any fun x => l.contains x
def confL (c : Cf) : Bool := decide (1 ≤ c.ps ∧ c.ps ≤ 16 ∧ 1 ≤ c.ts ∧ c.ts ≤ 16 ∧ 1 ≤ c.bs ∧ c.bs ≤ 16 ∧ 1 ≤ c.sl ∧ c.sl ≤ 64)
def badL (q : Rq) : Bool := decide (q.layer < 0 ∨ 2 < q.layer ∨ q.tid < 0 ∨ 3 < q.tid)
def roomL (X : St) (w : Int) : Option Int := (X.ps.find? (isP w)).map (·.room)

def joinS (X : St) (q : Rq) : St × Int :=
  if q.who < 1 ∨ 999 < q.who ∨ q.room < 1 ∨ 9 < q.room ∨ q.rights < 0 ∨ 3 < q.rights then (X, 1)
  else if (X.ps.find? (isP q.who)).isSome = true then (X, 22)
  else if X.cf.ps ≤ X.ps.length then (X, 20)
  else ({ X with ps := insK ltP X.ps ⟨q.who, q.room, q.rights⟩ }, 0)
def leaveS (X : St) (q : Rq) : St × Int :=
  ({ X with ps := X.ps.filter (fun p => !isP q.who p), ts := X.ts.filter (fun t => !decide (t.owner = q.who)),
            bs := X.bs.filter (fun b => !ofB q.who b && (X.ts.filter (fun t => !decide (t.owner = q.who))).any (isT b.track)) }, 0)
def publishS (X : St) (p : Pn) (q : Rq) : St × Int :=
  if p.rights % 2 = 0 then (X, 24)
  else if q.track < 1 ∨ 999 < q.track ∨ mayL q.ss = false then (X, 1)
  else if (X.ts.find? (isT q.track)).isSome = true ∨ takenS X q.ss = true then (X, 22)
  else if X.cf.ts ≤ X.ts.length then (X, 20)
  else ({ X with ts := insK ltT X.ts ⟨q.track, q.who, 0, q.ss⟩ }, 0)
def unpubS (X : St) (q : Rq) : St × Int :=
  match X.ts.find? (isT q.track) with
  | none => (X, 21)
  | some t =>
    if t.owner ≠ q.who then (X, 24)
    else ({ X with ts := X.ts.filter (fun t => !isT q.track t), bs := X.bs.filter (fun b => !decide (b.track = q.track)) }, 0)
def replT (q : Rq) (t : Tk) : Tk := if isT q.track t = true then ⟨t.id, t.owner, bump t.from', q.ss⟩ else t
def replS (X : St) (q : Rq) : St × Int :=
  match X.ts.find? (isT q.track) with
  | none => (X, 21)
  | some t =>
    if t.owner ≠ q.who then (X, 24)
    else if mayL q.ss = false then (X, 1)
    else if takenS X q.ss = true then (X, 22)
    else ({ X with ts := X.ts.map (replT q) }, 0)
def subscribeS (X : St) (p : Pn) (q : Rq) : St × Int :=
  if p.rights / 2 = 0 then (X, 24)
  else match X.ts.find? (isT q.track) with
  | none => (X, 21)
  | some t =>
    if roomL X t.owner ≠ some p.room then (X, 24)
    else if (X.bs.find? (isB q.who q.track)).isSome = true then (X, 22)
    else if badL q = true then (X, 1)
    else if X.cf.bs ≤ (X.bs.filter (ofB q.who)).length then (X, 25)
    else if X.cf.sl ≤ X.bs.length then (X, 20)
    else ({ X with bs := insK ltB X.bs ⟨q.who, q.track, q.layer, q.tid, false⟩ }, 0)
def muteB (q : Rq) (b : Sb) : Sb := if isB q.who q.track b = true then ⟨b.who, b.track, b.layer, b.tid, decide (q.kind = 7)⟩ else b
def selB (q : Rq) (b : Sb) : Sb := if isB q.who q.track b = true then ⟨b.who, b.track, q.layer, q.tid, b.muted⟩ else b
def changeS (X : St) (q : Rq) : St × Int :=
  match X.bs.find? (isB q.who q.track) with
  | none => (X, 21)
  | some b =>
    if q.kind = 6 then ({ X with bs := X.bs.filter (fun b => !isB q.who q.track b) }, 0)
    else if q.kind = 7 ∨ q.kind = 8 then
      if b.muted = decide (q.kind = 7) then (X, 23) else ({ X with bs := X.bs.map (muteB q) }, 0)
    else if badL q = true then (X, 1)
    else ({ X with bs := X.bs.map (selB q) }, 0)
/-- What a request makes of a state, and the error's number. -/
def doS (X : St) (q : Rq) : St × Int :=
  if q.kind < 0 ∨ 9 < q.kind then (X, 1)
  else if q.kind = 0 then joinS X q
  else match X.ps.find? (isP q.who) with
  | none => (X, 21)
  | some p =>
    if q.kind = 1 then leaveS X q
    else if q.kind = 2 then publishS X p q
    else if q.kind = 3 then unpubS X q
    else if q.kind = 4 then replS X q
    else if q.kind = 5 then subscribeS X p q
    else changeS X q
def goneS (A B : St) : List Sb := A.bs.filter fun b => (B.bs.find? (isB b.who b.track)).isNone

/-! ### Rows that rise -/
section
variable {α : Type} {lt : α → α → Bool}
theorem insK_length (l : List α) (x : α) : (insK lt l x).length = l.length + 1 := by
  unfold insK
  rw [List.length_append, List.length_cons]
  have := congrArg List.length (List.takeWhile_append_dropWhile (p := fun z => lt z x) (l := l))
  rw [List.length_append] at this
  omega
theorem insK_mem {l : List α} {x z : α} : z ∈ insK lt l x ↔ z = x ∨ z ∈ l := by
  unfold insK
  rw [List.mem_append, List.mem_cons]
  have h : z ∈ l ↔ z ∈ l.takeWhile (fun z => lt z x) ∨ z ∈ l.dropWhile (fun z => lt z x) := by
    rw [← List.mem_append, List.takeWhile_append_dropWhile]
  rw [h]
  constructor
  · rintro (h | h | h)
    · exact .inr (.inl h)
    · exact .inl h
    · exact .inr (.inr h)
  · rintro (h | h | h)
    · exact .inr (.inl h)
    · exact .inl h
    · exact .inr (.inr h)
theorem insK_filter {f : α → Bool} {l : List α} {x : α} (hx : f x = false) : (insK lt l x).filter f = l.filter f := by
  unfold insK
  rw [List.filter_append, List.filter_cons_of_neg (by simp [hx]), ← List.filter_append, List.takeWhile_append_dropWhile]
theorem insK_out {f : α → Bool} {l : List α} {x : α} (hx : f x = true) (hl : ∀ z ∈ l, f z = false) : (insK lt l x).filter (fun z => !f z) = l := by
  rw [insK_filter (by simp [hx])]
  exact List.filter_eq_self.mpr fun z hz => by simp [hl z hz]
theorem insK_count {f : α → Bool} {l : List α} {x : α} (hx : f x = true) : ((insK lt l x).filter f).length = (l.filter f).length + 1 := by
  unfold insK
  rw [List.filter_append, List.filter_cons_of_pos hx, List.length_append, List.length_cons]
  have := congrArg (fun l => (l.filter f).length) (List.takeWhile_append_dropWhile (p := fun z => lt z x) (l := l))
  simp only [List.filter_append, List.length_append] at this
  omega
theorem insK_pw {R : α → α → Prop} {l : List α} {x : α} (h : l.Pairwise R)
    (h1 : ∀ z ∈ l.takeWhile (fun z => lt z x), R z x) (h2 : ∀ z ∈ l.dropWhile (fun z => lt z x), R x z) : (insK lt l x).Pairwise R := by
  unfold insK
  have e := List.takeWhile_append_dropWhile (p := fun z => lt z x) (l := l)
  rw [← e] at h
  rw [List.pairwise_append] at h ⊢
  obtain ⟨ha, hb, hc⟩ := h
  refine ⟨ha, List.pairwise_cons.mpr ⟨h2, hb⟩, ?_⟩
  intro a hA b hB
  rcases List.mem_cons.mp hB with rfl | hB
  · exact h1 a hA
  · exact hc a hA b hB
theorem mem_takeWhile {f : α → Bool} {l : List α} : ∀ {z : α}, z ∈ l.takeWhile f → f z = true ∧ z ∈ l := by
  induction l with
  | nil => intro z h; simp at h
  | cons a l ih =>
    intro z h
    rw [List.takeWhile_cons] at h
    split at h
    · rename_i ha
      rcases List.mem_cons.mp h with rfl | h
      · exact ⟨ha, List.mem_cons_self⟩
      · exact ⟨(ih h).1, List.mem_cons_of_mem _ (ih h).2⟩
    · simp at h
theorem mem_dropWhile {f : α → Bool} {l : List α} : ∀ {z : α}, z ∈ l.dropWhile f → z ∈ l := by
  intro z h
  exact (List.dropWhile_sublist f).subset h
/-- Behind the first one that isn't lower none is. -/
theorem dropWhile_high {l : List α} {x : α} (tr : ∀ a b c, lt a b = true → lt b c = true → lt a c = true) (h : l.Pairwise fun a b => lt a b = true) :
    ∀ z ∈ l.dropWhile (fun z => lt z x), lt z x = false := by
  induction l with
  | nil => intro z hz; simp at hz
  | cons a l ih =>
    obtain ⟨h1, h2⟩ := List.pairwise_cons.mp h
    intro z hz
    rw [List.dropWhile_cons] at hz
    split at hz
    · exact ih h2 z hz
    · rename_i ha
      rcases List.mem_cons.mp hz with rfl | hz
      · simpa using ha
      · cases hq : lt z x with
        | false => rfl
        | true => exact absurd (tr _ _ _ (h1 z hz) hq) ha
theorem insK_rise {l : List α} {x : α} (tr : ∀ a b c, lt a b = true → lt b c = true → lt a c = true)
    (tot : ∀ z ∈ l, lt z x = false → lt x z = true) (h : l.Pairwise fun a b => lt a b = true) : (insK lt l x).Pairwise fun a b => lt a b = true :=
  insK_pw h (fun _ hz => (mem_takeWhile hz).1) fun z hz => tot z (mem_dropWhile hz) (dropWhile_high tr h z hz)
/-- Of a row in which no two are meant, the one that is meant is found. -/
theorem find_one {R : α → α → Prop} {f : α → Bool} {l : List α} (h : l.Pairwise R) (one : ∀ a b, f a = true → f b = true → ¬ R a b) :
    ∀ {z : α}, z ∈ l → f z = true → l.find? f = some z := by
  induction l with
  | nil => intro z hz; simp at hz
  | cons a l ih =>
    obtain ⟨h1, h2⟩ := List.pairwise_cons.mp h
    intro z hz hf
    rcases List.mem_cons.mp hz with rfl | hz
    · rw [List.find?_cons_of_pos hf]
    · have : f a = false := by
        cases q : f a with
        | false => rfl
        | true => exact absurd (h1 z hz) (one a z q hf)
      rw [List.find?_cons_of_neg (by simp [this])]
      exact ih h2 hz hf
theorem out_length {R : α → α → Prop} {f : α → Bool} {l : List α} (h : l.Pairwise R) (one : ∀ a b, f a = true → f b = true → ¬ R a b) :
    ∀ {z : α}, z ∈ l → f z = true → (l.filter fun z => !f z).length + 1 = l.length := by
  induction l with
  | nil => intro z hz; simp at hz
  | cons a l ih =>
    obtain ⟨h1, h2⟩ := List.pairwise_cons.mp h
    intro z hz hf
    cases q : f a with
    | true =>
      have : ∀ b ∈ l, f b = false := fun b hb => by
        cases r : f b with
        | false => rfl
        | true => exact absurd (h1 b hb) (one a b q r)
      rw [List.filter_cons_of_neg (by simp [q]), List.filter_eq_self.mpr (fun b hb => by simp [this b hb])]
      rfl
    | false =>
      rw [List.filter_cons_of_pos (by simp [q]), List.length_cons, List.length_cons]
      rcases List.mem_cons.mp hz with rfl | hz
      · rw [hf] at q; cases q
      · rw [ih h2 hz hf]
theorem find_mem {f : α → Bool} {l : List α} {z : α} (h : l.find? f = some z) : z ∈ l ∧ f z = true := ⟨List.mem_of_find?_eq_some h, List.find?_some h⟩
theorem find_no {f : α → Bool} {l : List α} (h : ¬ (l.find? f).isSome = true) : ∀ z ∈ l, f z = false := by
  intro z hz
  have : l.find? f = none := by cases q : l.find? f with | none => rfl | some _ => rw [q] at h; exact absurd rfl h
  simpa using List.find?_eq_none.mp this z hz
theorem find_yes {f : α → Bool} {l : List α} {z : α} (hz : z ∈ l) (hf : f z = true) : (l.find? f).isSome = true := by
  rw [List.find?_isSome]; exact ⟨z, hz, hf⟩
end

/-! ### What may be -/
structure Inv (X : St) : Prop where
  cf : confL X.cf = true
  pr : X.ps.Pairwise fun a b => ltP a b = true
  tr : X.ts.Pairwise fun a b => ltT a b = true
  br : X.bs.Pairwise fun a b => ltB a b = true
  pm : ∀ p ∈ X.ps, 1 ≤ p.who ∧ p.who ≤ 999 ∧ 1 ≤ p.room ∧ p.room ≤ 9 ∧ 0 ≤ p.rights ∧ p.rights ≤ 3
  tm : ∀ t ∈ X.ts, 1 ≤ t.id ∧ t.id ≤ 999 ∧ mayL t.ss = true ∧ ∃ p ∈ X.ps, p.who = t.owner ∧ p.rights % 2 = 1
  td : X.ts.Pairwise fun a b => ∀ x ∈ a.ss, ∀ y ∈ b.ss, x ≠ y
  bm : ∀ b ∈ X.bs, (0 ≤ b.layer ∧ b.layer ≤ 2 ∧ 0 ≤ b.tid ∧ b.tid ≤ 3) ∧ ∃ p ∈ X.ps, ∃ t ∈ X.ts, ∃ o ∈ X.ps, p.who = b.who ∧ 2 ≤ p.rights ∧ t.id = b.track ∧ o.who = t.owner ∧ o.room = p.room
  pl : (X.ps.length : Int) ≤ X.cf.ps
  tl : (X.ts.length : Int) ≤ X.cf.ts
  bl : (X.bs.length : Int) ≤ X.cf.sl
  bq : ∀ k, ((X.bs.filter (ofB k)).length : Int) ≤ X.cf.bs

theorem ltP_tr (a b c : Pn) : ltP a b = true → ltP b c = true → ltP a c = true := by simp only [ltP, decide_eq_true_eq]; omega
theorem ltT_tr (a b c : Tk) : ltT a b = true → ltT b c = true → ltT a c = true := by simp only [ltT, decide_eq_true_eq]; omega
theorem ltB_tr (a b c : Sb) : ltB a b = true → ltB b c = true → ltB a c = true := by simp only [ltB, decide_eq_true_eq]; omega
theorem isP_one (k : Int) (a b : Pn) : isP k a = true → isP k b = true → ¬ (ltP a b = true) := by simp only [isP, ltP, decide_eq_true_eq]; omega
theorem isT_one (k : Int) (a b : Tk) : isT k a = true → isT k b = true → ¬ (ltT a b = true) := by simp only [isT, ltT, decide_eq_true_eq]; omega
theorem isB_one (k i : Int) (a b : Sb) : isB k i a = true → isB k i b = true → ¬ (ltB a b = true) := by simp only [isB, ltB, decide_eq_true_eq]; omega
theorem isP_iff {k : Int} {a : Pn} : isP k a = true ↔ a.who = k := by simp [isP]
theorem isT_iff {k : Int} {a : Tk} : isT k a = true ↔ a.id = k := by simp [isT]
theorem isB_iff {k i : Int} {a : Sb} : isB k i a = true ↔ a.who = k ∧ a.track = i := by simp [isB]
theorem isP_not {k : Int} {a : Pn} : isP k a = false ↔ a.who ≠ k := by simp [isP]
theorem isT_not {k : Int} {a : Tk} : isT k a = false ↔ a.id ≠ k := by simp [isT]
theorem isB_not {k i : Int} {a : Sb} : isB k i a = false ↔ ¬ (a.who = k ∧ a.track = i) := by simp [isB]

namespace Inv
theorem person {X : St} (h : Inv X) {p : Pn} (hp : p ∈ X.ps) : X.ps.find? (isP p.who) = some p := find_one h.pr (isP_one _) hp (by simp [isP])
theorem track {X : St} (h : Inv X) {t : Tk} (ht : t ∈ X.ts) : X.ts.find? (isT t.id) = some t := find_one h.tr (isT_one _) ht (by simp [isT])
theorem sub {X : St} (h : Inv X) {b : Sb} (hb : b ∈ X.bs) : X.bs.find? (isB b.who b.track) = some b := find_one h.br (isB_one _ _) hb (by simp [isB])
end Inv
theorem inv_new {c : Cf} (h : confL c = true) : Inv ⟨c, [], [], []⟩ := by
  have hc := h
  simp only [confL, decide_eq_true_eq] at hc
  refine ⟨h, .nil, .nil, .nil, by simp, by simp, .nil, by simp, ?_, ?_, ?_, ?_⟩ <;> simp <;> omega

theorem inv_join {X : St} (h : Inv X) (q : Rq) : Inv (joinS X q).1 := by
  unfold joinS
  split
  · exact h
  rename_i h1
  split
  · exact h
  rename_i h2
  split
  · exact h
  rename_i h3
  have no := find_no h2
  refine ⟨h.cf, ?_, h.tr, h.br, ?_, ?_, h.td, ?_, ?_, h.tl, h.bl, h.bq⟩
  · refine insK_rise ltP_tr (fun z hz => ?_) h.pr
    have := isP_not.mp (no z hz)
    simp only [ltP, decide_eq_true_eq, decide_eq_false_iff_not]; omega
  · intro p hp
    rcases insK_mem.mp hp with rfl | hp
    · dsimp only; omega
    · exact h.pm p hp
  · intro t ht
    obtain ⟨a, b, c, p, hp, d⟩ := h.tm t ht
    exact ⟨a, b, c, p, insK_mem.mpr (.inr hp), d⟩
  · intro b hb
    obtain ⟨a, p, hp, t, ht, o, ho, d⟩ := h.bm b hb
    exact ⟨a, p, insK_mem.mpr (.inr hp), t, ht, o, insK_mem.mpr (.inr ho), d⟩
  · show ((insK ltP X.ps _).length : Int) ≤ X.cf.ps
    rw [insK_length]; omega
theorem len_filter {α : Type} (f : α → Bool) (l : List α) {n : Int} (h : (l.length : Int) ≤ n) : ((l.filter f).length : Int) ≤ n := by
  have := List.length_filter_le f l; omega
theorem inv_leave {X : St} (h : Inv X) (q : Rq) : Inv (leaveS X q).1 := by
  unfold leaveS
  refine ⟨h.cf, h.pr.sublist List.filter_sublist, h.tr.sublist List.filter_sublist, h.br.sublist List.filter_sublist, fun p hp => h.pm p (List.mem_filter.mp hp).1, ?_, h.td.sublist List.filter_sublist, ?_,
    len_filter _ _ h.pl, len_filter _ _ h.tl, len_filter _ _ h.bl, ?_⟩
  · intro t ht
    obtain ⟨ht, e⟩ := List.mem_filter.mp ht
    obtain ⟨a, b, c, p, hp, d, d'⟩ := h.tm t ht
    refine ⟨a, b, c, p, List.mem_filter.mpr ⟨hp, ?_⟩, d, d'⟩
    simp only [Bool.not_eq_true', decide_eq_false_iff_not] at e
    rw [Bool.not_eq_true', isP_not, d]; exact e
  · intro b hb
    obtain ⟨hb, e⟩ := List.mem_filter.mp hb
    obtain ⟨a, p, hp, t, ht, o, ho, e1, e2, e3, e4, e5⟩ := h.bm b hb
    rw [Bool.and_eq_true, List.any_eq_true] at e
    obtain ⟨e6, t', ht', e7⟩ := e
    obtain ⟨m1, m2⟩ := List.mem_filter.mp ht'
    have : t' = t := by
      have x := h.track m1
      rw [isT_iff.mp e7, ← e3, h.track ht] at x
      exact (Option.some.inj x).symm
    subst this
    simp only [Bool.not_eq_true', decide_eq_false_iff_not] at m2
    simp only [ofB, Bool.not_eq_true', decide_eq_false_iff_not] at e6
    refine ⟨a, p, List.mem_filter.mpr ⟨hp, ?_⟩, t', ht', o, List.mem_filter.mpr ⟨ho, ?_⟩, e1, e2, e3, e4, e5⟩
    · rw [Bool.not_eq_true', isP_not, e1]; exact e6
    · rw [Bool.not_eq_true', isP_not, e4]; exact m2
  · intro k
    have := h.bq k
    have l : (List.filter (ofB k) (X.bs.filter (fun b => !ofB q.who b && (X.ts.filter (fun t => !decide (t.owner = q.who))).any (isT b.track)))).length ≤ (X.bs.filter (ofB k)).length :=
      (List.filter_sublist.filter _).length_le
    show ((List.filter (ofB k) (X.bs.filter _)).length : Int) ≤ X.cf.bs
    omega
theorem taken_no {X : St} {l : List Int} (h : ¬ takenS X l = true) : ∀ t ∈ X.ts, ∀ x ∈ t.ss, ∀ y ∈ l, x ≠ y := by
  intro t ht x hx y hy e
  subst e
  exact h (List.any_eq_true.mpr ⟨t, ht, List.any_eq_true.mpr ⟨x, hx, by simpa using hy⟩⟩)
theorem inv_publish {X : St} (h : Inv X) (p : Pn) (q : Rq) (hp : X.ps.find? (isP q.who) = some p) : Inv (publishS X p q).1 := by
  unfold publishS
  split
  · exact h
  rename_i h0
  split
  · exact h
  rename_i h1
  split
  · exact h
  rename_i h2
  split
  · exact h
  rename_i h3
  have no := find_no (fun e => h2 (.inl e))
  have tk := taken_no (fun e => h2 (.inr e))
  obtain ⟨pm, pe⟩ := find_mem hp
  have pw := isP_iff.mp pe
  refine ⟨h.cf, h.pr, ?_, h.br, h.pm, ?_, ?_, ?_, h.pl, ?_, h.bl, h.bq⟩
  · refine insK_rise ltT_tr (fun z hz => ?_) h.tr
    have := isT_not.mp (no z hz)
    simp only [ltT, decide_eq_true_eq, decide_eq_false_iff_not]; omega
  · intro t ht
    rcases insK_mem.mp ht with rfl | ht
    · refine ⟨by dsimp only; omega, by dsimp only; omega, ?_, p, pm, pw, by omega⟩
      cases q' : mayL q.ss with
      | true => rfl
      | false => exact absurd (.inr (.inr q')) h1
    · exact h.tm t ht
  · refine insK_pw h.td (fun z hz x hx y hy => tk z (mem_takeWhile hz).2 x hx y hy) (fun z hz x hx y hy => (tk z (mem_dropWhile hz) y hy x hx).symm)
  · intro b hb
    obtain ⟨a, p, hp, t, ht, o, ho, d⟩ := h.bm b hb
    exact ⟨a, p, hp, t, insK_mem.mpr (.inr ht), o, ho, d⟩
  · show ((insK ltT X.ts _).length : Int) ≤ X.cf.ts
    rw [insK_length]; omega
theorem inv_unpub {X : St} (h : Inv X) (q : Rq) : Inv (unpubS X q).1 := by
  unfold unpubS
  split
  · exact h
  rename_i t e
  split
  · exact h
  refine ⟨h.cf, h.pr, h.tr.sublist List.filter_sublist, h.br.sublist List.filter_sublist, h.pm, fun t ht => h.tm t (List.mem_filter.mp ht).1, h.td.sublist List.filter_sublist, ?_,
    h.pl, len_filter _ _ h.tl, len_filter _ _ h.bl, ?_⟩
  · intro b hb
    obtain ⟨hb, e⟩ := List.mem_filter.mp hb
    obtain ⟨a, p, hp, t, ht, o, ho, e1, e2, e3, e4⟩ := h.bm b hb
    refine ⟨a, p, hp, t, List.mem_filter.mpr ⟨ht, ?_⟩, o, ho, e1, e2, e3, e4⟩
    simp only [Bool.not_eq_true', decide_eq_false_iff_not] at e
    rw [Bool.not_eq_true', isT_not, e3]; exact e
  · intro k
    have := h.bq k
    have l : (List.filter (ofB k) (X.bs.filter (fun b => !decide (b.track = q.track)))).length ≤ (X.bs.filter (ofB k)).length :=
      (List.filter_sublist.filter _).length_le
    show ((List.filter (ofB k) (X.bs.filter _)).length : Int) ≤ X.cf.bs
    omega
theorem replT_id (q : Rq) (t : Tk) : (replT q t).id = t.id ∧ (replT q t).owner = t.owner := by unfold replT; split <;> exact ⟨rfl, rfl⟩
theorem inv_repl {X : St} (h : Inv X) (q : Rq) : Inv (replS X q).1 := by
  unfold replS
  split
  · exact h
  rename_i t e
  split
  · exact h
  split
  · exact h
  rename_i h1
  split
  · exact h
  rename_i h2
  have tk := taken_no h2
  refine ⟨h.cf, h.pr, ?_, h.br, h.pm, ?_, ?_, ?_, h.pl, ?_, h.bl, h.bq⟩
  · refine List.pairwise_map.mpr (h.tr.imp fun {a b} hab => ?_)
    simpa only [ltT, (replT_id q a).1, (replT_id q b).1] using hab
  · intro t ht
    obtain ⟨t, ht', rfl⟩ := List.mem_map.mp ht
    obtain ⟨a, b, c, d⟩ := h.tm t ht'
    rw [(replT_id q t).1, (replT_id q t).2]
    refine ⟨a, b, ?_, d⟩
    unfold replT
    split
    · simpa using h1
    · exact c
  · have hh : X.ts.Pairwise fun a b => ltT a b = true ∧ (∀ x ∈ a.ss, ∀ y ∈ b.ss, x ≠ y) ∧ a ∈ X.ts ∧ b ∈ X.ts := by
      refine (List.Pairwise.and h.tr (List.Pairwise.and h.td ?_)).imp fun {a b} hab => ⟨hab.1, hab.2.1, hab.2.2⟩
      exact List.pairwise_iff_forall_sublist.mpr fun {a b} s => ⟨s.subset (by simp), s.subset (by simp)⟩
    refine List.pairwise_map.mpr (hh.imp fun {a b} hab => ?_)
    obtain ⟨l1, l2, l3, l4⟩ := hab
    unfold replT
    split
    · rename_i ea
      split
      · rename_i eb; exact absurd l1 (isT_one _ a b ea eb)
      · exact fun x hx y hy => (tk b l4 y hy x hx).symm
    · split
      · exact fun x hx y hy => tk a l3 x hx y hy
      · exact l2
  · intro b hb
    obtain ⟨a, p, hp, t, ht, o, ho, e1, e2, e3, e4, e5⟩ := h.bm b hb
    exact ⟨a, p, hp, replT q t, List.mem_map.mpr ⟨t, ht, rfl⟩, o, ho, e1, e2, (replT_id q t).1.trans e3, e4.trans (replT_id q t).2.symm, e5⟩
  · show ((X.ts.map _).length : Int) ≤ X.cf.ts
    rw [List.length_map]; exact h.tl
theorem inv_subscribe {X : St} (h : Inv X) (p : Pn) (q : Rq) (hp : X.ps.find? (isP q.who) = some p) : Inv (subscribeS X p q).1 := by
  unfold subscribeS
  split
  · exact h
  rename_i h0
  split
  · exact h
  rename_i t e
  split
  · exact h
  rename_i h1
  split
  · exact h
  rename_i h2
  split
  · exact h
  rename_i h3
  split
  · exact h
  rename_i h4
  split
  · exact h
  rename_i h5
  have no := find_no h2
  obtain ⟨pm, pe⟩ := find_mem hp
  have pw := isP_iff.mp pe
  obtain ⟨tm, te⟩ := find_mem e
  have tw := isT_iff.mp te
  simp only [badL, decide_eq_true_eq] at h3
  have pr := h.pm p pm
  have r1 : roomL X t.owner = some p.room := by simpa using h1
  obtain ⟨o, ho, hr⟩ : ∃ o, X.ps.find? (isP t.owner) = some o ∧ o.room = p.room := by
    unfold roomL at r1
    cases e' : X.ps.find? (isP t.owner) with
    | none => rw [e'] at r1; cases r1
    | some o => rw [e'] at r1; exact ⟨o, rfl, Option.some.inj r1⟩
  refine ⟨h.cf, h.pr, h.tr, ?_, h.pm, h.tm, h.td, ?_, h.pl, h.tl, ?_, ?_⟩
  · refine insK_rise ltB_tr (fun z hz => ?_) h.br
    have := isB_not.mp (no z hz)
    simp only [ltB, decide_eq_true_eq, decide_eq_false_iff_not]; omega
  · intro b hb
    rcases insK_mem.mp hb with rfl | hb
    · exact ⟨by dsimp only; omega, p, pm, t, tm, o, (find_mem ho).1, pw, by omega, tw, isP_iff.mp (find_mem ho).2, hr⟩
    · exact h.bm b hb
  · show ((insK ltB X.bs _).length : Int) ≤ X.cf.sl
    rw [insK_length]; omega
  · intro k
    show ((List.filter (ofB k) (insK ltB X.bs _)).length : Int) ≤ X.cf.bs
    have := h.bq k
    by_cases ek : q.who = k
    · subst ek
      rw [insK_count (by simp [ofB])]; omega
    · rw [insK_filter (by simp [ofB, ek])]; exact this
theorem inv_map {X : St} (h : Inv X) {f : Sb → Sb} (hf : ∀ b, (f b).who = b.who ∧ (f b).track = b.track)
    (hl : ∀ b ∈ X.bs, 0 ≤ (f b).layer ∧ (f b).layer ≤ 2 ∧ 0 ≤ (f b).tid ∧ (f b).tid ≤ 3) : Inv { X with bs := X.bs.map f } := by
  refine ⟨h.cf, h.pr, h.tr, ?_, h.pm, h.tm, h.td, ?_, h.pl, h.tl, ?_, ?_⟩
  · refine List.pairwise_map.mpr (h.br.imp fun {a b} hab => ?_)
    simpa only [ltB, (hf a).1, (hf b).1, (hf a).2, (hf b).2] using hab
  · intro b hb
    obtain ⟨b, hb', rfl⟩ := List.mem_map.mp hb
    obtain ⟨a, p, hp, t, ht, o, ho, e1, e2, e3, e4⟩ := h.bm b hb'
    exact ⟨hl b hb', p, hp, t, ht, o, ho, e1.trans (hf b).1.symm, e2, e3.trans (hf b).2.symm, e4⟩
  · show ((X.bs.map f).length : Int) ≤ X.cf.sl
    rw [List.length_map]; exact h.bl
  · intro k
    show ((List.filter (ofB k) (X.bs.map f)).length : Int) ≤ X.cf.bs
    rw [List.filter_map, List.length_map]
    have : (ofB k ∘ f) = ofB k := by funext b; simp [ofB, (hf b).1]
    rw [this]; exact h.bq k
theorem inv_change {X : St} (h : Inv X) (q : Rq) : Inv (changeS X q).1 := by
  unfold changeS
  split
  · exact h
  rename_i b e
  split
  · refine ⟨h.cf, h.pr, h.tr, h.br.sublist List.filter_sublist, h.pm, h.tm, h.td, fun b hb => h.bm b (List.mem_filter.mp hb).1, h.pl, h.tl, len_filter _ _ h.bl, ?_⟩
    intro k
    have := h.bq k
    have l : (List.filter (ofB k) (X.bs.filter (fun b => !isB q.who q.track b))).length ≤ (X.bs.filter (ofB k)).length :=
      (List.filter_sublist.filter _).length_le
    show ((List.filter (ofB k) (X.bs.filter _)).length : Int) ≤ X.cf.bs
    omega
  split
  · split
    · exact h
    · refine inv_map h (fun b => ?_) (fun b hb => ?_)
      · unfold muteB; split <;> exact ⟨rfl, rfl⟩
      · have := (h.bm b hb).1; unfold muteB; split <;> exact this
  split
  · exact h
  rename_i hb
  simp only [badL, decide_eq_true_eq] at hb
  refine inv_map h (fun b => ?_) (fun b hb' => ?_)
  · unfold selB; split <;> exact ⟨rfl, rfl⟩
  · have := (h.bm b hb').1; unfold selB; split
    · dsimp only; omega
    · exact this
/-- Whatever is asked for, a state stays such as may be. -/
theorem inv_do {X : St} (h : Inv X) (q : Rq) : Inv (doS X q).1 := by
  unfold doS
  split
  · exact h
  split
  · exact inv_join h q
  split
  · exact h
  rename_i p e
  split
  · exact inv_leave h q
  split
  · exact inv_publish h p q e
  split
  · exact inv_unpub h q
  split
  · exact inv_repl h q
  split
  · exact inv_subscribe h p q e
  exact inv_change h q
end Go.Proofs.Ytmmeceehfdbdoaa.Dl
