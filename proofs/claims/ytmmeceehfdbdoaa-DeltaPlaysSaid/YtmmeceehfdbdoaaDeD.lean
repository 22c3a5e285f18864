/-
  What the document's calls tell (layer 18), as what doS is made of: join, publish, subscribe, change. Nothing here names the program.
-/
import Derived.Test.YtmmeceehfdbdoaaDeB
import Derived.Test.YtmmeceehfdbdoaaDeC
namespace Go.Proofs.Ytmmeceehfdbdoaa.Dl
theorem find_map {α β : Type} (f : α → β) (p : β → Bool) : ∀ l : List α, (l.map f).find? p = (l.find? fun x => p (f x)).map f
  | [] => rfl
  | a :: l => by
    rw [List.map_cons, List.find?_cons, List.find?_cons]
    cases p (f a) with
    | true => rfl
    | false => exact find_map f p l
theorem any_map' {α β : Type} (f : α → β) (p : β → Bool) (l : List α) : (l.map f).any p = l.any fun x => p (f x) := by rw [List.any_map]; rfl
theorem tw_map {α β : Type} (f : α → β) (p : β → Bool) : ∀ l : List α, (l.map f).takeWhile p = (l.takeWhile fun x => p (f x)).map f
  | [] => rfl
  | a :: l => by
    rw [List.map_cons, List.takeWhile_cons, List.takeWhile_cons]
    cases p (f a) with
    | true => rw [if_pos rfl, if_pos rfl, List.map_cons, tw_map f p l]
    | false => rfl
theorem dw_map {α β : Type} (f : α → β) (p : β → Bool) : ∀ l : List α, (l.map f).dropWhile p = (l.dropWhile fun x => p (f x)).map f
  | [] => rfl
  | a :: l => by
    rw [List.map_cons, List.dropWhile_cons, List.dropWhile_cons]
    cases p (f a) with
    | true => rw [if_pos rfl, if_pos rfl, dw_map f p l]
    | false => rfl
/-- The tracks alone. -/
def tks (l : List Tm) : List Tk := l.map (·.t)
theorem taken_is {X : St} {l : List Tm} (h : X.ts = tks l) (q : List Int) : takenM l q = takenS X q := by
  unfold takenM takenS
  rw [h]
  unfold tks
  rw [any_map']
theorem insM_is (l : List Tm) (x : Tm) : tks (insK ltM l x) = insK ltT (tks l) x.t := by
  unfold tks insK
  rw [List.map_append, List.map_cons, tw_map, dw_map]
  rfl
theorem join_is (X : St) (q : Rq) : joinS X q = if joinE X.cf.ps X.ps q = 0 then ({ X with ps := insK ltP X.ps ⟨q.who, q.room, q.rights⟩ }, 0) else (X, joinE X.cf.ps X.ps q) := by
  unfold joinS joinE
  split
  · rfl
  · split
    · rfl
    · split <;> rfl
theorem publish_is (X : St) (p : Pn) (q : Rq) {l : List Tm} (h : X.ts = tks l) : publishS X p q = if pubE X.cf.ts p l q = 0 then ({ X with ts := insK ltT X.ts ⟨q.track, q.who, 0, q.ss⟩ }, 0) else (X, pubE X.cf.ts p l q) := by
  have e1 : (X.ts.find? (isT q.track)).isSome = (l.find? fun x => isT q.track x.t).isSome := by
    rw [h]
    unfold tks
    rw [find_map]
    simp
  have e2 : X.ts.length = l.length := by rw [h]; simp [tks]
  unfold publishS pubE
  rw [e1, ← taken_is h, e2]
  split
  · rfl
  · split
    · rfl
    · split
      · rfl
      · split <;> rfl
theorem subscribe_is (X : St) (p : Pn) (q : Rq) {l : List Tm} (h : X.ts = tks l) (hI : Inv X) : subscribeS X p q = if subE X.cf.bs X.cf.sl X.ps p l X.bs q = 0 then ({ X with bs := insN ltB X.bs ⟨q.who, q.track, q.layer, q.tid, false⟩ }, 0) else (X, subE X.cf.bs X.cf.sl X.ps p l X.bs q) := by
  have e1 : X.ts.find? (isT q.track) = (l.find? fun x => isT q.track x.t).map (·.t) := by
    rw [h]
    exact find_map _ _ l
  rw [insN_eq ltB_tr hI.br]
  unfold subscribeS subE
  split
  · rfl
  · rw [e1]
    cases l.find? fun x => isT q.track x.t with
    | none => rfl
    | some x =>
      dsimp only [Option.map]
      show (if roomL X x.t.owner ≠ some p.room then _ else _) = _
      rw [show roomL X x.t.owner = roomP X.ps x.t.owner from rfl]
      split
      · rfl
      · split
        · rfl
        · split
          · rfl
          · split
            · rfl
            · split <;> rfl
/-- Of a row in which just one is meant, all but that one; and that one turned. -/
theorem out_at {α : Type} {R : α → α → Prop} {f : α → Bool} {l : List α} (hp : l.Pairwise R) (one : ∀ a b, f a = true → f b = true → ¬ R a b) : ∀ {i : Nat} {x : α}, l[i]? = some x → f x = true → l.filter (fun z => !f z) = l.take i ++ l.drop (i + 1) := by
  induction l with
  | nil => intro i x h; simp at h
  | cons a l ih =>
    obtain ⟨h1, h2⟩ := List.pairwise_cons.mp hp
    intro i x h hf
    cases i with
    | zero =>
      simp at h
      subst h
      rw [List.filter_cons_of_neg (by simp [hf]), List.filter_eq_self.mpr (fun b hb => by
        cases r : f b with
        | false => rfl
        | true => exact absurd (h1 b hb) (one _ b hf r))]
      rfl
    | succ i =>
      have hx : x ∈ l := List.mem_of_getElem? (by simpa using h)
      have ha : f a = false := by
        cases r : f a with
        | false => rfl
        | true => exact absurd (h1 x hx) (one a x r hf)
      rw [List.filter_cons_of_pos (by simp [ha]), ih h2 (i := i) (by simpa using h) hf]
      rfl
theorem map_at {α : Type} {R : α → α → Prop} {f : α → Bool} {g : α → α} {l : List α} (hp : l.Pairwise R) (one : ∀ a b, f a = true → f b = true → ¬ R a b) (hg : ∀ z, f z = false → g z = z) : ∀ {i : Nat} {x : α}, l[i]? = some x → f x = true → l.map g = l.set i (g x) := by
  induction l with
  | nil => intro i x h; simp at h
  | cons a l ih =>
    obtain ⟨h1, h2⟩ := List.pairwise_cons.mp hp
    intro i x h hf
    cases i with
    | zero =>
      simp at h
      subst h
      rw [List.map_cons, List.set_cons_zero]
      congr 1
      have : l.map g = l.map id := List.map_congr_left fun b hb => hg b (by
        cases r : f b with
        | false => rfl
        | true => exact absurd (h1 b hb) (one _ b hf r))
      rw [this, List.map_id]
    | succ i =>
      have hx : x ∈ l := List.mem_of_getElem? (by simpa using h)
      have ha : f a = false := by
        cases r : f a with
        | false => rfl
        | true => exact absurd (h1 x hx) (one a x r hf)
      rw [List.map_cons, List.set_cons_succ, hg a ha, ih h2 (i := i) (by simpa using h) hf]
theorem change_is (X : St) (q : Rq) (hI : Inv X) :
    (chgE X.bs q ≠ 0 → changeS X q = (X, chgE X.bs q)) ∧ ∀ (i : Nat) (b : Sb), chgE X.bs q = 0 → X.bs[i]? = some b → X.bs.find? (isB q.who q.track) = some b → changeS X q = ({ X with bs := chgR X.bs i b q }, 0) := by
  have hone := isB_one q.who q.track
  constructor
  · unfold changeS chgE
    cases X.bs.find? (isB q.who q.track) with
    | none => exact fun _ => rfl
    | some b =>
      dsimp only
      split
      · exact fun h => absurd rfl h
      · split
        · split
          · exact fun _ => rfl
          · exact fun h => absurd rfl h
        · split
          · exact fun _ => rfl
          · exact fun h => absurd rfl h
  · intro i b h0 hb hf
    have hfb := (find_mem hf).2
    unfold changeS
    unfold chgE at h0
    rw [hf] at h0 ⊢
    dsimp only at h0 ⊢
    unfold chgR
    split
    · rename_i h6
      rw [out_at hI.br hone hb hfb]
    · rename_i h6
      rw [if_neg h6] at h0
      split
      · rename_i h7
        rw [if_pos h7] at h0
        split
        · rename_i h8
          rw [if_pos h8] at h0
          cases h0
        · rw [map_at (g := muteB q) hI.br hone (fun z hz => by unfold muteB; rw [if_neg (by rw [hz]; simp)]) hb hfb]
          unfold muteB chgB
          rw [if_pos hfb, if_pos h7]
      · rename_i h7
        rw [if_neg h7] at h0
        split
        · rename_i h8
          rw [if_pos h8] at h0
          cases h0
        · rw [map_at (g := selB q) hI.br hone (fun z hz => by unfold selB; rw [if_neg (by rw [hz]; simp)]) hb hfb]
          unfold selB chgB
          rw [if_pos hfb, if_neg h7]
theorem tks_filter (f : Tk → Bool) (l : List Tm) : (tks l).filter f = tks (l.filter fun x => f x.t) := by
  unfold tks
  rw [List.filter_map]
  rfl
theorem tks_mem {l : List Tm} {x : Tm} (h : x ∈ l) : x.t ∈ tks l := List.mem_map.mpr ⟨x, h, rfl⟩
theorem owner_pos {X : St} (hI : Inv X) {t : Tk} (ht : t ∈ X.ts) : 1 ≤ t.owner := by
  obtain ⟨_, _, _, p, hp, e, _⟩ := hI.tm t ht
  have := (hI.pm p hp).1
  omega
theorem who_pos {X : St} (hI : Inv X) {b : Sb} (hb : b ∈ X.bs) : 1 ≤ b.who := by
  obtain ⟨_, p, hp, _, _, _, _, e, _⟩ := hI.bm b hb
  have := (hI.pm p hp).1
  omega
/-- The subs of a state whose tracks are cut to those of which f holds. -/
theorem keepB_is {l : List Tm} (k : Int) (f : Tm → Bool) {b : Sb} : keepB k (l.filter f) b = (!ofB k b && (tks (l.filter f)).any (isT b.track)) := by
  unfold keepB tks
  rw [any_map']
theorem unpub_is (X : St) (q : Rq) {l : List Tm} (h : X.ts = tks l) (hI : Inv X) (hk : q.kind = 3) :
    unpubS X q = if ownE l q = 0 then ({ X with ts := tks (l.filter (keepT q.track 0)), bs := X.bs.filter (keepB 0 (l.filter (keepT q.track 0))) }, 0) else (X, ownE l q) := by
  have e1 : X.ts.find? (isT q.track) = (l.find? fun x => isT q.track x.t).map (·.t) := by
    rw [h]
    exact find_map _ _ l
  have e2 : l.filter (keepT q.track 0) = l.filter fun x => !isT q.track x.t := List.filter_congr fun x hx => by
    have := owner_pos hI (by rw [h]; exact tks_mem hx)
    unfold keepT isT
    rw [decide_eq_false (p := x.t.owner = 0) (by omega)]
    simp
  have e3 : X.bs.filter (keepB 0 (l.filter (keepT q.track 0))) = X.bs.filter fun b => !decide (b.track = q.track) := List.filter_congr fun b hb => by
    rw [keepB_is, e2, ← tks_filter (fun t => !isT q.track t), ← h]
    have w1 := who_pos hI hb
    obtain ⟨_, p, hp, t, ht, o, ho, _, _, et, _⟩ := hI.bm b hb
    unfold ofB
    rw [decide_eq_false (p := b.who = 0) (by omega), Bool.not_false, Bool.true_and]
    by_cases e : b.track = q.track
    · rw [decide_eq_true e]
      rw [Bool.not_true, List.any_eq_false]
      intro z hz
      have hz := (List.mem_filter.mp hz).2
      unfold isT at hz ⊢
      simp at hz ⊢
      omega
    · rw [decide_eq_false e, Bool.not_false, List.any_eq_true]
      refine ⟨t, List.mem_filter.mpr ⟨ht, ?_⟩, ?_⟩
      · unfold isT
        simp
        omega
      · unfold isT
        simp
        exact et
  rw [e3, e2, ← tks_filter (fun t => !isT q.track t), ← h]
  unfold unpubS ownE
  rw [e1]
  cases l.find? fun x => isT q.track x.t with
  | none => rfl
  | some x =>
    dsimp only [Option.map]
    split
    · rfl
    · rw [if_pos rfl]
theorem leave_is (X : St) (q : Rq) {l : List Tm} (h : X.ts = tks l) (hI : Inv X) :
    leaveS X q = ({ X with ps := X.ps.filter (fun p => !isP q.who p), ts := tks (l.filter (keepT 0 q.who)), bs := X.bs.filter (keepB q.who (l.filter (keepT 0 q.who))) }, 0) := by
  have e2 : l.filter (keepT 0 q.who) = l.filter fun x => !decide (x.t.owner = q.who) := List.filter_congr fun x hx => by
    have := (hI.tm x.t (by rw [h]; exact tks_mem hx)).1
    unfold keepT
    rw [decide_eq_false (p := x.t.id = 0) (by omega)]
    simp
  have e3 : tks (l.filter (keepT 0 q.who)) = X.ts.filter fun t => !decide (t.owner = q.who) := by rw [e2, ← tks_filter (fun t => !decide (t.owner = q.who)), ← h]
  have e4 : X.bs.filter (keepB q.who (l.filter (keepT 0 q.who))) = X.bs.filter fun b => !ofB q.who b && (X.ts.filter fun t => !decide (t.owner = q.who)).any (isT b.track) := List.filter_congr fun b _ => by
    rw [keepB_is, e3]
  unfold leaveS
  rw [e3, e4]
theorem tks_set (l : List Tm) (i : Nat) (y : Tm) : tks (l.set i y) = (tks l).set i y.t := by
  unfold tks
  rw [List.map_set]
theorem repl_is (X : St) (q : Rq) {l : List Tm} (h : X.ts = tks l) (hI : Inv X) (hk : q.kind = 4) :
    (ownE l q ≠ 0 → replS X q = (X, ownE l q)) ∧ ∀ (i : Nat) (x : Tm) (Q : Option Addr) (c : Nat), ownE l q = 0 → l[i]? = some x → l.find? (fun x => isT q.track x.t) = some x → replS X q = ({ X with ts := tks (l.set i (replM x q.ss Q c)) }, 0) := by
  have e1 : X.ts.find? (isT q.track) = (l.find? fun x => isT q.track x.t).map (·.t) := by
    rw [h]
    exact find_map _ _ l
  have hk3 : ¬ q.kind = 3 := by omega
  constructor
  · unfold replS ownE
    rw [e1, ← taken_is h]
    cases l.find? fun x => isT q.track x.t with
    | none => exact fun _ => rfl
    | some x =>
      dsimp only [Option.map]
      split
      · exact fun _ => rfl
      · split
        · exact fun _ => rfl
        · split
          · exact fun _ => rfl
          · exact fun h => absurd rfl h
  · intro i x Q c h0 hx hf
    have hft : isT q.track x.t = true := (find_mem hf).2
    unfold replS
    unfold ownE at h0
    rw [hf] at e1 h0
    rw [e1, ← taken_is h]
    dsimp only [Option.map] at h0 ⊢
    split
    · rename_i h1
      rw [if_pos h1] at h0
      cases h0
    · rename_i h1
      rw [if_neg h1, if_neg hk3] at h0
      split
      · rename_i h2
        rw [if_pos h2] at h0
        cases h0
      · rename_i h2
        rw [if_neg h2] at h0
        split
        · rename_i h3
          rw [if_pos h3] at h0
          cases h0
        · have hxt : X.ts[i]? = some x.t := by rw [h]; unfold tks; rw [List.getElem?_map, hx]; rfl
          rw [map_at (g := replT q) hI.tr (isT_one q.track) (fun z hz => by unfold replT; rw [if_neg (by rw [hz]; simp)]) hxt hft, tks_set, ← h]
          have ew : RowKit.wrap64 (x.t.from' + 1) = bump x.t.from' := by unfold RowKit.wrap64 bump; omega
          unfold replT replM
          rw [if_pos hft, ew]
end Go.Proofs.Ytmmeceehfdbdoaa.Dl
