/-
  Plain words on what requests make of a state: counts, what goes, and what comes back. Nothing here names the program.
-/
import Derived.Test.YtmmeceehfdbdoaaDeL
namespace Go.Proofs.Ytmmeceehfdbdoaa.Dl
/-- A state that is told with an error is the one that was. -/
def Fine (X : St) (r : St × Int) : Prop := (r.2 = 0 ∨ r.1 = X) ∧ r.1.cf = X.cf
theorem fine_err (X : St) (e : Int) : Fine X (X, e) := ⟨.inr rfl, rfl⟩
theorem fine_ok (X : St) (ps : List Pn) (ts : List Tk) (bs : List Sb) : Fine X (⟨X.cf, ps, ts, bs⟩, 0) := ⟨.inl rfl, rfl⟩
theorem fine_ite {X : St} {c : Prop} [Decidable c] {a b : St × Int} (ha : Fine X a) (hb : Fine X b) : Fine X (if c then a else b) := by
  split
  · exact ha
  · exact hb
theorem do_fine (X : St) (q : Rq) : Fine X (doS X q) := by
  unfold doS
  refine fine_ite (fine_err _ _) (fine_ite ?_ ?_)
  · exact fine_ite (fine_err _ _) (fine_ite (fine_err _ _) (fine_ite (fine_err _ _) (fine_ok _ _ _ _)))
  split
  · exact fine_err _ _
  refine fine_ite (fine_ok _ _ _ _) (fine_ite ?_ (fine_ite ?_ (fine_ite ?_ (fine_ite ?_ ?_))))
  · exact fine_ite (fine_err _ _) (fine_ite (fine_err _ _) (fine_ite (fine_err _ _) (fine_ite (fine_err _ _) (fine_ok _ _ _ _))))
  · unfold unpubS
    split
    · exact fine_err _ _
    · exact fine_ite (fine_err _ _) (fine_ok _ _ _ _)
  · unfold replS
    split
    · exact fine_err _ _
    · exact fine_ite (fine_err _ _) (fine_ite (fine_err _ _) (fine_ite (fine_err _ _) (fine_ok _ _ _ _)))
  · unfold subscribeS
    refine fine_ite (fine_err _ _) ?_
    split
    · exact fine_err _ _
    · exact fine_ite (fine_err _ _) (fine_ite (fine_err _ _) (fine_ite (fine_err _ _) (fine_ite (fine_err _ _) (fine_ite (fine_err _ _) (fine_ok _ _ _ _)))))
  · unfold changeS
    split
    · exact fine_err _ _
    · exact fine_ite (fine_ok _ _ _ _) (fine_ite (fine_ite (fine_err _ _) (fine_ok _ _ _ _)) (fine_ite (fine_err _ _) (fine_ok _ _ _ _)))
theorem do_err {X : St} {q : Rq} (h : (doS X q).2 ≠ 0) : (doS X q).1 = X := (do_fine X q).1.resolve_left h
theorem do_cf (X : St) (q : Rq) : (doS X q).1.cf = X.cf := (do_fine X q).2
/-- A request that is done changes of how many there are just what it says. -/
def countsL (k : Int) (p t b : Int) : Prop :=
  if k = 0 then p = 1 ∧ t = 0 ∧ b = 0
  else if k = 1 then p = -1 ∧ t ≤ 0 ∧ b ≤ 0
  else if k = 2 then p = 0 ∧ t = 1 ∧ b = 0
  else if k = 3 then p = 0 ∧ t = -1 ∧ b ≤ 0
  else if k = 5 then p = 0 ∧ t = 0 ∧ b = 1
  else if k = 6 then p = 0 ∧ t = 0 ∧ b = -1
  else p = 0 ∧ t = 0 ∧ b = 0
theorem do_counts {X : St} (h : Inv X) {q : Rq} (e : (doS X q).2 = 0) :
    countsL q.kind (((doS X q).1.ps.length : Int) - X.ps.length) (((doS X q).1.ts.length : Int) - X.ts.length) (((doS X q).1.bs.length : Int) - X.bs.length) := by
  revert e
  unfold doS
  split
  · intro e; cases e
  rename_i hk
  split
  · rename_i k0
    unfold joinS
    repeat' split
    all_goals intro e
    all_goals try (cases e; done)
    unfold countsL
    rw [if_pos k0]; dsimp only; rw [insK_length]; omega
  rename_i k0
  split
  · intro e; cases e
  rename_i p ep
  obtain ⟨pm, pe⟩ := find_mem ep
  split
  · rename_i k1
    unfold leaveS
    intro _
    unfold countsL
    rw [if_neg k0, if_pos k1]; dsimp only
    have l1 := out_length h.pr (isP_one q.who) pm pe
    have l2 := List.length_filter_le (fun t => !decide (t.owner = q.who)) X.ts
    have l3 := List.length_filter_le (fun b => !ofB q.who b && (X.ts.filter (fun t => !decide (t.owner = q.who))).any (isT b.track)) X.bs
    omega
  rename_i k1
  split
  · rename_i k2
    unfold publishS
    repeat' split
    all_goals intro e
    all_goals try (cases e; done)
    unfold countsL
    rw [if_neg k0, if_neg k1, if_pos k2]; dsimp only; rw [insK_length]; omega
  rename_i k2
  split
  · rename_i k3
    unfold unpubS
    split
    · intro e; cases e
    rename_i t et
    obtain ⟨tm, te⟩ := find_mem et
    split
    · intro e; cases e
    intro _
    unfold countsL
    rw [if_neg k0, if_neg k1, if_neg k2, if_pos k3]; dsimp only
    have l1 := out_length h.tr (isT_one q.track) tm te
    have l3 := List.length_filter_le (fun b => !decide (b.track = q.track)) X.bs
    omega
  rename_i k3
  split
  · rename_i k4
    unfold replS
    repeat' split
    all_goals intro e
    all_goals try (cases e; done)
    unfold countsL
    rw [if_neg k0, if_neg k1, if_neg k2, if_neg k3, if_neg (by omega), if_neg (by omega)]; dsimp only; rw [List.length_map]; omega
  rename_i k4
  split
  · rename_i k5
    unfold subscribeS
    repeat' split
    all_goals intro e
    all_goals try (cases e; done)
    unfold countsL
    rw [if_neg k0, if_neg k1, if_neg k2, if_neg k3, if_pos k5]; dsimp only; rw [insK_length]; omega
  rename_i k5
  unfold changeS
  split
  · intro e; cases e
  rename_i b eb
  obtain ⟨bm, be⟩ := find_mem eb
  split
  · rename_i k6
    intro _
    unfold countsL
    rw [if_neg k0, if_neg k1, if_neg k2, if_neg k3, if_neg k5, if_pos k6]; dsimp only
    have l1 := out_length h.br (isB_one q.who q.track) bm be
    omega
  rename_i k6
  repeat' split
  all_goals intro e
  all_goals try (cases e; done)
  all_goals (unfold countsL; rw [if_neg k0, if_neg k1, if_neg k2, if_neg k3, if_neg k5, if_neg k6]; dsimp only; rw [List.length_map]; omega)

/-! ### What goes -/
theorem same_sub {X : St} (h : Inv X) {x y : Sb} (hx : x ∈ X.bs) (hy : y ∈ X.bs) (e : y.who = x.who ∧ y.track = x.track) : y = x := by
  have a := h.sub hy
  rw [e.1, e.2, h.sub hx] at a
  exact (Option.some.inj a).symm
/-- What stays is as it was, but for the request's own. -/
theorem do_stays {X : St} (h : Inv X) (q : Rq) {x y : Sb} (hx : x ∈ X.bs) (hy : y ∈ (doS X q).1.bs) (e : y.who = x.who ∧ y.track = x.track) :
    y = x ∨ (q.who = x.who ∧ q.track = x.track ∧ 7 ≤ q.kind) := by
  revert hy
  have one : y ∈ X.bs → y = x ∨ (q.who = x.who ∧ q.track = x.track ∧ 7 ≤ q.kind) := fun hy => .inl (same_sub h hx hy e)
  have flt : ∀ f, y ∈ X.bs.filter f → y = x ∨ (q.who = x.who ∧ q.track = x.track ∧ 7 ≤ q.kind) := fun f hy => one (List.mem_filter.mp hy).1
  unfold doS
  split
  · exact one
  rename_i hk
  split
  · unfold joinS; repeat' split
    all_goals exact one
  rename_i k0
  split
  · exact one
  split
  · exact flt _
  rename_i k1
  split
  · unfold publishS; repeat' split
    all_goals exact one
  rename_i k2
  split
  · unfold unpubS; repeat' split
    all_goals first | exact one | exact flt _
  rename_i k3
  split
  · unfold replS; repeat' split
    all_goals exact one
  rename_i k4
  split
  · unfold subscribeS
    repeat' split
    all_goals try exact one
    rename_i h2 _ _ _
    intro hy
    have no := find_no h2
    rcases insK_mem.mp hy with rfl | hy
    · exact absurd ⟨e.1.symm, e.2.symm⟩ (isB_not.mp (no x hx))
    · exact one hy
  rename_i k5
  unfold changeS
  split
  · exact one
  split
  · exact flt _
  rename_i k6
  have mp : ∀ f : Sb → Sb, (∀ b, (f b).who = b.who ∧ (f b).track = b.track) → (∀ b, isB q.who q.track b = true ∨ f b = b) →
      y ∈ X.bs.map f → y = x ∨ (q.who = x.who ∧ q.track = x.track ∧ 7 ≤ q.kind) := by
    intro f h1 h2 hy
    obtain ⟨z, hz, rfl⟩ := List.mem_map.mp hy
    have : z = x := same_sub h hx hz ⟨(h1 z).1.symm.trans e.1, (h1 z).2.symm.trans e.2⟩
    subst this
    rcases h2 z with h2 | h2
    · obtain ⟨a, b⟩ := isB_iff.mp h2
      exact .inr ⟨a.symm, b.symm, by omega⟩
    · exact .inl h2
  repeat' split
  all_goals try exact one
  · refine mp _ (fun b => ?_) (fun b => ?_) <;> unfold muteB
    · split <;> exact ⟨rfl, rfl⟩
    · split
      · rename_i e; exact .inl e
      · exact .inr rfl
  · refine mp _ (fun b => ?_) (fun b => ?_) <;> unfold selB
    · split <;> exact ⟨rfl, rfl⟩
    · split
      · rename_i e; exact .inl e
      · exact .inr rfl
theorem gone_self (X : St) : goneS X X = [] := by
  unfold goneS
  refine List.filter_eq_nil_iff.mpr fun b hb => ?_
  have := find_yes hb (f := isB b.who b.track) (by simp [isB])
  cases e : X.bs.find? (isB b.who b.track) with
  | none => rw [e] at this; cases this
  | some _ => simp

/-! ### What comes back -/
def Rq.as (q : Rq) (k : Int) : Rq := ⟨k, q.who, q.room, q.rights, q.track, q.ss, q.layer, q.tid⟩
def Back (X : St) (q : Rq) (k : Int) : Prop := (doS (doS X q).1 (q.as k)) = (X, 0) ∧ (doS (doS X q).1 q).2 ≠ 0
theorem filter_all {α : Type} {f : α → Bool} {l : List α} (h : ∀ z ∈ l, f z = true) : l.filter f = l := List.filter_eq_self.mpr h
theorem back_join {X : St} (h : Inv X) {q : Rq} (k : q.kind = 0) (e : (doS X q).2 = 0) : Back X q 1 := by
  have hj : doS X q = joinS X q := by unfold doS; rw [if_neg (by omega), if_pos k]
  rw [hj] at e
  unfold joinS at e hj
  split at e
  · cases e
  rename_i h1
  rw [if_neg h1] at hj
  split at e
  · cases e
  rename_i h2
  rw [if_neg h2] at hj
  split at e
  · cases e
  rename_i h3
  rw [if_neg h3] at hj
  have no := find_no h2
  have fs : ((insK ltP X.ps ⟨q.who, q.room, q.rights⟩).find? (isP q.who)).isSome = true :=
    find_yes (insK_mem.mpr (.inl rfl)) (by simp [isP])
  unfold Back
  rw [hj]
  refine ⟨?_, ?_⟩
  · unfold doS
    have ek : (q.as 1).kind = 1 := rfl
    have ew : (q.as 1).who = q.who := rfl
    rw [if_neg (by omega), if_neg (by omega), ew]
    obtain ⟨z, ez⟩ := Option.isSome_iff_exists.mp fs
    dsimp only
    rw [ez]
    dsimp only
    rw [if_pos ek]
    unfold leaveS
    rw [ew]
    dsimp only
    have hp : (insK ltP X.ps ⟨q.who, q.room, q.rights⟩).filter (fun p => !isP q.who p) = X.ps := insK_out (by simp [isP]) no
    have ht : X.ts.filter (fun t => !decide (t.owner = q.who)) = X.ts := filter_all fun t ht => by
      obtain ⟨_, _, _, p, hp, d, _⟩ := h.tm t ht
      have := isP_not.mp (no p hp)
      rw [d] at this
      simpa using this
    have hb : X.bs.filter (fun b => !ofB q.who b && X.ts.any (isT b.track)) = X.bs := filter_all fun b hb => by
      obtain ⟨_, p, hp, t, ht, o, ho, e1, e2, e3, e4⟩ := h.bm b hb
      have := isP_not.mp (no p hp)
      rw [e1] at this
      rw [Bool.and_eq_true]
      exact ⟨by simpa [ofB] using this, List.any_eq_true.mpr ⟨t, ht, isT_iff.mpr e3⟩⟩
    rw [hp, ht, hb]
  · unfold doS
    rw [if_neg (by omega), if_pos k]
    unfold joinS
    rw [if_neg h1, if_pos fs]
    intro e; cases e
theorem back_publish {X : St} (h : Inv X) {q : Rq} (k : q.kind = 2) (e : (doS X q).2 = 0) : Back X q 3 := by
  have hj : ∀ p, X.ps.find? (isP q.who) = some p → doS X q = publishS X p q := by
    intro p ep
    unfold doS; rw [if_neg (by omega), if_neg (by omega), ep]; dsimp only; rw [if_neg (by omega), if_pos k]
  cases ep : X.ps.find? (isP q.who) with
  | none => unfold doS at e; rw [if_neg (by omega), if_neg (by omega), ep] at e; cases e
  | some p =>
    have hj := hj p ep
    rw [hj] at e
    unfold publishS at e hj
    split at e
    · cases e
    rename_i h0
    rw [if_neg h0] at hj
    split at e
    · cases e
    rename_i h1
    rw [if_neg h1] at hj
    split at e
    · cases e
    rename_i h2
    rw [if_neg h2] at hj
    split at e
    · cases e
    rename_i h3
    rw [if_neg h3] at hj
    have iv := inv_do h q
    rw [hj] at iv
    have no := find_no (fun e => h2 (.inl e))
    have ft : (insK ltT X.ts ⟨q.track, q.who, 0, q.ss⟩).find? (isT q.track) = some ⟨q.track, q.who, 0, q.ss⟩ :=
      iv.track (t := ⟨q.track, q.who, 0, q.ss⟩) (insK_mem.mpr (.inl rfl))
    unfold Back
    rw [hj]
    refine ⟨?_, ?_⟩
    · unfold doS
      have ek : (q.as 3).kind = 3 := rfl
      have ew : (q.as 3).who = q.who := rfl
      have et : (q.as 3).track = q.track := rfl
      rw [if_neg (by omega), if_neg (by omega), ew]
      dsimp only
      rw [ep]
      dsimp only
      rw [if_neg (by omega), if_neg (by omega), if_pos ek]
      unfold unpubS
      rw [et, ew]
      dsimp only
      rw [ft]
      dsimp only
      rw [if_neg (by simp)]
      have ht : (insK ltT X.ts ⟨q.track, q.who, 0, q.ss⟩).filter (fun t => !isT q.track t) = X.ts := insK_out (by simp [isT]) no
      have hb : X.bs.filter (fun b => !decide (b.track = q.track)) = X.bs := filter_all fun b hb => by
        obtain ⟨_, p, hp, t, ht, o, ho, e1, e2, e3, e4⟩ := h.bm b hb
        have := isT_not.mp (no t ht)
        rw [e3] at this
        simpa using this
      rw [ht, hb]
    · unfold doS
      rw [if_neg (by omega), if_neg (by omega)]
      dsimp only
      rw [ep]
      dsimp only
      rw [if_neg (by omega), if_pos k]
      unfold publishS
      dsimp only
      rw [if_neg h0, if_neg h1, if_pos (.inl (by rw [ft]; rfl))]
      intro e; cases e
theorem back_subscribe {X : St} (h : Inv X) {q : Rq} (k : q.kind = 5) (e : (doS X q).2 = 0) : Back X q 6 := by
  cases ep : X.ps.find? (isP q.who) with
  | none => unfold doS at e; rw [if_neg (by omega), if_neg (by omega), ep] at e; cases e
  | some p =>
    have hj : doS X q = subscribeS X p q := by
      unfold doS; rw [if_neg (by omega), if_neg (by omega), ep]; dsimp only
      rw [if_neg (by omega), if_neg (by omega), if_neg (by omega), if_neg (by omega), if_pos k]
    rw [hj] at e
    unfold subscribeS at e hj
    split at e
    · cases e
    rename_i h0
    rw [if_neg h0] at hj
    split at e
    · cases e
    rename_i t et
    rw [et] at hj
    dsimp only at hj
    split at e
    · cases e
    rename_i h1
    rw [if_neg h1] at hj
    split at e
    · cases e
    rename_i h2
    rw [if_neg h2] at hj
    split at e
    · cases e
    rename_i h3
    rw [if_neg h3] at hj
    split at e
    · cases e
    rename_i h4
    rw [if_neg h4] at hj
    split at e
    · cases e
    rename_i h5
    rw [if_neg h5] at hj
    have iv := inv_do h q
    rw [hj] at iv
    have no := find_no h2
    have fb : (insK ltB X.bs ⟨q.who, q.track, q.layer, q.tid, false⟩).find? (isB q.who q.track) = some ⟨q.who, q.track, q.layer, q.tid, false⟩ :=
      iv.sub (b := ⟨q.who, q.track, q.layer, q.tid, false⟩) (insK_mem.mpr (.inl rfl))
    unfold Back
    rw [hj]
    refine ⟨?_, ?_⟩
    · unfold doS
      have ek : (q.as 6).kind = 6 := rfl
      have ew : (q.as 6).who = q.who := rfl
      have eT : (q.as 6).track = q.track := rfl
      rw [if_neg (by omega), if_neg (by omega), ew]
      dsimp only
      rw [ep]
      dsimp only
      rw [if_neg (by omega), if_neg (by omega), if_neg (by omega), if_neg (by omega), if_neg (by omega)]
      unfold changeS
      rw [eT, ew]
      dsimp only
      rw [fb]
      dsimp only
      rw [if_pos ek]
      have hb : (insK ltB X.bs ⟨q.who, q.track, q.layer, q.tid, false⟩).filter (fun b => !isB q.who q.track b) = X.bs := insK_out (by simp [isB]) no
      rw [hb]
    · unfold doS
      rw [if_neg (by omega), if_neg (by omega)]
      dsimp only
      rw [ep]
      dsimp only
      rw [if_neg (by omega), if_neg (by omega), if_neg (by omega), if_neg (by omega), if_pos k]
      unfold subscribeS
      dsimp only
      rw [if_neg h0, et]
      dsimp only
      have er : roomL { X with bs := insK ltB X.bs ⟨q.who, q.track, q.layer, q.tid, false⟩ } t.owner = roomL X t.owner := rfl
      rw [er, if_neg h1, fb, if_pos (show (some _).isSome = true from rfl)]
      intro e; cases e
theorem find_mapB {f : Sb → Sb} {g : Sb → Bool} (hg : ∀ b, g (f b) = g b) {l : List Sb} {b : Sb} (h : l.find? g = some b) : (l.map f).find? g = some (f b) := by
  rw [List.find?_map]
  have : g ∘ f = g := funext hg
  rw [this, h]; rfl
theorem back_mute {X : St} (h : Inv X) {q : Rq} {k : Int} (hk : q.kind = 7 ∧ k = 8 ∨ q.kind = 8 ∧ k = 7) (e : (doS X q).2 = 0) : Back X q k := by
  cases ep : X.ps.find? (isP q.who) with
  | none => unfold doS at e; rw [if_neg (by omega), if_neg (by omega), ep] at e; cases e
  | some p =>
    have hj : doS X q = changeS X q := by
      unfold doS; rw [if_neg (by omega), if_neg (by omega), ep]; dsimp only
      rw [if_neg (by omega), if_neg (by omega), if_neg (by omega), if_neg (by omega), if_neg (by omega)]
    rw [hj] at e
    unfold changeS at e hj
    split at e
    · cases e
    rename_i b eb
    rw [eb] at hj
    dsimp only at hj
    rw [if_neg (by omega), if_pos (by omega)] at e hj
    split at e
    · cases e
    rename_i h1
    rw [if_neg h1] at hj
    obtain ⟨bm, be⟩ := find_mem eb
    have hm : ∀ (q' : Rq), q'.who = q.who → q'.track = q.track → ∀ b, isB q.who q.track (muteB q' b) = isB q.who q.track b := by
      intro q' _ _ b; unfold muteB; split <;> rfl
    have fb := find_mapB (hm q rfl rfl) eb
    have mb : (muteB q b).muted = decide (q.kind = 7) := by unfold muteB; rw [if_pos be]
    unfold Back
    rw [hj]
    refine ⟨?_, ?_⟩
    · unfold doS
      have ek : (q.as k).kind = k := rfl
      have ew : (q.as k).who = q.who := rfl
      have eT : (q.as k).track = q.track := rfl
      rw [if_neg (by omega), if_neg (by omega), ew]
      dsimp only
      rw [ep]
      dsimp only
      rw [if_neg (by omega), if_neg (by omega), if_neg (by omega), if_neg (by omega), if_neg (by omega)]
      unfold changeS
      rw [eT, ew]
      dsimp only
      rw [fb]
      dsimp only
      rw [if_neg (by omega), if_pos (by omega), mb, if_neg (by rcases hk with ⟨a, b⟩ | ⟨a, b⟩ <;> rw [ek, a, b] <;> decide)]
      have : (X.bs.map (muteB q)).map (muteB (q.as k)) = X.bs := by
        rw [List.map_map]
        refine (List.map_congr_left (g := id) fun z hz => ?_).trans (List.map_id _)
        show muteB (q.as k) (muteB q z) = z
        cases r : isB q.who q.track z with
        | false =>
          have a : muteB q z = z := by unfold muteB; rw [if_neg (by rw [r]; simp)]
          rw [a]; unfold muteB; rw [ew, eT, if_neg (by rw [r]; simp)]
        | true =>
          have : z = b := by
            have y := find_one h.br (isB_one _ _) hz r
            rw [eb] at y; exact (Option.some.inj y).symm
          subst this
          have a : muteB q z = ⟨z.who, z.track, z.layer, z.tid, decide (q.kind = 7)⟩ := by unfold muteB; rw [if_pos r]
          rw [a]; unfold muteB; rw [ew, eT]
          have r' : isB q.who q.track ⟨z.who, z.track, z.layer, z.tid, decide (q.kind = 7)⟩ = true := r
          rw [if_pos r']
          have : decide ((q.as k).kind = 7) = z.muted := by
            rw [ek]
            rcases hk with ⟨a, b⟩ | ⟨a, b⟩
            · rw [a] at h1; rw [b]; cases m : z.muted with
              | false => rfl
              | true => rw [m] at h1; exact absurd rfl h1
            · rw [a] at h1; rw [b]; cases m : z.muted with
              | true => rfl
              | false => rw [m] at h1; exact absurd rfl h1
          rw [this]
      rw [this]
    · unfold doS
      rw [if_neg (by omega), if_neg (by omega)]
      dsimp only
      rw [ep]
      dsimp only
      rw [if_neg (by omega), if_neg (by omega), if_neg (by omega), if_neg (by omega), if_neg (by omega)]
      unfold changeS
      dsimp only
      rw [fb]
      dsimp only
      rw [if_neg (by omega), if_pos (by omega), if_pos mb]
      intro e; cases e

/-! ### No SSRC is told twice -/
theorem ss_nodup {X : St} (h : Inv X) : (X.ts.flatMap (·.ss)).Nodup := by
  refine List.pairwise_flatMap.mpr ⟨fun t ht => ?_, h.td⟩
  have := (h.tm t ht).2.2.1
  simp only [mayL, Bool.and_eq_true, decide_eq_true_eq] at this
  exact this.2
theorem ss_once {X : St} (h : Inv X) {t : Tk} (ht : t ∈ X.ts) {x : Int} (hx : x ∈ t.ss) : (X.ts.map fun t => t.ss.count x).sum = 1 := by
  have c := List.count_flatMap (l := X.ts) (f := fun t : Tk => t.ss) (x := x)
  have n := (ss_nodup h).count (a := x)
  rw [if_pos (List.mem_flatMap.mpr ⟨t, ht, hx⟩)] at n
  rw [c] at n
  exact n
end Go.Proofs.Ytmmeceehfdbdoaa.Dl
