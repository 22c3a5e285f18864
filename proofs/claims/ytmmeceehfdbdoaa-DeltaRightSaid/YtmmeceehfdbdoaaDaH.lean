/-
  The law's holds (layer 18): a state that may be is told right.
-/
import Derived.Test.YtmmeceehfdbdoaaDcY
import Derived.RegionTactic
import Derived.Deep.CutBlock
import Derived.Deep.DeepCutAuto
namespace Go.Proofs.Ytmmeceehfdbdoaa
open Go.RowKit
open Dl
set_option linter.unusedSimpArgs false
set_option linter.unusedVariables false
set_option maxRecDepth 100000
namespace Dl
theorem any_add {α : Type} {f : α → Bool} {l : List α} {j : Nat} {x : α} (h : l[j]? = some x) : (l.take (j + 1)).any f = ((l.take j).any f || f x) := by
  rw [List.take_add_one, h, List.any_append]
  simp
def okP (k : Int) (p : Pn) : Bool := p.who == k && p.rights % 2 == 1
def mayS (k : Int) (p : Pn) : Bool := p.who == k && decide (1 < p.rights)
theorem owner_any {X : St} (h : Inv X) {t : Tk} (ht : t ∈ X.ts) : X.ps.any (okP t.owner) = true := by
  obtain ⟨_, _, _, p, hp, e, r⟩ := h.tm t ht
  exact List.any_eq_true.mpr ⟨p, hp, by simp [okP, e, r]⟩
theorem ids_rise {X : St} (h : Inv X) {i j : Nat} {a b : Tk} (ha : X.ts[i]? = some a) (hb : X.ts[j]? = some b) (hij : i < j) : a.id < b.id := by
  obtain ⟨h1, e1⟩ := List.getElem?_eq_some_iff.mp ha
  obtain ⟨h2, e2⟩ := List.getElem?_eq_some_iff.mp hb
  have := List.pairwise_iff_getElem.mp h.tr i j h1 h2 hij
  rw [e1, e2] at this
  simpa [ltT] using this
theorem person_one {X : St} (h : Inv X) {p q : Pn} (hp : p ∈ X.ps) (hq : q ∈ X.ps) (e : p.who = q.who) : p = q := by
  have a := h.person hp
  rw [e, h.person hq] at a
  exact (Option.some.inj a).symm
theorem track_one {X : St} (h : Inv X) {p q : Tk} (hp : p ∈ X.ts) (hq : q ∈ X.ts) (e : p.id = q.id) : p = q := by
  have a := find_one h.tr (isT_one p.id) hp (by simp [isT])
  have b := find_one h.tr (isT_one p.id) hq (by simp [isT, e])
  rw [a] at b
  exact Option.some.inj b
def cntT (x : Int) (y : Tm) : Nat := y.t.ss.count x
theorem cntT_all {X : St} {T : List Tm} (h : Inv X) (e : X.ts = tks T) {y : Tm} (hy : y ∈ T) {x : Int} (hx : x ∈ y.t.ss) : (T.map (cntT x)).sum = 1 := by
  have := ss_once h (t := y.t) (by rw [e]; exact tks_mem hy) hx
  rw [e] at this
  unfold tks at this
  rw [List.map_map] at this
  exact this
theorem cntT_step {T : List Tm} {j : Nat} {y : Tm} (f : Tm → Nat) (h : T[j]? = some y) : ((T.take (j + 1)).map f).sum = ((T.take j).map f).sum + f y := by
  rw [List.take_add_one, h, List.map_append, List.sum_append]
  simp
theorem cntT_le {T : List Tm} {j : Nat} {y : Tm} (f : Tm → Nat) (h : T[j]? = some y) : ((T.take j).map f).sum + f y ≤ (T.map f).sum := by
  rw [← cntT_step f h]
  conv => rhs; rw [← List.take_append_drop (j + 1) T]
  rw [List.map_append, List.sum_append]
  omega
theorem count_add {l : List Int} {q : Nat} {v x : Int} (h : l[q]? = some v) : (l.take (q + 1)).count x = (l.take q).count x + (if v = x then 1 else 0) := by
  rw [List.take_add_one, h, List.count_append]
  by_cases e : v = x
  · simp [e]
  · simp [e]
theorem count_le' (l : List Int) (q : Nat) (x : Int) : (l.take q).count x ≤ l.count x := (List.take_sublist q l).count_le x
/-- What is told of a sub: a room that somebody is in, if they are among the first ones. -/
def roomIf (b : Bool) (r : Int) : Int := if b = true then r else 0
end Dl
set_option maxHeartbeats 25600000 in
theorem holds18 (P : Nat → Prop) (s : Sm) (w : World) (h : SAt P w s) : Calls Try.prog 19 #[.agg (smA s)] w fun e w' => e = .returned (.bool true) ∧ Below w.heap.size w w' := by
  obtain ⟨X, T, A, a, B, b, C, c⟩ := s
  have hi := h.inv
  have hts := h.ts
  have hsm := h.small
  obtain ⟨⟨m1, m2, m3, m4⟩, ps, ts, bs⟩ := X
  dsimp only at hts hsm
  subst hts
  obtain ⟨np, hnp⟩ : ∃ z, ps.length = z := ⟨_, rfl⟩
  obtain ⟨nt, hnt⟩ : ∃ z, T.length = z := ⟨_, rfl⟩
  obtain ⟨nb, hnb⟩ : ∃ z, bs.length = z := ⟨_, rfl⟩
  rw [hnp, hnt, hnb] at hsm
  obtain ⟨sp, st, sb⟩ := hsm
  have hpl := hi.pl
  have htl := hi.tl
  have hbl := hi.bl
  dsimp only at hpl htl hbl
  rw [hnp] at hpl
  rw [show (tks T).length = nt by unfold tks; rw [List.length_map, hnt]] at htl
  rw [hnb] at hbl
  rw [show smA ⟨⟨⟨m1, m2, m3, m4⟩, ps, tks T, bs⟩, T, A, a, B, b, C, c⟩ = #[.int .i64 m1, .int .i64 m2, .int .i64 m3, .int .i64 m4, .slice A np a, .slice B nt b, .slice C nb c] from by unfold smA; dsimp only; rw [hnp, hnt, hnb]]
  obtain ⟨w1, hw1⟩ : ∃ z, z = w.alloc (.cells #[.int .i64 m1, .int .i64 m2, .int .i64 m3, .int .i64 m4, .slice A np a, .slice B nt b, .slice C nb c] 31) := ⟨_, rfl⟩
  have b1 : Below w.heap.size w w1 := by rw [hw1]; exact (Below.refl _ _).alloc (Nat.le_refl _) _
  have hS : Whole w1 w.heap.size 31 #[.int .i64 m1, .int .i64 m2, .int .i64 m3, .int .i64 m4, .slice A np a, .slice B nt b, .slice C nb c] := by rw [hw1]; exact Whole.new w _ _
  have h1 := h.next b1
  have HRP := h1.rp
  have HRT := h1.rt
  have HRB := h1.rb
  dsimp only at HRP HRT HRB
  rw [hnp] at HRP
  rw [hnb] at HRB
  replace HRP := Lib.hid HRP
  replace HRT := Lib.hid HRT
  replace HRB := Lib.hid HRB
  have HI := Lib.hid hi
  have HS := Lib.hid hS
  have HB1 := Lib.hid b1
  have la := hS.lt
  have HNP := Lib.hid hnp
  have HNT := Lib.hid hnt
  have HNB := Lib.hid hnb
  have HZ := Lib.hid (Below.refl w1.heap.size w1)
  clear hi hS b1 h1 h hnp hnt hnb
  have c0 : w1.cell? ⟨w.heap.size, 0, none⟩ = some (.int .i64 m1) := (HS.out.cell 0).trans rfl
  have c1 : w1.cell? ⟨w.heap.size, 1, none⟩ = some (.int .i64 m2) := (HS.out.cell 1).trans rfl
  have c2 : w1.cell? ⟨w.heap.size, 2, none⟩ = some (.int .i64 m3) := (HS.out.cell 2).trans rfl
  have c3 : w1.cell? ⟨w.heap.size, 3, none⟩ = some (.int .i64 m4) := (HS.out.cell 3).trans rfl
  have c4 : w1.cell? ⟨w.heap.size, 4, none⟩ = some (.slice A np a) := (HS.out.cell 4).trans rfl
  have c5 : w1.cell? ⟨w.heap.size, 5, none⟩ = some (.slice B nt b) := (HS.out.cell 5).trans rfl
  have c6 : w1.cell? ⟨w.heap.size, 6, none⟩ = some (.slice C nb c) := (HS.out.cell 6).trans rfl
  go_enter Try.func19, Try.ntmps19
  go_upto_region 1 with fail
  rw [← hw1]
  clear hw1
  go_wp2_with fail
  go_loopw [3, 4] (fun sv iv wr => ∃ i : Nat, i ≤ nt ∧ iv = .int .i64 (i : Int) ∧ sv = .int .i64 0 ∧ Hid (Below w1.heap.size w1 wr)) (fun _ iv _ => nt - (intOf iv).toNat)
  case atStart => exact ⟨0, Nat.zero_le _, rfl, rfl, HZ⟩
  case round =>
    as_aux_lemma =>
      obtain ⟨i, hi, rfl, rfl, HT⟩ := hrel
      obtain ⟨wt, rfl⟩ : ∃ z, z = wr := ⟨_, rfl⟩
      clear c0 c1 c2 c3 c4 c5 c6
      have c0 : wt.cell? ⟨w.heap.size, 0, none⟩ = some (.int .i64 m1) := (HT.out.cell (p := ⟨w.heap.size, 0, none⟩) la).trans ((HS.out.cell 0).trans rfl)
      have c1 : wt.cell? ⟨w.heap.size, 1, none⟩ = some (.int .i64 m2) := (HT.out.cell (p := ⟨w.heap.size, 1, none⟩) la).trans ((HS.out.cell 1).trans rfl)
      have c2 : wt.cell? ⟨w.heap.size, 2, none⟩ = some (.int .i64 m3) := (HT.out.cell (p := ⟨w.heap.size, 2, none⟩) la).trans ((HS.out.cell 2).trans rfl)
      have c3 : wt.cell? ⟨w.heap.size, 3, none⟩ = some (.int .i64 m4) := (HT.out.cell (p := ⟨w.heap.size, 3, none⟩) la).trans ((HS.out.cell 3).trans rfl)
      have c4 : wt.cell? ⟨w.heap.size, 4, none⟩ = some (.slice A np a) := (HT.out.cell (p := ⟨w.heap.size, 4, none⟩) la).trans ((HS.out.cell 4).trans rfl)
      have c5 : wt.cell? ⟨w.heap.size, 5, none⟩ = some (.slice B nt b) := (HT.out.cell (p := ⟨w.heap.size, 5, none⟩) la).trans ((HS.out.cell 5).trans rfl)
      have c6 : wt.cell? ⟨w.heap.size, 6, none⟩ = some (.slice C nb c) := (HT.out.cell (p := ⟨w.heap.size, 6, none⟩) la).trans ((HS.out.cell 6).trans rfl)
      try rw [HBa.out] at c5
      try rw [HCa.out] at c6
      have lwt : w.heap.size < wt.heap.size := by have := HT.out.size; omega
      by_cases hit : i < nt
      · as_aux_lemma =>
          obtain ⟨y, hy⟩ : ∃ y, T[i]? = some y := ⟨_, List.getElem?_eq_getElem (by rw [HNT.out]; exact hit)⟩
          have hrt := HRT.out.1
          rw [HNT.out] at hrt
          obtain ⟨gB, oB, hBe, hgB, hcB⟩ := hrt.2 (by omega)
          have HBa := Lib.hid hBe
          rw [hBe] at c5
          clear hBe
          have HYS := Lib.hid (HRT.out.2 y (List.mem_of_getElem? hy))
          have HY := Lib.hid hy
          have HCB := Lib.hid hcB
          clear hcB hrt hy
          have i0 : (0 : Int) ≤ (i : Int) := by omega
          have i1 : (i : Int) < (nt : Int) := by omega
          have lB : gB < wt.heap.size := by have := HT.out.size; omega
          obtain ⟨⟨yi, yo, yf, yss⟩, yA, yc⟩ := y
          have HOW := Lib.hid (owner_any HI.out (t := ⟨yi, yo, yf, yss⟩) (List.mem_of_getElem? (show (tks T)[i]? = some _ by unfold tks; rw [List.getElem?_map, HY.out]; rfl)))
          go_wp2_with fail
          go_loopw [5, 6] (fun ov kv wr => ∃ (k : Nat) (ob : Bool), k ≤ np ∧ kv = .int .i64 (k : Int) ∧ ov = .bool ob ∧ Hid ((ps.take k).any (okP yo) = ob) ∧ Hid (Below w1.heap.size w1 wr)) (fun _ kv _ => np - (intOf kv).toNat)
          case atStart => exact ⟨0, false, Nat.zero_le _, rfl, rfl, Lib.hid rfl, HT⟩
          case round =>
            as_aux_lemma =>
              obtain ⟨k, ob, hk, rfl, rfl, HA, HP⟩ := hrel
              obtain ⟨wp, rfl⟩ : ∃ z, z = wr := ⟨_, rfl⟩
              clear c0 c1 c2 c3 c4 c5 c6
              have c0 : wp.cell? ⟨w.heap.size, 0, none⟩ = some (.int .i64 m1) := (HP.out.cell (p := ⟨w.heap.size, 0, none⟩) la).trans ((HS.out.cell 0).trans rfl)
              have c1 : wp.cell? ⟨w.heap.size, 1, none⟩ = some (.int .i64 m2) := (HP.out.cell (p := ⟨w.heap.size, 1, none⟩) la).trans ((HS.out.cell 1).trans rfl)
              have c2 : wp.cell? ⟨w.heap.size, 2, none⟩ = some (.int .i64 m3) := (HP.out.cell (p := ⟨w.heap.size, 2, none⟩) la).trans ((HS.out.cell 2).trans rfl)
              have c3 : wp.cell? ⟨w.heap.size, 3, none⟩ = some (.int .i64 m4) := (HP.out.cell (p := ⟨w.heap.size, 3, none⟩) la).trans ((HS.out.cell 3).trans rfl)
              have c4 : wp.cell? ⟨w.heap.size, 4, none⟩ = some (.slice A np a) := (HP.out.cell (p := ⟨w.heap.size, 4, none⟩) la).trans ((HS.out.cell 4).trans rfl)
              have c5 : wp.cell? ⟨w.heap.size, 5, none⟩ = some (.slice B nt b) := (HP.out.cell (p := ⟨w.heap.size, 5, none⟩) la).trans ((HS.out.cell 5).trans rfl)
              have c6 : wp.cell? ⟨w.heap.size, 6, none⟩ = some (.slice C nb c) := (HP.out.cell (p := ⟨w.heap.size, 6, none⟩) la).trans ((HS.out.cell 6).trans rfl)
              try rw [HBa.out] at c5
              try rw [HCa.out] at c6
              have lwp : w.heap.size < wp.heap.size := by have := HP.out.size; omega
              have lB2 : gB < wp.heap.size := by have := HP.out.size; omega
              by_cases hkp : k < np
              · as_aux_lemma =>
                  obtain ⟨x, hx⟩ : ∃ x, ps[k]? = some x := ⟨_, List.getElem?_eq_getElem (by rw [HNP.out]; exact hkp)⟩
                  obtain ⟨gA, oA, hAe, hgA, hcA⟩ := HRP.out.2 (by omega)
                  rw [hAe] at c4
                  clear hAe
                  have lA : gA < wp.heap.size := by have := HP.out.size; omega
                  have hcB := HCB.out
                  have p0 := (HP.out.cell (p := ⟨gA, oA + (k * 3 + 0), none⟩) hgA).trans (hcA _ _ ((pnC_get hx 0 (by decide)).trans rfl))
                  have p2 := (HP.out.cell (p := ⟨gA, oA + (k * 3 + 2), none⟩) hgA).trans (hcA _ _ ((pnC_get hx 2 (by decide)).trans rfl))
                  rw [Nat.add_zero] at p0
                  rw [← Nat.add_assoc] at p2
                  have t1 := (HP.out.cell (p := ⟨gB, oB + (i * 4 + 1), none⟩) hgB).trans (hcB _ _ ((tmC_get HY.out 1 (by decide)).trans rfl))
                  rw [← Nat.add_assoc] at t1
                  have HAD := Lib.hid (any_add (f := okP yo) hx)
                  rw [HA.out] at HAD
                  have hxm := HI.out.pm x (List.mem_of_getElem? hx)
                  obtain ⟨xw, xr, xg⟩ := x
                  dsimp only at hxm p0 p2 t1
                  have hg4 : xg = 0 ∨ xg = 1 ∨ xg = 2 ∨ xg = 3 := by omega
                  have k0 : (0 : Int) ≤ (k : Int) := by omega
                  have k1 : (k : Int) < (np : Int) := by omega
                  clear hx hxm hcA hcB
                  cases ob with
                  | true =>
                    as_aux_lemma =>
                      clear hg4
                      go_wp2_with fail
                      try (go_region; go_wp2_with fail)
                      all_goals (first | exact ⟨⟨k + 1, true, by omega, by go_num, rfl, Lib.hid (by rw [HAD.out]; rfl), Lib.hid (by first | exact HP.out | exact HP.out.drew | exact HP.out.drew.drew)⟩, by simp [intOf]; omega⟩ | (go_roundw; (case rel => exact ⟨k + 1, true, by omega, by go_num, rfl, Lib.hid (by rw [HAD.out]; rfl), Lib.hid (by first | exact HP.out | exact HP.out.drew | exact HP.out.drew.drew)⟩); (case measure => simp [intOf]; omega)))
                  | false =>
                    as_aux_lemma =>
                      by_cases E : xw = yo
                      · as_aux_lemma =>
                          have e1 : (xw == yo) = true := by simp [E]
                          have EE := Lib.hid e1
                          clear E
                          rcases hg4 with rfl | rfl | rfl | rfl
                          · as_aux_lemma =>
                              go_wp2_with fail
                              try (go_region; go_wp2_with fail)
                              all_goals (first | exact ⟨⟨k + 1, false, by omega, by go_num, rfl, Lib.hid (by rw [HAD.out]; unfold okP; dsimp only; rw [EE.out]; rfl), Lib.hid (by first | exact HP.out | exact HP.out.drew | exact HP.out.drew.drew)⟩, by simp [intOf]; omega⟩ | (go_roundw; (case rel => exact ⟨k + 1, false, by omega, by go_num, rfl, Lib.hid (by rw [HAD.out]; unfold okP; dsimp only; rw [EE.out]; rfl), Lib.hid (by first | exact HP.out | exact HP.out.drew | exact HP.out.drew.drew)⟩); (case measure => simp [intOf]; omega)))
                          · as_aux_lemma =>
                              go_wp2_with fail
                              try (go_region; go_wp2_with fail)
                              all_goals (first | exact ⟨⟨k + 1, true, by omega, by go_num, rfl, Lib.hid (by rw [HAD.out]; unfold okP; dsimp only; rw [EE.out]; rfl), Lib.hid (by first | exact HP.out | exact HP.out.drew | exact HP.out.drew.drew)⟩, by simp [intOf]; omega⟩ | (go_roundw; (case rel => exact ⟨k + 1, true, by omega, by go_num, rfl, Lib.hid (by rw [HAD.out]; unfold okP; dsimp only; rw [EE.out]; rfl), Lib.hid (by first | exact HP.out | exact HP.out.drew | exact HP.out.drew.drew)⟩); (case measure => simp [intOf]; omega)))
                          · as_aux_lemma =>
                              go_wp2_with fail
                              try (go_region; go_wp2_with fail)
                              all_goals (first | exact ⟨⟨k + 1, false, by omega, by go_num, rfl, Lib.hid (by rw [HAD.out]; unfold okP; dsimp only; rw [EE.out]; rfl), Lib.hid (by first | exact HP.out | exact HP.out.drew | exact HP.out.drew.drew)⟩, by simp [intOf]; omega⟩ | (go_roundw; (case rel => exact ⟨k + 1, false, by omega, by go_num, rfl, Lib.hid (by rw [HAD.out]; unfold okP; dsimp only; rw [EE.out]; rfl), Lib.hid (by first | exact HP.out | exact HP.out.drew | exact HP.out.drew.drew)⟩); (case measure => simp [intOf]; omega)))
                          · as_aux_lemma =>
                              go_wp2_with fail
                              try (go_region; go_wp2_with fail)
                              all_goals (first | exact ⟨⟨k + 1, true, by omega, by go_num, rfl, Lib.hid (by rw [HAD.out]; unfold okP; dsimp only; rw [EE.out]; rfl), Lib.hid (by first | exact HP.out | exact HP.out.drew | exact HP.out.drew.drew)⟩, by simp [intOf]; omega⟩ | (go_roundw; (case rel => exact ⟨k + 1, true, by omega, by go_num, rfl, Lib.hid (by rw [HAD.out]; unfold okP; dsimp only; rw [EE.out]; rfl), Lib.hid (by first | exact HP.out | exact HP.out.drew | exact HP.out.drew.drew)⟩); (case measure => simp [intOf]; omega)))
                      · as_aux_lemma =>
                          have e1 : (xw == yo) = false := by simp [E]
                          have EE := Lib.hid e1
                          clear E hg4
                          go_wp2_with fail
                          try (go_region; go_wp2_with fail)
                          all_goals (first | exact ⟨⟨k + 1, false, by omega, by go_num, rfl, Lib.hid (by rw [HAD.out]; unfold okP; dsimp only; rw [EE.out]; rfl), Lib.hid (by first | exact HP.out | exact HP.out.drew | exact HP.out.drew.drew)⟩, by simp [intOf]; omega⟩ | (go_roundw; (case rel => exact ⟨k + 1, false, by omega, by go_num, rfl, Lib.hid (by rw [HAD.out]; unfold okP; dsimp only; rw [EE.out]; rfl), Lib.hid (by first | exact HP.out | exact HP.out.drew | exact HP.out.drew.drew)⟩); (case measure => simp [intOf]; omega)))
              · as_aux_lemma =>
                  obtain rfl : np = k := by omega
                  have hob : ob = true := by rw [← HA.out, List.take_of_length_le (by rw [HNP.out]; exact Nat.le_refl _)]; exact HOW.out
                  subst hob
                  clear HA
                  have hcB := HCB.out
                  have t0 := (HP.out.cell (p := ⟨gB, oB + (i * 4 + 0), none⟩) hgB).trans (hcB _ _ ((tmC_get HY.out 0 (by decide)).trans rfl))
                  rw [Nat.add_zero] at t0
                  dsimp only at t0
                  go_upto_region 12 with fail
                  go_cut [105] (fun v wx => v = .bool false ∧ Hid (Below w1.heap.size w1 wx))
                  case first =>
                    by_cases i00 : i = 0
                    · subst i00
                      go_wp2_with fail
                      try (go_region; go_wp2_with fail)
                      all_goals (go_meet; exact ⟨rfl, Lib.hid (by first | exact HP.out | exact HP.out.drew | exact HP.out.drew.drew)⟩)
                    · obtain ⟨i', rfl⟩ : ∃ i', i = i' + 1 := ⟨i - 1, by omega⟩
                      obtain ⟨y', hy'⟩ : ∃ y, T[i']? = some y := ⟨_, List.getElem?_eq_getElem (by rw [HNT.out]; omega)⟩
                      have u0 := (HP.out.cell (p := ⟨gB, oB + (i' * 4 + 0), none⟩) hgB).trans (hcB _ _ ((tmC_get hy' 0 (by decide)).trans rfl))
                      rw [Nat.add_zero] at u0
                      have hid : y'.t.id < yi := ids_rise HI.out (i := i') (j := i' + 1) (show (tks T)[i']? = some y'.t by unfold tks; rw [List.getElem?_map, hy']; rfl) (show (tks T)[i' + 1]? = some ⟨yi, yo, yf, yss⟩ by unfold tks; rw [List.getElem?_map, HY.out]; rfl) (by omega)
                      obtain ⟨⟨y0, y1, y2, y3⟩, y4, y5⟩ := y'
                      dsimp only at hid u0
                      have hsub : IntKind.i64.wrap (((i' + 1 : Nat) : Int) - 1) = (i' : Int) := by rw [IntWalk.i64_in _ (by omega)]; omega
                      have hcast : ((i' + 1 : Nat) : Int) = (i' : Int) + 1 := by omega
                      have hsub2 : IntKind.i64.wrap ((i' : Int) + 1 - 1) = (i' : Int) := by rw [IntWalk.i64_in _ (by omega)]; omega
                      have j0 : (0 : Int) ≤ (i' : Int) := by omega
                      have j1 : (i' : Int) < (nt : Int) := by omega
                      have j2 : (0 : Int) < (i' : Int) + 1 := by omega
                      have hng : ¬ yi ≤ y0 := by omega
                      clear hy' hcast
                      go_wp2_with fail
                      try (go_region; go_wp2_with fail)
                      all_goals (go_meet; exact ⟨by first | rfl | exact congrArg Value.bool (decide_eq_false (by omega)), Lib.hid (by first | exact HP.out | exact HP.out.drew | exact HP.out.drew.drew)⟩)
                  case rest =>
                    obtain ⟨rfl, HK⟩ := hcut
                    obtain ⟨wk, rfl⟩ : ∃ z, z = wc := ⟨_, rfl⟩
                    clear t0 c0 c1 c2 c3 c4 c5 c6
                    have c0 : wk.cell? ⟨w.heap.size, 0, none⟩ = some (.int .i64 m1) := (HK.out.cell (p := ⟨w.heap.size, 0, none⟩) la).trans ((HS.out.cell 0).trans rfl)
                    have c1 : wk.cell? ⟨w.heap.size, 1, none⟩ = some (.int .i64 m2) := (HK.out.cell (p := ⟨w.heap.size, 1, none⟩) la).trans ((HS.out.cell 1).trans rfl)
                    have c2 : wk.cell? ⟨w.heap.size, 2, none⟩ = some (.int .i64 m3) := (HK.out.cell (p := ⟨w.heap.size, 2, none⟩) la).trans ((HS.out.cell 2).trans rfl)
                    have c3 : wk.cell? ⟨w.heap.size, 3, none⟩ = some (.int .i64 m4) := (HK.out.cell (p := ⟨w.heap.size, 3, none⟩) la).trans ((HS.out.cell 3).trans rfl)
                    have c4 : wk.cell? ⟨w.heap.size, 4, none⟩ = some (.slice A np a) := (HK.out.cell (p := ⟨w.heap.size, 4, none⟩) la).trans ((HS.out.cell 4).trans rfl)
                    have c5 : wk.cell? ⟨w.heap.size, 5, none⟩ = some (.slice B nt b) := (HK.out.cell (p := ⟨w.heap.size, 5, none⟩) la).trans ((HS.out.cell 5).trans rfl)
                    have c6 : wk.cell? ⟨w.heap.size, 6, none⟩ = some (.slice C nb c) := (HK.out.cell (p := ⟨w.heap.size, 6, none⟩) la).trans ((HS.out.cell 6).trans rfl)
                    try rw [HBa.out] at c5
                    try rw [HCa.out] at c6
                    have lwk : w.heap.size < wk.heap.size := by have := HK.out.size; omega
                    have lB3 : gB < wk.heap.size := by have := HK.out.size; omega
                    obtain ⟨ns, hns⟩ : ∃ z, yss.length = z := ⟨_, rfl⟩
                    have HNS := Lib.hid hns
                    have hyr := HYS.out.1
                    have hy4 := HYS.out.2
                    try dsimp only at hyr hy4
                    rw [hns] at hyr hy4
                    have HYR := Lib.hid hyr
                    clear hns hyr
                    have t3 := (HK.out.cell (p := ⟨gB, oB + (i * 4 + 3), none⟩) hgB).trans (hcB _ _ ((tmC_get HY.out 3 (by decide)).trans rfl))
                    rw [← Nat.add_assoc] at t3
                    dsimp only at t3
                    rw [HNS.out] at t3
                    clear hcB
                    go_wp2_with fail
                    go_loopw [3, 7] (fun sv kv wr => ∃ k : Nat, k ≤ ns ∧ kv = .int .i64 (k : Int) ∧ sv = .int .i64 0 ∧ Hid (Below w1.heap.size w1 wr)) (fun _ kv _ => ns - (intOf kv).toNat)
                    case atStart => exact ⟨0, Nat.zero_le _, rfl, rfl, HK⟩
                    case round =>
                      as_aux_lemma =>
                        obtain ⟨k', hk', rfl, rfl, HQ⟩ := hrel
                        obtain ⟨wq, rfl⟩ : ∃ z, z = wr := ⟨_, rfl⟩
                        clear t3 c0 c1 c2 c3 c4 c5 c6
                        have c0 : wq.cell? ⟨w.heap.size, 0, none⟩ = some (.int .i64 m1) := (HQ.out.cell (p := ⟨w.heap.size, 0, none⟩) la).trans ((HS.out.cell 0).trans rfl)
                        have c1 : wq.cell? ⟨w.heap.size, 1, none⟩ = some (.int .i64 m2) := (HQ.out.cell (p := ⟨w.heap.size, 1, none⟩) la).trans ((HS.out.cell 1).trans rfl)
                        have c2 : wq.cell? ⟨w.heap.size, 2, none⟩ = some (.int .i64 m3) := (HQ.out.cell (p := ⟨w.heap.size, 2, none⟩) la).trans ((HS.out.cell 2).trans rfl)
                        have c3 : wq.cell? ⟨w.heap.size, 3, none⟩ = some (.int .i64 m4) := (HQ.out.cell (p := ⟨w.heap.size, 3, none⟩) la).trans ((HS.out.cell 3).trans rfl)
                        have c4 : wq.cell? ⟨w.heap.size, 4, none⟩ = some (.slice A np a) := (HQ.out.cell (p := ⟨w.heap.size, 4, none⟩) la).trans ((HS.out.cell 4).trans rfl)
                        have c5 : wq.cell? ⟨w.heap.size, 5, none⟩ = some (.slice B nt b) := (HQ.out.cell (p := ⟨w.heap.size, 5, none⟩) la).trans ((HS.out.cell 5).trans rfl)
                        have c6 : wq.cell? ⟨w.heap.size, 6, none⟩ = some (.slice C nb c) := (HQ.out.cell (p := ⟨w.heap.size, 6, none⟩) la).trans ((HS.out.cell 6).trans rfl)
                        try rw [HBa.out] at c5
                        try rw [HCa.out] at c6
                        have lwq : w.heap.size < wq.heap.size := by have := HQ.out.size; omega
                        have lB4 : gB < wq.heap.size := by have := HQ.out.size; omega
                        have hcB := HCB.out
                        have t3 := (HQ.out.cell (p := ⟨gB, oB + (i * 4 + 3), none⟩) hgB).trans (hcB _ _ ((tmC_get HY.out 3 (by decide)).trans rfl))
                        rw [← Nat.add_assoc] at t3
                        dsimp only at t3
                        rw [HNS.out] at t3
                        clear hcB
                        by_cases hks : k' < ns
                        · as_aux_lemma =>
                            obtain ⟨xv, hxv⟩ : ∃ z, yss[k']? = some z := ⟨_, List.getElem?_eq_getElem (by rw [HNS.out]; exact hks)⟩
                            obtain ⟨gS, oS, rfl, hgS, hcS⟩ := HYR.out.2 (by omega)
                            have s0 := (HQ.out.cell (p := ⟨gS, oS + k', none⟩) hgS).trans (hcS _ _ (show (n32 yss)[k']? = some (.int .u32 xv) by unfold n32; rw [List.getElem?_map, hxv]; rfl))
                            have lS : gS < wq.heap.size := by have := HQ.out.size; omega
                            have HC1 := Lib.hid (cntT_all HI.out rfl (List.mem_of_getElem? HY.out) (List.mem_of_getElem? hxv))
                            have q0 : (0 : Int) ≤ (k' : Int) := by omega
                            have q1 : (k' : Int) < (ns : Int) := by omega
                            clear hxv hcS
                            go_wp2_with fail
                            go_loopw [3, 9] (fun sv jv wr => ∃ j sn : Nat, j ≤ nt ∧ jv = .int .i64 (j : Int) ∧ sv = .int .i64 (sn : Int) ∧ Hid (((T.take j).map (cntT xv)).sum = sn) ∧ Hid (Below w1.heap.size w1 wr)) (fun _ jv _ => nt - (intOf jv).toNat)
                            case atStart => exact ⟨0, 0, Nat.zero_le _, rfl, rfl, Lib.hid rfl, HQ⟩
                            case round =>
                              as_aux_lemma =>
                                obtain ⟨j, sn, hj, rfl, rfl, HSN, HJ⟩ := hrel
                                obtain ⟨wj, rfl⟩ : ∃ z, z = wr := ⟨_, rfl⟩
                                clear s0 t3 c0 c1 c2 c3 c4 c5 c6
                                have c0 : wj.cell? ⟨w.heap.size, 0, none⟩ = some (.int .i64 m1) := (HJ.out.cell (p := ⟨w.heap.size, 0, none⟩) la).trans ((HS.out.cell 0).trans rfl)
                                have c1 : wj.cell? ⟨w.heap.size, 1, none⟩ = some (.int .i64 m2) := (HJ.out.cell (p := ⟨w.heap.size, 1, none⟩) la).trans ((HS.out.cell 1).trans rfl)
                                have c2 : wj.cell? ⟨w.heap.size, 2, none⟩ = some (.int .i64 m3) := (HJ.out.cell (p := ⟨w.heap.size, 2, none⟩) la).trans ((HS.out.cell 2).trans rfl)
                                have c3 : wj.cell? ⟨w.heap.size, 3, none⟩ = some (.int .i64 m4) := (HJ.out.cell (p := ⟨w.heap.size, 3, none⟩) la).trans ((HS.out.cell 3).trans rfl)
                                have c4 : wj.cell? ⟨w.heap.size, 4, none⟩ = some (.slice A np a) := (HJ.out.cell (p := ⟨w.heap.size, 4, none⟩) la).trans ((HS.out.cell 4).trans rfl)
                                have c5 : wj.cell? ⟨w.heap.size, 5, none⟩ = some (.slice B nt b) := (HJ.out.cell (p := ⟨w.heap.size, 5, none⟩) la).trans ((HS.out.cell 5).trans rfl)
                                have c6 : wj.cell? ⟨w.heap.size, 6, none⟩ = some (.slice C nb c) := (HJ.out.cell (p := ⟨w.heap.size, 6, none⟩) la).trans ((HS.out.cell 6).trans rfl)
                                try rw [HBa.out] at c5
                                try rw [HCa.out] at c6
                                have lwj : w.heap.size < wj.heap.size := by have := HJ.out.size; omega
                                have lB5 : gB < wj.heap.size := by have := HJ.out.size; omega
                                by_cases hjt : j < nt
                                · as_aux_lemma =>
                                    obtain ⟨z, hz⟩ : ∃ z, T[j]? = some z := ⟨_, List.getElem?_eq_getElem (by rw [HNT.out]; exact hjt)⟩
                                    have HZZ := Lib.hid hz
                                    have HZS := Lib.hid (HRT.out.2 z (List.mem_of_getElem? hz))
                                    have HLE := Lib.hid (cntT_le (cntT xv) hz)
                                    have HSTP := Lib.hid (cntT_step (cntT xv) hz)
                                    obtain ⟨⟨zi, zo, zf, zss⟩, zA, zc⟩ := z
                                    have hcB := HCB.out
                                    obtain ⟨nz, hnz⟩ : ∃ q, zss.length = q := ⟨_, rfl⟩
                                    have HNZ := Lib.hid hnz
                                    have hzr := HZS.out.1
                                    have hz4 := HZS.out.2
                                    dsimp only at hzr hz4
                                    rw [hnz] at hzr hz4
                                    have HZR := Lib.hid hzr
                                    clear hnz hzr hz
                                    have t3 := (HJ.out.cell (p := ⟨gB, oB + (j * 4 + 3), none⟩) hgB).trans (hcB _ _ ((tmC_get HZZ.out 3 (by decide)).trans rfl))
                                    rw [← Nat.add_assoc] at t3
                                    dsimp only at t3
                                    rw [HNZ.out] at t3
                                    clear hcB
                                    have j0 : (0 : Int) ≤ (j : Int) := by omega
                                    have j1 : (j : Int) < (nt : Int) := by omega
                                    go_wp2_with fail
                                    go_loopw [3, 10] (fun sv qv wr => ∃ q sm : Nat, q ≤ nz ∧ qv = .int .i64 (q : Int) ∧ sv = .int .i64 (sm : Int) ∧ Hid (sn + (zss.take q).count xv = sm) ∧ Hid (Below w1.heap.size w1 wr)) (fun _ qv _ => nz - (intOf qv).toNat)
                                    case atStart => exact ⟨0, sn, Nat.zero_le _, rfl, rfl, Lib.hid rfl, HJ⟩
                                    case round =>
                                      as_aux_lemma =>
                                        obtain ⟨q, sm, hq, rfl, rfl, HSM, HV⟩ := hrel
                                        obtain ⟨wv, rfl⟩ : ∃ z, z = wr := ⟨_, rfl⟩
                                        clear t3 c0 c1 c2 c3 c4 c5 c6
                                        have c0 : wv.cell? ⟨w.heap.size, 0, none⟩ = some (.int .i64 m1) := (HV.out.cell (p := ⟨w.heap.size, 0, none⟩) la).trans ((HS.out.cell 0).trans rfl)
                                        have c1 : wv.cell? ⟨w.heap.size, 1, none⟩ = some (.int .i64 m2) := (HV.out.cell (p := ⟨w.heap.size, 1, none⟩) la).trans ((HS.out.cell 1).trans rfl)
                                        have c2 : wv.cell? ⟨w.heap.size, 2, none⟩ = some (.int .i64 m3) := (HV.out.cell (p := ⟨w.heap.size, 2, none⟩) la).trans ((HS.out.cell 2).trans rfl)
                                        have c3 : wv.cell? ⟨w.heap.size, 3, none⟩ = some (.int .i64 m4) := (HV.out.cell (p := ⟨w.heap.size, 3, none⟩) la).trans ((HS.out.cell 3).trans rfl)
                                        have c4 : wv.cell? ⟨w.heap.size, 4, none⟩ = some (.slice A np a) := (HV.out.cell (p := ⟨w.heap.size, 4, none⟩) la).trans ((HS.out.cell 4).trans rfl)
                                        have c5 : wv.cell? ⟨w.heap.size, 5, none⟩ = some (.slice B nt b) := (HV.out.cell (p := ⟨w.heap.size, 5, none⟩) la).trans ((HS.out.cell 5).trans rfl)
                                        have c6 : wv.cell? ⟨w.heap.size, 6, none⟩ = some (.slice C nb c) := (HV.out.cell (p := ⟨w.heap.size, 6, none⟩) la).trans ((HS.out.cell 6).trans rfl)
                                        try rw [HBa.out] at c5
                                        try rw [HCa.out] at c6
                                        have lwv : w.heap.size < wv.heap.size := by have := HV.out.size; omega
                                        have lB6 : gB < wv.heap.size := by have := HV.out.size; omega
                                        have hcB := HCB.out
                                        have t3 := (HV.out.cell (p := ⟨gB, oB + (j * 4 + 3), none⟩) hgB).trans (hcB _ _ ((tmC_get HZZ.out 3 (by decide)).trans rfl))
                                        rw [← Nat.add_assoc] at t3
                                        dsimp only at t3
                                        rw [HNZ.out] at t3
                                        clear hcB
                                        by_cases hqz : q < nz
                                        · as_aux_lemma =>
                                            obtain ⟨v, hv⟩ : ∃ v, zss[q]? = some v := ⟨_, List.getElem?_eq_getElem (by rw [HNZ.out]; exact hqz)⟩
                                            obtain ⟨gZ, oZ, rfl, hgZ, hcZ⟩ := HZR.out.2 (by omega)
                                            have r0 := (HV.out.cell (p := ⟨gZ, oZ + q, none⟩) hgZ).trans (hcZ _ _ (show (n32 zss)[q]? = some (.int .u32 v) by unfold n32; rw [List.getElem?_map, hv]; rfl))
                                            have lZ : gZ < wv.heap.size := by have := HV.out.size; omega
                                            have HCA := Lib.hid (count_add (x := xv) hv)
                                            have u0 : (0 : Int) ≤ (q : Int) := by omega
                                            have u1 : (q : Int) < (nz : Int) := by omega
                                            have hcl := count_le' zss (q + 1) xv
                                            have hle := HLE.out
                                            rw [HC1.out, HSN.out] at hle
                                            unfold cntT at hle
                                            dsimp only at hle
                                            have hca := HCA.out
                                            have hsm := HSM.out
                                            by_cases E : v = xv
                                            · as_aux_lemma =>
                                                rw [if_pos E] at hca
                                                have hs1 : sm ≤ 1 := by omega
                                                have e1 : (v == xv) = true := by simp [E]
                                                have hadd : IntKind.i64.wrap ((sm : Int) + 1) = (sm : Int) + 1 := by rw [IntWalk.i64_in _ (by omega)]
                                                have HN2 := Lib.hid (show sn + (zss.take (q + 1)).count xv = sm + 1 by rw [hca]; omega)
                                                clear hca hle hcl hsm E hv hcZ
                                                go_wp2_with fail
                                                try (go_region; go_wp2_with fail)
                                                all_goals (first | exact ⟨⟨q + 1, sm + 1, by omega, by go_num, by go_num, HN2, Lib.hid (by first | exact HV.out | exact HV.out.drew | exact HV.out.drew.drew)⟩, by simp [intOf]; omega⟩ | (go_roundw; (case rel => exact ⟨q + 1, sm + 1, by omega, by go_num, by go_num, HN2, Lib.hid (by first | exact HV.out | exact HV.out.drew | exact HV.out.drew.drew)⟩); (case measure => simp [intOf]; omega)))
                                            · as_aux_lemma =>
                                                rw [if_neg E] at hca
                                                have e1 : (v == xv) = false := by simp [E]
                                                have HN2 := Lib.hid (show sn + (zss.take (q + 1)).count xv = sm by rw [hca]; omega)
                                                clear hca hle hcl hsm E hv hcZ
                                                go_wp2_with fail
                                                try (go_region; go_wp2_with fail)
                                                all_goals (first | exact ⟨⟨q + 1, sm, by omega, by go_num, rfl, HN2, Lib.hid (by first | exact HV.out | exact HV.out.drew | exact HV.out.drew.drew)⟩, by simp [intOf]; omega⟩ | (go_roundw; (case rel => exact ⟨q + 1, sm, by omega, by go_num, rfl, HN2, Lib.hid (by first | exact HV.out | exact HV.out.drew | exact HV.out.drew.drew)⟩); (case measure => simp [intOf]; omega)))
                                        · as_aux_lemma =>
                                            obtain rfl : nz = q := by omega
                                            have HN2 := Lib.hid (show ((T.take (j + 1)).map (cntT xv)).sum = sm by rw [HSTP.out, HSN.out, ← HSM.out, List.take_of_length_le (by rw [HNZ.out]; exact Nat.le_refl _)]; rfl)
                                            clear HSM HSN
                                            go_wp2_with fail
                                            try (go_region; go_wp2_with fail)
                                            all_goals (first | exact ⟨⟨j + 1, sm, by omega, by go_num, rfl, HN2, Lib.hid (by first | exact HV.out | exact HV.out.drew | exact HV.out.drew.drew)⟩, by simp [intOf]; omega⟩ | (go_roundw; (case rel => exact ⟨j + 1, sm, by omega, by go_num, rfl, HN2, Lib.hid (by first | exact HV.out | exact HV.out.drew | exact HV.out.drew.drew)⟩); (case measure => simp [intOf]; omega)))
                                · as_aux_lemma =>
                                    obtain rfl : nt = j := by omega
                                    have hsn : sn = 1 := by rw [← HSN.out, List.take_of_length_le (by rw [HNT.out]; exact Nat.le_refl _)]; exact HC1.out
                                    subst hsn
                                    clear HSN
                                    go_wp2_with fail
                                    try (go_region; go_wp2_with fail)
                                    all_goals (first | exact ⟨⟨k' + 1, by omega, by go_num, rfl, Lib.hid (by first | exact HJ.out | exact HJ.out.drew | exact HJ.out.drew.drew)⟩, by simp [intOf]; omega⟩ | (go_roundw; (case rel => exact ⟨k' + 1, by omega, by go_num, rfl, Lib.hid (by first | exact HJ.out | exact HJ.out.drew | exact HJ.out.drew.drew)⟩); (case measure => simp [intOf]; omega)))
                        · as_aux_lemma =>
                            obtain rfl : ns = k' := by omega
                            go_wp2_with fail
                            try (go_region; go_wp2_with fail)
                            all_goals (first | exact ⟨⟨i + 1, by omega, by go_num, rfl, Lib.hid (by first | exact HQ.out | exact HQ.out.drew | exact HQ.out.drew.drew)⟩, by simp [intOf]; omega⟩ | (go_roundw; (case rel => exact ⟨i + 1, by omega, by go_num, rfl, Lib.hid (by first | exact HQ.out | exact HQ.out.drew | exact HQ.out.drew.drew)⟩); (case measure => simp [intOf]; omega)))
      · as_aux_lemma =>
          obtain rfl : nt = i := by omega
          go_wp2_with fail
          go_loopw [11] (fun iv wr => ∃ i : Nat, i ≤ nb ∧ iv = .int .i64 (i : Int) ∧ Hid (Below w1.heap.size w1 wr)) (fun iv _ => nb - (intOf iv).toNat)
          case atStart => exact ⟨0, Nat.zero_le _, rfl, HT⟩
          case round =>
            as_aux_lemma =>
              obtain ⟨i, hi', rfl, HU⟩ := hrel
              obtain ⟨wu, rfl⟩ : ∃ z, z = wr := ⟨_, rfl⟩
              clear c0 c1 c2 c3 c4 c5 c6
              have c0 : wu.cell? ⟨w.heap.size, 0, none⟩ = some (.int .i64 m1) := (HU.out.cell (p := ⟨w.heap.size, 0, none⟩) la).trans ((HS.out.cell 0).trans rfl)
              have c1 : wu.cell? ⟨w.heap.size, 1, none⟩ = some (.int .i64 m2) := (HU.out.cell (p := ⟨w.heap.size, 1, none⟩) la).trans ((HS.out.cell 1).trans rfl)
              have c2 : wu.cell? ⟨w.heap.size, 2, none⟩ = some (.int .i64 m3) := (HU.out.cell (p := ⟨w.heap.size, 2, none⟩) la).trans ((HS.out.cell 2).trans rfl)
              have c3 : wu.cell? ⟨w.heap.size, 3, none⟩ = some (.int .i64 m4) := (HU.out.cell (p := ⟨w.heap.size, 3, none⟩) la).trans ((HS.out.cell 3).trans rfl)
              have c4 : wu.cell? ⟨w.heap.size, 4, none⟩ = some (.slice A np a) := (HU.out.cell (p := ⟨w.heap.size, 4, none⟩) la).trans ((HS.out.cell 4).trans rfl)
              have c5 : wu.cell? ⟨w.heap.size, 5, none⟩ = some (.slice B nt b) := (HU.out.cell (p := ⟨w.heap.size, 5, none⟩) la).trans ((HS.out.cell 5).trans rfl)
              have c6 : wu.cell? ⟨w.heap.size, 6, none⟩ = some (.slice C nb c) := (HU.out.cell (p := ⟨w.heap.size, 6, none⟩) la).trans ((HS.out.cell 6).trans rfl)
              try rw [HBa.out] at c5
              try rw [HCa.out] at c6
              have lwu : w.heap.size < wu.heap.size := by have := HU.out.size; omega
              by_cases hib : i < nb
              · as_aux_lemma =>
                  obtain ⟨z, hz⟩ : ∃ z, bs[i]? = some z := ⟨_, List.getElem?_eq_getElem (by rw [HNB.out]; exact hib)⟩
                  obtain ⟨gC, oC, hCe, hgC, hcC⟩ := HRB.out.2 (by omega)
                  have HCa := Lib.hid hCe
                  rw [hCe] at c6
                  clear hCe
                  have HZZ := Lib.hid hz
                  have HCC := Lib.hid hcC
                  have hbm := HI.out.bm z (List.mem_of_getElem? hz)
                  obtain ⟨_, ap, hap, at', hat, ao, hao, f1, f2, f3, f4, f5⟩ := hbm
                  obtain ⟨zw, zt, zl, zd, zm⟩ := z
                  dsimp only at f1 f3
                  have HF1 := Lib.hid f1
                  have HF2 := Lib.hid f2
                  have HF3 := Lib.hid f3
                  have HF4 := Lib.hid f4
                  have HF5 := Lib.hid f5
                  have HAP := Lib.hid hap
                  have HAT := Lib.hid hat
                  have HAO := Lib.hid hao
                  have hrm := HI.out.pm ap hap
                  have HRM := Lib.hid hrm
                  clear hcC hz f1 f2 f3 f4 f5 hap hat hao hrm
                  have hbq := HI.out.bq zw
                  dsimp only at hbq
                  have HBQ := Lib.hid hbq
                  clear hbq
                  have i0 : (0 : Int) ≤ (i : Int) := by omega
                  have i1 : (i : Int) < (nb : Int) := by omega
                  go_wp2_with fail
                  go_loopw [12, 14] (fun ov kv wr => ∃ k on : Nat, k ≤ nb ∧ kv = .int .i64 (k : Int) ∧ ov = .int .i64 (on : Int) ∧ Hid (((bs.take k).filter (ofB zw)).length = on) ∧ Hid (Below w1.heap.size w1 wr)) (fun _ kv _ => nb - (intOf kv).toNat)
                  case atStart => exact ⟨0, 0, Nat.zero_le _, rfl, rfl, Lib.hid rfl, HU⟩
                  case round =>
                    as_aux_lemma =>
                      obtain ⟨k, on, hk, rfl, rfl, HON, HO⟩ := hrel
                      obtain ⟨wo, rfl⟩ : ∃ z, z = wr := ⟨_, rfl⟩
                      clear c0 c1 c2 c3 c4 c5 c6
                      have c0 : wo.cell? ⟨w.heap.size, 0, none⟩ = some (.int .i64 m1) := (HO.out.cell (p := ⟨w.heap.size, 0, none⟩) la).trans ((HS.out.cell 0).trans rfl)
                      have c1 : wo.cell? ⟨w.heap.size, 1, none⟩ = some (.int .i64 m2) := (HO.out.cell (p := ⟨w.heap.size, 1, none⟩) la).trans ((HS.out.cell 1).trans rfl)
                      have c2 : wo.cell? ⟨w.heap.size, 2, none⟩ = some (.int .i64 m3) := (HO.out.cell (p := ⟨w.heap.size, 2, none⟩) la).trans ((HS.out.cell 2).trans rfl)
                      have c3 : wo.cell? ⟨w.heap.size, 3, none⟩ = some (.int .i64 m4) := (HO.out.cell (p := ⟨w.heap.size, 3, none⟩) la).trans ((HS.out.cell 3).trans rfl)
                      have c4 : wo.cell? ⟨w.heap.size, 4, none⟩ = some (.slice A np a) := (HO.out.cell (p := ⟨w.heap.size, 4, none⟩) la).trans ((HS.out.cell 4).trans rfl)
                      have c5 : wo.cell? ⟨w.heap.size, 5, none⟩ = some (.slice B nt b) := (HO.out.cell (p := ⟨w.heap.size, 5, none⟩) la).trans ((HS.out.cell 5).trans rfl)
                      have c6 : wo.cell? ⟨w.heap.size, 6, none⟩ = some (.slice C nb c) := (HO.out.cell (p := ⟨w.heap.size, 6, none⟩) la).trans ((HS.out.cell 6).trans rfl)
                      try rw [HBa.out] at c5
                      try rw [HCa.out] at c6
                      have lwo : w.heap.size < wo.heap.size := by have := HO.out.size; omega
                      have lC : gC < wo.heap.size := by have := HO.out.size; omega
                      have hcC := HCC.out
                      by_cases hkb : k < nb
                      · as_aux_lemma =>
                          obtain ⟨v, hv⟩ : ∃ v, bs[k]? = some v := ⟨_, List.getElem?_eq_getElem (by rw [HNB.out]; exact hkb)⟩
                          have p0 := (HO.out.cell (p := ⟨gC, oC + (k * 5 + 0), none⟩) hgC).trans (hcC _ _ ((sbC_get hv 0 (by decide)).trans rfl))
                          rw [Nat.add_zero] at p0
                          have r0 := (HO.out.cell (p := ⟨gC, oC + (i * 5 + 0), none⟩) hgC).trans (hcC _ _ ((sbC_get HZZ.out 0 (by decide)).trans rfl))
                          rw [Nat.add_zero] at r0
                          have HFA := Lib.hid (filter_add (ofB zw) hv)
                          have hol : on ≤ k := by rw [← HON.out]; exact Nat.le_trans (List.length_filter_le _ _) (by rw [List.length_take]; exact Nat.min_le_left _ _)
                          obtain ⟨vw, vt, vl, vd, vm⟩ := v
                          dsimp only at p0 r0
                          have k0 : (0 : Int) ≤ (k : Int) := by omega
                          have k1 : (k : Int) < (nb : Int) := by omega
                          clear hv hcC
                          by_cases E : vw = zw
                          · as_aux_lemma =>
                              have e1 : (vw == zw) = true := by simp [E]
                              have HN2 := Lib.hid (show ((bs.take (k + 1)).filter (ofB zw)).length = on + 1 by rw [HFA.out, if_pos (by simp [ofB, E]), List.length_append, HON.out]; rfl)
                              clear E HON
                              go_wp2_with fail
                              try (go_region; go_wp2_with fail)
                              all_goals (first | exact ⟨⟨k + 1, on + 1, by omega, by go_num, by go_num, HN2, Lib.hid (by first | exact HO.out | exact HO.out.drew | exact HO.out.drew.drew)⟩, by simp [intOf]; omega⟩ | (go_roundw; (case rel => exact ⟨k + 1, on + 1, by omega, by go_num, by go_num, HN2, Lib.hid (by first | exact HO.out | exact HO.out.drew | exact HO.out.drew.drew)⟩); (case measure => simp [intOf]; omega)))
                          · as_aux_lemma =>
                              have e1 : (vw == zw) = false := by simp [E]
                              have HN2 := Lib.hid (show ((bs.take (k + 1)).filter (ofB zw)).length = on by rw [HFA.out, if_neg (by simp [ofB, E])]; exact HON.out)
                              clear E HON
                              go_wp2_with fail
                              try (go_region; go_wp2_with fail)
                              all_goals (first | exact ⟨⟨k + 1, on, by omega, by go_num, rfl, HN2, Lib.hid (by first | exact HO.out | exact HO.out.drew | exact HO.out.drew.drew)⟩, by simp [intOf]; omega⟩ | (go_roundw; (case rel => exact ⟨k + 1, on, by omega, by go_num, rfl, HN2, Lib.hid (by first | exact HO.out | exact HO.out.drew | exact HO.out.drew.drew)⟩); (case measure => simp [intOf]; omega)))
                      · as_aux_lemma =>
                          obtain rfl : nb = k := by omega
                          have hon : (on : Int) ≤ m3 := by have h9 := HBQ.out; rw [← HON.out, List.take_of_length_le (by rw [HNB.out]; exact Nat.le_refl _)]; exact h9
                          clear HON hcC
                          go_wp2_with fail
                          go_loopw [13, 15] (fun fv kv wr => ∃ (k : Nat) (fb : Bool), k ≤ nt ∧ kv = .int .i64 (k : Int) ∧ fv = .bool fb ∧ Hid ((T.take k).any (fun y => isT zt y.t) = fb) ∧ Hid (Below w1.heap.size w1 wr)) (fun _ kv _ => nt - (intOf kv).toNat)
                          case atStart => exact ⟨0, false, Nat.zero_le _, rfl, rfl, Lib.hid rfl, HO⟩
                          case round =>
                            as_aux_lemma =>
                              obtain ⟨k, fb, hk2, rfl, rfl, HFB, HF⟩ := hrel
                              obtain ⟨wf, rfl⟩ : ∃ z, z = wr := ⟨_, rfl⟩
                              clear c0 c1 c2 c3 c4 c5 c6
                              have c0 : wf.cell? ⟨w.heap.size, 0, none⟩ = some (.int .i64 m1) := (HF.out.cell (p := ⟨w.heap.size, 0, none⟩) la).trans ((HS.out.cell 0).trans rfl)
                              have c1 : wf.cell? ⟨w.heap.size, 1, none⟩ = some (.int .i64 m2) := (HF.out.cell (p := ⟨w.heap.size, 1, none⟩) la).trans ((HS.out.cell 1).trans rfl)
                              have c2 : wf.cell? ⟨w.heap.size, 2, none⟩ = some (.int .i64 m3) := (HF.out.cell (p := ⟨w.heap.size, 2, none⟩) la).trans ((HS.out.cell 2).trans rfl)
                              have c3 : wf.cell? ⟨w.heap.size, 3, none⟩ = some (.int .i64 m4) := (HF.out.cell (p := ⟨w.heap.size, 3, none⟩) la).trans ((HS.out.cell 3).trans rfl)
                              have c4 : wf.cell? ⟨w.heap.size, 4, none⟩ = some (.slice A np a) := (HF.out.cell (p := ⟨w.heap.size, 4, none⟩) la).trans ((HS.out.cell 4).trans rfl)
                              have c5 : wf.cell? ⟨w.heap.size, 5, none⟩ = some (.slice B nt b) := (HF.out.cell (p := ⟨w.heap.size, 5, none⟩) la).trans ((HS.out.cell 5).trans rfl)
                              have c6 : wf.cell? ⟨w.heap.size, 6, none⟩ = some (.slice C nb c) := (HF.out.cell (p := ⟨w.heap.size, 6, none⟩) la).trans ((HS.out.cell 6).trans rfl)
                              try rw [HBa.out] at c5
                              try rw [HCa.out] at c6
                              have lwf : w.heap.size < wf.heap.size := by have := HF.out.size; omega
                              have lC2 : gC < wf.heap.size := by have := HF.out.size; omega
                              have hcC := HCC.out
                              by_cases hkt : k < nt
                              · as_aux_lemma =>
                                  obtain ⟨y, hy⟩ : ∃ y, T[k]? = some y := ⟨_, List.getElem?_eq_getElem (by rw [HNT.out]; exact hkt)⟩
                                  have hrt := HRT.out.1
                                  rw [HNT.out] at hrt
                                  obtain ⟨gB, oB, hBe, hgB, hcB⟩ := hrt.2 (by omega)
                                  have HBa := Lib.hid hBe
                                  rw [hBe] at c5
                                  clear hBe
                                  have lB : gB < wf.heap.size := by have := HF.out.size; omega
                                  have p0 := (HF.out.cell (p := ⟨gB, oB + (k * 4 + 0), none⟩) hgB).trans (hcB _ _ ((tmC_get hy 0 (by decide)).trans rfl))
                                  rw [Nat.add_zero] at p0
                                  have r1 := (HF.out.cell (p := ⟨gC, oC + (i * 5 + 1), none⟩) hgC).trans (hcC _ _ ((sbC_get HZZ.out 1 (by decide)).trans rfl))
                                  rw [← Nat.add_assoc] at r1
                                  have HFA := Lib.hid (any_add (f := fun y => isT zt y.t) hy)
                                  rw [HFB.out] at HFA
                                  have HY := Lib.hid hy
                                  have HCB := Lib.hid hcB
                                  obtain ⟨⟨yi, yo, yf, yss⟩, yA, yc⟩ := y
                                  dsimp only at p0 r1 HFA
                                  have k0 : (0 : Int) ≤ (k : Int) := by omega
                                  have k1 : (k : Int) < (nt : Int) := by omega
                                  clear hy hcB hrt hcC
                                  by_cases E : yi = zt
                                  · as_aux_lemma =>
                                      have e1 : (yi == zt) = true := by simp [E]
                                      have e2 : (yi != zt) = false := by simp [E]
                                      have HN2 := Lib.hid (show (T.take (k + 1)).any (fun y => isT zt y.t) = true by rw [HFA.out]; simp [isT, E])
                                      have hym : (⟨yi, yo, yf, yss⟩ : Tk) ∈ tks T := List.mem_of_getElem? (show (tks T)[k]? = some _ by unfold tks; rw [List.getElem?_map, HY.out]; rfl)
                                      have hyt := track_one HI.out hym HAT.out (by rw [HF3.out]; exact E)
                                      have HOO := Lib.hid (show ao.who = yo by rw [HF4.out, ← hyt])
                                      have HRA := Lib.hid (fun (p : Pn) (hp : p ∈ ps) (e : p.who = zw) => (person_one HI.out hp HAP.out (e.trans HF1.out.symm) : p = ap))
                                      have HRO := Lib.hid (fun (p : Pn) (hp : p ∈ ps) (e : p.who = yo) => (person_one HI.out hp HAO.out (e.trans HOO.out.symm) : p = ao))
                                      clear E HFB HFA hym hyt
                                      obtain ⟨RA, hRA⟩ : ∃ z, ap.room = z := ⟨_, rfl⟩
                                      have HRAe := Lib.hid hRA
                                      have HRB2 := Lib.hid (show ao.room = RA by rw [HF5.out, hRA])
                                      have hr1 : 1 ≤ RA := by rw [← hRA]; exact HRM.out.2.2.1
                                      clear hRA
                                      go_wp2_with fail
                                      try (go_region; go_wp2_with fail)
                                      go_loopw [16, 17, 18] (fun av bv jv wr => ∃ (j : Nat) (b1 b2 : Bool), j ≤ np ∧ jv = .int .i64 (j : Int) ∧ av = .int .i64 (roomIf b1 RA) ∧ bv = .int .i64 (roomIf b2 RA) ∧ Hid ((ps.take j).any (mayS zw) = b1) ∧ Hid ((ps.take j).any (isP yo) = b2) ∧ Hid (Below w1.heap.size w1 wr)) (fun _ _ jv _ => np - (intOf jv).toNat)
                                      case atStart => exact ⟨0, false, false, Nat.zero_le _, rfl, rfl, rfl, Lib.hid rfl, Lib.hid rfl, Lib.hid (by first | exact HF.out | exact HF.out.drew | exact HF.out.drew.drew)⟩
                                      case round =>
                                        as_aux_lemma =>
                                          obtain ⟨j, b1', b2', hj, rfl, rfl, rfl, HG1, HG2, HG⟩ := hrel
                                          obtain ⟨wg, rfl⟩ : ∃ z, z = wr := ⟨_, rfl⟩
                                          clear p0 r1 c0 c1 c2 c3 c4 c5 c6
                                          have c0 : wg.cell? ⟨w.heap.size, 0, none⟩ = some (.int .i64 m1) := (HG.out.cell (p := ⟨w.heap.size, 0, none⟩) la).trans ((HS.out.cell 0).trans rfl)
                                          have c1 : wg.cell? ⟨w.heap.size, 1, none⟩ = some (.int .i64 m2) := (HG.out.cell (p := ⟨w.heap.size, 1, none⟩) la).trans ((HS.out.cell 1).trans rfl)
                                          have c2 : wg.cell? ⟨w.heap.size, 2, none⟩ = some (.int .i64 m3) := (HG.out.cell (p := ⟨w.heap.size, 2, none⟩) la).trans ((HS.out.cell 2).trans rfl)
                                          have c3 : wg.cell? ⟨w.heap.size, 3, none⟩ = some (.int .i64 m4) := (HG.out.cell (p := ⟨w.heap.size, 3, none⟩) la).trans ((HS.out.cell 3).trans rfl)
                                          have c4 : wg.cell? ⟨w.heap.size, 4, none⟩ = some (.slice A np a) := (HG.out.cell (p := ⟨w.heap.size, 4, none⟩) la).trans ((HS.out.cell 4).trans rfl)
                                          have c5 : wg.cell? ⟨w.heap.size, 5, none⟩ = some (.slice B nt b) := (HG.out.cell (p := ⟨w.heap.size, 5, none⟩) la).trans ((HS.out.cell 5).trans rfl)
                                          have c6 : wg.cell? ⟨w.heap.size, 6, none⟩ = some (.slice C nb c) := (HG.out.cell (p := ⟨w.heap.size, 6, none⟩) la).trans ((HS.out.cell 6).trans rfl)
                                          try rw [HBa.out] at c5
                                          try rw [HCa.out] at c6
                                          have lwg : w.heap.size < wg.heap.size := by have := HG.out.size; omega
                                          have lC3 : gC < wg.heap.size := by have := HG.out.size; omega
                                          have lB2 : gB < wg.heap.size := by have := HG.out.size; omega
                                          obtain ⟨va, hva⟩ : ∃ z, roomIf b1' RA = z := ⟨_, rfl⟩
                                          obtain ⟨vb, hvb⟩ : ∃ z, roomIf b2' RA = z := ⟨_, rfl⟩
                                          rw [hva, hvb]
                                          have HVA := Lib.hid hva
                                          have HVB := Lib.hid hvb
                                          clear hva hvb
                                          by_cases hjp : j < np
                                          · as_aux_lemma =>
                                              obtain ⟨x, hx⟩ : ∃ x, ps[j]? = some x := ⟨_, List.getElem?_eq_getElem (by rw [HNP.out]; exact hjp)⟩
                                              obtain ⟨gA, oA, hAe, hgA, hcA⟩ := HRP.out.2 (by omega)
                                              rw [hAe] at c4
                                              clear hAe
                                              have lA : gA < wg.heap.size := by have := HG.out.size; omega
                                              have hcB := HCB.out
                                              have hcC := HCC.out
                                              have p0 := (HG.out.cell (p := ⟨gA, oA + (j * 3 + 0), none⟩) hgA).trans (hcA _ _ ((pnC_get hx 0 (by decide)).trans rfl))
                                              have p1 := (HG.out.cell (p := ⟨gA, oA + (j * 3 + 1), none⟩) hgA).trans (hcA _ _ ((pnC_get hx 1 (by decide)).trans rfl))
                                              have p2 := (HG.out.cell (p := ⟨gA, oA + (j * 3 + 2), none⟩) hgA).trans (hcA _ _ ((pnC_get hx 2 (by decide)).trans rfl))
                                              rw [Nat.add_zero] at p0
                                              rw [← Nat.add_assoc] at p1
                                              rw [← Nat.add_assoc] at p2
                                              have r0 := (HG.out.cell (p := ⟨gC, oC + (i * 5 + 0), none⟩) hgC).trans (hcC _ _ ((sbC_get HZZ.out 0 (by decide)).trans rfl))
                                              rw [Nat.add_zero] at r0
                                              have t1 := (HG.out.cell (p := ⟨gB, oB + (k * 4 + 1), none⟩) hgB).trans (hcB _ _ ((tmC_get HY.out 1 (by decide)).trans rfl))
                                              rw [← Nat.add_assoc] at t1
                                              have hxm := List.mem_of_getElem? hx
                                              have HA1 := Lib.hid (any_add (f := mayS zw) hx)
                                              have HA2 := Lib.hid (any_add (f := isP yo) hx)
                                              rw [HG1.out] at HA1
                                              rw [HG2.out] at HA2
                                              have HX1 := Lib.hid (HRA.out x hxm)
                                              have HX2 := Lib.hid (HRO.out x hxm)
                                              obtain ⟨xw, xr, xg⟩ := x
                                              dsimp only at p0 p1 p2 r0 t1
                                              have j0 : (0 : Int) ≤ (j : Int) := by omega
                                              have j1 : (j : Int) < (np : Int) := by omega
                                              clear hx hxm hcA hcB hcC
                                              by_cases F1' : xw = zw
                                              · as_aux_lemma =>
                                                  have F1 := Lib.hid F1'
                                                  have e1 : (xw == zw) = true := by simp [F1']
                                                  have E1 := Lib.hid e1
                                                  clear F1'
                                                  by_cases g1 : 1 < xg
                                                  · as_aux_lemma =>
                                                      have E2 := Lib.hid (decide_eq_true g1)
                                                      by_cases F3' : xw = yo
                                                      · as_aux_lemma =>
                                                          have F3 := Lib.hid F3'
                                                          have e3 : (xw == yo) = true := by simp [F3']
                                                          have E3 := Lib.hid (show decide (xw = yo) = true by simp [F3'])
                                                          clear F3'
                                                          have RX1 := Lib.hid (show xr = RA by have := HX1.out F1.out; rw [← this] at HRAe; exact HRAe.out)
                                                          have RX2 := Lib.hid (show xr = RA by have := HX2.out F3.out; rw [← this] at HRB2; exact HRB2.out)
                                                          go_wp2_with fail
                                                          try (go_region; go_wp2_with fail)
                                                          all_goals (try (go_region; go_wp2_with fail))
                                                          all_goals (first | exact ⟨⟨j + 1, true, true, by omega, by go_num, by rw [RX1.out]; rfl, by rw [RX2.out]; rfl, Lib.hid (by rw [HA1.out]; unfold mayS; dsimp only; rw [E1.out, E2.out]; simp), Lib.hid (by rw [HA2.out]; unfold isP; dsimp only; rw [E3.out]; simp), Lib.hid (by first | exact HG.out | exact HG.out.drew | exact HG.out.drew.drew)⟩, by simp [intOf]; omega⟩ | (go_roundw; (case rel => exact ⟨j + 1, true, true, by omega, by go_num, by rw [RX1.out]; rfl, by rw [RX2.out]; rfl, Lib.hid (by rw [HA1.out]; unfold mayS; dsimp only; rw [E1.out, E2.out]; simp), Lib.hid (by rw [HA2.out]; unfold isP; dsimp only; rw [E3.out]; simp), Lib.hid (by first | exact HG.out | exact HG.out.drew | exact HG.out.drew.drew)⟩); (case measure => simp [intOf]; omega)))
                                                      · as_aux_lemma =>
                                                          have e3 : (xw == yo) = false := by simp [F3']
                                                          have E3 := Lib.hid (show decide (xw = yo) = false by simp [F3'])
                                                          clear F3'
                                                          have RX1 := Lib.hid (show xr = RA by have := HX1.out F1.out; rw [← this] at HRAe; exact HRAe.out)
                                                          go_wp2_with fail
                                                          try (go_region; go_wp2_with fail)
                                                          all_goals (try (go_region; go_wp2_with fail))
                                                          all_goals (first | exact ⟨⟨j + 1, true, b2', by omega, by go_num, by rw [RX1.out]; rfl, by rw [HVB.out], Lib.hid (by rw [HA1.out]; unfold mayS; dsimp only; rw [E1.out, E2.out]; simp), Lib.hid (by rw [HA2.out]; unfold isP; dsimp only; rw [E3.out]; simp), Lib.hid (by first | exact HG.out | exact HG.out.drew | exact HG.out.drew.drew)⟩, by simp [intOf]; omega⟩ | (go_roundw; (case rel => exact ⟨j + 1, true, b2', by omega, by go_num, by rw [RX1.out]; rfl, by rw [HVB.out], Lib.hid (by rw [HA1.out]; unfold mayS; dsimp only; rw [E1.out, E2.out]; simp), Lib.hid (by rw [HA2.out]; unfold isP; dsimp only; rw [E3.out]; simp), Lib.hid (by first | exact HG.out | exact HG.out.drew | exact HG.out.drew.drew)⟩); (case measure => simp [intOf]; omega)))
                                                  · as_aux_lemma =>
                                                      have E2 := Lib.hid (decide_eq_false g1)
                                                      by_cases F3' : xw = yo
                                                      · as_aux_lemma =>
                                                          have F3 := Lib.hid F3'
                                                          have e3 : (xw == yo) = true := by simp [F3']
                                                          have E3 := Lib.hid (show decide (xw = yo) = true by simp [F3'])
                                                          clear F3'
                                                          have RX2 := Lib.hid (show xr = RA by have := HX2.out F3.out; rw [← this] at HRB2; exact HRB2.out)
                                                          go_wp2_with fail
                                                          try (go_region; go_wp2_with fail)
                                                          all_goals (try (go_region; go_wp2_with fail))
                                                          all_goals (first | exact ⟨⟨j + 1, b1', true, by omega, by go_num, by rw [HVA.out], by rw [RX2.out]; rfl, Lib.hid (by rw [HA1.out]; unfold mayS; dsimp only; rw [E1.out, E2.out]; simp), Lib.hid (by rw [HA2.out]; unfold isP; dsimp only; rw [E3.out]; simp), Lib.hid (by first | exact HG.out | exact HG.out.drew | exact HG.out.drew.drew)⟩, by simp [intOf]; omega⟩ | (go_roundw; (case rel => exact ⟨j + 1, b1', true, by omega, by go_num, by rw [HVA.out], by rw [RX2.out]; rfl, Lib.hid (by rw [HA1.out]; unfold mayS; dsimp only; rw [E1.out, E2.out]; simp), Lib.hid (by rw [HA2.out]; unfold isP; dsimp only; rw [E3.out]; simp), Lib.hid (by first | exact HG.out | exact HG.out.drew | exact HG.out.drew.drew)⟩); (case measure => simp [intOf]; omega)))
                                                      · as_aux_lemma =>
                                                          have e3 : (xw == yo) = false := by simp [F3']
                                                          have E3 := Lib.hid (show decide (xw = yo) = false by simp [F3'])
                                                          clear F3'
                                                          go_wp2_with fail
                                                          try (go_region; go_wp2_with fail)
                                                          all_goals (try (go_region; go_wp2_with fail))
                                                          all_goals (first | exact ⟨⟨j + 1, b1', b2', by omega, by go_num, by rw [HVA.out], by rw [HVB.out], Lib.hid (by rw [HA1.out]; unfold mayS; dsimp only; rw [E1.out, E2.out]; simp), Lib.hid (by rw [HA2.out]; unfold isP; dsimp only; rw [E3.out]; simp), Lib.hid (by first | exact HG.out | exact HG.out.drew | exact HG.out.drew.drew)⟩, by simp [intOf]; omega⟩ | (go_roundw; (case rel => exact ⟨j + 1, b1', b2', by omega, by go_num, by rw [HVA.out], by rw [HVB.out], Lib.hid (by rw [HA1.out]; unfold mayS; dsimp only; rw [E1.out, E2.out]; simp), Lib.hid (by rw [HA2.out]; unfold isP; dsimp only; rw [E3.out]; simp), Lib.hid (by first | exact HG.out | exact HG.out.drew | exact HG.out.drew.drew)⟩); (case measure => simp [intOf]; omega)))
                                              · as_aux_lemma =>
                                                  have e1 : (xw == zw) = false := by simp [F1']
                                                  have E1 := Lib.hid e1
                                                  clear F1'
                                                  by_cases F3' : xw = yo
                                                  · as_aux_lemma =>
                                                      have F3 := Lib.hid F3'
                                                      have e3 : (xw == yo) = true := by simp [F3']
                                                      have E3 := Lib.hid (show decide (xw = yo) = true by simp [F3'])
                                                      clear F3'
                                                      have RX2 := Lib.hid (show xr = RA by have := HX2.out F3.out; rw [← this] at HRB2; exact HRB2.out)
                                                      go_wp2_with fail
                                                      try (go_region; go_wp2_with fail)
                                                      all_goals (try (go_region; go_wp2_with fail))
                                                      all_goals (first | exact ⟨⟨j + 1, b1', true, by omega, by go_num, by rw [HVA.out], by rw [RX2.out]; rfl, Lib.hid (by rw [HA1.out]; unfold mayS; dsimp only; rw [E1.out]; simp), Lib.hid (by rw [HA2.out]; unfold isP; dsimp only; rw [E3.out]; simp), Lib.hid (by first | exact HG.out | exact HG.out.drew | exact HG.out.drew.drew)⟩, by simp [intOf]; omega⟩ | (go_roundw; (case rel => exact ⟨j + 1, b1', true, by omega, by go_num, by rw [HVA.out], by rw [RX2.out]; rfl, Lib.hid (by rw [HA1.out]; unfold mayS; dsimp only; rw [E1.out]; simp), Lib.hid (by rw [HA2.out]; unfold isP; dsimp only; rw [E3.out]; simp), Lib.hid (by first | exact HG.out | exact HG.out.drew | exact HG.out.drew.drew)⟩); (case measure => simp [intOf]; omega)))
                                                  · as_aux_lemma =>
                                                      have e3 : (xw == yo) = false := by simp [F3']
                                                      have E3 := Lib.hid (show decide (xw = yo) = false by simp [F3'])
                                                      clear F3'
                                                      go_wp2_with fail
                                                      try (go_region; go_wp2_with fail)
                                                      all_goals (try (go_region; go_wp2_with fail))
                                                      all_goals (first | exact ⟨⟨j + 1, b1', b2', by omega, by go_num, by rw [HVA.out], by rw [HVB.out], Lib.hid (by rw [HA1.out]; unfold mayS; dsimp only; rw [E1.out]; simp), Lib.hid (by rw [HA2.out]; unfold isP; dsimp only; rw [E3.out]; simp), Lib.hid (by first | exact HG.out | exact HG.out.drew | exact HG.out.drew.drew)⟩, by simp [intOf]; omega⟩ | (go_roundw; (case rel => exact ⟨j + 1, b1', b2', by omega, by go_num, by rw [HVA.out], by rw [HVB.out], Lib.hid (by rw [HA1.out]; unfold mayS; dsimp only; rw [E1.out]; simp), Lib.hid (by rw [HA2.out]; unfold isP; dsimp only; rw [E3.out]; simp), Lib.hid (by first | exact HG.out | exact HG.out.drew | exact HG.out.drew.drew)⟩); (case measure => simp [intOf]; omega)))
                                          · as_aux_lemma =>
                                              obtain rfl : np = j := by omega
                                              have hb1 : b1' = true := by rw [← HG1.out, List.take_of_length_le (by rw [HNP.out]; exact Nat.le_refl _)]; exact List.any_eq_true.mpr ⟨ap, HAP.out, by unfold mayS; rw [HF1.out]; simp; have := HF2.out; omega⟩
                                              have hb2 : b2' = true := by rw [← HG2.out, List.take_of_length_le (by rw [HNP.out]; exact Nat.le_refl _)]; exact List.any_eq_true.mpr ⟨ao, HAO.out, by rw [isP_iff]; exact HOO.out⟩
                                              have hva : va = RA := by rw [← HVA.out, hb1]; rfl
                                              have hvb : vb = RA := by rw [← HVB.out, hb2]; rfl
                                              subst hva; subst hvb
                                              clear HVA HVB HG1 HG2 hb1 hb2
                                              go_wp2_with fail
                                              try (go_region; go_wp2_with fail)
                                              all_goals (first | exact ⟨⟨k + 1, true, by omega, by go_num, rfl, HN2, Lib.hid (by first | exact HG.out | exact HG.out.drew | exact HG.out.drew.drew)⟩, by simp [intOf]; omega⟩ | (go_roundw; (case rel => exact ⟨k + 1, true, by omega, by go_num, rfl, HN2, Lib.hid (by first | exact HG.out | exact HG.out.drew | exact HG.out.drew.drew)⟩); (case measure => simp [intOf]; omega)))
                                  · as_aux_lemma =>
                                      have e1 : (yi == zt) = false := by simp [E]
                                      have e2 : (yi != zt) = true := by simp [E]
                                      have HN2 := Lib.hid (show (T.take (k + 1)).any (fun y => isT zt y.t) = fb by rw [HFA.out]; simp [isT, E])
                                      clear E HFB HFA
                                      go_wp2_with fail
                                      try (go_region; go_wp2_with fail)
                                      all_goals (first | exact ⟨⟨k + 1, fb, by omega, by go_num, rfl, HN2, Lib.hid (by first | exact HF.out | exact HF.out.drew | exact HF.out.drew.drew)⟩, by simp [intOf]; omega⟩ | (go_roundw; (case rel => exact ⟨k + 1, fb, by omega, by go_num, rfl, HN2, Lib.hid (by first | exact HF.out | exact HF.out.drew | exact HF.out.drew.drew)⟩); (case measure => simp [intOf]; omega)))
                              · as_aux_lemma =>
                                  obtain rfl : nt = k := by omega
                                  have hfb : fb = true := by rw [← HFB.out, List.take_of_length_le (by rw [HNT.out]; exact Nat.le_refl _)]; obtain ⟨y, hy, e⟩ := List.mem_map.mp (show at' ∈ T.map (·.t) from HAT.out); exact List.any_eq_true.mpr ⟨y, hy, by rw [isT_iff, e]; exact HF3.out⟩
                                  subst hfb
                                  have hon2 : ¬ m3 < (on : Int) := by omega
                                  clear HFB hcC
                                  go_wp2_with fail
                                  try (go_region; go_wp2_with fail)
                                  all_goals (first | exact ⟨⟨i + 1, by omega, by go_num, Lib.hid (by first | exact HF.out | exact HF.out.drew | exact HF.out.drew.drew)⟩, by simp [intOf]; omega⟩ | (go_roundw; (case rel => exact ⟨i + 1, by omega, by go_num, Lib.hid (by first | exact HF.out | exact HF.out.drew | exact HF.out.drew.drew)⟩); (case measure => simp [intOf]; omega)))
              · as_aux_lemma =>
                  obtain rfl : nb = i := by omega
                  have HBF := Lib.hid (HB1.out.trans (HU.out.mono HB1.out.size))
                  clear HU
                  go_wp2_with fail
                  go_ret
                  exact ⟨rfl, HBF.out⟩
end Go.Proofs.Ytmmeceehfdbdoaa
