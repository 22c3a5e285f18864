/-
  Contract of the document's Downs (layer 17).
-/
import Derived.Test.YtgjhcnpegaemoaaTbD
namespace Go.Proofs.Ytgjhcnpegaemoaa
open Go.RowKit
set_option linter.unusedSimpArgs false
set_option linter.unusedVariables false
set_option maxRecDepth 100000

theorem downs_take {l : List Dn} {k : Nat} {y : Dn} (h : l[k]? = some y) (t : Int) : downsS (l.take (k + 1)) t = if y.track = t then insD (downsS (l.take k) t) y else downsS (l.take k) t := by
  unfold downsS
  rw [take_add h, List.filter_append]
  by_cases h1 : y.track = t
  · rw [if_pos h1, List.filter_cons, if_pos (decide_eq_true h1), List.filter_nil, List.foldl_append]
    rfl
  · rw [if_neg h1, List.filter_cons, if_neg (by simpa using h1), List.filter_nil, List.append_nil]
theorem place_lt {x : Dn} : ∀ {l : List Dn} {j : Nat} {z : Dn}, j < placeD l x → l[j]? = some z → z.who < x.who
  | [], j, z, h, hz => by simp at hz
  | a :: l, j, z, h, hz => by
    unfold placeD at h
    rw [List.takeWhile_cons] at h
    by_cases h1 : a.who < x.who
    · rw [if_pos (decide_eq_true h1), List.length_cons] at h
      cases j with
      | zero => simp at hz; subst hz; exact h1
      | succ j => exact place_lt (l := l) (j := j) (by unfold placeD; omega) (by simpa using hz)
    · rw [if_neg (by simpa using h1)] at h; simp at h
theorem place_at {x : Dn} : ∀ {l : List Dn} {z : Dn}, l[placeD l x]? = some z → ¬ z.who < x.who
  | [], z, hz => by simp at hz
  | a :: l, z, hz => by
    unfold placeD at hz
    rw [List.takeWhile_cons] at hz
    by_cases h1 : a.who < x.who
    · rw [if_pos (decide_eq_true h1), List.length_cons, List.getElem?_cons_succ] at hz
      exact place_at (l := l) hz
    · rw [if_neg (by simpa using h1)] at hz
      simp at hz
      subst hz
      exact h1

theorem rowz_drop {w : World} {B z n k : Nat} {g o : Nat} {xs : List Value} (h : Row w B z (some ⟨g, o, none⟩) n xs) (hk : k ≤ n) : Row w B z (some ⟨g, o + k * z, none⟩) (n - k) (xs.drop (k * z)) := by
  have hl := h.1
  refine ⟨by rw [List.length_drop, hl, Nat.sub_mul], fun h0 => ?_⟩
  obtain ⟨g', o', e, hb, hc⟩ := h.2 (by omega)
  injection e with e
  injection e with e1 e2
  subst e1
  subst e2
  refine ⟨g, o + k * z, rfl, hb, fun j u hu => ?_⟩
  rw [List.getElem?_drop] at hu
  rw [Nat.add_assoc]
  exact hc _ u hu
set_option maxHeartbeats 6400000 in
theorem rdowns17 (A : Option Addr) (c : Nat) (l : List Dn) (t : Int) (w : World) (hr : Row w w.heap.size 10 A l.length (dnC l)) (hl : l.length ≤ 4096) :
    Calls Try.prog 19 #[.slice A l.length c, .int .i64 t] w (NewRow 49 10 (downsS l t).length (dnC (downsS l t)) w) := by
  have HR := Lib.hid hr
  obtain ⟨n, hn⟩ : ∃ n, l.length = n := ⟨_, rfl⟩
  have HN := Lib.hid hn
  rw [hn] at hl HR ⊢
  clear hr hn
  go_enter Try.func19, Try.ntmps19
  go_wp2_with fail
  go_loopw [5, 6] (fun v i wr => ∃ k : Nat, k ≤ n ∧ i = .int .i64 (k : Int) ∧ wr.ownsRow w.heap.size 49 10 v (downsS (l.take k) t).length (dnC (downsS (l.take k) t)) ∧ (downsS (l.take k) t).length ≤ k ∧ Below w.heap.size w wr) (fun _ i _ => n - (intOf i).toNat)
  case atStart => exact ⟨0, Nat.zero_le _, rfl, World.ownsRow_nil _ _ _ _, Nat.le_refl _, Below.refl _ _⟩
  case round =>
    obtain ⟨k, hk, rfl, hown, hle, hb⟩ := hrel
    obtain ⟨A5, c5, rfl⟩ := own_form hown
    have HO := Lib.hid hown
    have HB := Lib.hid hb
    have hsz := hb.size
    clear hown hb
    by_cases hlt : k < n
    · obtain ⟨x, hx⟩ : ∃ x, l[k]? = some x := ⟨_, List.getElem?_eq_getElem (by rw [HN.out]; exact hlt)⟩
      have HT := Lib.hid (downs_take hx t)
      obtain ⟨out, hout⟩ : ∃ z, downsS (l.take k) t = z := ⟨_, rfl⟩
      rw [hout] at HT HO hle ⊢
      obtain ⟨OL, hOL⟩ : ∃ z, out.length = z := ⟨_, rfl⟩
      have HOL := Lib.hid hOL
      rw [hOL] at HO hle ⊢
      obtain ⟨g, o, rfl, hg, hc⟩ := HR.out.2 (by omega)
      have HC := Lib.hid (fun w' (b : Below w.heap.size w w') j (u : Value) (hu : (dnC l)[k * 10 + j]? = some u) => (b.cell (p := ⟨g, o + (k * 10 + j), none⟩) hg).trans (hc _ _ hu))
      have h4 := HC.out wr HB.out 4 _ ((dnC_get hx 4 (by decide)).trans rfl)
      have HX := Lib.hid hx
      rw [← Nat.add_assoc] at h4
      have lg : g < wr.heap.size := by omega
      have i0 : (0 : Int) ≤ (k : Int) := by omega
      have i1 : (k : Int) < (n : Int) := by omega
      obtain ⟨xs, xsl, xtu, xw, xt, xh, xf, xl, xd, xm⟩ := x
      dsimp only at h4
      clear hx hc hout hOL
      by_cases ht : xt = t
      · have HT2 := Lib.hid (show downsS (l.take (k + 1)) t = insD out ⟨xs, xsl, xtu, xw, xt, xh, xf, xl, xd, xm⟩ by rw [HT.out, if_pos ht])
        have hnt : ¬ (¬ xt = t) := fun h => h ht
        subst ht
        have hPL := placeD_le out ⟨xs, xsl, xtu, xw, xt, xh, xf, xl, xd, xm⟩
        obtain ⟨P, hP⟩ : ∃ z, placeD out ⟨xs, xsl, xtu, xw, xt, xh, xf, xl, xd, xm⟩ = z := ⟨_, rfl⟩
        have HP := Lib.hid hP
        rw [hP, HOL.out] at hPL
        clear hP HT
        go_wp2_with fail
        clear h4
        go_loopw [7] (fun v wq => ∃ j : Nat, j ≤ P ∧ v = .int .i64 (j : Int) ∧ Below w.heap.size w wq ∧ Below wr.heap.size wr wq) (fun v _ => P - (intOf v).toNat)
        case atStart => exact ⟨0, Nat.zero_le _, rfl, HB.out, Below.refl _ _⟩
        case round =>
          obtain ⟨j, hj, rfl, hb, hb2⟩ := hrel
          have HBq := Lib.hid hb
          have HB2 := Lib.hid hb2
          have hsz2 := hb.size
          have h3 := HC.out _ hb 3 _ ((dnC_get HX.out 3 (by decide)).trans rfl)
          rw [← Nat.add_assoc] at h3
          dsimp only at h3
          have j0 : (0 : Int) ≤ (j : Int) := by omega
          by_cases hjP : j < P
          · obtain ⟨z, hz⟩ : ∃ z, out[j]? = some z := ⟨_, List.getElem?_eq_getElem (by rw [HOL.out]; omega)⟩
            have hw := place_lt (by rw [HP.out]; exact hjP) hz
            obtain ⟨g5, o5, e5, l5, r5⟩ := (Row.of_own HO.out).2 (by omega)
            cases e5
            have d3 := (hb2.cell (p := ⟨g5, o5 + (j * 10 + 3), none⟩) l5).trans (r5 _ _ ((dnC_get hz 3 (by decide)).trans rfl))
            rw [← Nat.add_assoc] at d3
            have j1 : (j : Int) < (OL : Int) := by omega
            have t1 : decide ((j : Int) < (OL : Int)) = true := decide_eq_true j1
            have t1' : decide (j < OL) = true := decide_eq_true (by omega)
            obtain ⟨zs, zsl, ztu, zw, zt, zh, zf, zl, zd, zm⟩ := z
            dsimp only at d3 hw
            have t2 : decide (zw < xw) = true := decide_eq_true hw
            have lg2 : g < wr.heap.size := by omega
            have lg5 : g5 < wr.heap.size := by have := hb2.size; omega
            clear hz r5 l5 hb hb2
            go_wp2_with fail
            go_region
            go_wp2_with fail
            go_roundw
            case rel => exact ⟨j + 1, by omega, by go_num, HBq.out.drew, HB2.out.drew⟩
            case measure => simp [intOf]; omega
          · have hjq : j = P := by omega
            subst hjq
            have lg2 : g < wr.heap.size := by omega
            by_cases hjo : j < OL
            · obtain ⟨z, hz⟩ : ∃ z, out[j]? = some z := ⟨_, List.getElem?_eq_getElem (by rw [HOL.out]; exact hjo)⟩
              have hw := place_at (x := ⟨xs, xsl, xtu, xw, xt, xh, xf, xl, xd, xm⟩) (l := out) (z := z) (by rw [HP.out]; exact hz)
              obtain ⟨g5, o5, e5, l5, r5⟩ := (Row.of_own HO.out).2 (by omega)
              cases e5
              have d3 := (hb2.cell (p := ⟨g5, o5 + (j * 10 + 3), none⟩) l5).trans (r5 _ _ ((dnC_get hz 3 (by decide)).trans rfl))
              rw [← Nat.add_assoc] at d3
              have j1 : (j : Int) < (OL : Int) := by omega
              have t1 : decide ((j : Int) < (OL : Int)) = true := decide_eq_true j1
              have t1' : decide (j < OL) = true := decide_eq_true hjo
              obtain ⟨zs, zsl, ztu, zw, zt, zh, zf, zl, zd, zm⟩ := z
              dsimp only at d3 hw
              have t2 : decide (zw < xw) = false := decide_eq_false hw
              have lg5 : g5 < wr.heap.size := by have := hb2.size; omega
              clear hz r5 l5 hb hb2
              go_wp2_with fail
              go_region
              have HBa := Lib.hid HBq.out.drew
              have HOa := Lib.hid (own_below HO.out HB2.out.drew (Nat.le_refl _))
              have HSRC := Lib.hid (show Row wr.drew wr.drew.heap.size 10 (some ⟨g5, o5, none⟩) j (dnC (out.take j)) by rw [dnC_take]; exact rowz_take (Row.of_own HOa.out) hPL)
              obtain ⟨wa, hwa⟩ : ∃ z, z = wr.drew := ⟨_, rfl⟩
              rw [← hwa] at HBa HOa HSRC ⊢
              have hcap := (own_cap HOa.out).1
              have hsza : w.heap.size ≤ wa.heap.size := HBa.out.size
              clear hwa HBq HB2 HO h3 d3
              go_wp2_with (at_builtin; refine wpl_append _ rfl (.tmp 41) (.tmp 44) 34 rfl w.heap.size 49 (.agg #[.int .u32 0, .int .i64 0, .int .u32 0, .int .i64 0, .int .i64 0, .int .i64 0, .int .i64 0, .int .i64 0, .int .i64 0, .bool false]) 10 80 Try.underlying34 info_DD17 rfl (by decide) _ 0 [] rfl (World.ownsRow_nil _ _ _ _) _ (some ⟨g5, o5, none⟩) j c5 _ rfl HSRC.out (dn_one _) ?c1 ?c2 ?c3 ?_)
              case c1 => unfold maxLen; omega
              case c2 => omega
              case c3 => first | omega | exact hsza
              intro v8 w8 hown8 hg8 hv8
              have HB8 := Lib.hid (HBa.out.trans ((show Below wa.heap.size wa w8 from ⟨hg8.os, hg8.tape, hg8.output, hg8.size, fun k hk => hg8.block k hk (by simp [Value.ownBlock])⟩).mono hsza))
              have HO8 := Lib.hid (own_grownX HOa.out hg8 (fun q hq => by simp [Value.ownBlock]))
              have HV8 := Lib.hid hown8
              have hz8 := hg8.size
              have HNE := Lib.hid (show ∀ q, (Value.slice (some ⟨g5, o5, none⟩) OL c5).ownBlock = some q → v8.ownBlock ≠ some q from fun q hq e => by
                have h1 := (HOa.out.lt q hq).2
                rcases hv8 with h2 | h2
                · rw [e] at h2; simp [Value.ownBlock] at h2
                · rw [e] at h2; injection h2 with h2; omega)
              have y0 := HC.out w8 HB8.out 0 _ ((dnC_get HX.out 0 (by decide)).trans rfl)
              have y1 := HC.out w8 HB8.out 1 _ ((dnC_get HX.out 1 (by decide)).trans rfl)
              have y2 := HC.out w8 HB8.out 2 _ ((dnC_get HX.out 2 (by decide)).trans rfl)
              have y3 := HC.out w8 HB8.out 3 _ ((dnC_get HX.out 3 (by decide)).trans rfl)
              have y4 := HC.out w8 HB8.out 4 _ ((dnC_get HX.out 4 (by decide)).trans rfl)
              have y5 := HC.out w8 HB8.out 5 _ ((dnC_get HX.out 5 (by decide)).trans rfl)
              have y6 := HC.out w8 HB8.out 6 _ ((dnC_get HX.out 6 (by decide)).trans rfl)
              have y7 := HC.out w8 HB8.out 7 _ ((dnC_get HX.out 7 (by decide)).trans rfl)
              have y8 := HC.out w8 HB8.out 8 _ ((dnC_get HX.out 8 (by decide)).trans rfl)
              have y9 := HC.out w8 HB8.out 9 _ ((dnC_get HX.out 9 (by decide)).trans rfl)
              rw [← Nat.add_assoc] at y0 y1 y2 y3 y4 y5 y6 y7 y8 y9
              rw [Nat.add_zero] at y0
              dsimp only at y0 y1 y2 y3 y4 y5 y6 y7 y8 y9
              have lg8 : g < w8.heap.size := by omega
              have HW8 := Lib.hid (Row.fresh w8 49 #[.int .u32 xs, .int .i64 xsl, .int .u32 xtu, .int .i64 xw, .int .i64 xt, .int .i64 xh, .int .i64 xf, .int .i64 xl, .int .i64 xd, .bool xm] 10 1 [.int .u32 xs, .int .i64 xsl, .int .u32 xtu, .int .i64 xw, .int .i64 xt, .int .i64 xh, .int .i64 xf, .int .i64 xl, .int .i64 xd, .bool xm] rfl rfl)
              have hL8 := Lib.hid (fun q hq => (HV8.out.lt q hq).1)
              clear hown8 hg8 hv8 HSRC HBa HOa
              go_wp2_with (at_builtin; refine wpl_append _ rfl (.tmp 46) (.tmp 51) 34 rfl w.heap.size 49 (.agg #[.int .u32 0, .int .i64 0, .int .u32 0, .int .i64 0, .int .i64 0, .int .i64 0, .int .i64 0, .int .i64 0, .int .i64 0, .bool false]) 10 80 Try.underlying34 info_DD17 rfl (by decide) _ j (dnC (out.take j)) rfl (HV8.out.alloc _) _ _ 1 1 [.int .u32 xs, .int .i64 xsl, .int .u32 xtu, .int .i64 xw, .int .i64 xt, .int .i64 xh, .int .i64 xf, .int .i64 xl, .int .i64 xd, .bool xm] rfl HW8.out (by simp [Value.oneCell']) ?d1 ?d2 ?d3 ?_)
              case d1 => unfold maxLen; omega
              case d2 => omega
              case d3 => first | omega | (simp; omega)
              intro v9 w9 hown9 hg9 hv9
              have hcj : ¬ c5 = j := by omega
              have hcj' : ¬ j = c5 := by omega
              have HB9 := Lib.hid (show Below w.heap.size w w9 from (HB8.out.alloc HB8.out.size _).grown hg9 (by simp; omega) (fun q hq => hL8.out q hq))
              have HO9 := Lib.hid (own_grownX (own_below HO8.out ((Below.refl w8.heap.size w8).alloc (Nat.le_refl _) (.cells #[.int .u32 xs, .int .i64 xsl, .int .u32 xtu, .int .i64 xw, .int .i64 xt, .int .i64 xh, .int .i64 xf, .int .i64 xl, .int .i64 xd, .bool xm] 49)) (Nat.le_refl _)) hg9 (fun q hq e => HNE.out q hq e))
              have HV9 := Lib.hid hown9
              have hL9 := Lib.hid (fun q hq => (HV9.out.lt q hq).1)
              have hz9 := HB9.out.size
              have HD9 := Lib.hid (rowz_drop (Row.of_own HO9.out) hPL)
              rw [← dnC_drop] at HD9
              have HINS := Lib.hid (show dnC (insD out ⟨xs, xsl, xtu, xw, xt, xh, xf, xl, xd, xm⟩) = (dnC (out.take j) ++ [.int .u32 xs, .int .i64 xsl, .int .u32 xtu, .int .i64 xw, .int .i64 xt, .int .i64 xh, .int .i64 xf, .int .i64 xl, .int .i64 xd, .bool xm]) ++ dnC (out.drop j) by
                unfold insD
                rw [HP.out, dnC_append]
                show dnC (out.take j) ++ ([.int .u32 xs, .int .i64 xsl, .int .u32 xtu, .int .i64 xw, .int .i64 xt, .int .i64 xh, .int .i64 xf, .int .i64 xl, .int .i64 xd, .bool xm] ++ dnC (out.drop j)) = _
                rw [List.append_assoc])
              clear hown9 hg9 hv9 HO8 HV8 HW8 HNE hL8 HB8 y0 y1 y2 y3 y4 y5 y6 y7 y8 y9
              go_wp2_with (at_builtin; go_loud (refine wpl_append _ rfl (.tmp 53) (.tmp 56) 34 rfl w.heap.size 49 (.agg #[.int .u32 0, .int .i64 0, .int .u32 0, .int .i64 0, .int .i64 0, .int .i64 0, .int .i64 0, .int .i64 0, .int .i64 0, .bool false]) 10 80 Try.underlying34 info_DD17 rfl (by decide) v9 (j + 1) _ rfl HV9.out _ (some ⟨g5, o5 + j * 10, none⟩) (OL - j) (c5 - j) _ rfl HD9.out (dn_one _) ?f1 ?f2 ?f3 ?_))
              case f1 => unfold maxLen; omega
              case f2 => omega
              case f3 => first | omega | exact hz9
              intro v10 w10 hown10 hg10 _
              have HF := Lib.hid (And.intro (show w10.ownsRow w.heap.size 49 10 v10 (downsS (l.take (k + 1)) xt).length (dnC (downsS (l.take (k + 1)) xt)) by
                  rw [HT2.out, insD_length, HOL.out, HINS.out, show OL + 1 = j + 1 + (OL - j) by omega]
                  simpa only [List.append_assoc, List.cons_append, List.nil_append] using hown10)
                (And.intro (show (downsS (l.take (k + 1)) xt).length ≤ k + 1 by rw [HT2.out, insD_length, HOL.out]; omega) (show Below w.heap.size w w10 from HB9.out.grown hg10 (by omega) (fun q hq => hL9.out q hq))))
              clear hown10 hg10 HV9 HD9 HO9 HB9 hL9 HINS
              go_wp2_with fail
              go_roundw
              case rel => exact ⟨k + 1, by omega, by go_num, HF.out.1, HF.out.2.1, HF.out.2.2⟩
              case measure => simp [intOf]; omega
            · have hjo' : j = OL := by omega
              have t1 : decide ((j : Int) < (OL : Int)) = false := decide_eq_false (by omega)
              have t1' : decide (j < OL) = false := decide_eq_false (by omega)
              clear hb hb2
              rcases HO.out.2 with ⟨hv, h0⟩ | ⟨g5, cap5, cur5, hv, _⟩
              · have hA5 : A5 = none ∧ c5 = 0 := by injection hv with hv1 hv2 hv3; exact ⟨hv1, hv3⟩
                obtain ⟨rfl, rfl⟩ := hA5
                have hOL0 : OL = 0 := h0
                subst hOL0
                subst hjo'
                have hout : out = [] := List.eq_nil_of_length_eq_zero HOL.out
                go_wp2_with fail
                go_region
                have HBa := Lib.hid HBq.out.drew
                obtain ⟨wa, hwa⟩ : ∃ z, z = wr.drew := ⟨_, rfl⟩
                rw [← hwa] at HBa ⊢
                have hsza : w.heap.size ≤ wa.heap.size := HBa.out.size
                clear hwa HBq HB2 HO h3
                go_wp2_with (at_builtin; refine wpl_append _ rfl (.tmp 41) (.tmp 44) 34 rfl w.heap.size 49 (.agg #[.int .u32 0, .int .i64 0, .int .u32 0, .int .i64 0, .int .i64 0, .int .i64 0, .int .i64 0, .int .i64 0, .int .i64 0, .bool false]) 10 80 Try.underlying34 info_DD17 rfl (by decide) _ 0 [] rfl (World.ownsRow_nil _ _ _ _) 0 _ 0 _ [] rfl Row.nil (by simp) ?c1 ?c2 ?c3 ?_)
                case c1 => unfold maxLen; omega
                case c2 => omega
                case c3 => first | omega | exact hsza
                intro v8 w8 hown8 hg8 hv8
                have HB8 := Lib.hid (HBa.out.trans ((show Below wa.heap.size wa w8 from ⟨hg8.os, hg8.tape, hg8.output, hg8.size, fun k hk => hg8.block k hk (by simp [Value.ownBlock])⟩).mono hsza))
                have HV8 := Lib.hid hown8
                have hz8 := hg8.size
                have y0 := HC.out w8 HB8.out 0 _ ((dnC_get HX.out 0 (by decide)).trans rfl)
                have y1 := HC.out w8 HB8.out 1 _ ((dnC_get HX.out 1 (by decide)).trans rfl)
                have y2 := HC.out w8 HB8.out 2 _ ((dnC_get HX.out 2 (by decide)).trans rfl)
                have y3 := HC.out w8 HB8.out 3 _ ((dnC_get HX.out 3 (by decide)).trans rfl)
                have y4 := HC.out w8 HB8.out 4 _ ((dnC_get HX.out 4 (by decide)).trans rfl)
                have y5 := HC.out w8 HB8.out 5 _ ((dnC_get HX.out 5 (by decide)).trans rfl)
                have y6 := HC.out w8 HB8.out 6 _ ((dnC_get HX.out 6 (by decide)).trans rfl)
                have y7 := HC.out w8 HB8.out 7 _ ((dnC_get HX.out 7 (by decide)).trans rfl)
                have y8 := HC.out w8 HB8.out 8 _ ((dnC_get HX.out 8 (by decide)).trans rfl)
                have y9 := HC.out w8 HB8.out 9 _ ((dnC_get HX.out 9 (by decide)).trans rfl)
                rw [← Nat.add_assoc] at y0 y1 y2 y3 y4 y5 y6 y7 y8 y9
                rw [Nat.add_zero] at y0
                dsimp only at y0 y1 y2 y3 y4 y5 y6 y7 y8 y9
                have lg8 : g < w8.heap.size := by omega
                have HW8 := Lib.hid (Row.fresh w8 49 #[.int .u32 xs, .int .i64 xsl, .int .u32 xtu, .int .i64 xw, .int .i64 xt, .int .i64 xh, .int .i64 xf, .int .i64 xl, .int .i64 xd, .bool xm] 10 1 [.int .u32 xs, .int .i64 xsl, .int .u32 xtu, .int .i64 xw, .int .i64 xt, .int .i64 xh, .int .i64 xf, .int .i64 xl, .int .i64 xd, .bool xm] rfl rfl)
                have hL8 := Lib.hid (fun q hq => (HV8.out.lt q hq).1)
                clear hown8 hg8 hv8 HBa
                go_wp2_with (at_builtin; refine wpl_append _ rfl (.tmp 46) (.tmp 51) 34 rfl w.heap.size 49 (.agg #[.int .u32 0, .int .i64 0, .int .u32 0, .int .i64 0, .int .i64 0, .int .i64 0, .int .i64 0, .int .i64 0, .int .i64 0, .bool false]) 10 80 Try.underlying34 info_DD17 rfl (by decide) _ 0 [] rfl (HV8.out.alloc _) _ _ 1 1 [.int .u32 xs, .int .i64 xsl, .int .u32 xtu, .int .i64 xw, .int .i64 xt, .int .i64 xh, .int .i64 xf, .int .i64 xl, .int .i64 xd, .bool xm] rfl HW8.out (by simp [Value.oneCell']) ?d1 ?d2 ?d3 ?_)
                case d1 => unfold maxLen; omega
                case d2 => omega
                case d3 => first | omega | (simp; omega)
                intro v9 w9 hown9 hg9 hv9
                have HB9 := Lib.hid (show Below w.heap.size w w9 from (HB8.out.alloc HB8.out.size _).grown hg9 (by simp; omega) (fun q hq => hL8.out q hq))
                have HV9 := Lib.hid hown9
                have hL9 := Lib.hid (fun q hq => (HV9.out.lt q hq).1)
                have hz9 := HB9.out.size
                have HINS := Lib.hid (show dnC (insD out ⟨xs, xsl, xtu, xw, xt, xh, xf, xl, xd, xm⟩) = dnC (out.take 0) ++ [.int .u32 xs, .int .i64 xsl, .int .u32 xtu, .int .i64 xw, .int .i64 xt, .int .i64 xh, .int .i64 xf, .int .i64 xl, .int .i64 xd, .bool xm] by
                  unfold insD
                  rw [HP.out, List.drop_of_length_le (show out.length ≤ 0 by rw [HOL.out]; exact Nat.le_refl _), dnC_append]
                  rfl)
                clear hown9 hg9 hv9 HV8 HW8 hL8 HB8 y0 y1 y2 y3 y4 y5 y6 y7 y8 y9
                go_wp2_with (at_builtin; refine wpl_append _ rfl (.tmp 53) (.tmp 56) 34 rfl w.heap.size 49 (.agg #[.int .u32 0, .int .i64 0, .int .u32 0, .int .i64 0, .int .i64 0, .int .i64 0, .int .i64 0, .int .i64 0, .int .i64 0, .bool false]) 10 80 Try.underlying34 info_DD17 rfl (by decide) v9 1 _ rfl HV9.out 0 _ 0 _ [] rfl Row.nil (by simp) ?f1 ?f2 ?f3 ?_)
                case f1 => unfold maxLen; omega
                case f2 => omega
                case f3 => first | omega | exact hz9
                intro v10 w10 hown10 hg10 _
                have HF := Lib.hid (And.intro (show w10.ownsRow w.heap.size 49 10 v10 (downsS (l.take (k + 1)) xt).length (dnC (downsS (l.take (k + 1)) xt)) by
                    rw [HT2.out, insD_length, HOL.out, HINS.out]
                    first | (simpa using hown10; done) | (simpa [dnC] using hown10))
                  (And.intro (show (downsS (l.take (k + 1)) xt).length ≤ k + 1 by rw [HT2.out, insD_length, HOL.out]; omega) (show Below w.heap.size w w10 from HB9.out.grown hg10 (by omega) (fun q hq => hL9.out q hq))))
                clear hown10 hg10 HV9 HB9 hL9 HINS
                go_wp2_with fail
                go_roundw
                case rel => exact ⟨k + 1, by omega, by go_num, HF.out.1, HF.out.2.1, HF.out.2.2⟩
                case measure => simp [intOf]; omega
              · have hA5 : A5 = some ⟨g5, 0, none⟩ := by injection hv
                subst hA5
                subst hjo'
                go_wp2_with fail
                go_region
                have HBa := Lib.hid HBq.out.drew
                have HOa := Lib.hid (own_below HO.out HB2.out.drew (Nat.le_refl _))
                have HSRC := Lib.hid (show Row wr.drew wr.drew.heap.size 10 (some ⟨g5, 0, none⟩) j (dnC (out.take j)) by rw [dnC_take]; exact rowz_take (Row.of_own HOa.out) hPL)
                obtain ⟨wa, hwa⟩ : ∃ z, z = wr.drew := ⟨_, rfl⟩
                rw [← hwa] at HBa HOa HSRC ⊢
                have hcap := (own_cap HOa.out).1
                have hsza : w.heap.size ≤ wa.heap.size := HBa.out.size
                clear hwa HBq HB2 HO h3
                go_wp2_with (at_builtin; refine wpl_append _ rfl (.tmp 41) (.tmp 44) 34 rfl w.heap.size 49 (.agg #[.int .u32 0, .int .i64 0, .int .u32 0, .int .i64 0, .int .i64 0, .int .i64 0, .int .i64 0, .int .i64 0, .int .i64 0, .bool false]) 10 80 Try.underlying34 info_DD17 rfl (by decide) _ 0 [] rfl (World.ownsRow_nil _ _ _ _) _ (some ⟨g5, 0, none⟩) j c5 _ rfl HSRC.out (dn_one _) ?c1 ?c2 ?c3 ?_)
                case c1 => unfold maxLen; omega
                case c2 => omega
                case c3 => first | omega | exact hsza
                intro v8 w8 hown8 hg8 hv8
                have HB8 := Lib.hid (HBa.out.trans ((show Below wa.heap.size wa w8 from ⟨hg8.os, hg8.tape, hg8.output, hg8.size, fun k hk => hg8.block k hk (by simp [Value.ownBlock])⟩).mono hsza))
                have HO8 := Lib.hid (own_grownX HOa.out hg8 (fun q hq => by simp [Value.ownBlock]))
                have HV8 := Lib.hid hown8
                have hz8 := hg8.size
                have y0 := HC.out w8 HB8.out 0 _ ((dnC_get HX.out 0 (by decide)).trans rfl)
                have y1 := HC.out w8 HB8.out 1 _ ((dnC_get HX.out 1 (by decide)).trans rfl)
                have y2 := HC.out w8 HB8.out 2 _ ((dnC_get HX.out 2 (by decide)).trans rfl)
                have y3 := HC.out w8 HB8.out 3 _ ((dnC_get HX.out 3 (by decide)).trans rfl)
                have y4 := HC.out w8 HB8.out 4 _ ((dnC_get HX.out 4 (by decide)).trans rfl)
                have y5 := HC.out w8 HB8.out 5 _ ((dnC_get HX.out 5 (by decide)).trans rfl)
                have y6 := HC.out w8 HB8.out 6 _ ((dnC_get HX.out 6 (by decide)).trans rfl)
                have y7 := HC.out w8 HB8.out 7 _ ((dnC_get HX.out 7 (by decide)).trans rfl)
                have y8 := HC.out w8 HB8.out 8 _ ((dnC_get HX.out 8 (by decide)).trans rfl)
                have y9 := HC.out w8 HB8.out 9 _ ((dnC_get HX.out 9 (by decide)).trans rfl)
                rw [← Nat.add_assoc] at y0 y1 y2 y3 y4 y5 y6 y7 y8 y9
                rw [Nat.add_zero] at y0
                dsimp only at y0 y1 y2 y3 y4 y5 y6 y7 y8 y9
                have lg8 : g < w8.heap.size := by omega
                have HW8 := Lib.hid (Row.fresh w8 49 #[.int .u32 xs, .int .i64 xsl, .int .u32 xtu, .int .i64 xw, .int .i64 xt, .int .i64 xh, .int .i64 xf, .int .i64 xl, .int .i64 xd, .bool xm] 10 1 [.int .u32 xs, .int .i64 xsl, .int .u32 xtu, .int .i64 xw, .int .i64 xt, .int .i64 xh, .int .i64 xf, .int .i64 xl, .int .i64 xd, .bool xm] rfl rfl)
                have hL8 := Lib.hid (fun q hq => (HV8.out.lt q hq).1)
                clear hown8 hg8 hv8 HSRC HBa HOa HO8
                go_wp2_with (at_builtin; refine wpl_append _ rfl (.tmp 46) (.tmp 51) 34 rfl w.heap.size 49 (.agg #[.int .u32 0, .int .i64 0, .int .u32 0, .int .i64 0, .int .i64 0, .int .i64 0, .int .i64 0, .int .i64 0, .int .i64 0, .bool false]) 10 80 Try.underlying34 info_DD17 rfl (by decide) _ j (dnC (out.take j)) rfl (HV8.out.alloc _) _ _ 1 1 [.int .u32 xs, .int .i64 xsl, .int .u32 xtu, .int .i64 xw, .int .i64 xt, .int .i64 xh, .int .i64 xf, .int .i64 xl, .int .i64 xd, .bool xm] rfl HW8.out (by simp [Value.oneCell']) ?d1 ?d2 ?d3 ?_)
                case d1 => unfold maxLen; omega
                case d2 => omega
                case d3 => first | omega | (simp; omega)
                intro v9 w9 hown9 hg9 hv9
                have HB9 := Lib.hid (show Below w.heap.size w w9 from (HB8.out.alloc HB8.out.size _).grown hg9 (by simp; omega) (fun q hq => hL8.out q hq))
                have HV9 := Lib.hid hown9
                have hL9 := Lib.hid (fun q hq => (HV9.out.lt q hq).1)
                have hz9 := HB9.out.size
                have HINS := Lib.hid (show dnC (insD out ⟨xs, xsl, xtu, xw, xt, xh, xf, xl, xd, xm⟩) = dnC (out.take j) ++ [.int .u32 xs, .int .i64 xsl, .int .u32 xtu, .int .i64 xw, .int .i64 xt, .int .i64 xh, .int .i64 xf, .int .i64 xl, .int .i64 xd, .bool xm] by
                  unfold insD
                  rw [HP.out, List.drop_of_length_le (show out.length ≤ j by rw [HOL.out]; exact Nat.le_refl _), dnC_append]
                  rfl)
                clear hown9 hg9 hv9 HV8 HW8 hL8 HB8 y0 y1 y2 y3 y4 y5 y6 y7 y8 y9
                by_cases hcj : c5 = j
                · subst hcj
                  go_wp2_with (at_builtin; refine wpl_append _ rfl (.tmp 53) (.tmp 56) 34 rfl w.heap.size 49 (.agg #[.int .u32 0, .int .i64 0, .int .u32 0, .int .i64 0, .int .i64 0, .int .i64 0, .int .i64 0, .int .i64 0, .int .i64 0, .bool false]) 10 80 Try.underlying34 info_DD17 rfl (by decide) v9 (c5 + 1) _ rfl HV9.out 0 _ 0 _ [] rfl Row.nil (by simp) ?f1 ?f2 ?f3 ?_)
                  case f1 => unfold maxLen; omega
                  case f2 => omega
                  case f3 => first | omega | exact hz9
                  intro v10 w10 hown10 hg10 _
                  have HF := Lib.hid (And.intro (show w10.ownsRow w.heap.size 49 10 v10 (downsS (l.take (k + 1)) xt).length (dnC (downsS (l.take (k + 1)) xt)) by
                      rw [HT2.out, insD_length, HOL.out, HINS.out]
                      first | (simpa using hown10; done) | (simpa [dnC] using hown10))
                    (And.intro (show (downsS (l.take (k + 1)) xt).length ≤ k + 1 by rw [HT2.out, insD_length, HOL.out]; omega) (show Below w.heap.size w w10 from HB9.out.grown hg10 (by omega) (fun q hq => hL9.out q hq))))
                  clear hown10 hg10 HV9 HB9 hL9 HINS
                  go_wp2_with fail
                  go_roundw
                  case rel => exact ⟨k + 1, by omega, by go_num, HF.out.1, HF.out.2.1, HF.out.2.2⟩
                  case measure => simp [intOf]; omega
                · have hcj' : ¬ j = c5 := fun h => hcj h.symm
                  go_wp2_with (at_builtin; refine wpl_append _ rfl (.tmp 53) (.tmp 56) 34 rfl w.heap.size 49 (.agg #[.int .u32 0, .int .i64 0, .int .u32 0, .int .i64 0, .int .i64 0, .int .i64 0, .int .i64 0, .int .i64 0, .int .i64 0, .bool false]) 10 80 Try.underlying34 info_DD17 rfl (by decide) v9 (j + 1) _ rfl HV9.out 0 _ 0 _ [] rfl Row.nil (by simp) ?f1 ?f2 ?f3 ?_)
                  case f1 => unfold maxLen; omega
                  case f2 => omega
                  case f3 => first | omega | exact hz9
                  intro v10 w10 hown10 hg10 _
                  have HF := Lib.hid (And.intro (show w10.ownsRow w.heap.size 49 10 v10 (downsS (l.take (k + 1)) xt).length (dnC (downsS (l.take (k + 1)) xt)) by
                      rw [HT2.out, insD_length, HOL.out, HINS.out]
                      first | (simpa using hown10; done) | (simpa [dnC] using hown10))
                    (And.intro (show (downsS (l.take (k + 1)) xt).length ≤ k + 1 by rw [HT2.out, insD_length, HOL.out]; omega) (show Below w.heap.size w w10 from HB9.out.grown hg10 (by omega) (fun q hq => hL9.out q hq))))
                  clear hown10 hg10 HV9 HB9 hL9 HINS
                  go_wp2_with fail
                  go_roundw
                  case rel => exact ⟨k + 1, by omega, by go_num, HF.out.1, HF.out.2.1, HF.out.2.2⟩
                  case measure => simp [intOf]; omega
      · have HT2 := Lib.hid (show downsS (l.take (k + 1)) t = out by rw [HT.out, if_neg ht])
        clear HT
        go_wp2_with fail
        go_roundw
        case rel => exact ⟨k + 1, by omega, by go_num, by rw [HT2.out, HOL.out]; exact HO.out, by rw [HT2.out, HOL.out]; omega, HB.out⟩
        case measure => simp [intOf]; omega
    · obtain rfl : k = n := by omega
      have hta : l.take k = l := List.take_of_length_le (by rw [HN.out]; exact Nat.le_refl _)
      rw [hta] at HO ⊢
      clear hta
      go_wp2_with fail
      go_ret
      exact ⟨A5, c5, rfl, HO.out, HB.out⟩
end Go.Proofs.Ytgjhcnpegaemoaa
