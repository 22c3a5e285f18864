/-
  Proved: TableParts returns true for all routes and downtracks: each downtrack stands among those of its track, once, and by rising numbers of who is sent it; in all there are as many as were told. Conditions: none.
-/
import Derived.Test.YtgjhcnpegaemoaaTbA
import Derived.Test.YtgjhcnpegaemoaaLift
namespace Go.Proofs.Ytgjhcnpegaemoaa.TParts
open Go.ChangeShapes Go.WideShapes Go.ChangeAt Go.RowKit
set_option linter.unusedSimpArgs false
set_option linter.unusedVariables false
set_option maxRecDepth 1000000
--PP
theorem _root_.Go.RowKit.Below.drewN' {B : Nat} {w w' : World} (h : Below B w w') (m : Nat) : Below B w (w'.drewN m) := ⟨h.os, h.tape, h.output, h.size, h.block⟩
theorem _root_.Go.RowKit.Below.drew' {B : Nat} {w w' : World} (h : Below B w w') : Below B w w'.drew := ⟨h.os, h.tape, h.output, h.size, h.block⟩
theorem or_len {α : Type} {p q : α → Bool} : ∀ {l : List α}, (∀ z ∈ l, p z = true → q z = false) → (l.filter fun z => p z || q z).length = (l.filter p).length + (l.filter q).length
  | [], _ => rfl
  | a :: l, h => by
    have ih := or_len (l := l) fun z hz => h z (List.mem_cons_of_mem _ hz)
    have ha := h a (List.mem_cons_self ..)
    rw [List.filter_cons, List.filter_cons, List.filter_cons]
    cases hp : p a with
    | true => rw [ha hp]; simp [ih]; omega
    | false =>
      cases hq : q a with
      | true => simp [ih]; omega
      | false => simp [ih]
/-- Whether the track is that of one of these. -/
def hasT (l : List Dn) (t : Int) : Bool := l.any fun y => decide (y.track = t)
/-- How many are of tracks of the first i. -/
def seenD (D : List Dn) (i : Nat) : Nat := (D.filter fun x => hasT (D.take i) x.track).length
theorem hasT_take {D : List Dn} {i : Nat} {x : Dn} (h : D[i]? = some x) (t : Int) : hasT (D.take (i + 1)) t = (hasT (D.take i) t || decide (x.track = t)) := by
  unfold hasT
  rw [take_add h, List.any_append]
  simp
theorem seen_zero (D : List Dn) : seenD D 0 = 0 := by simp [seenD, hasT]
theorem seen_next {D : List Dn} {i : Nat} {x : Dn} (h : D[i]? = some x) : seenD D (i + 1) = if hasT (D.take i) x.track = true then seenD D i else seenD D i + (trD x.track D).length := by
  unfold seenD
  simp only [hasT_take h]
  by_cases h1 : hasT (D.take i) x.track = true
  · rw [if_pos h1]
    congr 1
    refine List.filter_congr fun z _ => ?_
    by_cases h2 : x.track = z.track
    · rw [← h2, h1]; rfl
    · simp [h2]
  · rw [if_neg h1, or_len]
    · unfold trD
      congr 2
      refine List.filter_congr fun z _ => ?_
      by_cases h2 : x.track = z.track <;> simp [h2, eq_comm]
    · intro z _ hz
      by_cases h2 : x.track = z.track
      · rw [← h2] at hz; exact absurd hz h1
      · simp [h2]
theorem seen_all (D : List Dn) : seenD D D.length = D.length := by
  unfold seenD
  rw [List.take_length]
  congr 1
  rw [List.filter_eq_self]
  intro x hx
  unfold hasT
  rw [List.any_eq_true]
  exact ⟨x, hx, by simp⟩
theorem seen_le (D : List Dn) (i : Nat) : seenD D i ≤ D.length := List.length_filter_le ..
/-- How many of the first k are just this one. -/
def timesD (Z : List Dn) (x : Dn) (k : Nat) : Nat := ((Z.take k).filter fun z => decide (z = x)).length
theorem times_next {Z : List Dn} {x z : Dn} {k : Nat} (h : Z[k]? = some z) : timesD Z x (k + 1) = if z = x then timesD Z x k + 1 else timesD Z x k := by
  unfold timesD
  rw [take_add h, List.filter_append]
  by_cases h1 : z = x
  · rw [if_pos h1, List.filter_cons, if_pos (decide_eq_true h1)]; simp
  · rw [if_neg h1, List.filter_cons, if_neg (by simpa using h1)]; simp
theorem times_le (Z : List Dn) (x : Dn) (k : Nat) : timesD Z x k ≤ k := Nat.le_trans (List.length_filter_le ..) (by rw [List.length_take]; omega)
theorem once : ∀ {Z : List Dn} {x : Dn}, RisD Z → x ∈ Z → (Z.filter fun z => decide (z = x)).length = 1
  | a :: l, x, h, hx => by
    have h' := List.pairwise_cons.1 h
    rw [List.filter_cons]
    by_cases e : a = x
    · rw [if_pos (decide_eq_true e), List.length_cons]
      have : (l.filter fun z => decide (z = x)) = [] := by
        rw [List.filter_eq_nil_iff]
        intro z hz hd
        have hd := of_decide_eq_true hd
        have := h'.1 z hz
        rw [hd, e] at this
        omega
      rw [this]; rfl
    · rw [if_neg (by simpa using e)]
      rcases List.mem_cons.1 hx with rfl | hx
      · exact absurd rfl e
      · exact once h'.2 hx
theorem times_all {Z : List Dn} {x : Dn} (h : RisD Z) (hx : x ∈ Z) : timesD Z x Z.length = 1 := by unfold timesD; rw [List.take_length]; exact once h hx
set_option maxHeartbeats 12800000 in
theorem walk17p (A : Option Addr) (c : Nat) (R : List Rt) (B : Option Addr) (d : Nat) (D : List Dn) (w : World) (hA : Row w w.heap.size 5 A R.length (rtC R)) (hB : Row w w.heap.size 10 B D.length (dnC D)) (hR : ∀ x ∈ R, x.Fit) (hD : ∀ x ∈ D, x.Fit) (hRl : R.length ≤ maxLen) (hDl : D.length ≤ maxLen) :
    Calls Try.prog 5 #[.slice A R.length c, .slice B D.length d] w fun e w' => e = .returned (.bool true) ∧ Below w.heap.size w w' := by
  have C0 := Lib.hid (fun w => awake17 w)
  obtain ⟨n, hn⟩ : ∃ n, R.length = n := ⟨_, rfl⟩
  obtain ⟨m, hm⟩ : ∃ m, D.length = m := ⟨_, rfl⟩
  rw [hn] at hA hRl ⊢
  rw [hm] at hB hDl ⊢
  unfold maxLen at hRl hDl
  have HN := Lib.hid hn
  have HM := Lib.hid hm
  have HA := Lib.hid hA
  have HB := Lib.hid hB
  clear hA hB hn hm
  by_cases hlen : 60 < n ∨ (¬ 60 < n ∧ 60 < m)
  · have hd : (60 : Int) < (n : Int) ∨ (¬ (60 : Int) < (n : Int) ∧ (60 : Int) < (m : Int)) := by omega
    clear hlen HA HB HN HM hRl hDl
    rcases hd with hd | ⟨hd1, hd⟩
    all_goals
      go_enter Try.func5, Try.ntmps5
      go_wp2_with fail
      refine (C0.out w).mono ?_
      rintro e w1 ⟨rfl, b1⟩
      have HB1 := Lib.hid b1
      clear b1 C0
      go_wp2_with fail
      go_ret
      exact ⟨rfl, HB1.out⟩
  have hn60 : ¬ (60 : Int) < (n : Int) := by omega
  have hm60 : ¬ (60 : Int) < (m : Int) := by omega
  have hnn : n ≤ 60 := by omega
  have hmm : m ≤ 60 := by omega
  clear hRl hDl hlen
  have CM := Lib.hid (fun w h1 h2 => tmake_any 1 A c R B d D w h1 h2 (by rw [HN.out]; omega) (by rw [HM.out]; omega) hR hD)
  rw [HN.out, HM.out] at CM
  go_enter Try.func5, Try.ntmps5
  go_wp2_with fail
  refine (C0.out w).mono ?_
  rintro e w1 ⟨rfl, b1⟩
  have HB1 := Lib.hid b1
  have HA1 := Lib.hid ((HA.out.below b1 (Nat.le_refl _)).more b1.size)
  have HE1 := Lib.hid ((HB.out.below b1 (Nat.le_refl _)).more b1.size)
  clear b1 C0 HA HB
  go_wp2_with fail
  refine (CM.out _ HA1.out HE1.out).mono ?_
  rintro e w2 (⟨hm, g, S, rfl, t2, s2, b2⟩ | ⟨hm, rfl, b2⟩)
  rotate_left 1
  · have HB2 := Lib.hid (bnext HB1.out b2)
    clear b2 CM HB1 HA1 HE1 hm hn60 hm60
    have CL := Lib.hid (tlen_nil w2)
    have CD := Lib.hid (fun w => tdowns_nil w 1)
    have CE := Lib.hid (fun w => tepoch_nil w)
    go_wp2_with fail
    refine CL.out.mono ?_
    rintro e w3 ⟨rfl, b3⟩
    have HB3 := Lib.hid (bnext HB2.out b3)
    clear b3 CL HB2
    go_wp2_with fail
    refine (CD.out _).mono ?_
    rintro e w4 ⟨A4, c4, rfl, o4, b4⟩
    have HB4 := Lib.hid (bnext HB3.out b4)
    clear b4 o4 CD HB3
    go_wp2_with fail
    refine (CE.out _).mono ?_
    rintro e w5 ⟨rfl, b5⟩
    have HB5 := Lib.hid (bnext HB4.out b5)
    clear b5 CE HB4
    go_wp2_with fail
    go_ret
    exact ⟨rfl, HB5.out⟩
  have HOk := Lib.hid hm.2
  have HT := Lib.hid t2.op
  have HB2 := Lib.hid (bnext HB1.out b2)
  have HE := Lib.hid ((HE1.out.below b2 (Nat.le_refl _)).more b2.size)
  clear b2 t2 s2 CM HB1 HA1 HE1 hm
  go_wp2_with fail
  clear hn60 hm60
  go_loopw [8, 9] (fun v i wr => ∃ k : Nat, k ≤ m ∧ i = .int .i64 (k : Int) ∧ v = .int .i64 (seenD D k : Int) ∧ Below w2.heap.size w2 wr) (fun _ i _ => m - (intOf i).toNat)
  case atStart => exact ⟨0, Nat.zero_le _, rfl, by rw [seen_zero]; rfl, Below.refl _ _⟩
  case round =>
    obtain ⟨k, hk, rfl, rfl, hb⟩ := hrel
    have HBr := Lib.hid hb
    have hsz := hb.size
    obtain ⟨wr1, rfl⟩ : ∃ z, z = wr := ⟨_, rfl⟩
    obtain ⟨sn, hsn⟩ : ∃ z, seenD D k = z := ⟨_, rfl⟩
    have HSN := Lib.hid hsn
    rw [hsn]
    have hsl : sn ≤ m := by rw [← hsn, ← HM.out]; exact seen_le D k
    clear hsn
    by_cases hlt : k < m
    · obtain ⟨x, hx⟩ : ∃ x, D[k]? = some x := ⟨_, List.getElem?_eq_getElem (by rw [HM.out]; exact hlt)⟩
      obtain ⟨gb, ob, rfl, lb, cb⟩ := HE.out.2 (by omega)
      have HCB := Lib.hid (fun w' (b : Below w2.heap.size w2 w') j (u : Value) (hu : (dnC D)[j]? = some u) => (b.cell (p := ⟨gb, ob + j, none⟩) lb).trans (cb _ _ hu))
      have HX := Lib.hid hx
      have HXm := Lib.hid (show x ∈ downsS D x.track from downs_mem.2 ⟨List.mem_of_getElem? hx, rfl⟩)
      have HSN2 := Lib.hid (seen_next hx)
      have c4 := HCB.out wr1 HBr.out _ _ ((dnC_get HX.out 4 (by decide)).trans rfl)
      rw [← Nat.add_assoc] at c4
      obtain ⟨T, hT⟩ : ∃ T, x.track = T := ⟨_, rfl⟩
      have HTT := Lib.hid hT
      have HTI := Lib.hid (show I64 T by rw [← hT]; exact (hD x (List.mem_of_getElem? hx)).i.2.2)
      try dsimp only at c4
      rw [hT] at HSN2 HXm c4
      have lgb : gb < wr1.heap.size := by omega
      have i0 : (0 : Int) ≤ (k : Int) := by omega
      have i1 : (k : Int) < (m : Int) := by omega
      have HL := Lib.hid lb
      clear hx hT cb hb lb
      go_wp2_with fail
      go_loopw [10, 11] (fun v i wr => ∃ j : Nat, j ≤ k ∧ i = .int .i64 (j : Int) ∧ v = .bool (!hasT (D.take j) T) ∧ Below wr1.heap.size wr1 wr) (fun _ i _ => k - (intOf i).toNat)
      case atStart => exact ⟨0, Nat.zero_le _, rfl, rfl, Below.refl _ _⟩
      case round =>
        obtain ⟨j, hj, rfl, rfl, hb2⟩ := hrel
        have HB3 := Lib.hid hb2
        have hz2 := hb2.size
        obtain ⟨wq, rfl⟩ : ∃ z, z = wr := ⟨_, rfl⟩
        by_cases hjl : j < k
        · obtain ⟨y, hy⟩ : ∃ y, D[j]? = some y := ⟨_, List.getElem?_eq_getElem (by rw [HM.out]; omega)⟩
          have hbq := HBr.out.trans (hb2.mono hsz)
          have p4 := HCB.out wq hbq _ _ ((dnC_get hy 4 (by decide)).trans rfl)
          have r4 := HCB.out wq hbq _ _ ((dnC_get HX.out 4 (by decide)).trans rfl)
          rw [← Nat.add_assoc] at p4 r4
          try dsimp only at p4 r4
          rw [HTT.out] at r4
          have HN2 := Lib.hid (hasT_take hy T)
          obtain ⟨bb, hbb⟩ : ∃ b, (!hasT (D.take j) T) = b := ⟨_, rfl⟩
          have HH := Lib.hid (show hasT (D.take j) T = !bb by rw [← hbb, Bool.not_not])
          rw [hbb]
          obtain ⟨U, hU⟩ : ∃ U, y.track = U := ⟨_, rfl⟩
          rw [hU] at HN2 p4
          have lgq : gb < wq.heap.size := by omega
          have j0 : (0 : Int) ≤ (j : Int) := by omega
          have j1 : (j : Int) < (k : Int) := by omega
          have j2 : (j : Int) < (m : Int) := by omega
          clear hbq hy hbb hU hb2 c4 lgb
          cases bb with
          | false =>
            clear p4 r4
            go_wp2_with fail
            go_quiet (fail)
            go_wp2_with fail
            go_roundw
            case rel => exact ⟨j + 1, by omega, by go_num, by rw [HN2.out, HH.out]; rfl, HB3.out.drewN' _⟩
            case measure => simp [intOf]; omega
          | true =>
            by_cases hUT : U = T
            · have HV := Lib.hid (show (!(hasT (D.take (j + 1)) T)) = false by rw [HN2.out, HH.out]; simp [hUT])
              have hne : (T != T) = false := by simp
              obtain rfl : T = U := hUT.symm
              go_wp2_with fail
              go_quiet (fail)
              go_wp2_with fail
              go_roundw
              case rel => exact ⟨j + 1, by omega, by go_num, by rw [HV.out], HB3.out.drewN' _⟩
              case measure => simp [intOf]; omega
            · have HV := Lib.hid (show (!(hasT (D.take (j + 1)) T)) = true by rw [HN2.out, HH.out]; simp [hUT])
              have hne : (U != T) = true := by simp [hUT]
              go_wp2_with fail
              go_quiet (fail)
              go_wp2_with fail
              go_roundw
              case rel => exact ⟨j + 1, by omega, by go_num, by rw [HV.out], HB3.out.drewN' _⟩
              case measure => simp [intOf]; omega
        · obtain rfl : k = j := by omega
          have hbq := HBr.out.trans (hb2.mono hsz)
          have HBq := Lib.hid hbq
          have p4 := HCB.out wq hbq _ _ ((dnC_get HX.out 4 (by decide)).trans rfl)
          rw [← Nat.add_assoc] at p4
          try dsimp only at p4
          rw [HTT.out] at p4
          have lgq : gb < wq.heap.size := by omega
          have CD := odowns (HT.out.next hbq) T HTI.out
          have hZl := downs_length D T
          have hZr := downs_rise HOk.out T
          have hZle := downsS_le D T
          obtain ⟨Z, hZ⟩ : ∃ z, downsS D T = z := ⟨_, rfl⟩
          rw [hZ] at CD HXm hZl hZr hZle
          have HZt := Lib.hid (fun z (hz : z ∈ Z) => show z.track = T by rw [← hZ] at hz; exact (downs_mem.1 hz).2)
          obtain ⟨zn, hzn⟩ : ∃ z, Z.length = z := ⟨_, rfl⟩
          rw [hzn] at CD hZl hZle
          have HZN := Lib.hid hzn
          have hz60 : zn ≤ 60 := by rw [HM.out] at hZle; omega
          rw [← hZl] at HSN2
          have HRis := Lib.hid hZr
          have HC := Lib.hid CD
          clear CD hZ hzn hZl hZr hZle hbq hb2 HB3 c4
          obtain ⟨bb, hbb⟩ : ∃ b, (!hasT (D.take k) T) = b := ⟨_, rfl⟩
          have hbb2 : hasT (D.take k) T = !bb := by rw [← hbb, Bool.not_not]
          rw [hbb2] at HSN2
          rw [hbb]
          clear hbb hbb2
          go_wp2_with fail
          refine HC.out.mono ?_
          rintro e w4 ⟨A4, c4, rfl, o4, b4⟩
          have HB4 := Lib.hid (show Below w2.heap.size w2 w4 from HBq.out.trans (b4.mono HBq.out.size))
          have HZr := Lib.hid (Row.of_own o4)
          clear o4 b4 HC p4 lgq hz2
          go_upto_if 80 with fail
          go_cut [8] from 80 to 84 (fun s8 wx => s8 = .int .i64 (seenD D (k + 1) : Int) ∧ wx = w4)
          case first =>
            cases bb with
            | false =>
              have HS := Lib.hid (show sn = seenD D (k + 1) by rw [HSN2.out, if_pos (show (!false) = true from rfl), HSN.out])
              go_wp2_with fail
              go_meet
              exact ⟨by rw [← HS.out], rfl⟩
            | true =>
              have HS := Lib.hid (show sn + zn = seenD D (k + 1) by rw [HSN2.out, if_neg (by simp), HSN.out])
              have i5 : (sn : Int) + (zn : Int) < 9223372036854775808 := by omega
              go_wp2_with fail
              go_meet
              exact ⟨by rw [← HS.out]; go_num, rfl⟩
          case rest =>
            obtain ⟨rfl, rfl⟩ := hcut
            obtain ⟨w5, rfl⟩ : ∃ z, z = wc := ⟨_, rfl⟩
            clear HSN HSN2
            go_wp2_with fail
            go_loopw [13, 14] (fun v i wr => ∃ q : Nat, q ≤ zn ∧ i = .int .i64 (q : Int) ∧ v = .int .i64 (timesD Z x q : Int) ∧ Below w5.heap.size w5 wr) (fun _ i _ => zn - (intOf i).toNat)
            case atStart => exact ⟨0, Nat.zero_le _, rfl, rfl, Below.refl _ _⟩
            case round =>
              obtain ⟨q, hq, rfl, rfl, hb5⟩ := hrel
              have HB5 := Lib.hid hb5
              have hz5 := hb5.size
              obtain ⟨wp, rfl⟩ : ∃ z, z = wr := ⟨_, rfl⟩
              obtain ⟨tm, htm⟩ : ∃ z, timesD Z x q = z := ⟨_, rfl⟩
              have HTM := Lib.hid htm
              rw [htm]
              have htl : tm ≤ q := by rw [← htm]; exact times_le Z x q
              clear htm
              by_cases hql : q < zn
              · obtain ⟨z, hz⟩ : ∃ z, Z[q]? = some z := ⟨_, List.getElem?_eq_getElem (by rw [HZN.out]; exact hql)⟩
                obtain ⟨ga, oa, ea, la, ca⟩ := HZr.out.2 (by omega)
                cases ea
                have hbp := HB4.out.trans (hb5.mono HB4.out.size)
                have HZ := Lib.hid hz
                have hzt : z.track = T := HZt.out z (List.mem_of_getElem? hz)
                have p0 := (hb5.cell (p := ⟨ga, oa + (q * 10 + 0), none⟩) la).trans (ca _ _ ((dnC_get hz 0 (by decide)).trans rfl))
                have r0 := HCB.out wp hbp _ _ ((dnC_get HX.out 0 (by decide)).trans rfl)
                rw [Nat.add_zero] at p0 r0
                have p1 := (hb5.cell (p := ⟨ga, oa + (q * 10 + 1), none⟩) la).trans (ca _ _ ((dnC_get hz 1 (by decide)).trans rfl))
                have r1 := HCB.out wp hbp _ _ ((dnC_get HX.out 1 (by decide)).trans rfl)
                rw [← Nat.add_assoc] at p1 r1
                have p2 := (hb5.cell (p := ⟨ga, oa + (q * 10 + 2), none⟩) la).trans (ca _ _ ((dnC_get hz 2 (by decide)).trans rfl))
                have r2 := HCB.out wp hbp _ _ ((dnC_get HX.out 2 (by decide)).trans rfl)
                rw [← Nat.add_assoc] at p2 r2
                have p3 := (hb5.cell (p := ⟨ga, oa + (q * 10 + 3), none⟩) la).trans (ca _ _ ((dnC_get hz 3 (by decide)).trans rfl))
                have r3 := HCB.out wp hbp _ _ ((dnC_get HX.out 3 (by decide)).trans rfl)
                rw [← Nat.add_assoc] at p3 r3
                have p4 := (hb5.cell (p := ⟨ga, oa + (q * 10 + 4), none⟩) la).trans (ca _ _ ((dnC_get hz 4 (by decide)).trans rfl))
                have r4 := HCB.out wp hbp _ _ ((dnC_get HX.out 4 (by decide)).trans rfl)
                rw [← Nat.add_assoc] at p4 r4
                have p5 := (hb5.cell (p := ⟨ga, oa + (q * 10 + 5), none⟩) la).trans (ca _ _ ((dnC_get hz 5 (by decide)).trans rfl))
                have r5 := HCB.out wp hbp _ _ ((dnC_get HX.out 5 (by decide)).trans rfl)
                rw [← Nat.add_assoc] at p5 r5
                have p6 := (hb5.cell (p := ⟨ga, oa + (q * 10 + 6), none⟩) la).trans (ca _ _ ((dnC_get hz 6 (by decide)).trans rfl))
                have r6 := HCB.out wp hbp _ _ ((dnC_get HX.out 6 (by decide)).trans rfl)
                rw [← Nat.add_assoc] at p6 r6
                have p7 := (hb5.cell (p := ⟨ga, oa + (q * 10 + 7), none⟩) la).trans (ca _ _ ((dnC_get hz 7 (by decide)).trans rfl))
                have r7 := HCB.out wp hbp _ _ ((dnC_get HX.out 7 (by decide)).trans rfl)
                rw [← Nat.add_assoc] at p7 r7
                have p8 := (hb5.cell (p := ⟨ga, oa + (q * 10 + 8), none⟩) la).trans (ca _ _ ((dnC_get hz 8 (by decide)).trans rfl))
                have r8 := HCB.out wp hbp _ _ ((dnC_get HX.out 8 (by decide)).trans rfl)
                rw [← Nat.add_assoc] at p8 r8
                have p9 := (hb5.cell (p := ⟨ga, oa + (q * 10 + 9), none⟩) la).trans (ca _ _ ((dnC_get hz 9 (by decide)).trans rfl))
                have r9 := HCB.out wp hbp _ _ ((dnC_get HX.out 9 (by decide)).trans rfl)
                rw [← Nat.add_assoc] at p9 r9
                have HPr := Lib.hid (fun (hq0 : 0 < q) => show ∃ y : Dn, y.who < z.who ∧ wp.cell? ⟨ga, oa + (q - 1) * 10 + 3, none⟩ = some (.int .i64 y.who) by
                  obtain ⟨y, hy⟩ : ∃ y, Z[q - 1]? = some y := ⟨_, List.getElem?_eq_getElem (by rw [HZN.out]; omega)⟩
                  have h3 := (hb5.cell (p := ⟨ga, oa + ((q - 1) * 10 + 3), none⟩) la).trans (ca _ _ ((dnC_get hy 3 (by decide)).trans rfl))
                  rw [← Nat.add_assoc] at h3
                  exact ⟨y, two_at HRis.out (by omega) hz hy, h3⟩)
                have EQ := fun w => eql_dn w z x
                have HTN := Lib.hid (times_next (x := x) hz)
                have lga : ga < wp.heap.size := by omega
                have lgb : gb < wp.heap.size := by have := HBq.out.size; have := HB4.out.size; have := HL.out; omega
                try dsimp only at p0 r0 p1 r1 p2 r2 p3 r3 p4 r4 p5 r5 p6 r6 p7 r7 p8 r8 p9 r9
                have HP4 := Lib.hid p4
                have HR4 := Lib.hid r4
                rw [hzt] at p4
                rw [HTT.out] at r4
                have i5 : (0 : Int) ≤ (q : Int) := by omega
                have i6 : (q : Int) < (zn : Int) := by omega
                have i7 : (k : Int) < (m : Int) := by omega
                have i8 : (0 : Int) ≤ (k : Int) := by omega
                clear ca hz hbp hb5 hzt
                go_upto_region 25 with fail
                go_cut [119] from 91 to 118 (fun s119 wx => s119 = .bool false ∧ ∃ i, wx = wp.drewN i)
                case first =>
                  by_cases hq0 : 0 < q
                  · obtain ⟨y, hyw, h3⟩ := HPr.out hq0
                    obtain ⟨yw, hyw2⟩ : ∃ v, y.who = v := ⟨_, rfl⟩
                    rw [hyw2] at hyw h3
                    obtain ⟨zw, hzw⟩ : ∃ v, z.who = v := ⟨_, rfl⟩
                    rw [hzw] at hyw p3
                    obtain ⟨q1, hq1⟩ : ∃ v, q - 1 = v := ⟨_, rfl⟩
                    rw [hq1] at h3
                    have hq2 : (q : Int) - 1 = (q1 : Int) := by omega
                    have i9 : (0 : Int) < (q : Int) := by omega
                    have i10 : (0 : Int) ≤ (q1 : Int) := by omega
                    have i11 : (q1 : Int) < (zn : Int) := by omega
                    have d1 : decide ((0 : Int) < (q : Int)) = true := decide_eq_true i9
                    have d2 : decide (zw ≤ yw) = false := decide_eq_false (by omega)
                    have d3 : decide (0 < q) = true := decide_eq_true hq0
                    clear hq1 hyw2 hzw EQ
                    go_quiet (fail)
                    go_wp2_with fail
                    go_meet
                    exact ⟨rfl, _, rfl⟩
                  · obtain rfl : q = 0 := by omega
                    clear EQ HPr
                    go_quiet (fail)
                    go_wp2_with fail
                    go_meet
                    exact ⟨rfl, _, rfl⟩
                case rest =>
                  obtain ⟨rfl, ni, rfl⟩ := hcut
                  clear HPr
                  have HTM2 := Lib.hid (fun (e : z = x) => (HTN.out.trans (if_pos e)).trans (by rw [HTM.out]))
                  have HTM3 := Lib.hid (fun (e : ¬ z = x) => (HTN.out.trans (if_neg e)).trans HTM.out)
                  have HB6 := Lib.hid (HB5.out.drewN' ni)
                  have p0' := (show (wp.drewN ni).cell? _ = _ from p0)
                  have p1' := (show (wp.drewN ni).cell? _ = _ from p1)
                  have p2' := (show (wp.drewN ni).cell? _ = _ from p2)
                  have p3' := (show (wp.drewN ni).cell? _ = _ from p3)
                  have p4' := (show (wp.drewN ni).cell? _ = _ from HP4.out)
                  have p5' := (show (wp.drewN ni).cell? _ = _ from p5)
                  have p6' := (show (wp.drewN ni).cell? _ = _ from p6)
                  have p7' := (show (wp.drewN ni).cell? _ = _ from p7)
                  have p8' := (show (wp.drewN ni).cell? _ = _ from p8)
                  have p9' := (show (wp.drewN ni).cell? _ = _ from p9)
                  have r0' := (show (wp.drewN ni).cell? _ = _ from r0)
                  have r1' := (show (wp.drewN ni).cell? _ = _ from r1)
                  have r2' := (show (wp.drewN ni).cell? _ = _ from r2)
                  have r3' := (show (wp.drewN ni).cell? _ = _ from r3)
                  have r4' := (show (wp.drewN ni).cell? _ = _ from HR4.out)
                  have r5' := (show (wp.drewN ni).cell? _ = _ from r5)
                  have r6' := (show (wp.drewN ni).cell? _ = _ from r6)
                  have r7' := (show (wp.drewN ni).cell? _ = _ from r7)
                  have r8' := (show (wp.drewN ni).cell? _ = _ from r8)
                  have r9' := (show (wp.drewN ni).cell? _ = _ from r9)
                  clear HP4 HR4 p0 r0 p1 r1 p2 r2 p3 r3 p4 r4 p5 r5 p6 r6 p7 r7 p8 r8 p9 r9
                  by_cases hzx : z = x
                  · rw [decide_eq_true hzx] at EQ
                    have HZX := Lib.hid hzx
                    clear hzx
                    have HTX := Lib.hid (HTM2.out HZX.out)
                    clear HTM2 HTM3 HTN HTM
                    obtain ⟨z0, z1, z2, z3, z4, z5, z6, z7, z8, z9⟩ := z
                    obtain ⟨x0, x1, x2, x3, x4, x5, x6, x7, x8, x9⟩ := x
                    unfold Dn.cells at EQ
                    try dsimp only at EQ p0' r0' p1' r1' p2' r2' p3' r3' p4' r4' p5' r5' p6' r6' p7' r7' p8' r8' p9' r9'
                    skip
                    go_wp2_with fail
                    go_region_held3 (fun w' => w'.cell? ⟨ga, oa + q * 10, none⟩ = some (.int .u32 z0) ∧ w'.cell? ⟨ga, oa + q * 10 + 1, none⟩ = some (.int .i64 z1) ∧ w'.cell? ⟨ga, oa + q * 10 + 2, none⟩ = some (.int .u32 z2) ∧ w'.cell? ⟨ga, oa + q * 10 + 3, none⟩ = some (.int .i64 z3) ∧ w'.cell? ⟨ga, oa + q * 10 + 4, none⟩ = some (.int .i64 z4) ∧ w'.cell? ⟨ga, oa + q * 10 + 5, none⟩ = some (.int .i64 z5) ∧ w'.cell? ⟨ga, oa + q * 10 + 6, none⟩ = some (.int .i64 z6) ∧ w'.cell? ⟨ga, oa + q * 10 + 7, none⟩ = some (.int .i64 z7) ∧ w'.cell? ⟨ga, oa + q * 10 + 8, none⟩ = some (.int .i64 z8) ∧ w'.cell? ⟨ga, oa + q * 10 + 9, none⟩ = some (.bool z9) ∧ w'.cell? ⟨gb, ob + k * 10, none⟩ = some (.int .u32 x0) ∧ w'.cell? ⟨gb, ob + k * 10 + 1, none⟩ = some (.int .i64 x1) ∧ w'.cell? ⟨gb, ob + k * 10 + 2, none⟩ = some (.int .u32 x2) ∧ w'.cell? ⟨gb, ob + k * 10 + 3, none⟩ = some (.int .i64 x3) ∧ w'.cell? ⟨gb, ob + k * 10 + 4, none⟩ = some (.int .i64 x4) ∧ w'.cell? ⟨gb, ob + k * 10 + 5, none⟩ = some (.int .i64 x5) ∧ w'.cell? ⟨gb, ob + k * 10 + 6, none⟩ = some (.int .i64 x6) ∧ w'.cell? ⟨gb, ob + k * 10 + 7, none⟩ = some (.int .i64 x7) ∧ w'.cell? ⟨gb, ob + k * 10 + 8, none⟩ = some (.int .i64 x8) ∧ w'.cell? ⟨gb, ob + k * 10 + 9, none⟩ = some (.bool x9))
                      (first | exact ⟨p0', p1', p2', p3', p4', p5', p6', p7', p8', p9', r0', r1', r2', r3', r4', r5', r6', r7', r8', r9'⟩ | exact ‹_ ∧ _ ∧ _ ∧ _ ∧ _ ∧ _ ∧ _ ∧ _ ∧ _ ∧ _ ∧ _ ∧ _ ∧ _ ∧ _ ∧ _ ∧ _ ∧ _ ∧ _ ∧ _ ∧ _› | go_keep)
                      (fail)
                    clear EQ p0' r0' p1' r1' p2' r2' p3' r3' p4' r4' p5' r5' p6' r6' p7' r7' p8' r8' p9' r9'
                    go_wp2_with fail
                    go_roundw
                    case rel => exact ⟨q + 1, by omega, by go_num, by rw [HTX.out]; go_num, HB6.out.drew'⟩
                    case measure => simp [intOf]; omega
                  · rw [decide_eq_false hzx] at EQ
                    have HZX := Lib.hid hzx
                    clear hzx
                    have HTX := Lib.hid (HTM3.out HZX.out)
                    clear HTM2 HTM3 HTN HTM
                    obtain ⟨z0, z1, z2, z3, z4, z5, z6, z7, z8, z9⟩ := z
                    obtain ⟨x0, x1, x2, x3, x4, x5, x6, x7, x8, x9⟩ := x
                    unfold Dn.cells at EQ
                    try dsimp only at EQ p0' r0' p1' r1' p2' r2' p3' r3' p4' r4' p5' r5' p6' r6' p7' r7' p8' r8' p9' r9'
                    skip
                    go_wp2_with fail
                    go_region_held3 (fun w' => w'.cell? ⟨ga, oa + q * 10, none⟩ = some (.int .u32 z0) ∧ w'.cell? ⟨ga, oa + q * 10 + 1, none⟩ = some (.int .i64 z1) ∧ w'.cell? ⟨ga, oa + q * 10 + 2, none⟩ = some (.int .u32 z2) ∧ w'.cell? ⟨ga, oa + q * 10 + 3, none⟩ = some (.int .i64 z3) ∧ w'.cell? ⟨ga, oa + q * 10 + 4, none⟩ = some (.int .i64 z4) ∧ w'.cell? ⟨ga, oa + q * 10 + 5, none⟩ = some (.int .i64 z5) ∧ w'.cell? ⟨ga, oa + q * 10 + 6, none⟩ = some (.int .i64 z6) ∧ w'.cell? ⟨ga, oa + q * 10 + 7, none⟩ = some (.int .i64 z7) ∧ w'.cell? ⟨ga, oa + q * 10 + 8, none⟩ = some (.int .i64 z8) ∧ w'.cell? ⟨ga, oa + q * 10 + 9, none⟩ = some (.bool z9) ∧ w'.cell? ⟨gb, ob + k * 10, none⟩ = some (.int .u32 x0) ∧ w'.cell? ⟨gb, ob + k * 10 + 1, none⟩ = some (.int .i64 x1) ∧ w'.cell? ⟨gb, ob + k * 10 + 2, none⟩ = some (.int .u32 x2) ∧ w'.cell? ⟨gb, ob + k * 10 + 3, none⟩ = some (.int .i64 x3) ∧ w'.cell? ⟨gb, ob + k * 10 + 4, none⟩ = some (.int .i64 x4) ∧ w'.cell? ⟨gb, ob + k * 10 + 5, none⟩ = some (.int .i64 x5) ∧ w'.cell? ⟨gb, ob + k * 10 + 6, none⟩ = some (.int .i64 x6) ∧ w'.cell? ⟨gb, ob + k * 10 + 7, none⟩ = some (.int .i64 x7) ∧ w'.cell? ⟨gb, ob + k * 10 + 8, none⟩ = some (.int .i64 x8) ∧ w'.cell? ⟨gb, ob + k * 10 + 9, none⟩ = some (.bool x9))
                      (first | exact ⟨p0', p1', p2', p3', p4', p5', p6', p7', p8', p9', r0', r1', r2', r3', r4', r5', r6', r7', r8', r9'⟩ | exact ‹_ ∧ _ ∧ _ ∧ _ ∧ _ ∧ _ ∧ _ ∧ _ ∧ _ ∧ _ ∧ _ ∧ _ ∧ _ ∧ _ ∧ _ ∧ _ ∧ _ ∧ _ ∧ _ ∧ _› | go_keep)
                      (fail)
                    clear EQ p0' r0' p1' r1' p2' r2' p3' r3' p4' r4' p5' r5' p6' r6' p7' r7' p8' r8' p9' r9'
                    go_wp2_with fail
                    go_roundw
                    case rel => exact ⟨q + 1, by omega, by go_num, by rw [HTX.out], HB6.out.drew'⟩
                    case measure => simp [intOf]; omega
              · obtain rfl : q = zn := by omega
                have h1 : tm = 1 := by rw [← HTM.out, ← HZN.out]; exact times_all HRis.out HXm.out
                subst h1
                have HE2 := Lib.hid (HB4.out.trans (hb5.mono HB4.out.size))
                clear hb5 hz5 HB5 HTM htl
                go_wp2_with fail
                go_roundw
                case rel => exact ⟨k + 1, by omega, by go_num, rfl, HE2.out⟩
                case measure => simp [intOf]; omega
    · obtain rfl : k = m := by omega
      have h1 : sn = k := by rw [← HSN.out, ← HM.out]; exact seen_all D
      subst h1
      have CL := Lib.hid (olen (HT.out.next hb))
      rw [HM.out] at CL
      clear hb
      go_wp2_with fail
      refine CL.out.mono ?_
      rintro e w9 ⟨rfl, b9⟩
      have HE2 := Lib.hid (bnext HB2.out (HBr.out.trans (b9.mono hsz)))
      clear b9 CL
      go_wp2_with fail
      go_ret
      exact ⟨rfl, HE2.out⟩
theorem walk (w : World) (A0 : Option Addr) (c0 : Nat) (l0 : List Rt) (hl0 : l0.length ≤ maxLen) (hr0 : Row w w.heap.size 5 A0 l0.length (rowC Rt.cells l0)) (ho0 : ∀ a ∈ l0, a.Fit) (A1 : Option Addr) (c1 : Nat) (l1 : List Dn) (hl1 : l1.length ≤ maxLen) (hr1 : Row w w.heap.size 10 A1 l1.length (rowC Dn.cells l1)) (ho1 : ∀ a ∈ l1, a.Fit) : Calls Try.prog 5 #[.slice A0 l0.length c0, .slice A1 l1.length c1] w fun e w' => e = .returned (.bool true) ∧ Below w.heap.size w w' :=
  walk17p A0 c0 l0 A1 c1 l1 w hr0 hr1 ho0 ho1 hl0 hl1

set_option maxRecDepth 100000 in
theorem lifted (os : Os) (started : os.Started) (H : Type) (enc : TypeId × Value → H) :
    ReturnsInHanded {} Try.checked os 5 .any (Rows.tablePartsSpec.pre6 enc Try.prog Try.f5 Rows.tablePartsRow.domain false) (Rows.tablePartsSpec.post enc Try.prog Try.f5 false true false false) := by
  refine returnsInHanded_of_change (C := Try.checked) own started (by kernel_rfl) Try.func5
    (ChangeSpec.witness6 (enc := enc) (C := Try.checked) false ⟨#[], #[.slice none 0 0, .slice none 0 0], []⟩ 8 (by kernel_rfl) (by kernel_rfl) (by kernel_rfl) (by kernel_rfl)) ?_
  intro W base args ds gs before hval0 hW _ _
  have hval : ∀ (j : Nat) t v, Try.f5.params[j]? = some t → args[j]? = some v → Value.okWide Try.prog W .any base t v := hval0
  have hW' := hW
  obtain ⟨p, q, hA0, hV, _, _, _⟩ := hW
  have hA : DataW.TrodAll enc Try.prog W 0 (fun _ => true) true Try.f5.params.toList args.toList ds p := hA0
  rw [Try.params5] at hA hval
  obtain ⟨v0, vs0, d0, ds0, p0, q0, hargs, rfl, _, h0, r0⟩ := trodAll_cons hA
  obtain ⟨v1, vs1, d1, ds1, p1, q1, rfl, rfl, _, h1, r1⟩ := trodAll_cons r0
  obtain ⟨rfl, rfl, _⟩ := trodAll_nil r1
  obtain rfl : args = #[v0, v1] := by cases args; simp_all
  obtain ⟨rfl, _⟩ := trodVars_none hV
  refine law_post (s := Rows.tablePartsSpec) rfl rfl (by rw [Try.params5]; intro t ht; simp at ht; rcases ht with rfl | rfl <;> exact ⟨by kernel_rfl, of_decide_eq_true (by kernel_rfl)⟩) rfl hW' ?_
  obtain ⟨A0, c0, l0, rfl, hl0, hr0, ho0⟩ := open_routes17 (hval 0 23 v0 rfl rfl) h0
  obtain ⟨A1, c1, l1, rfl, hl1, hr1, ho1⟩ := open_downs17 (hval 1 24 v1 rfl rfl) h1
  exact walk W A0 c0 l0 hl0 hr0 ho0 A1 c1 l1 hl1 hr1 ho1

theorem over : Rows.tablePartsRow.holds Try.pinned (OpenSpec.ofChange Rows.tablePartsSpec) :=
  OpenClaim.holds_of_wide 5 Try.f5 rfl rfl rfl rfl rfl rfl rfl ⟨rfl, rfl, rfl, rfl, rfl⟩ rfl rfl rfl rfl rfl (by kernel_rfl) Try.func5 (by kernel_rfl)
    (of_decide_eq_true (by kernel_rfl)) (by unfold Func.isWrapper; first | (rw [if_pos (by decide +kernel)]; kernel_rfl) | (rw [if_neg (by decide +kernel)]; exact ⟨rfl, rfl⟩))
    (fun os started H enc _ => lifted os started H enc)

/-- The statement. -/
theorem tableParts_holds : Rows.TablePartsSaid := over

end Go.Proofs.Ytgjhcnpegaemoaa.TParts
