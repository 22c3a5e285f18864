/-
  Proved: ExtCuts returns true for every Id, number of bytes and kind: an item whose bytes end too early is short; fifteen items are too many, of either profile. Conditions: none.
-/
import Derived.Test.YtdfbbmaaonkjiaaExtK
import Derived.Test.YtdfbbmaaonkjiaaExtM
import Derived.Test.YtdfbbmaaonkjiaaLiftB
namespace Go.Proofs.Ytdfbbmaaonkjiaa.ECuts
open Go.ChangeShapes Go.WideShapes Go.ChangeAt Go.RowKit

theorem rep_snoc (h : List UInt8) (j : Nat) : u8s (h ++ List.replicate (j + 1) 9) = u8s (h ++ List.replicate j 9) ++ [.int .u8 9] := by
  rw [List.replicate_succ', ← List.append_assoc, u8s_append]
  rfl
theorem it_fine (x : UInt8) (k : Nat) (h1 : 1 ≤ x.toNat) (h2 : x.toNat ≤ 14) (h3 : 1 ≤ k) (h4 : k ≤ 16) : It.wrong ⟨x, List.replicate k 9⟩ = false ∧ It.big ⟨x, List.replicate k 9⟩ = false := by
  constructor
  · unfold It.wrong
    rw [decide_eq_false_iff_not]
    simp
    omega
  · unfold It.big
    rw [decide_eq_false_iff_not]
    simp
    omega
theorem cut_take (h : List UInt8) (k N : Nat) (hN : h.length = N) (hk : 1 ≤ k) : (h ++ List.replicate k (9 : UInt8)).take (N + k - 1) = h ++ List.replicate (k - 1) 9 := by
  rw [List.take_append, List.take_of_length_le (by omega), List.take_replicate]
  congr 2
  omega

set_option maxRecDepth 100000 in
set_option maxHeartbeats 3200000 in
theorem walkLong (w : World) (id n : Int) (hid : 0 ≤ id ∧ id < 256) (hn : 0 ≤ n ∧ n < 256) :
    Calls Try.prog 6 #[.int .u8 id, .int .u8 n, .bool true] w fun e w' => e = .returned (.bool true) ∧ Below w.heap.size w w' := by
  obtain ⟨k, hk⟩ : ∃ k : Nat, n % 16 + 1 = (k : Int) := ⟨(n % 16 + 1).toNat, by omega⟩
  obtain ⟨x, hx⟩ : ∃ x : UInt8, id % 14 + 1 = (x.toNat : Int) := ⟨UInt8.ofNat (id % 14 + 1).toNat, by rw [UInt8.toNat_ofNat']; omega⟩
  have hk1 : 1 ≤ k ∧ k ≤ 16 := by omega
  have hx1 : 1 ≤ x.toNat ∧ x.toNat ≤ 14 := by omega
  obtain ⟨hw, hb⟩ := it_fine x k hx1.1 hx1.2 hk1.1 hk1.2
  obtain ⟨i, hi⟩ : ∃ i : It, i = ⟨x, List.replicate k 9⟩ := ⟨_, rfl⟩
  rw [← hi] at hw hb
  have hid' : i.id = x := by rw [hi]
  have hd' : i.d = List.replicate k 9 := by rw [hi]
  have hdl : i.d.length = k := by rw [hd']; simp
  have f1 := oneL hw
  have f2 := cutL hw (List.replicate (k - 1) 9) (by rw [hdl]; simp; omega)
  have f3 := fourteenL hw
  have f4 := fifteenL hw
  have hhd : u8s (hdL i) = [.int .u8 (x.toNat : Int), .int .u8 (k : Int)] := by 
    rw [hdL, hid', hdl]
    simp only [u8s, List.map_cons, List.map_nil]
    rw [show ((UInt8.ofNat k).toNat : Int) = (k : Int) by rw [UInt8.toNat_ofNat']; omega]
  have hhl : (hdL i).length = 2 := rfl
  have frep := fun j => enc_rep hdL i j
  have HD := Lib.hid hd'
  have HI := Lib.hid hid'
  have HDL := Lib.hid hdl
  obtain ⟨h, hh⟩ : ∃ h, h = hdL i := ⟨_, rfl⟩
  rw [← hh] at f1 f2 hhd hhl frep
  rw [hd'] at f1 frep
  have F1 := Lib.hid f1
  have F2 := Lib.hid f2
  have F3 := Lib.hid f3
  have F4 := Lib.hid f4
  have HHD := Lib.hid hhd
  have HHL := Lib.hid hhl
  have FREP := Lib.hid frep
  clear f1 f2 f3 f4 hhd hhl frep hh hi hw hb hid' hd' hdl
  go_enter Try.func6, Try.ntmps6
  go_wp2_with fail
  refine (awake_any w).mono ?_
  rintro e w1 ⟨rfl, b1⟩
  go_wp2_with (at_builtin; go_loud (refine wpl_append _ rfl (.tmp 34) (.tmp 38) 26 rfl w1.heap.size 5 (.int .u8 0) 1 1 Try.underlying26 info_u8 rfl (by decide) _ 0 [] rfl (World.ownsRow_nil _ _ _ _) _ _ 2 2 [.int .u8 (x.toNat : Int), .int .u8 (k : Int)] rfl (Row.fresh _ _ _ 1 2 _ rfl rfl) (by simp [Value.oneCell']) ?c1 ?c2 ?c3 ?_))
  case c1 => decide
  case c2 => decide
  case c3 => simp
  intro v2 w2 own2 g2 _
  have B2 : Below w1.heap.size w1 w2 := ((Below.refl _ w1).alloc (Nat.le_refl _) _).grown g2 (by simp) (fun q hq => by simp [Value.ownBlock] at hq)
  have own2' : w2.ownsRow w1.heap.size 5 1 v2 (2 + 0) (u8s (h ++ List.replicate 0 9)) := by
    rw [List.replicate_zero, List.append_nil, HHD.out]
    simpa using own2
  have B1 := Lib.hid b1
  have HO2 := Lib.hid own2'
  have HB2 := Lib.hid B2
  clear own2 own2' g2 B2 b1
  go_wp2_with fail
  go_loopw [8, 12] (fun v i wr => ∃ j : Nat, j ≤ k ∧ i = .int .i64 j ∧ wr.ownsRow w1.heap.size 5 1 v (2 + j) (u8s (h ++ List.replicate j 9)) ∧ Below w1.heap.size w1 wr) (fun _ i _ => k - (intOf i).toNat)
  case atStart => exact ⟨0, Nat.zero_le _, rfl, HO2.out, HB2.out⟩
  case round =>
    clear HO2 HB2
    obtain ⟨j, hj, rfl, hown, hb⟩ := hrel
    by_cases hlt : j < k
    · go_wp2_with (at_builtin; go_loud (refine wpl_append _ rfl (.tmp 54) (.tmp 55) 26 rfl w1.heap.size 5 (.int .u8 0) 1 1 Try.underlying26 info_u8 rfl (by decide) _ _ _ rfl (hown.alloc _) _ _ 1 1 [.int .u8 9] rfl (Row.one _ _ _) ?d0 ?d1 ?d2 ?d3 ?_))
      case d0 => intro u hu; simp at hu; subst hu; rfl
      case d1 => unfold maxLen; omega
      case d2 => omega
      case d3 => have := hb.size; simp; omega
      intro v4 w4 own4 g4 _
      have B4 := (hb.alloc hb.size _).grown g4 (by have := hb.size; simp; omega) (fun q hq => (hown.lt q hq).1)
      have R : w4.ownsRow w1.heap.size 5 1 v4 (2 + (j + 1)) (u8s (h ++ List.replicate (j + 1) 9)) := by rw [rep_snoc]; exact own4
      clear own4 g4 hown hb
      go_wp2
      go_roundw
      case rel => exact ⟨j + 1, by omega, by go_num, R, B4⟩
      case measure => simp [intOf]; omega
    · obtain rfl : j = k := by omega
      obtain ⟨m, hm⟩ : ∃ m, m = 2 + j := ⟨_, rfl⟩
      rw [← hm] at hown
      obtain ⟨A5, c5, rfl⟩ := own_form hown
      have hcap := (own_cap hown).1
      have hcap2 := (own_cap hown).2
      unfold maxLen at hcap2
      have hm1 : 1 ≤ m ∧ m ≤ 18 := by omega
      have r5 := Row.of_own hown
      have hmlen : (h ++ List.replicate j (9 : UInt8)).length = m := by rw [List.length_append, HHL.out, List.length_replicate, hm]
      have htake := cut_take h j 2 HHL.out hk1.1
      rw [← hm] at htake
      have hclen : (h ++ List.replicate (j - 1) (9 : UInt8)).length = m - 1 := by rw [List.length_append, HHL.out, List.length_replicate]; omega
      have C1 := parse_any 4096 A5 c5 (h ++ List.replicate j 9) wr (by rw [hmlen]; exact r5) (by omega)
      rw [hmlen, F1.out] at C1
      have C2 := Lib.hid (fun w' (b' : Below wr.heap.size wr w') => show Calls Try.prog 14 #[.int .u16 4096, .slice A5 (m - 1) c5] w' (Parsed ([], 10) w') from by
        have r6 := ((r5.below b' (Nat.le_refl _)).more b'.size).take (k := m - 1) (by omega)
        rw [← u8s_take, htake] at r6
        have := parse_any 4096 A5 c5 (h ++ List.replicate (j - 1) 9) w' (by rw [hclen]; exact r6) (by omega)
        rwa [hclen, F2.out] at this)
      have hB := Lib.hid (bnext B1.out hb)
      have R5 := Lib.hid r5
      have HM := Lib.hid hm
      have hm2 : (1 : Int) ≤ (m : Int) := by omega
      have hm3 : (m : Int) - 1 ≤ (c5 : Int) := by omega
      have hm4 : (0 : Int) ≤ (m : Int) - 1 := by omega
      clear hown hb r5 hmlen htake hclen hm
      go_wp2_with fail
      refine C1.mono ?_
      rintro e w6 ⟨A6, c6, ps, rfl, hps, its6, b6⟩
      clear C1
      have HC2 := Lib.hid (C2.out w6 b6)
      have hl1 : ps.length = 1 := by have := congrArg List.length hps; simpa using this
      obtain ⟨p1, rfl⟩ : ∃ p1, ps = [p1] := by
        match ps, hl1 with
        | [p1], _ => exact ⟨p1, rfl⟩
      have hp1 : p1.it = i := by simpa using hps
      have HP1 := Lib.hid hp1
      have HI6 := Lib.hid its6
      have HB6 := Lib.hid b6
      clear hps its6 b6 hp1 hl1 C2
      go_wp2_with fail
      refine HC2.out.mono ?_
      rintro e w7 ⟨A7, c7, ps7, rfl, _, _, b7⟩
      have HB7 := Lib.hid (bnext HB6.out b7)
      have HI7 := Lib.hid (HI6.out.next b7)
      clear b7 HB6 HI6 HC2
      have HBW := Lib.hid (bnext hB.out HB7.out)
      have HR7 := Lib.hid ((R5.out.below HB7.out (Nat.le_refl _)).more HB7.out.size)
      obtain ⟨bs, hbs⟩ : ∃ bs, bs = h ++ List.replicate j (9 : UInt8) := ⟨_, rfl⟩
      have hbl : bs.length = m := by rw [hbs, List.length_append, HHL.out, List.length_replicate, HM.out]
      rw [← hbs] at HR7 FREP
      have hel : ∀ q, (enc hdL (List.replicate q i)).length = q * m := by
        intro q
        induction q with
        | zero => simp [enc]
        | succ q ih => rw [FREP.out, List.length_append, ih, hbl, Nat.add_mul, Nat.one_mul]
      have hel2 : ∀ q, q ≤ 15 → (enc hdL (List.replicate q i)).length ≤ 270 := by
        intro q hq
        rw [hel q]
        calc q * m ≤ 15 * 18 := Nat.mul_le_mul hq hm1.2
          _ = 270 := rfl
      have HEL := Lib.hid hel2
      have HBL := Lib.hid hbl
      clear hbs hbl hel hel2 F1 F2 HHD HHL R5 HM hB HD HB7 hm2 hm3 hm4
      go_wp2_with fail
      go_loopw [17, 18] (fun v ii wq => ∃ q : Nat, q ≤ 14 ∧ ii = .int .i64 q ∧ wq.ownsRow w7.heap.size 5 1 v (enc hdL (List.replicate q i)).length (u8s (enc hdL (List.replicate q i))) ∧ Below w7.heap.size w7 wq) (fun _ ii _ => 14 - (intOf ii).toNat)
      case atStart => exact ⟨0, by omega, rfl, World.ownsRow_nil _ _ _ _, Below.refl _ _⟩
      case round =>
        obtain ⟨q, hq, rfl, hown, hb⟩ := hrel
        have hL := HEL.out q (by omega)
        by_cases hlt2 : q < 14
        · have hr := HR7.out.below hb (Nat.le_refl _)
          have HQ := Lib.hid (FREP.out q)
          generalize enc hdL (List.replicate q i) = acc at hown hL HQ
          go_wp2_with (at_builtin; go_loud (refine wpl_append _ rfl (.tmp 77) (.tmp 78) 26 rfl w7.heap.size 5 (.int .u8 0) 1 1 Try.underlying26 info_u8 rfl (by decide) _ _ _ rfl hown _ _ _ _ _ rfl hr (u8s_one _) ?e1 ?e2 ?e3 ?_))
          case e1 => unfold maxLen; omega
          case e2 => omega
          case e3 => exact hb.size
          intro v9 w9 own9 g9 _
          have B9 := hb.grown g9 hb.size (fun q' hq' => (hown.lt q' hq').1)
          have R : w9.ownsRow w7.heap.size 5 1 v9 (enc hdL (List.replicate (q + 1) i)).length (u8s (enc hdL (List.replicate (q + 1) i))) := by
            rw [HQ.out, List.length_append, HBL.out, u8s_append]
            exact own9
          clear own9 g9 hown hb hr
          go_wp2
          go_roundw
          case rel => exact ⟨q + 1, by omega, by go_num, R, B9⟩
          case measure => simp [intOf]; omega
        · obtain rfl : q = 14 := by omega
          obtain ⟨A9, c9, rfl⟩ := own_form hown
          have CP := parse_any 4096 A9 c9 (enc hdL (List.replicate 14 i)) wr (Row.of_own hown) (by omega)
          rw [F3.out] at CP
          have HQ := Lib.hid (FREP.out 14)
          have hL15 := HEL.out 15 (by omega)
          have HF4 := Lib.hid (fun A' c' w' hr' => parse_any 4096 A' c' (enc hdL (List.replicate 15 i)) w' hr' (by omega))
          rw [F4.out] at HF4
          generalize enc hdL (List.replicate 14 i) = acc at hown hL HQ CP
          generalize enc hdL (List.replicate 15 i) = acc15 at HQ HF4 hL15
          have HO := Lib.hid hown
          have HB := Lib.hid hb
          clear hown hb hlt2 hq
          go_wp2_with fail
          refine CP.mono ?_
          rintro e w10 ⟨A10, c10, ps10, rfl, hps10, _, b10⟩
          have hl10 : ps10.length = 14 := by have := congrArg List.length hps10; simpa using this
          rw [hl10]
          have own10 := own_below HO.out b10 (Nat.le_refl _)
          have B10 : Below w7.heap.size w7 w10 := bnext HB.out b10
          have r10 := HR7.out.below B10 (Nat.le_refl _)
          have z10 := B10.size
          clear CP HO HB b10 hps10 hl10
          go_wp2_with (at_builtin; go_loud (refine wpl_append _ rfl (.tmp 86) (.tmp 87) 26 rfl w7.heap.size 5 (.int .u8 0) 1 1 Try.underlying26 info_u8 rfl (by decide) _ _ _ rfl own10 _ _ _ _ _ rfl r10 (u8s_one _) ?g1 ?g2 ?g3 ?_))
          case g1 => unfold maxLen; omega
          case g2 => omega
          case g3 => exact z10
          intro v11 w11 own11 g11 _
          have B11 := B10.grown g11 z10 (fun q' hq' => (own10.lt q' hq').1)
          have e11 : acc.length + m = acc15.length := by rw [HQ.out, List.length_append, HBL.out]
          rw [← u8s_append, ← HQ.out, e11] at own11
          obtain ⟨A11, c11, rfl⟩ := own_form own11
          have C11 := HF4.out A11 c11 w11 (Row.of_own own11)
          have HB11 := Lib.hid B11
          clear own10 own11 g11 B10 B11 r10 e11 HF4
          go_wp2_with fail
          refine C11.mono ?_
          rintro e w12 ⟨A12, c12, ps12, rfl, _, _, b12⟩
          have B12 : Below w7.heap.size w7 w12 := bnext HB11.out b12
          have HB12 := Lib.hid (bnext HBW.out B12)
          obtain ⟨g, o, hA6, hg6, k0, k1⟩ := (HI7.out.next B12).at 0 (by simp)
          subst hA6
          rw [Nat.zero_mul, Nat.add_zero] at k0 k1
          rw [show ([p1] : List Ip)[0] = p1 from rfl, HP1.out] at k0 k1
          rw [HI.out] at k0
          rw [HDL.out] at k1
          clear C11 b12 B12 HB11
          go_wp2
          go_ret
          exact ⟨rfl, HB12.out⟩

set_option maxRecDepth 100000 in
set_option maxHeartbeats 3200000 in
theorem walkShort (w : World) (id n : Int) (hid : 0 ≤ id ∧ id < 256) (hn : 0 ≤ n ∧ n < 256) :
    Calls Try.prog 6 #[.int .u8 id, .int .u8 n, .bool false] w fun e w' => e = .returned (.bool true) ∧ Below w.heap.size w w' := by
  obtain ⟨k, hk⟩ : ∃ k : Nat, n % 16 + 1 = (k : Int) := ⟨(n % 16 + 1).toNat, by omega⟩
  obtain ⟨x, hx⟩ : ∃ x : UInt8, id % 14 + 1 = (x.toNat : Int) := ⟨UInt8.ofNat (id % 14 + 1).toNat, by rw [UInt8.toNat_ofNat']; omega⟩
  have hk1 : 1 ≤ k ∧ k ≤ 16 := by omega
  have hx1 : 1 ≤ x.toNat ∧ x.toNat ≤ 14 := by omega
  obtain ⟨hw, hb⟩ := it_fine x k hx1.1 hx1.2 hk1.1 hk1.2
  obtain ⟨i, hi⟩ : ∃ i : It, i = ⟨x, List.replicate k 9⟩ := ⟨_, rfl⟩
  rw [← hi] at hw hb
  have hid' : i.id = x := by rw [hi]
  have hd' : i.d = List.replicate k 9 := by rw [hi]
  have hdl : i.d.length = k := by rw [hd']; simp
  have f1 := oneS hw hb
  have f2 := cutS hw hb (List.replicate (k - 1) 9) (by rw [hdl]; simp; omega)
  have f3 := fourteenS hw hb
  have f4 := fifteenS hw hb
  have hhd : u8s (hdS i) = [.int .u8 ((x.toNat : Int) * 16 + ((k : Int) - 1))] := by 
    rw [hdS, hid', hdl]
    simp only [u8s, List.map_cons, List.map_nil]
    rw [show ((UInt8.ofNat (x.toNat * 16 + (k - 1))).toNat : Int) = (x.toNat : Int) * 16 + ((k : Int) - 1) by rw [UInt8.toNat_ofNat']; omega]
  have hhl : (hdS i).length = 1 := rfl
  have frep := fun j => enc_rep hdS i j
  have HD := Lib.hid hd'
  have HI := Lib.hid hid'
  have HDL := Lib.hid hdl
  obtain ⟨h, hh⟩ : ∃ h, h = hdS i := ⟨_, rfl⟩
  rw [← hh] at f1 f2 hhd hhl frep
  rw [hd'] at f1 frep
  have F1 := Lib.hid f1
  have F2 := Lib.hid f2
  have F3 := Lib.hid f3
  have F4 := Lib.hid f4
  have HHD := Lib.hid hhd
  have HHL := Lib.hid hhl
  have FREP := Lib.hid frep
  clear f1 f2 f3 f4 hhd hhl frep hh hi hw hb hid' hd' hdl
  go_enter Try.func6, Try.ntmps6
  go_wp2_with fail
  refine (awake_any w).mono ?_
  rintro e w1 ⟨rfl, b1⟩
  go_wp2_with (at_builtin; go_loud (refine wpl_append _ rfl (.tmp 40) (.tmp 47) 26 rfl w1.heap.size 5 (.int .u8 0) 1 1 Try.underlying26 info_u8 rfl (by decide) _ 0 [] rfl (World.ownsRow_nil _ _ _ _) _ _ 1 1 [.int .u8 ((x.toNat : Int) * 16 + ((k : Int) - 1))] rfl (Row.fresh _ _ _ 1 1 _ rfl rfl) (by simp [Value.oneCell']) ?c1 ?c2 ?c3 ?_))
  case c1 => decide
  case c2 => decide
  case c3 => simp
  intro v2 w2 own2 g2 _
  have B2 : Below w1.heap.size w1 w2 := ((Below.refl _ w1).alloc (Nat.le_refl _) _).grown g2 (by simp) (fun q hq => by simp [Value.ownBlock] at hq)
  have own2' : w2.ownsRow w1.heap.size 5 1 v2 (1 + 0) (u8s (h ++ List.replicate 0 9)) := by
    rw [List.replicate_zero, List.append_nil, HHD.out]
    simpa using own2
  have B1 := Lib.hid b1
  have HO2 := Lib.hid own2'
  have HB2 := Lib.hid B2
  clear own2 own2' g2 B2 b1
  go_wp2_with fail
  go_loopw [8, 12] (fun v i wr => ∃ j : Nat, j ≤ k ∧ i = .int .i64 j ∧ wr.ownsRow w1.heap.size 5 1 v (1 + j) (u8s (h ++ List.replicate j 9)) ∧ Below w1.heap.size w1 wr) (fun _ i _ => k - (intOf i).toNat)
  case atStart => exact ⟨0, Nat.zero_le _, rfl, HO2.out, HB2.out⟩
  case round =>
    clear HO2 HB2
    obtain ⟨j, hj, rfl, hown, hb⟩ := hrel
    by_cases hlt : j < k
    · go_wp2_with (at_builtin; go_loud (refine wpl_append _ rfl (.tmp 54) (.tmp 55) 26 rfl w1.heap.size 5 (.int .u8 0) 1 1 Try.underlying26 info_u8 rfl (by decide) _ _ _ rfl (hown.alloc _) _ _ 1 1 [.int .u8 9] rfl (Row.one _ _ _) ?d0 ?d1 ?d2 ?d3 ?_))
      case d0 => intro u hu; simp at hu; subst hu; rfl
      case d1 => unfold maxLen; omega
      case d2 => omega
      case d3 => have := hb.size; simp; omega
      intro v4 w4 own4 g4 _
      have B4 := (hb.alloc hb.size _).grown g4 (by have := hb.size; simp; omega) (fun q hq => (hown.lt q hq).1)
      have R : w4.ownsRow w1.heap.size 5 1 v4 (1 + (j + 1)) (u8s (h ++ List.replicate (j + 1) 9)) := by rw [rep_snoc]; exact own4
      clear own4 g4 hown hb
      go_wp2
      go_roundw
      case rel => exact ⟨j + 1, by omega, by go_num, R, B4⟩
      case measure => simp [intOf]; omega
    · obtain rfl : j = k := by omega
      obtain ⟨m, hm⟩ : ∃ m, m = 1 + j := ⟨_, rfl⟩
      rw [← hm] at hown
      obtain ⟨A5, c5, rfl⟩ := own_form hown
      have hcap := (own_cap hown).1
      have hcap2 := (own_cap hown).2
      unfold maxLen at hcap2
      have hm1 : 1 ≤ m ∧ m ≤ 18 := by omega
      have r5 := Row.of_own hown
      have hmlen : (h ++ List.replicate j (9 : UInt8)).length = m := by rw [List.length_append, HHL.out, List.length_replicate, hm]
      have htake := cut_take h j 1 HHL.out hk1.1
      rw [← hm] at htake
      have hclen : (h ++ List.replicate (j - 1) (9 : UInt8)).length = m - 1 := by rw [List.length_append, HHL.out, List.length_replicate]; omega
      have C1 := parse_any 48862 A5 c5 (h ++ List.replicate j 9) wr (by rw [hmlen]; exact r5) (by omega)
      rw [hmlen, F1.out] at C1
      have C2 := Lib.hid (fun w' (b' : Below wr.heap.size wr w') => show Calls Try.prog 14 #[.int .u16 48862, .slice A5 (m - 1) c5] w' (Parsed ([], 10) w') from by
        have r6 := ((r5.below b' (Nat.le_refl _)).more b'.size).take (k := m - 1) (by omega)
        rw [← u8s_take, htake] at r6
        have := parse_any 48862 A5 c5 (h ++ List.replicate (j - 1) 9) w' (by rw [hclen]; exact r6) (by omega)
        rwa [hclen, F2.out] at this)
      have hB := Lib.hid (bnext B1.out hb)
      have R5 := Lib.hid r5
      have HM := Lib.hid hm
      have hm2 : (1 : Int) ≤ (m : Int) := by omega
      have hm3 : (m : Int) - 1 ≤ (c5 : Int) := by omega
      have hm4 : (0 : Int) ≤ (m : Int) - 1 := by omega
      clear hown hb r5 hmlen htake hclen hm
      go_wp2_with fail
      refine C1.mono ?_
      rintro e w6 ⟨A6, c6, ps, rfl, hps, its6, b6⟩
      clear C1
      have HC2 := Lib.hid (C2.out w6 b6)
      have hl1 : ps.length = 1 := by have := congrArg List.length hps; simpa using this
      obtain ⟨p1, rfl⟩ : ∃ p1, ps = [p1] := by
        match ps, hl1 with
        | [p1], _ => exact ⟨p1, rfl⟩
      have hp1 : p1.it = i := by simpa using hps
      have HP1 := Lib.hid hp1
      have HI6 := Lib.hid its6
      have HB6 := Lib.hid b6
      clear hps its6 b6 hp1 hl1 C2
      go_wp2_with fail
      refine HC2.out.mono ?_
      rintro e w7 ⟨A7, c7, ps7, rfl, _, _, b7⟩
      have HB7 := Lib.hid (bnext HB6.out b7)
      have HI7 := Lib.hid (HI6.out.next b7)
      clear b7 HB6 HI6 HC2
      have HBW := Lib.hid (bnext hB.out HB7.out)
      have HR7 := Lib.hid ((R5.out.below HB7.out (Nat.le_refl _)).more HB7.out.size)
      obtain ⟨bs, hbs⟩ : ∃ bs, bs = h ++ List.replicate j (9 : UInt8) := ⟨_, rfl⟩
      have hbl : bs.length = m := by rw [hbs, List.length_append, HHL.out, List.length_replicate, HM.out]
      rw [← hbs] at HR7 FREP
      have hel : ∀ q, (enc hdS (List.replicate q i)).length = q * m := by
        intro q
        induction q with
        | zero => simp [enc]
        | succ q ih => rw [FREP.out, List.length_append, ih, hbl, Nat.add_mul, Nat.one_mul]
      have hel2 : ∀ q, q ≤ 15 → (enc hdS (List.replicate q i)).length ≤ 270 := by
        intro q hq
        rw [hel q]
        calc q * m ≤ 15 * 18 := Nat.mul_le_mul hq hm1.2
          _ = 270 := rfl
      have HEL := Lib.hid hel2
      have HBL := Lib.hid hbl
      clear hbs hbl hel hel2 F1 F2 HHD HHL R5 HM hB HD HB7 hm2 hm3 hm4
      go_wp2_with fail
      go_loopw [17, 18] (fun v ii wq => ∃ q : Nat, q ≤ 14 ∧ ii = .int .i64 q ∧ wq.ownsRow w7.heap.size 5 1 v (enc hdS (List.replicate q i)).length (u8s (enc hdS (List.replicate q i))) ∧ Below w7.heap.size w7 wq) (fun _ ii _ => 14 - (intOf ii).toNat)
      case atStart => exact ⟨0, by omega, rfl, World.ownsRow_nil _ _ _ _, Below.refl _ _⟩
      case round =>
        obtain ⟨q, hq, rfl, hown, hb⟩ := hrel
        have hL := HEL.out q (by omega)
        by_cases hlt2 : q < 14
        · have hr := HR7.out.below hb (Nat.le_refl _)
          have HQ := Lib.hid (FREP.out q)
          generalize enc hdS (List.replicate q i) = acc at hown hL HQ
          go_wp2_with (at_builtin; go_loud (refine wpl_append _ rfl (.tmp 77) (.tmp 78) 26 rfl w7.heap.size 5 (.int .u8 0) 1 1 Try.underlying26 info_u8 rfl (by decide) _ _ _ rfl hown _ _ _ _ _ rfl hr (u8s_one _) ?e1 ?e2 ?e3 ?_))
          case e1 => unfold maxLen; omega
          case e2 => omega
          case e3 => exact hb.size
          intro v9 w9 own9 g9 _
          have B9 := hb.grown g9 hb.size (fun q' hq' => (hown.lt q' hq').1)
          have R : w9.ownsRow w7.heap.size 5 1 v9 (enc hdS (List.replicate (q + 1) i)).length (u8s (enc hdS (List.replicate (q + 1) i))) := by
            rw [HQ.out, List.length_append, HBL.out, u8s_append]
            exact own9
          clear own9 g9 hown hb hr
          go_wp2
          go_roundw
          case rel => exact ⟨q + 1, by omega, by go_num, R, B9⟩
          case measure => simp [intOf]; omega
        · obtain rfl : q = 14 := by omega
          obtain ⟨A9, c9, rfl⟩ := own_form hown
          have CP := parse_any 48862 A9 c9 (enc hdS (List.replicate 14 i)) wr (Row.of_own hown) (by omega)
          rw [F3.out] at CP
          have HQ := Lib.hid (FREP.out 14)
          have hL15 := HEL.out 15 (by omega)
          have HF4 := Lib.hid (fun A' c' w' hr' => parse_any 48862 A' c' (enc hdS (List.replicate 15 i)) w' hr' (by omega))
          rw [F4.out] at HF4
          generalize enc hdS (List.replicate 14 i) = acc at hown hL HQ CP
          generalize enc hdS (List.replicate 15 i) = acc15 at HQ HF4 hL15
          have HO := Lib.hid hown
          have HB := Lib.hid hb
          clear hown hb hlt2 hq
          go_wp2_with fail
          refine CP.mono ?_
          rintro e w10 ⟨A10, c10, ps10, rfl, hps10, _, b10⟩
          have hl10 : ps10.length = 14 := by have := congrArg List.length hps10; simpa using this
          rw [hl10]
          have own10 := own_below HO.out b10 (Nat.le_refl _)
          have B10 : Below w7.heap.size w7 w10 := bnext HB.out b10
          have r10 := HR7.out.below B10 (Nat.le_refl _)
          have z10 := B10.size
          clear CP HO HB b10 hps10 hl10
          go_wp2_with (at_builtin; go_loud (refine wpl_append _ rfl (.tmp 86) (.tmp 87) 26 rfl w7.heap.size 5 (.int .u8 0) 1 1 Try.underlying26 info_u8 rfl (by decide) _ _ _ rfl own10 _ _ _ _ _ rfl r10 (u8s_one _) ?g1 ?g2 ?g3 ?_))
          case g1 => unfold maxLen; omega
          case g2 => omega
          case g3 => exact z10
          intro v11 w11 own11 g11 _
          have B11 := B10.grown g11 z10 (fun q' hq' => (own10.lt q' hq').1)
          have e11 : acc.length + m = acc15.length := by rw [HQ.out, List.length_append, HBL.out]
          rw [← u8s_append, ← HQ.out, e11] at own11
          obtain ⟨A11, c11, rfl⟩ := own_form own11
          have C11 := HF4.out A11 c11 w11 (Row.of_own own11)
          have HB11 := Lib.hid B11
          clear own10 own11 g11 B10 B11 r10 e11 HF4
          go_wp2_with fail
          refine C11.mono ?_
          rintro e w12 ⟨A12, c12, ps12, rfl, _, _, b12⟩
          have B12 : Below w7.heap.size w7 w12 := bnext HB11.out b12
          have HB12 := Lib.hid (bnext HBW.out B12)
          obtain ⟨g, o, hA6, hg6, k0, k1⟩ := (HI7.out.next B12).at 0 (by simp)
          subst hA6
          rw [Nat.zero_mul, Nat.add_zero] at k0 k1
          rw [show ([p1] : List Ip)[0] = p1 from rfl, HP1.out] at k0 k1
          rw [HI.out] at k0
          rw [HDL.out] at k1
          clear C11 b12 B12 HB11
          go_wp2
          go_ret
          exact ⟨rfl, HB12.out⟩

theorem walk (w : World) (id : Int) (hid : (Lit.int .u8 id).wf = true) (n : Int) (hn : (Lit.int .u8 n).wf = true) (b : Bool) :
    Calls Try.prog 6 #[.int .u8 id, .int .u8 n, .bool b] w fun e w' => e = .returned (.bool true) ∧ Below w.heap.size w w' := by
  cases b with
  | true => exact walkLong w id n (wf_u8 hid) (wf_u8 hn)
  | false => exact walkShort w id n (wf_u8 hid) (wf_u8 hn)

set_option maxRecDepth 100000 in
theorem lifted (os : Os) (started : os.Started) (H : Type) (enc : TypeId × Value → H) :
    ReturnsInHanded {} Try.checked os 6 .any (Rows.extCutsSpec.pre6 enc Try.prog Try.f6 Rows.extCutsRow.domain false) (Rows.extCutsSpec.post enc Try.prog Try.f6 false true false false) := by
  refine returnsInHanded_of_change (C := Try.checked) own started (by kernel_rfl) Try.func6
    (ChangeSpec.witness6 (enc := enc) (C := Try.checked) false ⟨#[], #[.int .u8 0, .int .u8 0, .bool false], []⟩ 8 (by kernel_rfl) (by kernel_rfl) (by kernel_rfl) (by kernel_rfl)) ?_
  intro W base args ds gs before hval0 hW _ _
  have hval : ∀ (j : Nat) t v, Try.f6.params[j]? = some t → args[j]? = some v → Value.okWide Try.prog W .any base t v := hval0
  have hW' := hW
  obtain ⟨p, q, hA0, hV, _, _, _⟩ := hW
  have hA : DataW.TrodAll enc Try.prog W 0 (fun _ => true) true Try.f6.params.toList args.toList ds p := hA0
  rw [Try.params6] at hA hval
  obtain ⟨v0, vs0, d0, ds0, p0, q0, hargs, rfl, _, h0, r0⟩ := trodAll_cons hA
  obtain ⟨v1, vs1, d1, ds1, p1, q1, rfl, rfl, _, h1, r1⟩ := trodAll_cons r0
  obtain ⟨v2, vs2, d2, ds2, p2, q2, rfl, rfl, _, h2, r2⟩ := trodAll_cons r1
  obtain ⟨rfl, rfl, _⟩ := trodAll_nil r2
  obtain rfl : args = #[v0, v1, v2] := by cases args; simp_all
  obtain ⟨rfl, _⟩ := trodVars_none hV
  refine law_post (s := Rows.extCutsSpec) rfl rfl (by rw [Try.params6]; intro t ht; simp at ht; rcases ht with rfl | rfl | rfl <;> exact ⟨by kernel_rfl, of_decide_eq_true (by kernel_rfl)⟩) rfl hW' ?_
  obtain ⟨a0, rfl, _, _, w0⟩ := open_int Try.underlying5 (hval 0 5 v0 rfl rfl) h0
  obtain ⟨a1, rfl, _, _, w1⟩ := open_int Try.underlying5 (hval 1 5 v1 rfl rfl) h1
  obtain ⟨a2, rfl, _, _⟩ := open_bool Try.underlying4 (hval 2 4 v2 rfl rfl) h2
  exact walk W a0 w0 a1 w1 a2

theorem over : Rows.extCutsRow.holds Try.pinned (OpenSpec.ofChange Rows.extCutsSpec) :=
  OpenClaim.holds_of_wide 6 Try.f6 rfl rfl rfl rfl rfl rfl rfl ⟨rfl, rfl, rfl, rfl, rfl⟩ rfl rfl rfl rfl rfl (by kernel_rfl) Try.func6 (by kernel_rfl)
    (of_decide_eq_true (by kernel_rfl)) (by unfold Func.isWrapper; first | (rw [if_pos (by decide +kernel)]; kernel_rfl) | (rw [if_neg (by decide +kernel)]; exact ⟨rfl, rfl⟩))
    (fun os started H enc _ => lifted os started H enc)

/-- The statement. -/
theorem extCuts_holds : Rows.ExtCutsSaid := over
end Go.Proofs.Ytdfbbmaaonkjiaa.ECuts
