/-
  RtcpParses: the messages of any bytes, also of messages' with some of them others, or the error, are the document's. Conditions: the package's table of kinds reads as the program's text lays it (the tied card).
-/
import Derived.Test.YtcjmiidnhbmclaaDoorRtU
import Derived.Test.YtcjmiidnhbmclaaDoorRcU
import Derived.Test.YtcjmiidnhbmclaaDoorRtI
import Derived.Test.YtcjmiidnhbmclaaDoorRdP
import Derived.Test.YtcjmiidnhbmclaaDoorRcR
import Derived.Test.YtcjmiidnhbmclaaDoorRcS
import Derived.Test.YtcjmiidnhbmclaaDoorLiftB
import Derived.Laws.BitsAllLaws
import Derived.RegionTactic
import Derived.ChangeAlike
import Derived.Deep.RegionHeld3
namespace Go.Proofs.YtcjmiidnhbmclaaDoor.RParses
open Go.ChangeShapes Go.WideShapes Go.ChangeAt Go.RowKit
set_option maxRecDepth 1000000
set_option linter.unusedSimpArgs false

theorem few_mod {l : List (Ms × Sl)} (h : fewM (l.map Prod.fst) = true) (hf : ∀ x ∈ l, x.1.Fits) : (∀ x ∈ l, x.1.Fits ∧ x.1.Few) ∧ l.length ≤ 12 := by
  obtain ⟨h1, h2⟩ := fewM_yes h
  exact ⟨fun x hx => ⟨hf x hx, fewA_few (h1 x.1 (List.mem_map.2 ⟨x, hx, rfl⟩))⟩, by simpa using h2⟩
theorem own_setAt {w : World} {base : Nat} {t : TypeId} {A : Option Addr} {c n : Nat} {xs : List Value} (h : w.ownsRow base t 1 (.slice A n c) n xs) (i : Nat) (hi : i < n) :
    ∃ g, A = some ⟨g, 0, none⟩ ∧ base ≤ g ∧ g < w.heap.size ∧ w.cell? ⟨g, i, none⟩ = xs[i]? ∧ w.frozen? ⟨g, i, none⟩ = false ∧ ∀ u, (w.setCell ⟨g, i, none⟩ u).ownsRow base t 1 (.slice A n c) n (xs.set i u) := by
  obtain ⟨h1, h2⟩ := h
  rcases h2 with ⟨hv, h0⟩ | ⟨g, cap, cur, hv, hb, hg, hle, hm, hs, ht⟩
  · omega
  · injection hv with hA _ hc
    subst hA
    have hw : Whole w g t cur := hg
    refine ⟨g, rfl, hb, hw.lt, ?_, hw.free i, fun u => ⟨by simpa using h1, .inr ⟨g, cap, cur.setIfInBounds i u, by rw [hc], hb, hw.set i u, hle, hm, by simpa using hs, ?_⟩⟩⟩
    · rw [hw.cell, ← ht, List.getElem?_take, if_pos (by omega), Array.getElem?_toList]
    · rw [Array.toList_setIfInBounds, List.take_set, ht]
theorem u8s_set (l : List UInt8) (i : Nat) (b : UInt8) : (u8s l).set i (.int .u8 (b.toNat : Int)) = u8s (l.set i b) := by
  unfold u8s
  rw [List.map_set]
theorem u8s_at (l : List UInt8) (i : Nat) (b : UInt8) (h : l[i]? = some b) : (u8s l)[i]? = some (.int .u8 (b.toNat : Int)) := by simp [u8s, h]
def u16c (l : List Nat) : List Value := l.map fun (x : Nat) => .int .u16 (x : Int)
section
variable {H : Type} {enc : TypeId × Value → H} {W : World}
theorem u16_nat {l : List Int} (h : ∀ x ∈ l, (Lit.int .u16 x).wf = true) : ∃ m : List Nat, l = m.map (fun (x : Nat) => (x : Int)) ∧ ∀ x ∈ m, x < 65536 := by
  induction l with
  | nil => exact ⟨[], rfl, by simp⟩
  | cons a l ih =>
    obtain ⟨m, hm, hx⟩ := ih (fun x hx => h x (by simp [hx]))
    have ha := wf_u16 (h a (by simp))
    refine ⟨a.toNat :: m, by simp [hm, Int.toNat_of_nonneg ha.1], fun x hx' => ?_⟩
    rcases List.mem_cons.1 hx' with rfl | hx'
    · omega
    · exact hx x hx'
theorem open_u16s {r : Reach} {b0 : Nat} {v : Value} {d : DataW H} {p : List MemPlace} (hok : Value.okWide Tryd.prog W r b0 33 v) (h : DataW.Trod enc Tryd.prog W 0 (fun _ => true) true 33 v d p) :
    ∃ A c, ∃ l : List Nat, v = .slice A l.length c ∧ l.length ≤ maxLen ∧ Row W W.heap.size 1 A l.length (u16c l) ∧ ∀ x ∈ l, x < 65536 := by
  obtain ⟨A, c, l, rfl, hl, hr, _, _, hw⟩ := open_nums (k := .u16) Tryd.underlying33 Tryd.underlying34 (by kernel_rfl) hok h
  obtain ⟨m, rfl, hx⟩ := u16_nat hw
  refine ⟨A, c, m, by simp, by simpa using hl, ?_, hx⟩
  have e : (List.map (fun (x : Nat) => (x : Int)) m).map (Value.int .u16) = u16c m := by simp [u16c, Function.comp_def]
  rw [e] at hr
  simpa using hr
end
theorem putL_le (l : List Ms) : (putL l).1.length ≤ 1500 := by
  rcases putL_cases l with ⟨e, _, h⟩ | ⟨e, _, _⟩
  · rw [e]; exact h
  · rw [e]; simp
theorem xor_byte (a b : UInt8) : ∃ z : UInt8, bits .xor .u8 (a.toNat : Int) (b.toNat : Int) = (z.toNat : Int) := by
  have ha := a.toNat_lt
  have hb := b.toNat_lt
  refine ⟨a ^^^ b, ?_⟩
  rw [u8_xor_nat _ _ (by omega) (by omega), UInt8.toNat_xor]

set_option maxHeartbeats 6400000 in
theorem walk (w : World) (hF : Forms w) (A : Option Addr) (c : Nat) (l : List (Ms × Sl)) (hl : l.length ≤ maxLen) (h : CmRow w w.heap.size A l) (hfit : ∀ x ∈ l, x.1.Fits)
    (A1 : Option Addr) (c1 : Nat) (ats : List Nat) (_hl1 : ats.length ≤ maxLen) (h1 : Row w w.heap.size 1 A1 ats.length (u16c ats)) (hat : ∀ x ∈ ats, x < 65536)
    (A2 : Option Addr) (c2 : Nat) (xs : List UInt8) (_hl2 : xs.length ≤ maxLen) (h2 : Row w w.heap.size 1 A2 xs.length (u8s xs))
    (A3 : Option Addr) (c3 : Nat) (more : List UInt8) (_hl3 : more.length ≤ maxLen) (h3 : Row w w.heap.size 1 A3 more.length (u8s more)) :
    Calls Tryd.prog 4 #[.slice A l.length c, .slice A1 ats.length c1, .slice A2 xs.length c2, .slice A3 more.length c3] w fun e w' => e = .returned (.bool true) ∧ Below w.heap.size w w' := by
  obtain ⟨n, hn⟩ : ∃ n, l.length = n := ⟨_, rfl⟩
  obtain ⟨na, hna⟩ : ∃ n, ats.length = n := ⟨_, rfl⟩
  obtain ⟨nx, hnx⟩ : ∃ n, xs.length = n := ⟨_, rfl⟩
  obtain ⟨nm, hnm⟩ : ∃ n, more.length = n := ⟨_, rfl⟩
  rw [hn] at hl ⊢
  rw [hna] at h1 ⊢
  rw [hnx] at h2 ⊢
  rw [hnm] at h3 ⊢
  have H := Lib.hid h
  have HN := Lib.hid hn
  have HF := Lib.hid hfit
  have HFM := Lib.hid hF
  have H1 := Lib.hid h1
  have H2 := Lib.hid h2
  have H3 := Lib.hid h3
  have HAT := Lib.hid hat
  have HNA := Lib.hid hna
  have HNX := Lib.hid hnx
  have HNM := Lib.hid hnm
  clear h hn hfit hF h1 h2 h3 hat hna hnx hnm _hl1 _hl2 _hl3
  obtain ⟨b, hb⟩ : ∃ b, fewM (l.map Prod.fst) = b := ⟨_, rfl⟩
  have HW := Lib.hid hb
  clear hb
  go_enter Tryd.func4, Tryd.ntmps4
  go_wp2_with fail
  refine (awake9 w HFM.out).mono ?_
  rintro e w1 ⟨rfl, b1⟩
  have HB1 := Lib.hid b1
  have CW := few_any A c n l w1 ((H.out.below b1 (Nat.le_refl _)).more b1.size) HN.out hl
  rw [HW.out] at CW
  clear b1
  go_wp2_with fail
  refine CW.mono ?_
  rintro e w2 ⟨rfl, rfl⟩
  clear CW
  cases b with
  | false =>
    go_wp2_with fail
    go_ret
    exact ⟨rfl, HB1.out⟩
  | true =>
  by_cases g1 : (20 : Int) < (na : Int)
  · go_wp2_with fail
    go_ret
    exact ⟨rfl, HB1.out⟩
  by_cases g2 : (nx : Int) < (na : Int)
  · go_wp2_with fail
    go_ret
    exact ⟨rfl, HB1.out⟩
  by_cases g3 : (1600 : Int) < (nm : Int)
  · go_wp2_with fail
    go_ret
    exact ⟨rfl, HB1.out⟩
  obtain ⟨hf, h12⟩ := few_mod HW.out HF.out
  rw [HN.out] at h12
  have CP := rput_any A c n l w1 (HFM.out.next HB1.out) ((H.out.below HB1.out (Nat.le_refl _)).more HB1.out.size) HN.out hf (by omega)
  have hle := putL_le (l.map Prod.fst)
  obtain ⟨⟨bx, ex⟩, hpx⟩ : ∃ p, putL (l.map Prod.fst) = p := ⟨_, rfl⟩
  rw [hpx] at CP hle
  dsimp only at hle
  obtain ⟨nb, hnb⟩ : ∃ n, bx.length = n := ⟨_, rfl⟩
  rw [hnb] at hle
  have CPH : Hid (Calls Tryd.prog 11 #[.slice A n c] w1 fun e w' => (∃ (A' : Option Addr) (c' : Nat), e = .returned (.tuple #[.slice A' nb c', .int .i64 ex]) ∧ w'.ownsRow w1.heap.size 5 1 (.slice A' nb c') nb (u8s bx)) ∧ Below w1.heap.size w1 w') := Lib.hid (by
    have := CP
    unfold PutOut at this
    dsimp only at this
    rw [hnb] at this
    exact this)
  have HNB := Lib.hid hnb
  clear CP hpx hf hnb
  go_wp2_with fail
  refine CPH.out.mono ?_
  rintro e w3 ⟨⟨A4, c4, rfl, o3⟩, b3⟩
  have HO3 := Lib.hid o3
  have HB3 := Lib.hid (bnext HB1.out b3)
  have hw1 := HB1.out.size
  have HW1 := Lib.hid hw1
  clear CPH o3 b3 hw1
  go_wp2_with fail
  go_loopw [13] (fun i wr => ∃ (k : Nat) (bs : List UInt8), k ≤ na ∧ i = .int .i64 k ∧ bs.length = nb ∧ wr.ownsRow w1.heap.size 5 1 (.slice A4 nb c4) nb (u8s bs) ∧ Below w.heap.size w wr) (fun i _ => na - (intOf i).toNat)
  case atStart => exact ⟨0, bx, Nat.zero_le _, rfl, HNB.out, HO3.out, HB3.out⟩
  case round =>
    clear HB3 HO3
    obtain ⟨k, bs, hk, rfl, hbs, hown, hb⟩ := hrel
    by_cases hlt : k < na ∧ 0 < nb
    · obtain ⟨hlt, hnb0⟩ := hlt
      obtain ⟨a, ha⟩ : ∃ x, ats[k]? = some x := ⟨ats[k]'(by rw [HNA.out]; exact hlt), by simp⟩
      obtain ⟨x, hx⟩ : ∃ x, xs[k]? = some x := ⟨xs[k]'(by rw [HNX.out]; omega), by simp⟩
      have hab := HAT.out a (List.mem_of_getElem? ha)
      obtain ⟨g1', o1, rfl, _, hc1⟩ := (H1.out.below hb (Nat.le_refl _)).2 (by omega)
      obtain ⟨g2', o2, rfl, _, hc2⟩ := (H2.out.below hb (Nat.le_refl _)).2 (by omega)
      have q1 := hc1 k (.int .u16 (a : Int)) (by simp [u16c, ha])
      have q2 := hc2 k (.int .u8 (x.toNat : Int)) (u8s_at xs k x hx)
      obtain ⟨idx, hidx⟩ : ∃ i, a % nb = i := ⟨_, rfl⟩
      have hib : idx < nb := by rw [← hidx]; exact Nat.mod_lt _ hnb0
      obtain ⟨y, hy⟩ : ∃ y, bs[idx]? = some y := ⟨bs[idx]'(by omega), by simp⟩
      obtain ⟨gb, rfl, hgb, _, q3, f3, hset⟩ := own_setAt hown idx hib
      rw [u8s_at bs idx y hy] at q3
      obtain ⟨z, hz⟩ := xor_byte y x
      have HO : Hid ((wr.setCell ⟨gb, idx, none⟩ (.int .u8 (z.toNat : Int))).ownsRow w1.heap.size 5 1 (.slice (some ⟨gb, 0, none⟩) nb c4) nb (u8s (bs.set idx z))) := Lib.hid (by rw [← u8s_set]; exact hset _)
      have HBN : Hid (Below w.heap.size w (wr.setCell ⟨gb, idx, none⟩ (.int .u8 (z.toNat : Int)))) := Lib.hid (hb.setCell (p := ⟨gb, idx, none⟩) (by have := HW1.out; dsimp only; omega) _)
      have HLN : Hid ((bs.set idx z).length = nb) := Lib.hid (by rw [List.length_set]; exact hbs)
      have i1 : (0 : Int) ≤ (k : Int) := by omega
      have i2 : (k : Int) < (na : Int) := by omega
      have i3 : (k : Int) < (nx : Int) := by omega
      have i4 : (0 : Int) ≤ (idx : Int) := by omega
      have i5 : (idx : Int) < (nb : Int) := by omega
      have i6 : (0 : Int) < (nb : Int) := by omega
      have i7 : ¬ (nb : Int) = 0 := by omega
      have hm1 : (a : Int) % (nb : Int) = (idx : Int) := by rw [← hidx]; simp
      have hm2 : Int.tmod (a : Int) (nb : Int) = (idx : Int) := by rw [Int.tmod_eq_emod_of_nonneg (by omega)]; exact hm1
      have hw16 : IntKind.i64.wrap (a : Int) = (a : Int) := i64_nat9d a (by omega)
      clear hidx hy hx ha hset hown hb hc1 hc2 hbs hab
      go_wp2_with fail
      go_region
      have HO2 := Lib.hid HO.out.drew
      have HB2 := Lib.hid HBN.out.drew
      clear HO HBN q1 q2 q3 f3 hm1 hm2 hw16 i4 i5 i6 i7
      go_wp2
      go_roundw
      case rel => exact ⟨k + 1, bs.set idx z, by omega, by go_num, HLN.out, HO2.out, HB2.out⟩
      case measure => simp [intOf]; omega
    · obtain ⟨wa, hwa⟩ : ∃ wa, wa = wr := ⟨_, rfl⟩
      rw [← hwa] at hown hb ⊢
      clear hwa
      have HOB := Lib.hid hown
      have HBB := Lib.hid hb
      have HBS := Lib.hid hbs
      clear hown hb hbs
      have hex : (¬ (k : Int) < (na : Int)) ∨ ((k : Int) < (na : Int) ∧ ¬ (0 : Int) < (nb : Int)) := by omega
      clear hlt
      rcases hex with hex | ⟨hex, hex2⟩
      all_goals
        go_wp2_with fail
        go_loopw [11, 14] (fun b i wr => ∃ (k : Nat) (Ab : Option Addr) (cb nb2 : Nat) (bs2 : List UInt8), k ≤ 2 ∧ i = .int .i64 k ∧ b = .slice Ab nb2 cb ∧ bs2.length = nb2 ∧ nb2 ≤ 1600 ∧ Row wr wr.heap.size 1 Ab nb2 (u8s bs2) ∧ Below w.heap.size w wr) (fun _ i _ => 2 - (intOf i).toNat)
        case atStart => exact ⟨0, A4, c4, nb, bs, by omega, rfl, rfl, HBS.out, by omega, Row.of_own HOB.out, HBB.out⟩
        case round =>
          clear HOB HBB HBS hex
          obtain ⟨j, Ab, cb, nb2, bs2, hj, rfl, rfl, hbs2, hnb2, hrow, hb⟩ := hrel
          by_cases hj2 : (j : Int) < 2
          · have CP := rparse_any Ab cb nb2 bs2 wr (HFM.out.next hb) hrow hbs2 (by omega)
            obtain ⟨⟨pl, pe⟩, hpl⟩ : ∃ p, parseL bs2 = p := ⟨_, rfl⟩
            have HPL := Lib.hid hpl
            have HFIT := Lib.hid (parseL_fits bs2)
            unfold ParseOut at CP
            rw [hpl] at CP
            have CPH := Lib.hid CP
            have HROW := Lib.hid hrow
            have HB := Lib.hid hb
            have HBS2 := Lib.hid hbs2
            clear CP hpl hrow hb hbs2
            go_wp2_with fail
            refine CPH.out.mono ?_
            rintro e w4 ⟨⟨A5, c5, k5, l5, rfl, hk5, hm5, r5⟩, b4⟩
            have hsr := HB.out.size
            have HB4 := Lib.hid (bnext HB.out b4)
            have row4 := (HROW.out.below b4 (Nat.le_refl _)).more b4.size
            have ht4 := run_text (P := Tryd.prog) w4 25 5 9 Tryd.underlying25 Tryd.underlying5 Tryd.underlying9 _ _ _ cb _ row4
            have CR := refparse_any bs2 w4 (by have := HBS2.out; omega)
            unfold RefParse at CR
            rw [HPL.out] at CR
            have CRH := Lib.hid CR
            have HM5 := Lib.hid hm5
            have HR5 := Lib.hid r5
            have HK5 := Lib.hid hk5
            have HRW4 := Lib.hid row4
            clear CR CPH b4 row4 hm5 r5 hk5 HROW
            go_wp2_with fail
            refine CRH.out.mono ?_
            rintro e w5 ⟨⟨A6, c6, k6, l6, rfl, hk6, hm6, r6⟩, b5⟩
            have hk65 : k6 = k5 := by
              have h6 := congrArg List.length hm6
              have h5 := congrArg List.length HM5.out
              rw [List.length_map] at h6 h5
              have := HK5.out
              omega
            subst hk65
            have hk375 : k6 ≤ 375 := by
              have h6 := congrArg List.length hm6
              rw [List.length_map] at h6
              have := HFIT.out.2
              rw [HPL.out] at this
              dsimp only at this
              omega
            have HMOD : Hid (∀ m ∈ pl, m.Fits ∧ m.Mod) := Lib.hid (by have := HFIT.out.1; rwa [HPL.out] at this)
            have row5 := (HRW4.out.below b5 (Nat.le_refl _)).more b5.size
            have HB5 := Lib.hid (bnext HB4.out b5)
            have hs5 := b5.size
            have HR5B := Lib.hid ((HR5.out.below b5 (Nat.le_refl _)).more b5.size)
            have HR6 := Lib.hid r6
            have HM6 := Lib.hid hm6
            have HK6 := Lib.hid hk6
            obtain ⟨bi, hbi⟩ : ∃ b, isB bs2 = b := ⟨_, rfl⟩
            have HBI := Lib.hid hbi
            have HROW5 := Lib.hid row5
            have KEEP := Lib.hid (fun w' (b : Below w5.heap.size w5 w') => show (convert 25 9 (.slice Ab nb2 cb)).run Tryd.prog w' = .ok (.string (str bs2)) w' from
              run_text (P := Tryd.prog) w' 25 5 9 Tryd.underlying25 Tryd.underlying5 Tryd.underlying9 _ _ _ cb _ ((HROW5.out.below b (Nat.le_refl _)).more b.size))
            have CALL := Lib.hid (fun w' (b : Below w5.heap.size w5 w') => show Calls Tryd.prog 13 #[.slice A5 k6 c5] w' (fun e w'' => (∃ (A7 : Option Addr) (c7 : Nat) (l7 : List (Ms × Sl)), e = .returned (.slice A7 k6 c7) ∧ l7.map Prod.fst = pl ∧ MsRow w'' w''.heap.size A7 l7) ∧ Below w5.heap.size w5 w'') from
              (all_any A5 c5 k6 l5 w' ((HR5B.out.below b (Nat.le_refl _)).more b.size) HK5.out (fun x hx => HMOD.out x.1 (by rw [← HM5.out]; exact List.mem_map.2 ⟨x, hx, rfl⟩)) (by omega)).mono fun e w'' hh => by
                obtain ⟨⟨A7, c7, l7, he, hm, hr⟩, hb⟩ := hh
                exact ⟨⟨A7, c7, l7, he, by rw [hm, HM5.out], hr⟩, bnext b hb⟩)
            have CSAME := Lib.hid (fun w' (A7 : Option Addr) (c7 : Nat) (l7 : List (Ms × Sl)) (b : Below w5.heap.size w5 w') (hm : l7.map Prod.fst = pl) (hr : MsRow w' w'.heap.size A7 l7) => show Calls Tryd.prog 16 #[.slice A7 k6 c7, .slice A6 k6 c6] w' (fun e w'' => e = .returned (.bool true) ∧ Below w5.heap.size w5 w'') from by
              have h7 : l7.length = k6 := by
                have h6 := congrArg List.length HM6.out
                have h5 := congrArg List.length hm
                rw [List.length_map] at h6 h5
                have := HK6.out
                omega
              have C := same_any A7 A6 c7 c6 k6 k6 l7 l6 w' hr ((HR6.out.below b (Nat.le_refl _)).more b.size) h7 HK6.out (fun x hx => (HMOD.out x.1 (by rw [← hm]; exact List.mem_map.2 ⟨x, hx, rfl⟩)).2) (fun x hx => (HMOD.out x.1 (by rw [← HM6.out]; exact List.mem_map.2 ⟨x, hx, rfl⟩)).2) (by omega) (by omega)
              rw [show decide (l7.map Prod.fst = l6.map Prod.fst) = true by rw [hm, HM6.out]; exact decide_eq_true rfl] at C
              exact C.mono fun e w'' hh => ⟨hh.1, bnext b hh.2⟩)
            have CIS := Lib.hid (fun w' (b : Below w5.heap.size w5 w') => show Calls Tryd.prog 17 #[.slice Ab nb2 cb] w' (fun e w'' => e = .returned (.bool bi) ∧ Below w5.heap.size w5 w'') from by
              have C := is_any Ab cb nb2 bs2 w' ((HROW5.out.below b (Nat.le_refl _)).more b.size) HBS2.out (by omega)
              rw [HBI.out] at C
              exact C.mono fun e w'' hh => ⟨hh.1, bnext b hh.2⟩)
            have CRI := Lib.hid (fun w' (b : Below w5.heap.size w5 w') => show Calls Tryd.prog 18 #[.string (str bs2)] w' (fun e w'' => e = .returned (.bool bi) ∧ Below w5.heap.size w5 w'') from by
              have C := refIs_any bs2 w' (by have := HBS2.out; unfold maxLen; omega)
              rw [HBI.out] at C
              exact C.mono fun e w'' hh => ⟨hh.1, by rw [← hh.2]; exact b⟩)
            clear CRH ht4 b5 row5 r6 hm6 hk6 hbi HRW4 HR5 HB4
            go_wp2_with fail
            go_region_held3 (fun w' => Below w5.heap.size w5 w' ∧ (convert 25 9 (.slice Ab nb2 cb)).run Tryd.prog w' = .ok (.string (str bs2)) w')
              (first | with_reducible exact ⟨(Below.refl _ _).drew, KEEP.out _ (Below.refl _ _).drew⟩ | (refine ⟨?_, KEEP.out _ ?_⟩ <;> with_reducible assumption) | go_keep)
              (first
                | (go_at_call 13; refine (CALL.out _ (by first | with_reducible exact (Below.refl _ _).drew | with_reducible assumption)).mono ?_; rintro e w6 ⟨⟨A7, c7, l7, rfl, hm7, r7⟩, bb6⟩)
                | (go_at_call 16; refine (CSAME.out _ A7 c7 l7 (by with_reducible assumption) hm7 r7).mono ?_; rintro e w7 ⟨rfl, bb7⟩)
                | (go_at_call 17; refine (CIS.out _ (by with_reducible assumption)).mono ?_; rintro e w8 ⟨rfl, bb8⟩)
                | (go_at_call 18; refine (CRI.out _ (by with_reducible assumption)).mono ?_; rintro e w9 ⟨rfl, bb9⟩))
            have HB9 := Lib.hid (bnext HB5.out bb9)
            clear CALL CSAME CIS CRI KEEP HROW5 HR5B HR6 HM6 HK6 HBI hm7 r7 bb6 bb7 bb8 bb9 HM5 HK5 HMOD HFIT HPL
            have R3 : Hid (Row w9 w9.heap.size 1 A3 nm (u8s more)) := Lib.hid ((H3.out.below HB9.out (Nat.le_refl _)).more HB9.out.size)
            go_wp2
            go_roundw
            case rel => exact ⟨j + 1, A3, c3, nm, more, by omega, by go_num, rfl, HNM.out, by omega, R3.out, HB9.out⟩
            case measure => simp [intOf]; omega
          · obtain rfl : 2 = j := by omega
            have HB := Lib.hid hb
            clear hrow hb hbs2
            go_wp2_with fail
            go_ret
            exact ⟨rfl, HB.out⟩
set_option maxRecDepth 100000 in
theorem lifted (os : Os) (started : os.Started) (H : Type) (enc : TypeId × Value → H) :
    ReturnsInHanded {} Tryd.checked os 4 .any (fun w args => (Rows.rtcpParsesSpec.pre enc Tryd.prog Tryd.f4 [] false w args ∧ laidMetH Tryd.prog laid9 w) ∧ sizedMet enc Tryd.prog Tryd.f4 (OpenSpec.ofChange Rows.rtcpParsesSpec) false w args) (Rows.rtcpParsesSpec.post enc Tryd.prog Tryd.f4 false true false false) := by
  refine returnsInHanded_of_change_and (C := Tryd.checked) (X := fun w _ => laidMetH Tryd.prog laid9 w) (fun _ _ _ hh h => h.of_heap hh) own9 started (by kernel_rfl) Tryd.func4
    (ChangeSpec.witness_shaped (enc := enc) (C := Tryd.checked) (os := os) (X := fun w _ => laidMetH Tryd.prog laid9 w) false (World.doorLaid Tryd.prog 400 os) #[.slice none 0 0, .slice none 0 0, .slice none 0 0, .slice none 0 0] 8 rfl (World.shaped_of_RefB (by kernel_rfl) (by kernel_rfl)) (by kernel_rfl) (by kernel_rfl) (by kernel_rfl) (door_met os _)) ?_
  intro W base args ds gs before hval0 hW _ _ hL _
  have hval : ∀ (j : Nat) t v, Tryd.f4.params[j]? = some t → args[j]? = some v → Value.okWide Tryd.prog W .any base t v := hval0
  have hW' := hW
  obtain ⟨p, q, hA0, hV, _, _, _⟩ := hW
  have hA : DataW.TrodAll enc Tryd.prog W 0 (fun _ => true) true Tryd.f4.params.toList args.toList ds p := hA0
  rw [Tryd.params4] at hA hval
  obtain ⟨v0, vs0, d0, ds0, p0, q0, hargs, rfl, _, h0, r0⟩ := trodAll_cons hA
  obtain ⟨v1, vs1, d1, ds1, p1, q1, rfl, rfl, _, h1, r1⟩ := trodAll_cons r0
  obtain ⟨v2, vs2, d2, ds2, p2, q2, rfl, rfl, _, h2, r2⟩ := trodAll_cons r1
  obtain ⟨v3, vs3, d3, ds3, p3, q3, rfl, rfl, _, h3, r3⟩ := trodAll_cons r2
  obtain ⟨rfl, rfl, _⟩ := trodAll_nil r3
  obtain rfl : args = #[v0, v1, v2, v3] := by cases args; simp_all
  obtain ⟨rfl, _⟩ := trodVars_none hV
  refine law_post (s := Rows.rtcpParsesSpec) rfl rfl (by rw [Tryd.params4]; intro t ht; simp at ht; rcases ht with rfl | rfl | rfl | rfl <;> exact ⟨by kernel_rfl, of_decide_eq_true (by kernel_rfl)⟩) rfl hW' ?_
  obtain ⟨A0, c0, l0, rfl, hl0, hr0, hf0, _, _⟩ := open_msgs (hval 0 22 v0 rfl rfl) h0
  obtain ⟨A1, c1, l1, rfl, hl1, hr1, hx1⟩ := open_u16s (hval 1 33 v1 rfl rfl) h1
  obtain ⟨A2, c2, l2, rfl, hl2, hr2, _, _⟩ := open_bytes (hval 2 25 v2 rfl rfl) h2
  obtain ⟨A3, c3, l3, rfl, hl3, hr3, _, _⟩ := open_bytes (hval 3 25 v3 rfl rfl) h3
  exact walk W (forms_of_laid hL) A0 c0 l0 hl0 hr0 hf0 A1 c1 l1 hl1 hr1 hx1 A2 c2 l2 hl2 hr2 A3 c3 l3 hl3 hr3

theorem over : Rows.RtcpParsesSaid :=
  OpenClaim.holds_of_wide 4 Tryd.f4 rfl rfl rfl rfl rfl rfl rfl ⟨rfl, rfl, rfl, rfl, rfl⟩ rfl rfl rfl rfl rfl (by kernel_rfl) Tryd.func4 (by kernel_rfl)
    (of_decide_eq_true (by kernel_rfl)) (by unfold Func.isWrapper; first | (rw [if_pos (by decide +kernel)]; kernel_rfl) | (rw [if_neg (by decide +kernel)]; exact ⟨rfl, rfl⟩))
    (fun os started H enc _ => lifted os started H enc)

/-- The statement: the tied card. -/
theorem rtcpParses_holds : Rows.RtcpParsesCardSaid :=
  Claim7.holds_tied_plain_at .later [] [.data] true (true, "43220aab9b1970ee321f7e0974090884d79636b54e389793af709f370493d7b1") false
    over (fun _ h => by cases h) (by kernel_rfl) (fun _ h => by cases h) rtcpParses_row_tie rfl ⟨rfl, rfl⟩ (by kernel_rfl) rfl
    (fun f fn hf hfn => by
      obtain rfl : f = 4 := Option.some.inj ((show Tryd.prog.funcNamed "louver/louverlaw09.RtcpParses" = some 4 by kernel_rfl).symm.trans hf) |>.symm
      obtain rfl : fn = Tryd.f4 := (Option.some.inj (Tryd.func4.symm.trans hfn)).symm
      exact ⟨by kernel_rfl, fun j t ht => by
        rw [Tryd.params4] at ht
        have hm : t ∈ [22, 33, 25, 25] := by simpa using Array.mem_of_getElem? ht
        have hall : ([22, 33, 25, 25].all fun u => !Tryd.prog.wantsStandIn u) = true := by kernel_rfl
        exact (show Tryd.prog.wantsStandIn t = false by simpa using List.all_eq_true.1 hall t hm)⟩)
    (by kernel_rfl)
end Go.Proofs.YtcjmiidnhbmclaaDoor.RParses
