/-
  The contract of the document's Parse of layer 5.
-/
import Derived.Test.YtdfbbmaaonkjiaaExtI
namespace Go.Proofs.Ytdfbbmaaonkjiaa
open Go.RowKit

theorem str_full (f : UInt8) (r : List UInt8) : (str (f :: r)).toList.isEmpty = false := by rw [ByteArray.toList_eq, str_data]; rfl
theorem str_one (f : UInt8) (r : List UInt8) : (str (f :: r)).extract 1 (r.length + 1) = str r := by
  rw [str_extract]
  simp
theorem str_mid (f : UInt8) (r : List UInt8) (n : Nat) : (str (f :: r)).extract 1 (1 + n) = str (r.take n) := by
  rw [str_extract, Nat.add_comm 1 n, List.take_succ_cons]
  rfl
theorem str_rest (f : UInt8) (r : List UInt8) (n : Nat) : (str (f :: r)).extract (1 + n) (r.length + 1) = str (r.drop n) := by
  rw [str_extract, List.take_of_length_le (by simp), Nat.add_comm 1 n, List.drop_succ_cons]
theorem str_mid2 (f b : UInt8) (r : List UInt8) (n : Nat) : (str (f :: b :: r)).extract 2 (2 + n) = str (r.take n) := by
  rw [str_extract, Nat.add_comm 2 n, List.take_succ_cons, List.take_succ_cons]
  rfl
theorem str_rest2 (f b : UInt8) (r : List UInt8) (n : Nat) : (str (f :: b :: r)).extract (2 + n) (r.length + 1 + 1) = str (r.drop n) := by
  rw [str_extract, List.take_of_length_le (by simp), Nat.add_comm 2 n, List.drop_succ_cons, List.drop_succ_cons]
/-- What the document's Parse tells: the items and the error R. -/
def RefParsed (R : List It × Int) (w : World) (e : Ending) (w' : World) : Prop :=
  ∃ A c, e = .returned (.tuple #[.slice A R.1.length c, .int .i64 R.2]) ∧ Row w' w'.heap.size 2 A R.1.length (itC R.1) ∧ Below w.heap.size w w'
theorem RefParsed.none (w : World) (er : Int) {w' : World} (hb : Below w.heap.size w w') : RefParsed ([], er) w (.returned (.tuple #[.slice none 0 0, .int .i64 er])) w' :=
  ⟨.none, 0, rfl, Row.nil, hb⟩

set_option maxRecDepth 100000 in
set_option maxHeartbeats 3200000 in
theorem refParse_S (b : List UInt8) (w : World) (hl : b.length ≤ 65536) :
    Calls Try.prog 15 #[.int .u16 48862, .string (str b)] w (RefParsed (pr nxS [] b) w) := by
  obtain ⟨R, hR⟩ : ∃ R, R = pr nxS [] b := ⟨_, rfl⟩
  rw [← hR]
  have HR := Lib.hid hR
  clear hR
  go_enter Try.func15, Try.ntmps15
  go_wp2_with fail
  go_loopw [1, 6] (fun s v wr => ∃ (acc : List It) (rest : List UInt8), s = .string (str rest) ∧ wr.ownsRow w.heap.size 42 2 v acc.length (itC acc) ∧ Below w.heap.size w wr ∧ Hid (pr nxS acc rest = R) ∧ acc.length ≤ 14 ∧ rest.length ≤ 65536) (fun s _ _ => strV s)
  case atStart => exact ⟨[], b, rfl, World.ownsRow_nil _ _ _ _, Below.refl _ _, HR.out.symm, by simp, hl⟩
  case round =>
    obtain ⟨acc, rest, rfl, hown, hb, hp, ha, hlr⟩ := hrel
    obtain ⟨Av, cv, rfl⟩ := own_form hown
    cases rest with
    | nil =>
      have HF := Lib.hid (show RefParsed R w (.returned (.tuple #[.slice Av acc.length cv, .int .i64 0])) wr from by
        rw [← hp.out, pr_nil]
        exact ⟨Av, cv, rfl, Row.of_own hown, hb⟩)
      have hnil : (str [] : ByteArray) = ⟨#[]⟩ := rfl
      rw [hnil]
      clear hown hb hp hnil
      go_wp2
      go_ret2
      exact HF.out
    | cons f r =>
      have hsz : (str (f :: r)).size = r.length + 1 := by rw [str_size]; rfl
      have hne := str_full f r
      have hfb := f.toNat_lt
      have hown' := Lib.hid hown
      have HB := Lib.hid hb
      clear hown hb
      by_cases hf0 : f = 0
      · subst hf0
        have HN : Hid (pr nxS acc r = R) := by show _ = _; rw [← hp.out, pr_zero nxS_shr]
        clear hp
        have hx : (str (0 :: r)).extract 1 (r.length + 1) = str r := str_one 0 r
        have hd : strV (.string (str r)) < strV (.string (str ((0 : UInt8) :: r))) := by simp [strV, str_size]
        have HX := Lib.hid hd
        clear hd
        go_wp2
        go_roundw
        case rel => exact ⟨acc, r, rfl, hown'.out, HB.out, HN, ha, by simp at hlr; omega⟩
        case measure => exact HX.out
      · have hfn : ¬ (f.toNat : Int) = 0 := fun e => hf0 (UInt8.toNat_inj.1 (by rw [show (0 : UInt8).toNat = 0 from rfl]; omega))
        have hget : ∀ h, (str (f :: r))[0]'h = f := fun h => by rw [str_get]; rfl
        by_cases h15 : f.toNat / 16 = 15
        · have HF := Lib.hid (show RefParsed R w (.returned (.tuple #[.slice Av acc.length cv, .int .i64 0])) wr from by
            rw [← hp.out, pr_stop hf0 (by unfold nxS; rw [if_neg (by omega), if_pos h15])]
            exact ⟨Av, cv, rfl, Row.of_own hown'.out, HB.out⟩)
          have t15 : (f.toNat : Int) / 16 = 15 := by omega
          clear h15 hp
          go_wp2
          go_ret2
          exact HF.out
        by_cases h0 : f.toNat / 16 = 0
        · have HF := Lib.hid (show RefParsed R w (.returned (.tuple #[.slice none 0 0, .int .i64 11])) wr from by
            rw [← hp.out, pr_bad hf0 (by unfold nxS; rw [if_pos h0])]
            exact RefParsed.none w 11 HB.out)
          have t15 : ¬ (f.toNat : Int) / 16 = 15 := by omega
          have t0 : (f.toNat : Int) / 16 = 0 := by omega
          clear h0 h15 hp
          go_wp2
          go_ret2
          exact HF.out
        have t15 : ¬ (f.toNat : Int) / 16 = 15 := by omega
        have t0 : ¬ (f.toNat : Int) / 16 = 0 := by omega
        by_cases hs : r.length < f.toNat % 16 + 1
        · have HF := Lib.hid (show RefParsed R w (.returned (.tuple #[.slice none 0 0, .int .i64 10])) wr from by
            rw [← hp.out, pr_bad hf0 (by unfold nxS; rw [if_neg h0, if_neg h15, if_pos hs])]
            exact RefParsed.none w 10 HB.out)
          have ts : (r.length : Int) + 1 < 1 + ((f.toNat : Int) % 16 + 1) := by omega
          clear h0 h15 hp
          go_wp2
          go_ret2
          exact HF.out
        have ts : ¬ (r.length : Int) + 1 < 1 + ((f.toNat : Int) % 16 + 1) := by omega
        have hit : nxS f r = .item ⟨UInt8.ofNat (f.toNat / 16), r.take (f.toNat % 16 + 1)⟩ (r.drop (f.toNat % 16 + 1)) := by unfold nxS; rw [if_neg h0, if_neg h15, if_neg hs]
        by_cases h14 : acc.length = 14
        · have HF := Lib.hid (show RefParsed R w (.returned (.tuple #[.slice none 0 0, .int .i64 13])) wr from by
            rw [← hp.out, pr_full hf0 hit h14]
            exact RefParsed.none w 13 HB.out)
          have t14 : (acc.length : Int) = 14 := by omega
          clear h0 h15 hp hit
          go_wp2
          go_ret2
          exact HF.out
        have t14 : ¬ (acc.length : Int) = 14 := by omega
        have HN : Hid (pr nxS (acc ++ [⟨UInt8.ofNat (f.toNat / 16), r.take (f.toNat % 16 + 1)⟩]) (r.drop (f.toNat % 16 + 1)) = R) := by show _ = _; rw [← hp.out, pr_item nxS_shr hf0 hit h14]
        have e4 : ((UInt8.ofNat (f.toNat / 16)).toNat : Int) = (f.toNat : Int) / 16 := by rw [UInt8.toNat_ofNat']; omega
        have E4 := Lib.hid e4
        have hx := str_mid f r (f.toNat % 16 + 1)
        have hy := str_rest f r (f.toNat % 16 + 1)
        have hd : strV (.string (str (r.drop (f.toNat % 16 + 1)))) < strV (.string (str (f :: r))) := by simp [strV, str_size]; omega
        have HD := Lib.hid hd
        have hzs := HB.out.size
        simp only [List.length_cons] at hlr
        have hdl : (r.drop (f.toNat % 16 + 1)).length ≤ 65536 := by simp; omega
        have HDL := Lib.hid hdl
        generalize r.take (f.toNat % 16 + 1) = dd at hx HN
        clear h0 h15 hp hit e4 hd hdl
        go_wp2_with (at_builtin; go_loud (refine wpl_append _ rfl (.tmp 59) (.tmp 68) 32 rfl w.heap.size 42 (.agg #[.int .u8 0, .string ⟨#[]⟩]) 2 24 Try.underlying32 info_I rfl (by decide) _ _ _ rfl (hown'.out.alloc _) _ _ 1 1 [.int .u8 ((f.toNat : Int) / 16), .string (str dd)] rfl (Row.fresh _ _ _ 2 1 _ rfl rfl) (by simp [Value.oneCell']) ?c1 ?c2 ?c3 ?_))
        case c1 => unfold maxLen; omega
        case c2 => omega
        case c3 => first | omega | (simp; omega)
        intro v4 w4 own4 g4 _
        have B4 := (HB.out.alloc hzs _).grown g4 (by simp; omega) (fun q hq => (hown'.out.lt q hq).1)
        have RR : w4.ownsRow w.heap.size 42 2 v4 (acc ++ [(⟨UInt8.ofNat (f.toNat / 16), dd⟩ : It)]).length (itC (acc ++ [⟨UInt8.ofNat (f.toNat / 16), dd⟩])) := by
          rw [itC_snoc, List.length_append, E4.out]
          exact own4
        clear own4 g4 hown' HB
        go_wp2
        go_roundw
        case rel => exact ⟨_, r.drop (f.toNat % 16 + 1), by first | rfl | rw [hy] | rw [← hy], RR, B4, HN, by simp; omega, HDL.out⟩
        case measure => first | exact HD.out | (rw [hy]; exact HD.out)

set_option maxRecDepth 100000 in
set_option maxHeartbeats 3200000 in
theorem refParse_L (p : Int) (hp1 : 4096 ≤ p) (hp2 : p ≤ 4111) (b : List UInt8) (w : World) (hl : b.length ≤ 65536) :
    Calls Try.prog 15 #[.int .u16 p, .string (str b)] w (RefParsed (pr nxL [] b) w) := by
  obtain ⟨R, hR⟩ : ∃ R, R = pr nxL [] b := ⟨_, rfl⟩
  rw [← hR]
  have HR := Lib.hid hR
  have hp0 : ¬ p = 48862 := by omega
  clear hR
  go_enter Try.func15, Try.ntmps15
  go_wp2_with fail
  go_loopw [1, 6] (fun s v wr => ∃ (acc : List It) (rest : List UInt8), s = .string (str rest) ∧ wr.ownsRow w.heap.size 42 2 v acc.length (itC acc) ∧ Below w.heap.size w wr ∧ Hid (pr nxL acc rest = R) ∧ acc.length ≤ 14 ∧ rest.length ≤ 65536) (fun s _ _ => strV s)
  case atStart => exact ⟨[], b, rfl, World.ownsRow_nil _ _ _ _, Below.refl _ _, HR.out.symm, by simp, hl⟩
  case round =>
    obtain ⟨acc, rest, rfl, hown, hb, hp, ha, hlr⟩ := hrel
    obtain ⟨Av, cv, rfl⟩ := own_form hown
    cases rest with
    | nil =>
      have HF := Lib.hid (show RefParsed R w (.returned (.tuple #[.slice Av acc.length cv, .int .i64 0])) wr from by
        rw [← hp.out, pr_nil]
        exact ⟨Av, cv, rfl, Row.of_own hown, hb⟩)
      have hnil : (str [] : ByteArray) = ⟨#[]⟩ := rfl
      rw [hnil]
      clear hown hb hp hnil
      go_wp2
      go_ret2
      exact HF.out
    | cons f r =>
      have hsz : (str (f :: r)).size = r.length + 1 := by rw [str_size]; rfl
      have hne := str_full f r
      have hfb := f.toNat_lt
      have hown' := Lib.hid hown
      have HB := Lib.hid hb
      clear hown hb
      by_cases hf0 : f = 0
      · subst hf0
        have HN : Hid (pr nxL acc r = R) := by show _ = _; rw [← hp.out, pr_zero nxL_shr]
        clear hp
        have hx : (str (0 :: r)).extract 1 (r.length + 1) = str r := str_one 0 r
        have hd : strV (.string (str r)) < strV (.string (str ((0 : UInt8) :: r))) := by simp [strV, str_size]
        have HX := Lib.hid hd
        clear hd
        go_wp2
        go_roundw
        case rel => exact ⟨acc, r, rfl, hown'.out, HB.out, HN, ha, by simp at hlr; omega⟩
        case measure => exact HX.out
      · have hfn : ¬ (f.toNat : Int) = 0 := fun e => hf0 (UInt8.toNat_inj.1 (by rw [show (0 : UInt8).toNat = 0 from rfl]; omega))
        have hget : ∀ h, (str (f :: r))[0]'h = f := fun h => by rw [str_get]; rfl
        cases r with
        | nil =>
          have HF := Lib.hid (show RefParsed R w (.returned (.tuple #[.slice none 0 0, .int .i64 10])) wr from by
            rw [← hp.out, pr_bad hf0 (e := 10) rfl]
            exact RefParsed.none w 10 HB.out)
          clear hp
          go_wp2
          go_ret2
          exact HF.out
        | cons c r1 =>
          have hcb := c.toNat_lt
          have hget1 : ∀ h, (str (f :: c :: r1))[1]'h = c := fun h => by rw [str_get]; rfl
          simp only [List.length_cons] at hlr hsz
          by_cases hs : r1.length < c.toNat
          · have HF := Lib.hid (show RefParsed R w (.returned (.tuple #[.slice none 0 0, .int .i64 10])) wr from by
              rw [← hp.out, pr_bad hf0 (by unfold nxL; simp only; rw [if_pos hs])]
              exact RefParsed.none w 10 HB.out)
            have ts : (r1.length : Int) + 1 + 1 < 2 + (c.toNat : Int) := by omega
            clear hp
            go_wp2
            go_ret2
            exact HF.out
          have ts : ¬ (r1.length : Int) + 1 + 1 < 2 + (c.toNat : Int) := by omega
          have hit : nxL f (c :: r1) = .item ⟨f, r1.take c.toNat⟩ (r1.drop c.toNat) := by unfold nxL; simp only; rw [if_neg hs]
          by_cases h14 : acc.length = 14
          · have HF := Lib.hid (show RefParsed R w (.returned (.tuple #[.slice none 0 0, .int .i64 13])) wr from by
              rw [← hp.out, pr_full hf0 hit h14]
              exact RefParsed.none w 13 HB.out)
            have t14 : (acc.length : Int) = 14 := by omega
            clear hp hit
            go_wp2
            go_ret2
            exact HF.out
          have t14 : ¬ (acc.length : Int) = 14 := by omega
          have HN : Hid (pr nxL (acc ++ [⟨f, r1.take c.toNat⟩]) (r1.drop c.toNat) = R) := by show _ = _; rw [← hp.out, pr_item nxL_shr hf0 hit h14]
          have hx := str_mid2 f c r1 c.toNat
          have hy := str_rest2 f c r1 c.toNat
          have hd : strV (.string (str (r1.drop c.toNat))) < strV (.string (str (f :: c :: r1))) := by simp [strV, str_size]; omega
          have HD := Lib.hid hd
          have hzs := HB.out.size
          have hdl : (r1.drop c.toNat).length ≤ 65536 := by simp; omega
          have HDL := Lib.hid hdl
          generalize r1.take c.toNat = dd at hx HN
          clear hp hit hd hdl
          go_wp2_with (at_builtin; go_loud (refine wpl_append _ rfl (.tmp 59) (.tmp 68) 32 rfl w.heap.size 42 (.agg #[.int .u8 0, .string ⟨#[]⟩]) 2 24 Try.underlying32 info_I rfl (by decide) _ _ _ rfl (hown'.out.alloc _) _ _ 1 1 [.int .u8 (f.toNat : Int), .string (str dd)] rfl (Row.fresh _ _ _ 2 1 _ rfl rfl) (by simp [Value.oneCell']) ?c1 ?c2 ?c3 ?_))
          case c1 => unfold maxLen; omega
          case c2 => omega
          case c3 => first | omega | (simp; omega)
          intro v4 w4 own4 g4 _
          have B4 := (HB.out.alloc hzs _).grown g4 (by simp; omega) (fun q hq => (hown'.out.lt q hq).1)
          have RR : w4.ownsRow w.heap.size 42 2 v4 (acc ++ [(⟨f, dd⟩ : It)]).length (itC (acc ++ [⟨f, dd⟩])) := by
            rw [itC_snoc, List.length_append]
            exact own4
          clear own4 g4 hown' HB
          go_wp2
          go_roundw
          case rel => exact ⟨_, r1.drop c.toNat, by first | rfl | rw [hy] | rw [← hy], RR, B4, HN, by simp; omega, HDL.out⟩
          case measure => first | exact HD.out | (rw [hy]; exact HD.out)

/-- What Parse comes to. -/
theorem refParse_any (p : Int) (b : List UInt8) (w : World) (hl : b.length ≤ 65536) :
    Calls Try.prog 15 #[.int .u16 p, .string (str b)] w (RefParsed (parseL p b) w) := by
  unfold parseL
  by_cases h0 : p = 48862
  · rw [if_pos h0, h0]
    exact refParse_S b w hl
  by_cases h1 : 4096 ≤ p ∧ p ≤ 4111
  · rw [if_neg h0, if_pos h1]
    exact refParse_L p h1.1 h1.2 b w hl
  rw [if_neg h0, if_neg h1]
  have HF := Lib.hid (RefParsed.none w 0 (Below.refl _ w))
  by_cases h2 : p < 4096
  · clear h1
    go_enter Try.func15, Try.ntmps15
    go_wp2
    go_ret2
    exact HF.out
  · have h3 : 4111 < p := by omega
    clear h1
    go_enter Try.func15, Try.ntmps15
    go_wp2
    go_ret2
    exact HF.out
end Go.Proofs.Ytdfbbmaaonkjiaa
