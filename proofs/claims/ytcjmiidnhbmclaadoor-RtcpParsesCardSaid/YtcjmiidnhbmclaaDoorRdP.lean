/-
  The contract of the document's Parse (layer 9).
-/
import Derived.Test.YtcjmiidnhbmclaaDoorRd6
import Derived.Test.YtcjmiidnhbmclaaDoorRtV
namespace Go.Proofs.YtcjmiidnhbmclaaDoor
set_option maxRecDepth 1000000
set_option linter.unusedSimpArgs false
open Go.RowKit

theorem str_none : (str []).toList = [] := by rw [ByteArray.toList_eq, str_data]
theorem str_some {l : List UInt8} (h : l ≠ []) : (str l).toList.isEmpty = false := by
  rw [ByteArray.toList_eq, str_data]
  cases l with
  | nil => exact absurd rfl h
  | cons a r => rfl
theorem str_some' {l : List UInt8} (h : l ≠ []) : ¬ (str l).toList = [] := by
  rw [ByteArray.toList_eq, str_data]
  exact h
@[go_sem] theorem str_body (l : List UInt8) (a b : Nat) : (str l).extract a (a + b) = str ((l.drop a).take b) := by
  rw [str_extract, List.drop_take]
  congr 2
  omega
theorem wrap_u8i (x : Nat) (h : x < 256) : IntKind.i64.wrap (x : Int) = (x : Int) := i64_nat9d x (by omega)
/-- What one message comes to, as the walk of Parse parts it. -/
theorem oneS_cut {s : List UInt8} (h : s.length < 4) : oneS s = (zeroM, [], 10) := by unfold oneS; rw [if_pos h]
theorem oneS_is {s : List UInt8} (h : ¬ s.length < 4) (h2 : isB s = false) : oneS s = (zeroM, [], 11) := by unfold oneS; rw [if_neg h, if_pos h2]
theorem oneS_short {s : List UInt8} (h : ¬ s.length < 4) (h2 : isB s = true) (h3 : s.length < 4 + 4 * numAt s 2 2) : oneS s = (zeroM, [], 10) := by
  unfold oneS; rw [if_neg h, if_neg (by rw [h2]; decide), if_pos h3]
theorem oneS_pad {s : List UInt8} (h : ¬ s.length < 4) (h2 : isB s = true) (h3 : ¬ s.length < 4 + 4 * numAt s 2 2)
    (h4 : unpad (numAt s 0 1) ((s.drop 4).take (4 * numAt s 2 2)) (s.drop (4 + 4 * numAt s 2 2)) = none) : oneS s = (zeroM, [], 11) := by
  unfold oneS; rw [if_neg h, if_neg (by rw [h2]; decide), if_neg h3, h4]
theorem oneS_read {s b : List UInt8} (h : ¬ s.length < 4) (h2 : isB s = true) (h3 : ¬ s.length < 4 + 4 * numAt s 2 2)
    (h4 : unpad (numAt s 0 1) ((s.drop 4).take (4 * numAt s 2 2)) (s.drop (4 + 4 * numAt s 2 2)) = some b) :
    oneS s = ((readM (numAt s 1 1) (numAt s 0 1 % 32) b).1, s.drop (4 + 4 * numAt s 2 2), (readM (numAt s 1 1) (numAt s 0 1 % 32) b).2) := by
  unfold oneS; rw [if_neg h, if_neg (by rw [h2]; decide), if_neg h3, h4]
theorem last_get (l : List UInt8) (h : l ≠ []) : ∃ x, l[l.length - 1]? = some x ∧ l.getLastD 0 = x := by
  refine ⟨l.getLast h, ?_, ?_⟩
  · rw [List.getLast_eq_getElem h]
    exact List.getElem?_eq_getElem _
  · cases l with
    | nil => exact absurd rfl h
    | cons a r => rfl

def lenVP : Value → Nat
  | .slice _ n _ => n
  | _ => 0
/-- What the document's Parse tells. -/
def RefParse (s : List UInt8) (w : World) (e : Ending) (w' : World) : Prop :=
  (∃ (A' : Option Addr) (c' k : Nat) (l' : List (Ms × Sl)), e = .returned (.tuple #[.slice A' k c', .int .i64 (parseL s).2]) ∧ l'.length = k ∧ l'.map Prod.fst = (parseL s).1 ∧ MsRow w' w'.heap.size A' l') ∧ Below w.heap.size w w'
theorem RefParse.none {s : List UInt8} {w w' : World} {er : Int} (hb : Below w.heap.size w w') (hp : parseL s = ([], er)) : RefParse s w (.returned (.tuple #[.slice none 0 0, .int .i64 er])) w' :=
  ⟨⟨_, 0, 0, [], by rw [hp], rfl, by rw [hp]; rfl, ⟨Row.nil, fun x hx => absurd hx (by simp)⟩⟩, hb⟩
theorem sl_far {B : Nat} {m : Ms} {s : Sl} {ob : Option Nat} (h : SlNew B s) (ho : ∀ q, ob = some q → q < B) : FarM ob m s := by
  refine ⟨fun _ g o e e2 => ?_, fun _ g o e e2 => ?_, fun _ g o e e2 => ?_, fun _ g o e e2 => ?_⟩
  · have := h.1 _ e; have := ho g e2; simp at *; omega
  · have := h.2.1 _ e; have := ho g e2; simp at *; omega
  · have := h.2.2.1 _ e; have := ho g e2; simp at *; omega
  · have := h.2.2.2 _ e; have := ho g e2; simp at *; omega

set_option maxHeartbeats 3200000 in
theorem refparse_any (s : List UInt8) (w : World) (hl : s.length ≤ 100000) :
    Calls Tryd.prog 15 #[.string (str s)] w (RefParse s w) := by
  obtain ⟨n, hn⟩ : ∃ n, s.length = n := ⟨_, rfl⟩
  by_cases h1 : 1500 < n
  · have HF : Hid (RefParse s w (.returned (.tuple #[.slice none 0 0, .int .i64 13])) w) := Lib.hid (RefParse.none (Below.refl _ _) (by unfold parseL; rw [if_pos (by omega)]))
    have h1' : (1500 : Int) < (s.length : Int) := by omega
    clear hn hl h1
    go_enter Tryd.func15, Tryd.ntmps15
    go_wp2
    go_ret2
    exact HF.out
  by_cases h0 : n = 0
  · subst h0
    have hs : s = [] := List.eq_nil_of_length_eq_zero hn
    subst hs
    have hem := str_none
    have HF : Hid (RefParse [] w (.returned (.tuple #[.slice none 0 0, .int .i64 10])) w) := Lib.hid (RefParse.none (Below.refl _ _) rfl)
    clear hn hl h1
    go_enter Tryd.func15, Tryd.ntmps15
    go_wp2
    go_ret2
    exact HF.out
  have hp : parseL s = parseF (s.length + 1) [] s := by
    unfold parseL
    rw [if_neg (by omega), if_neg (by intro e; rw [e] at hn; simp at hn; omega)]
  have HP := Lib.hid hp
  have h1' : ¬ (1500 : Int) < (s.length : Int) := by omega
  have hne : s ≠ [] := fun e => h0 (by rw [← hn, e]; rfl)
  have hem := str_some hne
  have HN := Lib.hid hn
  clear hp hn hne hl
  go_enter Tryd.func15, Tryd.ntmps15
  go_wp2_with fail
  go_loopw [0, 4] (fun sv v wr => ∃ (k : Nat) (A' : Option Addr) (c' : Nat) (l' : List (Ms × Sl)) (rest : List UInt8), sv = .string (str rest) ∧ v = .slice A' k c' ∧ wr.ownsRow w.heap.size 50 12 (.slice A' k c') k (msC l') ∧ l'.length = k ∧ (∀ x ∈ l', MsAt wr wr.heap.size x.1 x.2 ∧ FarM (Value.slice A' k c').ownBlock x.1 x.2) ∧ Hid (parseF (s.length + 1) [] s = parseF (rest.length + 1) (l'.map Prod.fst) rest) ∧ 4 * k + rest.length ≤ n ∧ Below w.heap.size w wr) (fun _ v _ => 2000 - lenVP v)
  case atStart => exact ⟨0, none, 0, [], s, rfl, rfl, World.ownsRow_nil _ _ _ _, rfl, fun x hx => absurd hx (by simp), Lib.hid rfl, by have := HN.out; omega, Below.refl _ _⟩
  case round =>
    clear hem
    obtain ⟨k, A', c', l', rest, rfl, rfl, hown, hkl, hall, HPF, hk4, hb⟩ := hrel
    by_cases hr0 : rest = []
    · subst hr0
      have hpl : parseL s = (l'.map Prod.fst, 0) := by rw [HP.out, HPF.out, parseF_succ, if_pos rfl]
      have HF : Hid (RefParse s w (.returned (.tuple #[.slice A' k c', .int .i64 0])) wr) := Lib.hid ⟨⟨A', c', k, l', by rw [hpl], hkl, by rw [hpl], ⟨by have := Row.of_own hown; rwa [← hkl] at this, fun x hx => (hall x hx).1⟩⟩, hb⟩
      have hem := str_none
      clear hown hkl hall HPF hb hpl HP
      go_wp2_with fail
      go_ret2
      exact HF.out
    have hem := str_some hr0
    have hem2 := str_some' hr0
    have hpF : parseF (s.length + 1) [] s = parseF (rest.length + 1) (l'.map Prod.fst) rest := HPF.out
    have HST : Hid (parseL s = if (oneS rest).2.2 ≠ 0 then ([], (oneS rest).2.2) else parseF rest.length (l'.map Prod.fst ++ [(oneS rest).1]) (oneS rest).2.1) := Lib.hid (by rw [HP.out, HPF.out, parseF_succ, if_neg hr0])
    have HERR : Hid (∀ (er : Int) (w' : World), Below wr.heap.size wr w' → er ≠ 0 → (oneS rest).2.2 = er → RefParse s w (.returned (.tuple #[.slice none 0 0, .int .i64 er])) w') := Lib.hid (fun er w' hw h0 h1 => RefParse.none (bnext hb hw) (by rw [HST.out, h1, if_pos h0]))
    have HRS := Lib.hid (oneS_rest rest)
    have HO := Lib.hid hown
    have HA := Lib.hid hall
    have HB := Lib.hid hb
    have HKL := Lib.hid hkl
    have HPP := Lib.hid hpF
    clear hown hkl hall hb HPF hpF hr0
    obtain ⟨nr, hnr⟩ : ∃ nr, rest.length = nr := ⟨_, rfl⟩
    have HNR := Lib.hid hnr
    rw [hnr] at hk4
    have hnri : (rest.length : Int) = (nr : Int) := by rw [hnr]
    by_cases h4 : nr < 4
    · have HF := Lib.hid (HERR.out 10 wr (Below.refl _ _) (by decide) (by rw [oneS_cut (by omega)]))
      have h4i : (nr : Int) < 4 := by omega
      clear HST HERR HRS HO HA HB HKL hnr
      go_wp2_with fail
      go_ret2
      exact HF.out
    have CI := refIs_any rest wr (by unfold maxLen; omega)
    obtain ⟨bi, hbi⟩ : ∃ b, isB rest = b := ⟨_, rfl⟩
    rw [hbi] at CI
    have HBI := Lib.hid hbi
    have h4i : ¬ (nr : Int) < 4 := by omega
    clear hbi
    cases bi with
    | false =>
      have HF := Lib.hid (HERR.out 11 wr (Below.refl _ _) (by decide) (by rw [oneS_is (by omega) HBI.out]))
      have HCI := Lib.hid CI
      clear HST HERR HRS HO HA HB HKL hnr CI
      go_wp2_with fail
      refine HCI.out.mono ?_
      rintro e w1 ⟨rfl, rfl⟩
      clear HCI
      go_wp2_with fail
      go_ret2
      exact HF.out
    | true =>
    obtain ⟨q, hq⟩ : ∃ q, numAt rest 2 2 = q := ⟨_, rfl⟩
    have hqb : q < 65536 := by have := numAt_lt rest 2 2; rw [hq] at this; omega
    have CQ := rnum_any rest 2 2 q hq wr (by unfold maxLen; omega) (by decide) (by decide) (by omega)
    obtain ⟨a, ha⟩ : ∃ q, numAt rest 0 1 = q := ⟨_, rfl⟩
    obtain ⟨t, ht⟩ : ∃ q, numAt rest 1 1 = q := ⟨_, rfl⟩
    have hab : a < 256 := by have := n1 rest 0; omega
    have htb : t < 256 := by have := n1 rest 1; omega
    have r0 : ∀ wx, (Instr.index 9 (.string (str rest)) (.int .i64 0)).run Tryd.prog wx = .ok (.int .u8 (a : Int)) wx := run_byte9 rest 0 a (by omega) ha
    have r1 : ∀ wx, (Instr.index 9 (.string (str rest)) (.int .i64 1)).run Tryd.prog wx = .ok (.int .u8 (t : Int)) wx := run_byte9 rest 1 t (by omega) ht
    have HCI := Lib.hid CI
    have HCQ := Lib.hid CQ
    have HSH : Hid (nr < 4 + 4 * q → (oneS rest).2.2 = 10) := Lib.hid (fun h => by rw [oneS_short (by omega) HBI.out (by rw [hq, hnr]; exact h)])
    have HPD : Hid (¬ nr < 4 + 4 * q → unpad a ((rest.drop 4).take (4 * q)) (rest.drop (4 + 4 * q)) = none → (oneS rest).2.2 = 11) := Lib.hid (fun h hu => by rw [oneS_pad (by omega) HBI.out (by rw [hq, hnr]; exact h) (by rw [hq, ha]; exact hu)])
    have HRD : Hid (∀ b, ¬ nr < 4 + 4 * q → unpad a ((rest.drop 4).take (4 * q)) (rest.drop (4 + 4 * q)) = some b → oneS rest = ((readM t (a % 32) b).1, rest.drop (4 + 4 * q), (readM t (a % 32) b).2)) := Lib.hid (fun b h hu => by rw [oneS_read (by omega) HBI.out (by rw [hq, hnr]; exact h) (by rw [hq, ha]; exact hu), hq, ha, ht])
    obtain ⟨q4, hq4⟩ : ∃ x, 4 * q = x := ⟨_, rfl⟩
    have hq4i : 4 * (q : Int) = (q4 : Int) := by omega
    rw [hq4] at HSH HPD HRD
    clear hq ha ht CI CQ HBI
    by_cases hsh : nr < 4 + q4
    · have HEND : Hid (∀ w', Below wr.heap.size wr w' → RefParse s w (.returned (.tuple #[.slice none 0 0, .int .i64 10])) w') := Lib.hid (fun w' hw => HERR.out 10 w' hw (by decide) (HSH.out hsh))
      have hshi : (nr : Int) < 4 + (q4 : Int) := by omega
      clear HST HERR HRS HO HA HKL HSH HPD HRD r0 r1 hnr hq4
      go_wp2_with fail
      refine HCI.out.mono ?_
      rintro e w1 ⟨rfl, rfl⟩
      go_wp2_with fail
      refine HCQ.out.mono ?_
      rintro e w2 ⟨rfl, b2⟩
      have HF := Lib.hid (HEND.out w2 b2)
      clear HEND HCI HCQ b2
      go_wp2_with fail
      go_ret2
      exact HF.out
    have hshi : ¬ (nr : Int) < 4 + (q4 : Int) := by omega
    obtain ⟨body, hbody⟩ : ∃ b, (rest.drop 4).take q4 = b := ⟨_, rfl⟩
    obtain ⟨rest2, hrest2⟩ : ∃ b, rest.drop (4 + q4) = b := ⟨_, rfl⟩
    have hbl : body.length = q4 := by rw [← hbody]; simp; omega
    have hrl : rest2.length = nr - (4 + q4) := by rw [← hrest2]; simp; omega
    rw [hbody, hrest2] at HPD HRD
    have hb1 : (str rest).extract 4 (4 + q4) = str body := by rw [← hbody]; exact str_body rest 4 q4
    have HBL := Lib.hid hbl
    have HRL := Lib.hid hrl
    obtain ⟨c, hc⟩ : ∃ c, a % 32 = c := ⟨_, rfl⟩
    have hcb : c < 32 := by omega
    have hci : (a : Int) % 32 = (c : Int) := by omega
    rw [hc] at HRD
    have HPD2 : Hid (∀ w', Below wr.heap.size wr w' → unpad a body rest2 = none → RefParse s w (.returned (.tuple #[.slice none 0 0, .int .i64 11])) w') := Lib.hid (fun w' hw hu => HERR.out 11 w' hw (by decide) (HPD.out hsh hu))
    have HRD2 : Hid (∀ b, unpad a body rest2 = some b → oneS rest = ((readM t c b).1, rest2, (readM t c b).2)) := Lib.hid (fun b hu => HRD.out b hsh hu)
    have hbli : (body.length : Int) = (q4 : Int) := by rw [hbl]
    clear HPD HRD HSH hbl hrl hbody hc hnr hq4 h4
    obtain ⟨p, hp⟩ : ∃ p, a / 32 % 2 = p := ⟨_, rfl⟩
    have HPA := Lib.hid hp
    have hpi : (a : Int) / 32 % 2 = (p : Int) := by omega
    have hp2 : p < 2 := by omega
    clear hp
    go_wp2_with fail
    refine HCI.out.mono ?_
    rintro e w1 ⟨rfl, rfl⟩
    go_wp2_with fail
    refine HCQ.out.mono ?_
    rintro e w2 ⟨rfl, b2⟩
    have HB2 := Lib.hid b2
    clear HCI HCQ b2
    by_cases hpp : p = 0
    · subst hpp
      have CR := read_any body t c w2 htb hcb (by have := HBL.out; omega)
      have hone := HRD2.out body (unpad_no a body rest2 HPA.out)
      obtain ⟨⟨m, er⟩, hrm⟩ : ∃ p, readM t c body = p := ⟨_, rfl⟩
      rw [hrm] at CR hone
      have CRH : Hid (Calls Tryd.prog 29 #[.int .i64 (t : Int), .int .i64 (c : Int), .string (str body)] w2 fun e w' => ∃ sl, e = .returned (.tuple #[.agg #[.int .i64 m.kind, .int .u32 (m.ssrc : Int), .int .u32 (m.media : Int), .int .u64 (m.clock : Int), .int .u32 (m.time : Int), .int .u32 (m.packets : Int), .int .u32 (m.bytes : Int), .slice sl.rA m.reps.length sl.rc, .slice sl.wA m.who.length sl.wc, .slice sl.pA m.pairs.length sl.pc, .slice sl.aA m.asks.length sl.ac, .int .u8 (m.typ : Int)], .int .i64 er]) ∧ MsAt w' w'.heap.size m sl ∧ SlNew w2.heap.size sl ∧ Below w2.heap.size w2 w') := Lib.hid CR
      have HONE := Lib.hid hone
      have HRM := Lib.hid hrm
      clear CR hone hrm HRD2 HPD2
      go_wp2_with fail
      refine CRH.out.mono ?_
      rintro e w3 ⟨sl, rfl, hat, hnew, b3⟩
      clear CRH
      have HAT := Lib.hid hat
      have HNW := Lib.hid hnew
      have HB3 := Lib.hid (bnext HB2.out b3)
      have hs3 := b3.size
      clear hat hnew b3
      by_cases he : er = 0
      · subst he
        have HR : Hid (Row ((w3.alloc (.cells #[.int .i64 m.kind, .int .u32 (m.ssrc : Int), .int .u32 (m.media : Int), .int .u64 (m.clock : Int), .int .u32 (m.time : Int), .int .u32 (m.packets : Int), .int .u32 (m.bytes : Int), .slice sl.rA m.reps.length sl.rc, .slice sl.wA m.who.length sl.wc, .slice sl.pA m.pairs.length sl.pc, .slice sl.aA m.asks.length sl.ac, .int .u8 (m.typ : Int)] 50)).alloc (.cells #[.int .i64 m.kind, .int .u32 (m.ssrc : Int), .int .u32 (m.media : Int), .int .u64 (m.clock : Int), .int .u32 (m.time : Int), .int .u32 (m.packets : Int), .int .u32 (m.bytes : Int), .slice sl.rA m.reps.length sl.rc, .slice sl.wA m.who.length sl.wc, .slice sl.pA m.pairs.length sl.pc, .slice sl.aA m.asks.length sl.ac, .int .u8 (m.typ : Int)] 50)) (w3.heap.size + 2) 12 (some ⟨w3.heap.size + 1, 0, none⟩) 1 (m.cells sl)) := Lib.hid (by
          have e := Row.lit (w3.alloc (.cells #[.int .i64 m.kind, .int .u32 (m.ssrc : Int), .int .u32 (m.media : Int), .int .u64 (m.clock : Int), .int .u32 (m.time : Int), .int .u32 (m.packets : Int), .int .u32 (m.bytes : Int), .slice sl.rA m.reps.length sl.rc, .slice sl.wA m.who.length sl.wc, .slice sl.pA m.pairs.length sl.pc, .slice sl.aA m.asks.length sl.ac, .int .u8 (m.typ : Int)] 50)) 50 #[.int .i64 m.kind, .int .u32 (m.ssrc : Int), .int .u32 (m.media : Int), .int .u64 (m.clock : Int), .int .u32 (m.time : Int), .int .u32 (m.packets : Int), .int .u32 (m.bytes : Int), .slice sl.rA m.reps.length sl.rc, .slice sl.wA m.who.length sl.wc, .slice sl.pA m.pairs.length sl.pc, .slice sl.aA m.asks.length sl.ac, .int .u8 (m.typ : Int)] 12 1 rfl
          rw [show (w3.alloc (.cells #[.int .i64 m.kind, .int .u32 (m.ssrc : Int), .int .u32 (m.media : Int), .int .u64 (m.clock : Int), .int .u32 (m.time : Int), .int .u32 (m.packets : Int), .int .u32 (m.bytes : Int), .slice sl.rA m.reps.length sl.rc, .slice sl.wA m.who.length sl.wc, .slice sl.pA m.pairs.length sl.pc, .slice sl.aA m.asks.length sl.ac, .int .u8 (m.typ : Int)] 50)).heap.size = w3.heap.size + 1 by simp] at e
          exact e)
        have HO1 : Hid (w3.ownsRow w.heap.size 50 12 (.slice A' k c') k (msC l')) := Lib.hid (own_below HO.out HB3.out (Nat.le_refl _))
        have hsz := HB.out.size
        have hs2 := HB2.out.size
        have hkb : k < 2000 := by omega
        have hs1 := HB3.out.size
        go_wp2_with (at_builtin; go_loud (refine wpl_append _ rfl (.tmp 96) (.tmp 98) 31 rfl w.heap.size 50 (.agg #[.int .i64 0, .int .u32 0, .int .u32 0, .int .u64 0, .int .u32 0, .int .u32 0, .int .u32 0, .slice none 0 0, .slice none 0 0, .slice none 0 0, .slice none 0 0, .int .u8 0]) 12 144 Tryd.underlying31 info_M9 rfl (by decide) (.slice A' k c') k (msC l') rfl ((HO1.out.alloc _).alloc _) (w3.heap.size + 2) (some ⟨w3.heap.size + 1, 0, none⟩) 1 1 (m.cells sl) rfl HR.out (by simp [Ms.cells, Value.oneCell']) ?c1 ?c2 ?c3 ?_))
        case c1 => unfold maxLen; omega
        case c2 => omega
        case c3 => simp; omega
        intro v4 w4 hown4 hg4 hwhere
        obtain ⟨A4, c4, rfl⟩ := own_form hown4
        obtain ⟨wa, hwa⟩ : ∃ wa, wa = (w3.alloc (.cells #[.int .i64 m.kind, .int .u32 (m.ssrc : Int), .int .u32 (m.media : Int), .int .u64 (m.clock : Int), .int .u32 (m.time : Int), .int .u32 (m.packets : Int), .int .u32 (m.bytes : Int), .slice sl.rA m.reps.length sl.rc, .slice sl.wA m.who.length sl.wc, .slice sl.pA m.pairs.length sl.pc, .slice sl.aA m.asks.length sl.ac, .int .u8 (m.typ : Int)] 50)).alloc (.cells #[.int .i64 m.kind, .int .u32 (m.ssrc : Int), .int .u32 (m.media : Int), .int .u64 (m.clock : Int), .int .u32 (m.time : Int), .int .u32 (m.packets : Int), .int .u32 (m.bytes : Int), .slice sl.rA m.reps.length sl.rc, .slice sl.wA m.who.length sl.wc, .slice sl.pA m.pairs.length sl.pc, .slice sl.aA m.asks.length sl.ac, .int .u8 (m.typ : Int)] 50) := ⟨_, rfl⟩
        have hBA : Below wr.heap.size wr wa := by rw [hwa]; exact (HB3.out.alloc hs1 _).alloc (by simp; omega) _
        have hsa : wa.heap.size = w3.heap.size + 2 := by rw [hwa]; simp
        have hma : MsAt wa wa.heap.size m sl := by
          have hb1 : Below w3.heap.size w3 wa := by rw [hwa]; exact ((Below.refl _ _).alloc (Nat.le_refl _) _).alloc (by simp) _
          exact (HAT.out.below hb1 (Nat.le_refl _)).more (by omega)
        rw [← hwa] at hg4
        clear hwa
        have hlt : ∀ q, (Value.slice A' k c').ownBlock = some q → w.heap.size ≤ q ∧ q < wr.heap.size := fun q hq => HO.out.lt q hq
        have HALL : Hid (∀ x ∈ l' ++ [(m, sl)], MsAt w4 w4.heap.size x.1 x.2 ∧ FarM (Value.slice A4 (k + 1) c4).ownBlock x.1 x.2) := Lib.hid (by
          have step : ∀ x : Ms × Sl, MsAt wa wa.heap.size x.1 x.2 → FarM (Value.slice A' k c').ownBlock x.1 x.2 → MsAt w4 w4.heap.size x.1 x.2 ∧ FarM (Value.slice A4 (k + 1) c4).ownBlock x.1 x.2 := by
            intro x h1 h2
            refine ⟨h1.grown h2 hg4, ?_⟩
            rcases hwhere with e | e
            · rw [e]; exact h2
            · rw [e]; exact h1.farAt (by omega)
          intro x hx
          rcases List.mem_append.1 hx with hx | hx
          · obtain ⟨h1, h2⟩ := HA.out x hx
            exact step x ((h1.below hBA (Nat.le_refl _)).more hBA.size) h2
          · obtain rfl := List.mem_singleton.1 hx
            exact step _ hma (sl_far HNW.out (fun q hq => by have := (hlt q hq).2; omega)))
        have HB4 : Hid (Below w.heap.size w w4) := Lib.hid ((bnext HB.out hBA).grown hg4 (by omega) (fun q hq => (hlt q hq).1))
        have HO4 : Hid (w4.ownsRow w.heap.size 50 12 (.slice A4 (k + 1) c4) (k + 1) (msC (l' ++ [(m, sl)]))) := Lib.hid (by rw [msC_append]; simpa [msC] using hown4)
        have HL4 : Hid ((l' ++ [(m, sl)]).length = k + 1) := Lib.hid (by rw [List.length_append, HKL.out]; rfl)
        have HF4 : Hid (parseF (s.length + 1) [] s = parseF (rest2.length + 1) ((l' ++ [(m, sl)]).map Prod.fst) rest2) := Lib.hid (by
          have h1 := HST.out
          rw [HP.out, HONE.out] at h1
          dsimp only at h1
          rw [if_neg (by simp)] at h1
          rw [h1, List.map_append]
          exact parseF_more _ _ _ _ (by have := HRL.out; have := HNR.out; omega) (Nat.lt_succ_self _))
        have hk5 : 4 * (k + 1) + rest2.length ≤ n := by have := HRL.out; omega
        clear hown4 hg4 hwhere hBA hsa hma hlt HR HO1 HAT HNW HO HA HKL HST HERR HRS HONE HRM
        go_wp2
        go_roundw
        case rel => exact ⟨k + 1, A4, c4, l' ++ [(m, sl)], rest2, rfl, rfl, HO4.out, HL4.out, HALL.out, HF4.out, hk5, HB4.out⟩
        case measure => simp [lenVP]; omega
      · have HEND : Hid (RefParse s w (.returned (.tuple #[.slice none 0 0, .int .i64 er])) (w3.alloc (.cells #[.int .i64 m.kind, .int .u32 (m.ssrc : Int), .int .u32 (m.media : Int), .int .u64 (m.clock : Int), .int .u32 (m.time : Int), .int .u32 (m.packets : Int), .int .u32 (m.bytes : Int), .slice sl.rA m.reps.length sl.rc, .slice sl.wA m.who.length sl.wc, .slice sl.pA m.pairs.length sl.pc, .slice sl.aA m.asks.length sl.ac, .int .u8 (m.typ : Int)] 50))) := Lib.hid (HERR.out er _ (HB3.out.alloc HB3.out.size _) he (by rw [HONE.out]))
        have heb : (er == 0) = false := by simpa using he
        have hec : (er != 0) = true := by simpa using he
        clear HST HERR HRS HO HA HKL HONE HRM HAT HNW he
        go_wp2_with fail
        go_ret2
        exact HEND.out
    obtain rfl : p = 1 := by omega
    clear hpp
    have hun : unpad a body rest2 = if rest2 ≠ [] ∨ body = [] then none else (let k := (body.getLastD 0).toNat; if k = 0 ∨ k % 4 ≠ 0 ∨ body.length < k then none else some (body.take (body.length - k))) := by
      unfold unpad; rw [if_pos HPA.out]
    have HUN := Lib.hid hun
    clear hun
    by_cases hr2 : rest2 = []
    case neg =>
      have hem3 := str_some hr2
      have hem4 := str_some' hr2
      have HF := Lib.hid (HPD2.out w2 HB2.out (by rw [HUN.out, if_pos (.inl hr2)]))
      clear HST HERR HRS HO HA HKL HRD2 HPD2
      go_wp2_with fail
      go_ret2
      exact HF.out
    have HR2 := Lib.hid hr2
    have hem3 : (str rest2).toList = [] := by rw [hr2]; exact str_none
    clear hr2
    by_cases hbo : body = []
    case pos =>
      have hem5 : (str body).toList = [] := by rw [hbo]; exact str_none
      have HF := Lib.hid (HPD2.out w2 HB2.out (by rw [HUN.out, if_pos (.inr hbo)]))
      clear hbo HST HERR HRS HO HA HKL HRD2 HPD2
      go_wp2_with fail
      go_ret2
      exact HF.out
    have hem5 := str_some hbo
    have hem6 := str_some' hbo
    obtain ⟨lb, hlb, hlast⟩ := last_get body hbo
    obtain ⟨pk, hpk⟩ : ∃ q, lb.toNat = q := ⟨_, rfl⟩
    have hq1 : 1 ≤ q4 := by
      have := HBL.out
      rcases Nat.eq_zero_or_pos q4 with h | h
      · exact absurd (List.eq_nil_of_length_eq_zero (by omega)) hbo
      · exact h
    obtain ⟨q5, hq5⟩ : ∃ x, q4 - 1 = x := ⟨_, rfl⟩
    have hq5i : (q4 : Int) - 1 = (q5 : Int) := by omega
    have r2 : ∀ wx, (Instr.index 9 (.string (str body)) (.int .i64 (q5 : Int))).run Tryd.prog wx = .ok (.int .u8 (pk : Int)) wx := fun wx => by
      refine run_byte9 body q5 pk (by have := HBL.out; omega) ?_ wx
      have h9 : q5 < body.length := by have := HBL.out; omega
      rw [numAt_one body q5 h9, ← hpk]
      rw [HBL.out, hq5, List.getElem?_eq_getElem h9] at hlb
      injection hlb with hlb
      rw [hlb]
    have hpb : pk < 256 := by rw [← hpk]; exact lb.toNat_lt
    have HUN2 : Hid (unpad a body rest2 = if pk = 0 ∨ pk % 4 ≠ 0 ∨ q4 < pk then none else some (body.take (q4 - pk))) := Lib.hid (by
      rw [HUN.out, if_neg (by rw [HR2.out]; simp [hbo])]
      dsimp only
      rw [hlast, hpk, HBL.out])
    clear hbo hlb hlast hpk hq5 HUN
    obtain ⟨pm, hpm⟩ : ∃ x, pk % 4 = x := ⟨_, rfl⟩
    have hpmi : (pk : Int) % 4 = (pm : Int) := by omega
    rw [hpm] at HUN2
    clear hpm
    by_cases z1 : pk = 0
    · subst z1
      have HF := Lib.hid (HPD2.out w2 HB2.out (by rw [HUN2.out, if_pos (.inl rfl)]))
      clear HST HERR HRS HO HA HKL HRD2 HPD2
      go_wp2_with fail
      go_ret2
      exact HF.out
    have z1b : ((pk : Int) == 0) = false := by simpa using (show ¬ (pk : Int) = 0 by omega)
    by_cases z2 : pm = 0
    case neg =>
      have z2b : ((pm : Int) != 0) = true := by simpa using (show ¬ (pm : Int) = 0 by omega)
      have HF := Lib.hid (HPD2.out w2 HB2.out (by rw [HUN2.out, if_pos (.inr (.inl z2))]))
      clear HST HERR HRS HO HA HKL HRD2 HPD2
      go_wp2_with fail
      go_ret2
      exact HF.out
    subst z2
    by_cases z3 : q4 < pk
    · have z3i : (q4 : Int) < (pk : Int) := by omega
      have HF := Lib.hid (HPD2.out w2 HB2.out (by rw [HUN2.out, if_pos (.inr (.inr z3))]))
      clear HST HERR HRS HO HA HKL HRD2 HPD2
      go_wp2_with fail
      go_ret2
      exact HF.out
    have z3i : ¬ (q4 : Int) < (pk : Int) := by omega
    have hun : unpad a body rest2 = some (body.take (q4 - pk)) := by rw [HUN2.out, if_neg (by omega)]
    obtain ⟨b2, hb2⟩ : ∃ b, body.take (q4 - pk) = b := ⟨_, rfl⟩
    rw [hb2] at hun
    have HB2L : Hid (b2.length ≤ q4) := Lib.hid (by rw [← hb2, List.length_take]; omega)
    have HUN3 := Lib.hid hun
    obtain ⟨qk, hqk⟩ : ∃ x, q4 - pk = x := ⟨_, rfl⟩
    have hqki : (q4 : Int) - (pk : Int) = (qk : Int) := by omega
    rw [hqk] at hb2
    clear hun HUN2 hqk
    have CR := read_any b2 t c w2 htb hcb (by have := HBL.out; have := HB2L.out; omega)
    have hone := HRD2.out b2 (HUN3.out)
    obtain ⟨⟨m, er⟩, hrm⟩ : ∃ p, readM t c b2 = p := ⟨_, rfl⟩
    rw [hrm] at CR hone
    have CRH : Hid (Calls Tryd.prog 29 #[.int .i64 (t : Int), .int .i64 (c : Int), .string (str b2)] w2 fun e w' => ∃ sl, e = .returned (.tuple #[.agg #[.int .i64 m.kind, .int .u32 (m.ssrc : Int), .int .u32 (m.media : Int), .int .u64 (m.clock : Int), .int .u32 (m.time : Int), .int .u32 (m.packets : Int), .int .u32 (m.bytes : Int), .slice sl.rA m.reps.length sl.rc, .slice sl.wA m.who.length sl.wc, .slice sl.pA m.pairs.length sl.pc, .slice sl.aA m.asks.length sl.ac, .int .u8 (m.typ : Int)], .int .i64 er]) ∧ MsAt w' w'.heap.size m sl ∧ SlNew w2.heap.size sl ∧ Below w2.heap.size w2 w') := Lib.hid CR
    have HONE := Lib.hid hone
    have HRM := Lib.hid hrm
    clear CR hone hrm HRD2 HPD2
    go_wp2_with fail
    refine CRH.out.mono ?_
    rintro e w3 ⟨sl, rfl, hat, hnew, b3⟩
    clear CRH
    have HAT := Lib.hid hat
    have HNW := Lib.hid hnew
    have HB3 := Lib.hid (bnext HB2.out b3)
    have hs3 := b3.size
    clear hat hnew b3
    by_cases he : er = 0
    · subst he
      have HR : Hid (Row ((w3.alloc (.cells #[.int .i64 m.kind, .int .u32 (m.ssrc : Int), .int .u32 (m.media : Int), .int .u64 (m.clock : Int), .int .u32 (m.time : Int), .int .u32 (m.packets : Int), .int .u32 (m.bytes : Int), .slice sl.rA m.reps.length sl.rc, .slice sl.wA m.who.length sl.wc, .slice sl.pA m.pairs.length sl.pc, .slice sl.aA m.asks.length sl.ac, .int .u8 (m.typ : Int)] 50)).alloc (.cells #[.int .i64 m.kind, .int .u32 (m.ssrc : Int), .int .u32 (m.media : Int), .int .u64 (m.clock : Int), .int .u32 (m.time : Int), .int .u32 (m.packets : Int), .int .u32 (m.bytes : Int), .slice sl.rA m.reps.length sl.rc, .slice sl.wA m.who.length sl.wc, .slice sl.pA m.pairs.length sl.pc, .slice sl.aA m.asks.length sl.ac, .int .u8 (m.typ : Int)] 50)) (w3.heap.size + 2) 12 (some ⟨w3.heap.size + 1, 0, none⟩) 1 (m.cells sl)) := Lib.hid (by
        have e := Row.lit (w3.alloc (.cells #[.int .i64 m.kind, .int .u32 (m.ssrc : Int), .int .u32 (m.media : Int), .int .u64 (m.clock : Int), .int .u32 (m.time : Int), .int .u32 (m.packets : Int), .int .u32 (m.bytes : Int), .slice sl.rA m.reps.length sl.rc, .slice sl.wA m.who.length sl.wc, .slice sl.pA m.pairs.length sl.pc, .slice sl.aA m.asks.length sl.ac, .int .u8 (m.typ : Int)] 50)) 50 #[.int .i64 m.kind, .int .u32 (m.ssrc : Int), .int .u32 (m.media : Int), .int .u64 (m.clock : Int), .int .u32 (m.time : Int), .int .u32 (m.packets : Int), .int .u32 (m.bytes : Int), .slice sl.rA m.reps.length sl.rc, .slice sl.wA m.who.length sl.wc, .slice sl.pA m.pairs.length sl.pc, .slice sl.aA m.asks.length sl.ac, .int .u8 (m.typ : Int)] 12 1 rfl
        rw [show (w3.alloc (.cells #[.int .i64 m.kind, .int .u32 (m.ssrc : Int), .int .u32 (m.media : Int), .int .u64 (m.clock : Int), .int .u32 (m.time : Int), .int .u32 (m.packets : Int), .int .u32 (m.bytes : Int), .slice sl.rA m.reps.length sl.rc, .slice sl.wA m.who.length sl.wc, .slice sl.pA m.pairs.length sl.pc, .slice sl.aA m.asks.length sl.ac, .int .u8 (m.typ : Int)] 50)).heap.size = w3.heap.size + 1 by simp] at e
        exact e)
      have HO1 : Hid (w3.ownsRow w.heap.size 50 12 (.slice A' k c') k (msC l')) := Lib.hid (own_below HO.out HB3.out (Nat.le_refl _))
      have hsz := HB.out.size
      have hs2 := HB2.out.size
      have hkb : k < 2000 := by omega
      have hs1 := HB3.out.size
      go_wp2_with (at_builtin; go_loud (refine wpl_append _ rfl (.tmp 96) (.tmp 98) 31 rfl w.heap.size 50 (.agg #[.int .i64 0, .int .u32 0, .int .u32 0, .int .u64 0, .int .u32 0, .int .u32 0, .int .u32 0, .slice none 0 0, .slice none 0 0, .slice none 0 0, .slice none 0 0, .int .u8 0]) 12 144 Tryd.underlying31 info_M9 rfl (by decide) (.slice A' k c') k (msC l') rfl ((HO1.out.alloc _).alloc _) (w3.heap.size + 2) (some ⟨w3.heap.size + 1, 0, none⟩) 1 1 (m.cells sl) rfl HR.out (by simp [Ms.cells, Value.oneCell']) ?c1 ?c2 ?c3 ?_))
      case c1 => unfold maxLen; omega
      case c2 => omega
      case c3 => simp; omega
      intro v4 w4 hown4 hg4 hwhere
      obtain ⟨A4, c4, rfl⟩ := own_form hown4
      obtain ⟨wa, hwa⟩ : ∃ wa, wa = (w3.alloc (.cells #[.int .i64 m.kind, .int .u32 (m.ssrc : Int), .int .u32 (m.media : Int), .int .u64 (m.clock : Int), .int .u32 (m.time : Int), .int .u32 (m.packets : Int), .int .u32 (m.bytes : Int), .slice sl.rA m.reps.length sl.rc, .slice sl.wA m.who.length sl.wc, .slice sl.pA m.pairs.length sl.pc, .slice sl.aA m.asks.length sl.ac, .int .u8 (m.typ : Int)] 50)).alloc (.cells #[.int .i64 m.kind, .int .u32 (m.ssrc : Int), .int .u32 (m.media : Int), .int .u64 (m.clock : Int), .int .u32 (m.time : Int), .int .u32 (m.packets : Int), .int .u32 (m.bytes : Int), .slice sl.rA m.reps.length sl.rc, .slice sl.wA m.who.length sl.wc, .slice sl.pA m.pairs.length sl.pc, .slice sl.aA m.asks.length sl.ac, .int .u8 (m.typ : Int)] 50) := ⟨_, rfl⟩
      have hBA : Below wr.heap.size wr wa := by rw [hwa]; exact (HB3.out.alloc hs1 _).alloc (by simp; omega) _
      have hsa : wa.heap.size = w3.heap.size + 2 := by rw [hwa]; simp
      have hma : MsAt wa wa.heap.size m sl := by
        have hb1 : Below w3.heap.size w3 wa := by rw [hwa]; exact ((Below.refl _ _).alloc (Nat.le_refl _) _).alloc (by simp) _
        exact (HAT.out.below hb1 (Nat.le_refl _)).more (by omega)
      rw [← hwa] at hg4
      clear hwa
      have hlt : ∀ q, (Value.slice A' k c').ownBlock = some q → w.heap.size ≤ q ∧ q < wr.heap.size := fun q hq => HO.out.lt q hq
      have HALL : Hid (∀ x ∈ l' ++ [(m, sl)], MsAt w4 w4.heap.size x.1 x.2 ∧ FarM (Value.slice A4 (k + 1) c4).ownBlock x.1 x.2) := Lib.hid (by
        have step : ∀ x : Ms × Sl, MsAt wa wa.heap.size x.1 x.2 → FarM (Value.slice A' k c').ownBlock x.1 x.2 → MsAt w4 w4.heap.size x.1 x.2 ∧ FarM (Value.slice A4 (k + 1) c4).ownBlock x.1 x.2 := by
          intro x h1 h2
          refine ⟨h1.grown h2 hg4, ?_⟩
          rcases hwhere with e | e
          · rw [e]; exact h2
          · rw [e]; exact h1.farAt (by omega)
        intro x hx
        rcases List.mem_append.1 hx with hx | hx
        · obtain ⟨h1, h2⟩ := HA.out x hx
          exact step x ((h1.below hBA (Nat.le_refl _)).more hBA.size) h2
        · obtain rfl := List.mem_singleton.1 hx
          exact step _ hma (sl_far HNW.out (fun q hq => by have := (hlt q hq).2; omega)))
      have HB4 : Hid (Below w.heap.size w w4) := Lib.hid ((bnext HB.out hBA).grown hg4 (by omega) (fun q hq => (hlt q hq).1))
      have HO4 : Hid (w4.ownsRow w.heap.size 50 12 (.slice A4 (k + 1) c4) (k + 1) (msC (l' ++ [(m, sl)]))) := Lib.hid (by rw [msC_append]; simpa [msC] using hown4)
      have HL4 : Hid ((l' ++ [(m, sl)]).length = k + 1) := Lib.hid (by rw [List.length_append, HKL.out]; rfl)
      have HF4 : Hid (parseF (s.length + 1) [] s = parseF (rest2.length + 1) ((l' ++ [(m, sl)]).map Prod.fst) rest2) := Lib.hid (by
        have h1 := HST.out
        rw [HP.out, HONE.out] at h1
        dsimp only at h1
        rw [if_neg (by simp)] at h1
        rw [h1, List.map_append]
        exact parseF_more _ _ _ _ (by have := HRL.out; have := HNR.out; omega) (Nat.lt_succ_self _))
      have hk5 : 4 * (k + 1) + rest2.length ≤ n := by have := HRL.out; omega
      clear hown4 hg4 hwhere hBA hsa hma hlt HR HO1 HAT HNW HO HA HKL HST HERR HRS HONE HRM
      go_wp2
      go_roundw
      case rel => exact ⟨k + 1, A4, c4, l' ++ [(m, sl)], rest2, rfl, rfl, HO4.out, HL4.out, HALL.out, HF4.out, hk5, HB4.out⟩
      case measure => simp [lenVP]; omega
    · have HEND : Hid (RefParse s w (.returned (.tuple #[.slice none 0 0, .int .i64 er])) (w3.alloc (.cells #[.int .i64 m.kind, .int .u32 (m.ssrc : Int), .int .u32 (m.media : Int), .int .u64 (m.clock : Int), .int .u32 (m.time : Int), .int .u32 (m.packets : Int), .int .u32 (m.bytes : Int), .slice sl.rA m.reps.length sl.rc, .slice sl.wA m.who.length sl.wc, .slice sl.pA m.pairs.length sl.pc, .slice sl.aA m.asks.length sl.ac, .int .u8 (m.typ : Int)] 50))) := Lib.hid (HERR.out er _ (HB3.out.alloc HB3.out.size _) he (by rw [HONE.out]))
      have heb : (er == 0) = false := by simpa using he
      have hec : (er != 0) = true := by simpa using he
      clear HST HERR HRS HO HA HKL HONE HRM HAT HNW he
      go_wp2_with fail
      go_ret2
      exact HEND.out
end Go.Proofs.YtcjmiidnhbmclaaDoor
