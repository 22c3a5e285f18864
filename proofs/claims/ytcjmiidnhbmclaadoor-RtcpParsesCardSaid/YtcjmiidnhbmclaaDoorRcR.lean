/-
  The contract of package rtcp's Parse.
-/
import Derived.Test.YtcjmiidnhbmclaaDoorRcQ
import Derived.Test.YtcjmiidnhbmclaaDoorRtG
namespace Go.Proofs.YtcjmiidnhbmclaaDoor
open Go.RowKit
set_option maxRecDepth 100000

theorem info_Msg : (Tryd.prog.info? 59).map (fun i => (i.zero, i.size, i.bytes)) = some (some (.agg #[.int .i64 0, .int .u32 0, .int .u32 0, .int .u64 0, .int .u32 0, .int .u32 0, .int .u32 0, .slice none 0 0, .slice none 0 0, .slice none 0 0, .slice none 0 0, .int .u8 0]), 12, 144) := by kernel_rfl
theorem CmAt.grown {w w' : World} {m : Ms} {s : Sl} {ob : Option Nat} (h : CmAt w w.heap.size m s) (hf : FarM ob m s) (hg : w.grownBy w' ob) : CmAt w' w'.heap.size m s :=
  ⟨h.reps.grownFar hf.1 hg, h.who.grownFar hf.2.1 hg, h.pairs.grownFar hf.2.2.1 hg, h.asks.grownFar hf.2.2.2 hg⟩
theorem CmAt.farAt {w : World} {B N : Nat} {m : Ms} {s : Sl} (h : CmAt w B m s) (hN : B ≤ N) : FarM (some N) m s := ⟨h.reps.farAt hN, h.who.farAt hN, h.pairs.farAt hN, h.asks.farAt hN⟩
theorem SlNew.far {B : Nat} {m : Ms} {s : Sl} {ob : Option Nat} (h : SlNew B s) (ho : ∀ q, ob = some q → q < B) : FarM ob m s := by
  refine ⟨fun _ g o e e2 => ?_, fun _ g o e e2 => ?_, fun _ g o e e2 => ?_, fun _ g o e e2 => ?_⟩
  · have := h.1 _ e; have := ho g e2; simp at *; omega
  · have := h.2.1 _ e; have := ho g e2; simp at *; omega
  · have := h.2.2.1 _ e; have := ho g e2; simp at *; omega
  · have := h.2.2.2 _ e; have := ho g e2; simp at *; omega
def lenVR : Value → Nat
  | .slice _ n _ => n
  | _ => 0
def ParseOut (s : List UInt8) (w : World) (e : Ending) (w' : World) : Prop :=
  (∃ (A' : Option Addr) (c' k : Nat) (l' : List (Ms × Sl)), e = .returned (.tuple #[.slice A' k c', .int .i64 (parseL s).2]) ∧ l'.length = k ∧ l'.map Prod.fst = (parseL s).1 ∧ CmRow w' w'.heap.size A' l') ∧ Below w.heap.size w w'
theorem ParseOut.none {s : List UInt8} {w w' : World} {er : Int} (hb : Below w.heap.size w w') (hp : parseL s = ([], er)) : ParseOut s w (.returned (.tuple #[.slice none 0 0, .int .i64 er])) w' :=
  ⟨⟨_, 0, 0, [], by rw [hp], rfl, by rw [hp]; rfl, ⟨Row.nil, fun x hx => absurd hx (by simp)⟩⟩, hb⟩

set_option maxHeartbeats 6400000 in
theorem rparse_any (A : Option Addr) (c n : Nat) (s : List UInt8) (w : World) (hF : Forms w) (h : Row w w.heap.size 1 A n (u8s s)) (hn : s.length = n) (hl : n ≤ 100000) :
    Calls Tryd.prog 14 #[.slice A n c] w (ParseOut s w) := by
  by_cases h1 : 1500 < n
  · have HF : Hid (ParseOut s w (.returned (.tuple #[.slice none 0 0, .int .i64 13])) w) := Lib.hid (ParseOut.none (Below.refl _ _) (by unfold parseL; rw [if_pos (by omega)]))
    have h1' : (1500 : Int) < (n : Int) := by omega
    clear h hn hl hF
    go_enter Tryd.func14, Tryd.ntmps14
    go_wp2
    exact bodyPost_ret (v := .tuple #[.slice none 0 0, .int .i64 13]) (by simp [results, Tryd.results14, go_sem]) rfl HF.out
  by_cases h0 : n = 0
  · subst h0
    have hs : s = [] := List.eq_nil_of_length_eq_zero hn
    have HF : Hid (ParseOut s w (.returned (.tuple #[.slice none 0 0, .int .i64 10])) w) := Lib.hid (ParseOut.none (Below.refl _ _) (by subst hs; rfl))
    clear h hn hl hF hs h1
    go_enter Tryd.func14, Tryd.ntmps14
    go_wp2
    exact bodyPost_ret (v := .tuple #[.slice none 0 0, .int .i64 10]) (by simp [results, Tryd.results14, go_sem]) rfl HF.out
  have hp : parseL s = parseF (s.length + 1) [] s := by
    unfold parseL
    rw [if_neg (by omega), if_neg (by intro e; rw [e] at hn; simp at hn; omega)]
  have HP := Lib.hid hp
  have CN := new_any A n c s w h (by omega)
  have h1' : ¬ (1500 : Int) < (n : Int) := by omega
  have h0' : ¬ (n : Int) = 0 := by omega
  have hpos := hF.pos
  have HFM := Lib.hid hF
  clear h hF hp
  go_enter Tryd.func14, Tryd.ntmps14
  go_wp2_with fail
  refine CN.mono ?_
  rintro e w1 ⟨g, rfl, hg1, hc1, b1⟩
  have hgl := hc1.lt
  have b2 := b1.alloc b1.size (.cells #[.pointer (some ⟨g, 0, none⟩)] 74)
  have hc2 := hc1.alloc (.cells #[.pointer (some ⟨g, 0, none⟩)] 74)
  have WR := Whole.new w1 74 #[.pointer (some ⟨g, 0, none⟩)]
  have hs2 : (w1.alloc (.cells #[.pointer (some ⟨g, 0, none⟩)] 74)).heap.size = w1.heap.size + 1 := by simp
  obtain ⟨w2, hw2⟩ : ∃ w2, w1.alloc (.cells #[.pointer (some ⟨g, 0, none⟩)] 74) = w2 := ⟨_, rfl⟩
  obtain ⟨br, hbr⟩ : ∃ br, w1.heap.size = br := ⟨_, rfl⟩
  rw [hw2] at b2 hc2 WR hs2
  rw [hbr] at WR hs2 hgl
  have HW2 := Lib.hid hw2
  have hle0 := b2.size
  clear hc1 hw2 CN b1
  go_wp2_with fail
  rw [HW2.out]
  clear HW2
  go_loopw [4] (fun v wr => ∃ (k : Nat) (A' : Option Addr) (c' : Nat) (l' : List (Ms × Sl)) (rest : List UInt8), v = .slice A' k c' ∧ wr.ownsRow w2.heap.size 59 12 (.slice A' k c') k (msC l') ∧ l'.length = k ∧ (∀ x ∈ l', CmAt wr wr.heap.size x.1 x.2 ∧ SlNew w2.heap.size x.2 ∧ FarM (Value.slice A' k c').ownBlock x.1 x.2) ∧ CutAt wr w.heap.size g rest 0 ∧ Whole wr br 74 #[.pointer (some ⟨g, 0, none⟩)] ∧ Hid (parseF (s.length + 1) [] s = parseF (rest.length + 1) (l'.map Prod.fst) rest) ∧ 4 * k + rest.length ≤ n ∧ Below w.heap.size w wr ∧ w2.heap.size ≤ wr.heap.size) (fun v _ => 2000 - lenVR v)
  case atStart => exact ⟨0, none, 0, [], s, rfl, World.ownsRow_nil _ _ _ _, rfl, fun x hx => absurd hx (by simp), hc2, WR, Lib.hid rfl, by omega, b2, Nat.le_refl _⟩
  case round =>
    clear hc2 WR b2
    obtain ⟨k, A', c', l', rest, rfl, hown, hkl, hall, hcut, hwr, HPF, hk4, hb, hsw⟩ := hrel
    have q0 : wr.cell? ⟨br, 0, none⟩ = some (.pointer (some ⟨g, 0, none⟩)) := hwr.cell 0
    have CL := Lib.hid (left_any g rest 0 wr hcut)
    by_cases hr0 : rest.length = 0
    · have hrest : rest = [] := List.eq_nil_of_length_eq_zero hr0
      have hpl : parseL s = (l'.map Prod.fst, 0) := by rw [HP.out, HPF.out, parseF_succ, if_pos hrest]
      have HF : Hid (ParseOut s w (.returned (.tuple #[.slice A' k c', .int .i64 0])) wr) := Lib.hid ⟨⟨A', c', k, l', by rw [hpl], hkl, by rw [hpl], ⟨by have := Row.of_own hown; rwa [← hkl] at this, fun x hx => (hall x hx).1⟩⟩, hb⟩
      rw [hr0] at CL
      clear hown hkl hall hcut hwr HPF hb hrest hpl HP
      go_wp2_with fail
      refine CL.out.mono ?_
      rintro e w1b ⟨rfl, rfl⟩
      clear CL
      go_wp2
      exact bodyPost_ret (v := .tuple #[.slice A' k c', .int .i64 0]) (by simp [results, Tryd.results14, go_sem]) rfl HF.out
    · have hr0' : 0 < (rest.length : Int) := by omega
      obtain ⟨nr, hnr⟩ : ∃ nr, rest.length = nr := ⟨_, rfl⟩
      rw [hnr] at hr0' CL
      have CM := msg_any g rest wr hcut (HFM.out.next hb) (by omega) (by omega)
      have HRS := Lib.hid (oneS_rest rest)
      have hne : rest ≠ [] := fun e => hr0 (by rw [e]; rfl)
      have HST : Hid (parseL s = if (oneS rest).2.2 ≠ 0 then ([], (oneS rest).2.2) else parseF rest.length (l'.map Prod.fst ++ [(oneS rest).1]) (oneS rest).2.1) := Lib.hid (by rw [HP.out, HPF.out, parseF_succ, if_neg hne])
      have CM2 : Hid (Calls Tryd.prog 27 #[.agg #[.pointer (some ⟨g, 0, none⟩)]] wr (OneR w.heap.size g rest wr)) := Lib.hid CM
      obtain ⟨⟨m, rs, er⟩, hone⟩ : ∃ p, oneS rest = p := ⟨_, rfl⟩
      have CM3 : Hid (Calls Tryd.prog 27 #[.agg #[.pointer (some ⟨g, 0, none⟩)]] wr fun en w' => ∃ s', en = .returned (.tuple #[.agg #[.int .i64 m.kind, .int .u32 (m.ssrc : Int), .int .u32 (m.media : Int), .int .u64 (m.clock : Int), .int .u32 (m.time : Int), .int .u32 (m.packets : Int), .int .u32 (m.bytes : Int), .slice s'.rA m.reps.length s'.rc, .slice s'.wA m.who.length s'.wc, .slice s'.pA m.pairs.length s'.pc, .slice s'.aA m.asks.length s'.ac, .int .u8 (m.typ : Int)], .int .i64 er]) ∧ CmAt w' w'.heap.size m s' ∧ SlNew wr.heap.size s' ∧ m.Fits ∧ (er = 0 → CutAt w' w.heap.size g rs 0) ∧ wr.grownBy w' (some g)) := Lib.hid (by
        have := CM2.out
        unfold OneR at this
        rw [hone] at this
        exact this)
      rw [hone] at HST HRS
      have HO := Lib.hid hown
      have HA := Lib.hid hall
      have HWR := Lib.hid hwr
      have HB := Lib.hid hb
      clear CM CM2 hone hcut hwr hb hown hall hne hr0
      go_wp2_with fail
      refine CL.out.mono ?_
      rintro e w1b ⟨rfl, rfl⟩
      clear CL
      go_wp2_with fail
      refine CM3.out.mono ?_
      rintro e w3 ⟨s', rfl, hat, hnew, hfit, hcut3, hg3⟩
      have B3 : Below w.heap.size w w3 := HB.out.grown hg3 HB.out.size (fun q hq => by injection hq with hq; omega)
      have hs3 := hg3.size
      by_cases her : er = 0
      · subst her
        have hcut := hcut3 rfl
        have hrl := HRS.out rfl
        have own3 := own_grownG HO.out hg3 (by omega)
        have HW3 := Lib.hid (HWR.out.grown hg3 (some_ne hgl))
        have HALL3 := Lib.hid (show ∀ x ∈ l', CmAt w3 w3.heap.size x.1 x.2 ∧ SlNew w2.heap.size x.2 ∧ FarM (Value.slice A' k c').ownBlock x.1 x.2 from fun x hx => by
          obtain ⟨a1, a2, a3⟩ := HA.out x hx
          exact ⟨a1.grown (a2.far (fun q hq => by injection hq with hq; omega)) hg3, a2, a3⟩)
        have hltq : ∀ q, (Value.slice A' k c').ownBlock = some q → w2.heap.size ≤ q ∧ q < wr.heap.size := fun q hq => HO.out.lt q hq
        have HST2 : Hid (parseL s = parseF nr (l'.map Prod.fst ++ [m]) rs) := Lib.hid (by rw [HST.out, if_neg (by simp), hnr])
        -- the boxed message, then the literal of one
        have HRW := Lib.hid (show Row ((w3.alloc (.cells #[.int .i64 m.kind, .int .u32 (m.ssrc : Int), .int .u32 (m.media : Int), .int .u64 (m.clock : Int), .int .u32 (m.time : Int), .int .u32 (m.packets : Int), .int .u32 (m.bytes : Int), .slice s'.rA m.reps.length s'.rc, .slice s'.wA m.who.length s'.wc, .slice s'.pA m.pairs.length s'.pc, .slice s'.aA m.asks.length s'.ac, .int .u8 (m.typ : Int)] 59)).alloc (.cells #[.int .i64 m.kind, .int .u32 (m.ssrc : Int), .int .u32 (m.media : Int), .int .u64 (m.clock : Int), .int .u32 (m.time : Int), .int .u32 (m.packets : Int), .int .u32 (m.bytes : Int), .slice s'.rA m.reps.length s'.rc, .slice s'.wA m.who.length s'.wc, .slice s'.pA m.pairs.length s'.pc, .slice s'.aA m.asks.length s'.ac, .int .u8 (m.typ : Int)] 59)) ((w3.alloc (.cells #[.int .i64 m.kind, .int .u32 (m.ssrc : Int), .int .u32 (m.media : Int), .int .u64 (m.clock : Int), .int .u32 (m.time : Int), .int .u32 (m.packets : Int), .int .u32 (m.bytes : Int), .slice s'.rA m.reps.length s'.rc, .slice s'.wA m.who.length s'.wc, .slice s'.pA m.pairs.length s'.pc, .slice s'.aA m.asks.length s'.ac, .int .u8 (m.typ : Int)] 59)).alloc (.cells #[.int .i64 m.kind, .int .u32 (m.ssrc : Int), .int .u32 (m.media : Int), .int .u64 (m.clock : Int), .int .u32 (m.time : Int), .int .u32 (m.packets : Int), .int .u32 (m.bytes : Int), .slice s'.rA m.reps.length s'.rc, .slice s'.wA m.who.length s'.wc, .slice s'.pA m.pairs.length s'.pc, .slice s'.aA m.asks.length s'.ac, .int .u8 (m.typ : Int)] 59)).heap.size 12 (some ⟨(w3.alloc (.cells #[.int .i64 m.kind, .int .u32 (m.ssrc : Int), .int .u32 (m.media : Int), .int .u64 (m.clock : Int), .int .u32 (m.time : Int), .int .u32 (m.packets : Int), .int .u32 (m.bytes : Int), .slice s'.rA m.reps.length s'.rc, .slice s'.wA m.who.length s'.wc, .slice s'.pA m.pairs.length s'.pc, .slice s'.aA m.asks.length s'.ac, .int .u8 (m.typ : Int)] 59)).heap.size, 0, none⟩) 1 (m.cells s') from Row.fresh _ _ _ 12 1 _ rfl rfl)
        have hb4 := ((Below.refl w3.heap.size w3).alloc (Nat.le_refl _) (.cells #[.int .i64 m.kind, .int .u32 (m.ssrc : Int), .int .u32 (m.media : Int), .int .u64 (m.clock : Int), .int .u32 (m.time : Int), .int .u32 (m.packets : Int), .int .u32 (m.bytes : Int), .slice s'.rA m.reps.length s'.rc, .slice s'.wA m.who.length s'.wc, .slice s'.pA m.pairs.length s'.pc, .slice s'.aA m.asks.length s'.ac, .int .u8 (m.typ : Int)] 59)).alloc (by simp) (.cells #[.int .i64 m.kind, .int .u32 (m.ssrc : Int), .int .u32 (m.media : Int), .int .u64 (m.clock : Int), .int .u32 (m.time : Int), .int .u32 (m.packets : Int), .int .u32 (m.bytes : Int), .slice s'.rA m.reps.length s'.rc, .slice s'.wA m.who.length s'.wc, .slice s'.pA m.pairs.length s'.pc, .slice s'.aA m.asks.length s'.ac, .int .u8 (m.typ : Int)] 59)
        have HO4 := Lib.hid ((own3.alloc (.cells #[.int .i64 m.kind, .int .u32 (m.ssrc : Int), .int .u32 (m.media : Int), .int .u64 (m.clock : Int), .int .u32 (m.time : Int), .int .u32 (m.packets : Int), .int .u32 (m.bytes : Int), .slice s'.rA m.reps.length s'.rc, .slice s'.wA m.who.length s'.wc, .slice s'.pA m.pairs.length s'.pc, .slice s'.aA m.asks.length s'.ac, .int .u8 (m.typ : Int)] 59)).alloc (.cells #[.int .i64 m.kind, .int .u32 (m.ssrc : Int), .int .u32 (m.media : Int), .int .u64 (m.clock : Int), .int .u32 (m.time : Int), .int .u32 (m.packets : Int), .int .u32 (m.bytes : Int), .slice s'.rA m.reps.length s'.rc, .slice s'.wA m.who.length s'.wc, .slice s'.pA m.pairs.length s'.pc, .slice s'.aA m.asks.length s'.ac, .int .u8 (m.typ : Int)] 59))
        have e34 : (w3.alloc (.cells #[.int .i64 m.kind, .int .u32 (m.ssrc : Int), .int .u32 (m.media : Int), .int .u64 (m.clock : Int), .int .u32 (m.time : Int), .int .u32 (m.packets : Int), .int .u32 (m.bytes : Int), .slice s'.rA m.reps.length s'.rc, .slice s'.wA m.who.length s'.wc, .slice s'.pA m.pairs.length s'.pc, .slice s'.aA m.asks.length s'.ac, .int .u8 (m.typ : Int)] 59)).heap.size = w3.heap.size + 1 := by simp
        rw [e34] at HRW
        obtain ⟨w4, hw4⟩ : ∃ w4, (w3.alloc (.cells #[.int .i64 m.kind, .int .u32 (m.ssrc : Int), .int .u32 (m.media : Int), .int .u64 (m.clock : Int), .int .u32 (m.time : Int), .int .u32 (m.packets : Int), .int .u32 (m.bytes : Int), .slice s'.rA m.reps.length s'.rc, .slice s'.wA m.who.length s'.wc, .slice s'.pA m.pairs.length s'.pc, .slice s'.aA m.asks.length s'.ac, .int .u8 (m.typ : Int)] 59)).alloc (.cells #[.int .i64 m.kind, .int .u32 (m.ssrc : Int), .int .u32 (m.media : Int), .int .u64 (m.clock : Int), .int .u32 (m.time : Int), .int .u32 (m.packets : Int), .int .u32 (m.bytes : Int), .slice s'.rA m.reps.length s'.rc, .slice s'.wA m.who.length s'.wc, .slice s'.pA m.pairs.length s'.pc, .slice s'.aA m.asks.length s'.ac, .int .u8 (m.typ : Int)] 59) = w4 := ⟨_, rfl⟩
        rw [hw4] at hb4
        have hs4 := hb4.size
        have hs4e : w4.heap.size = w3.heap.size + 1 + 1 := by rw [← hw4]; simp
        have HW4 := Lib.hid hw4
        have HB4 := Lib.hid hb4
        have HHAT := Lib.hid hat
        have HNEW := Lib.hid hnew
        have HG3 := Lib.hid hg3
        have HB3 := Lib.hid B3
        have HCUT := Lib.hid hcut
        clear own3 hb4 hw4 hat hnew hg3 B3 hcut hcut3 HA HO HWR HST HRS CM3 HB hfit
        clear e34
        go_wp2_with (at_builtin; go_loud (refine wpl_append _ rfl (.tmp 31) (.tmp 33) 22 rfl w2.heap.size 59 (.agg #[.int .i64 0, .int .u32 0, .int .u32 0, .int .u64 0, .int .u32 0, .int .u32 0, .int .u32 0, .slice none 0 0, .slice none 0 0, .slice none 0 0, .slice none 0 0, .int .u8 0]) 12 144 Tryd.underlying22 info_Msg rfl (by decide) (.slice A' k c') k (msC l') rfl HO4.out _ _ 1 1 (m.cells s') rfl HRW.out ?c0 ?c1 ?c2 ?c3 ?_))
        case c0 => intro u hu; simp [Ms.cells] at hu; rcases hu with rfl | rfl | rfl | rfl | rfl | rfl | rfl | rfl | rfl | rfl | rfl | rfl <;> rfl
        case c1 => unfold maxLen; omega
        case c2 => omega
        case c3 => simp; omega
        intro v3 w5 own5 hg5 hwhere
        obtain ⟨A3, c3', rfl⟩ := own_form own5
        rw [HW4.out] at hg5
        have hs5 := hg5.size
        have HALL5 : Hid (∀ x ∈ l' ++ [(m, s')], CmAt w5 w5.heap.size x.1 x.2 ∧ SlNew w2.heap.size x.2 ∧ FarM (Value.slice A3 (k + 1) c3').ownBlock x.1 x.2) := Lib.hid (by
          have step : ∀ x : Ms × Sl, CmAt w4 w4.heap.size x.1 x.2 → FarM (Value.slice A' k c').ownBlock x.1 x.2 → CmAt w5 w5.heap.size x.1 x.2 ∧ FarM (Value.slice A3 (k + 1) c3').ownBlock x.1 x.2 := by
            intro x h1 h2
            refine ⟨h1.grown h2 hg5, ?_⟩
            rcases hwhere with e | e
            · rw [e]; exact h2
            · rw [e]; exact h1.farAt (by omega)
          intro x hx
          rcases List.mem_append.1 hx with hx | hx
          · obtain ⟨h1, h2, h3⟩ := HALL3.out x hx
            obtain ⟨k1, k2⟩ := step x ((h1.below HB4.out (Nat.le_refl _)).more hs4) h3
            exact ⟨k1, h2, k2⟩
          · obtain rfl := List.mem_singleton.1 hx
            obtain ⟨k1, k2⟩ := step (m, s') ((HHAT.out.below HB4.out (Nat.le_refl _)).more hs4) (HNEW.out.far (fun q hq => (hltq q hq).2))
            exact ⟨k1, HNEW.out.less hsw, k2⟩)
        have HO5 : Hid (w5.ownsRow w2.heap.size 59 12 (.slice A3 (k + 1) c3') (k + 1) (msC (l' ++ [(m, s')]))) := Lib.hid (by rw [msC_append, show msC [(m, s')] = m.cells s' by simp [msC], hs2]; exact own5)
        have hgq : ∀ q, (Value.slice A' k c').ownBlock = some q → g < q := fun q hq => by have := (hltq q hq).1; omega
        have HC5 := Lib.hid ((HCUT.out.below HB4.out HCUT.out.lt).grown hg5 hgq)
        have HW5 := Lib.hid ((HW3.out.below HB4.out HW3.out.lt).grown hg5 (fun e => by have := hltq br e.symm; omega))
        have HB5 := Lib.hid (((HB3.out.trans (HB4.out.mono (by omega)))).grown hg5 (by omega) (fun q hq => Nat.le_trans hle0 (hltq q hq).1))
        have HL5 : Hid ((l' ++ [(m, s')]).length = k + 1) := Lib.hid (by simp [hkl])
        have HPF5 : Hid (parseF (s.length + 1) [] s = parseF (rs.length + 1) ((l' ++ [(m, s')]).map Prod.fst) rs) := Lib.hid (by
          rw [← HP.out, HST2.out, List.map_append]
          exact parseF_more _ _ _ _ (by omega) (by omega))
        have hsw5 : w2.heap.size ≤ w5.heap.size := by omega
        clear own5 hg5 hwhere HALL3 HST2 hgq hltq HRW HO4 HW4 HB4 HHAT HNEW HG3 HB3 HCUT HW3 HPF
        go_wp2
        go_roundw
        case rel => exact ⟨k + 1, A3, c3', l' ++ [(m, s')], rs, rfl, HO5.out, HL5.out, HALL5.out, HC5.out, HW5.out, HPF5, by omega, HB5.out, hsw5⟩
        case measure => simp [lenVR]; omega
      · have HF : Hid (∀ o, ParseOut s w (.returned (.tuple #[.slice none 0 0, .int .i64 er])) (w3.alloc o)) := Lib.hid (fun o => ParseOut.none (B3.alloc B3.size o) (by rw [HST.out, if_pos her]))
        have her' : ¬ er = 0 := her
        clear hat hnew hfit hcut3 hg3 B3 HA HO HWR HST HRS CM3 HB
        go_wp2
        exact bodyPost_ret (v := .tuple #[.slice none 0 0, .int .i64 er]) (by simp [results, Tryd.results14, go_sem]) rfl (HF.out _)
end Go.Proofs.YtcjmiidnhbmclaaDoor
