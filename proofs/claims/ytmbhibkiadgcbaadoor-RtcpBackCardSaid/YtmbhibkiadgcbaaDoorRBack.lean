/-
  RtcpBack: what is put is parsed as it was, but for fields that a kind doesn't name, and for what is lost beyond three bytes; with padding behind the last one, too. Conditions: the package's table of kinds reads as the program's text lays it (the tied card).
-/
import Derived.Test.YtmbhibkiadgcbaaDoorRcW
import Derived.Test.YtmbhibkiadgcbaaDoorRtI
import Derived.Test.YtmbhibkiadgcbaaDoorRtJ
import Derived.Test.YtmbhibkiadgcbaaDoorRtV
namespace Go.Proofs.YtmbhibkiadgcbaaDoor.RBack
open Go.ChangeShapes Go.WideShapes Go.ChangeAt Go.RowKit
set_option maxRecDepth 100000

theorem info_R9 : (Tryd.prog.info? 61).map (fun i => (i.zero, i.size, i.bytes)) = some (some (.agg #[.int .u32 0, .int .u8 0, .int .u32 0, .int .u32 0, .int .u32 0, .int .u32 0, .int .u32 0]), 7, 28) := by kernel_rfl
theorem nm_norm (m : Ms) (hg : m.good = true) : ({ m.nm with reps := m.nm.reps.map Rp.norm } : Ms) = m.norm := by
  obtain ⟨k, hk, hk6⟩ := good_num m hg
  unfold Ms.nm Ms.norm
  match k, hk6, hk with
  | 0, _, hk => simp [hk]
  | 1, _, hk => simp [hk]
  | 2, _, hk => simp [hk]
  | 3, _, hk => simp [hk]
  | 4, _, hk => simp [hk]
  | 5, _, hk => simp [hk]
theorem nm_reps (m : Ms) (h : m.Few) : m.nm.reps.length ≤ 64 := by
  have := h.1
  unfold Ms.nm
  repeat' split
  all_goals first | exact this | simp
theorem repN_take (l : List Rp) (k : Nat) (r : Rp) (h : l[k]? = some r) : repC ((l.map Rp.norm).take (k + 1)) = repC ((l.map Rp.norm).take k) ++ r.norm.cells := by
  rw [List.take_add_one, List.getElem?_map, h]
  simp [repC]

set_option maxRecDepth 1000000 in
set_option maxHeartbeats 12000000 in
theorem walk (w : World) (hF : Forms w) (A : Option Addr) (c : Nat) (l : List (Ms × Sl)) (hl : l.length ≤ maxLen) (h : CmRow w w.heap.size A l) (hfit : ∀ x ∈ l, x.1.Fits) (pi : Int) (hpi : (Lit.int .u8 pi).wf = true) :
    Calls Tryd.prog 5 #[.slice A l.length c, .int .u8 pi] w fun e w' => e = .returned (.bool true) ∧ Below w.heap.size w w' := by
  have hp2 := wf_u8 hpi
  clear hpi
  obtain ⟨pd, rfl⟩ := Int.eq_ofNat_of_zero_le hp2.1
  obtain ⟨n, hn⟩ : ∃ n, l.length = n := ⟨_, rfl⟩
  rw [hn] at hl ⊢
  have H := Lib.hid h
  have HN := Lib.hid hn
  have HF := Lib.hid hfit
  have HFM := Lib.hid hF
  clear h hn hfit hF
  obtain ⟨b, hb⟩ : ∃ b, fewM (l.map Prod.fst) = b := ⟨_, rfl⟩
  have HW := Lib.hid hb
  clear hb
  go_enter Tryd.func5, Tryd.ntmps5
  go_wp2_with fail
  refine (awake9 w HFM.out).mono ?_
  rintro e w1 ⟨rfl, b1⟩
  have HB1 := Lib.hid b1
  have C1 := few_any A c n l w1 ((H.out.below b1 (Nat.le_refl _)).more b1.size) HN.out hl
  rw [HW.out] at C1
  clear b1
  go_wp2_with fail
  refine C1.mono ?_
  rintro e w2 ⟨rfl, rfl⟩
  clear C1
  cases b with
  | false =>
    go_wp2
    go_ret
    exact ⟨rfl, HB1.out⟩
  | true =>
  by_cases hn0 : (n : Int) = 0
  · go_wp2
    go_ret
    exact ⟨rfl, HB1.out⟩
  obtain ⟨hf, h12⟩ := few_mod HW.out HF.out
  rw [HN.out] at h12
  obtain ⟨⟨bx, ex⟩, hpx⟩ : ∃ p, putL (l.map Prod.fst) = p := ⟨_, rfl⟩
  have HREL : Hid ((ex ≠ 0 → bx = []) ∧ (ex = 0 → (∀ x ∈ l, x.1.good = true) ∧ bx = encs (l.map Prod.fst) ∧ bx.length ≤ 1500)) := Lib.hid (by
    rcases putL_cases (l.map Prod.fst) with ⟨p1, g1, s1⟩ | ⟨p1, p2, _⟩
    · rw [hpx] at p1
      injection p1 with q1 q2
      exact ⟨fun hh => absurd q2 hh, fun _ => ⟨fun x hx => g1 x.1 (List.mem_map.2 ⟨x, hx, rfl⟩), q1, by rw [q1]; exact s1⟩⟩
    · rw [hpx] at p1 p2
      exact ⟨fun _ => p1, fun hh => absurd hh p2⟩)
  have CX := rput_any A c n l w1 (HFM.out.next HB1.out) ((H.out.below HB1.out (Nat.le_refl _)).more HB1.out.size) HN.out hf (by omega)
  rw [hpx] at CX
  have CXH : Hid (Calls Tryd.prog 11 #[.slice A n c] w1 fun e w' => (∃ (A' : Option Addr) (c' : Nat), e = .returned (.tuple #[.slice A' bx.length c', .int .i64 ex]) ∧ w'.ownsRow w1.heap.size 5 1 (.slice A' bx.length c') bx.length (u8s bx)) ∧ Below w1.heap.size w1 w') := Lib.hid CX
  have HFF := Lib.hid hf
  clear CX hpx hf
  go_wp2_with fail
  refine CXH.out.mono ?_
  rintro e w3 ⟨⟨A3, c3, rfl, o3⟩, b3⟩
  have B3 := bnext HB1.out b3
  have HO3 := Lib.hid o3
  have HB3 := Lib.hid B3
  have hs3 := B3.size
  clear CXH b3 o3 B3
  by_cases hex : ex = 0
  case neg =>
    have hbx := HREL.out.1 hex
    subst hbx
    clear HREL HO3 HFF
    go_wp2
    go_ret
    exact ⟨rfl, HB3.out⟩
  subst hex
  obtain ⟨hgood, hbx, h15⟩ := HREL.out.2 rfl
  have HG := Lib.hid hgood
  have HBX := Lib.hid hbx
  clear HREL hgood hbx
  go_wp2_with fail
  go_loopw [9, 10] (fun v i wr => ∃ (k : Nat) (A' : Option Addr) (c' : Nat) (lw : List (Ms × Sl)), k ≤ n ∧ v = .slice A' k c' ∧ i = .int .i64 k ∧ Hid (lw.map Prod.fst = (l.take k).map (fun x => x.1.norm)) ∧ wr.ownsRow w3.heap.size 50 12 (.slice A' k c') k (msC lw) ∧ (∀ x ∈ lw, MsAt wr wr.heap.size x.1 x.2 ∧ FarM (Value.slice A' k c').ownBlock x.1 x.2) ∧ (∀ x ∈ lw, FarM (Value.slice A3 bx.length c3).ownBlock x.1 x.2) ∧ Below w3.heap.size w3 wr) (fun _ i _ => n - (intOf i).toNat)
  case atStart => exact ⟨0, none, 0, [], Nat.zero_le _, rfl, rfl, Lib.hid rfl, World.ownsRow_nil _ _ _ _, fun x hx => absurd hx (by simp), fun x hx => absurd hx (by simp), Below.refl _ _⟩
  case round =>
    obtain ⟨k, A', c', lw, hk, rfl, rfl, hlw, hown, hall, hbf, hb⟩ := hrel
    by_cases hlt : k < n
    · obtain ⟨x, hx⟩ : ∃ x, l[k]? = some x := ⟨l[k]'(by rw [HN.out]; exact hlt), by simp⟩
      have hsz := hb.size
      have BW := HB3.out.trans (hb.mono hs3)
      obtain ⟨g, o, rfl, hg, hcs, hat⟩ := (H.out.below BW (Nat.le_refl _)).at k x hx
      obtain ⟨hfit, hfew⟩ := HFF.out x (List.mem_of_getElem? hx)
      have hgd := HG.out x (List.mem_of_getElem? hx)
      obtain ⟨m, s⟩ := x
      have HT : Hid ((l.take (k + 1)).map (fun x => x.1.norm) = (l.take k).map (fun x => x.1.norm) ++ [m.norm]) := Lib.hid (by rw [List.take_add_one, hx]; simp)
      dsimp only at hcs hat hfit hfew hgd
      have C := Lib.hid (of_any m s wr (hat.more BW.size) hfit hfew.mod)
      have HWA : Hid (∀ g o, s.wA = some ⟨g, o, none⟩ → 0 < m.who.length → g < w.heap.size) := Lib.hid (fun g o e h0 => by obtain ⟨g', o', e', hl, _⟩ := hat.who.2 h0; rw [e] at e'; injection e' with e'; injection e' with e1 _; omega)
      have HBW := Lib.hid BW
      have hb' := Lib.hid hb
      have HO := Lib.hid hown
      have HA := Lib.hid hall
      have HBF := Lib.hid hbf
      have HNM := Lib.hid (nm_norm m hgd)
      have hn64 := nm_reps m hfew
      have hi1 : (0 : Int) ≤ (k : Int) := by omega
      have hi2 : (k : Int) < (n : Int) := by omega
      clear hown hall hbf hb hat hfit hfew hx BW hgd
      have q0 : wr.cell? ⟨g, o + k * 12, none⟩ = some (.int .i64 m.kind) := hcs 0 _ rfl
      have q1 : wr.cell? ⟨g, o + k * 12 + 1, none⟩ = some (.int .u32 (m.ssrc : Int)) := hcs 1 _ rfl
      have q2 : wr.cell? ⟨g, o + k * 12 + 2, none⟩ = some (.int .u32 (m.media : Int)) := hcs 2 _ rfl
      have q3 : wr.cell? ⟨g, o + k * 12 + 3, none⟩ = some (.int .u64 (m.clock : Int)) := hcs 3 _ rfl
      have q4 : wr.cell? ⟨g, o + k * 12 + 4, none⟩ = some (.int .u32 (m.time : Int)) := hcs 4 _ rfl
      have q5 : wr.cell? ⟨g, o + k * 12 + 5, none⟩ = some (.int .u32 (m.packets : Int)) := hcs 5 _ rfl
      have q6 : wr.cell? ⟨g, o + k * 12 + 6, none⟩ = some (.int .u32 (m.bytes : Int)) := hcs 6 _ rfl
      have q7 : wr.cell? ⟨g, o + k * 12 + 7, none⟩ = some (.slice s.rA m.reps.length s.rc) := hcs 7 _ rfl
      have q8 : wr.cell? ⟨g, o + k * 12 + 8, none⟩ = some (.slice s.wA m.who.length s.wc) := hcs 8 _ rfl
      have q9 : wr.cell? ⟨g, o + k * 12 + 9, none⟩ = some (.slice s.pA m.pairs.length s.pc) := hcs 9 _ rfl
      have q10 : wr.cell? ⟨g, o + k * 12 + 10, none⟩ = some (.slice s.aA m.asks.length s.ac) := hcs 10 _ rfl
      have q11 : wr.cell? ⟨g, o + k * 12 + 11, none⟩ = some (.int .u8 (m.typ : Int)) := hcs 11 _ rfl
      unfold Ms.cells at hcs C
      clear hcs
      go_wp2_with fail
      refine C.out.mono ?_
      rintro e w4 ⟨⟨s1, rfl, hm1, hnew, hwa⟩, b4⟩
      have HFAR1 := Lib.hid (show FarM (Value.slice A' k c').ownBlock m s1 from hnew.far (fun q hq => HO.out.lt q hq) (by rw [hwa]; exact fun g o e h0 => by have := HWA.out g o e h0; omega))
      have HFB1 := Lib.hid (show FarM (Value.slice A3 bx.length c3).ownBlock m s1 from hnew.far (b := w.heap.size) (fun q hq => ⟨by have := (HO3.out.lt q hq).1; have := HB1.out.size; omega, by have := (HO3.out.lt q hq).2; omega⟩) (by rw [hwa]; exact HWA.out))
      have C2 := named_any m s1 w4 hm1
      obtain ⟨mm, hmm⟩ : ∃ mm, m.nm = mm := ⟨_, rfl⟩
      rw [hmm] at C2 HNM hn64
      unfold Ms.cells at C2
      have C2H := Lib.hid C2
      have HB4 := Lib.hid b4
      have hs4 := b4.size
      clear C C2 hm1 hnew hwa b4 q0 q1 q2 q3 q4 q5 q6 q7 q8 q9 q10 q11 HWA hmm
      dsimp only
      go_wp2_with fail
      refine C2H.out.mono ?_
      rintro e w5 ⟨⟨⟨ra2, rc2, wa2, wc2, pa2, pc2, aa2, ac2⟩, rfl, hm2, hfar⟩, b5⟩
      have HFAR2 := Lib.hid (hfar _ HFAR1.out)
      have HFB2 := Lib.hid (hfar _ HFB1.out)
      have hs5 := b5.size
      have B5 := HB4.out.trans (b5.mono hs4)
      have HM2 := Lib.hid hm2
      have HB5 := Lib.hid B5
      obtain ⟨nr, hnr⟩ : ∃ nr, mm.reps.length = nr := ⟨_, rfl⟩
      have HNR := Lib.hid hnr
      rw [hnr] at hn64 ⊢
      clear hnr
      have WT := Whole.new w5 50 #[.int .i64 mm.kind, .int .u32 (mm.ssrc : Int), .int .u32 (mm.media : Int), .int .u64 (mm.clock : Int), .int .u32 (mm.time : Int), .int .u32 (mm.packets : Int), .int .u32 (mm.bytes : Int), .slice ra2 nr rc2, .slice wa2 mm.who.length wc2, .slice pa2 mm.pairs.length pc2, .slice aa2 mm.asks.length ac2, .int .u8 (mm.typ : Int)]
      have b6 := (Below.refl w5.heap.size w5).alloc (Nat.le_refl _) (.cells #[.int .i64 mm.kind, .int .u32 (mm.ssrc : Int), .int .u32 (mm.media : Int), .int .u64 (mm.clock : Int), .int .u32 (mm.time : Int), .int .u32 (mm.packets : Int), .int .u32 (mm.bytes : Int), .slice ra2 nr rc2, .slice wa2 mm.who.length wc2, .slice pa2 mm.pairs.length pc2, .slice aa2 mm.asks.length ac2, .int .u8 (mm.typ : Int)] 50)
      obtain ⟨w6, hw6⟩ : ∃ w6, w5.alloc (.cells #[.int .i64 mm.kind, .int .u32 (mm.ssrc : Int), .int .u32 (mm.media : Int), .int .u64 (mm.clock : Int), .int .u32 (mm.time : Int), .int .u32 (mm.packets : Int), .int .u32 (mm.bytes : Int), .slice ra2 nr rc2, .slice wa2 mm.who.length wc2, .slice pa2 mm.pairs.length pc2, .slice aa2 mm.asks.length ac2, .int .u8 (mm.typ : Int)] 50) = w6 := ⟨_, rfl⟩
      rw [hw6] at WT b6
      have hs6 : w6.heap.size = w5.heap.size + 1 := by rw [← hw6]; simp
      have HW6 := Lib.hid hw6
      have HWT := Lib.hid WT
      have HB6 := Lib.hid b6
      clear C2H hfar hm2 b5 B5 WT b6 hw6 HFAR1 HFB1 HB4
      dsimp only
      go_wp2_with fail
      rw [HW6.out]
      clear HW6
      obtain ⟨wo, rfl⟩ : ∃ wo : World, wo = wr := ⟨_, rfl⟩
      obtain ⟨bt, hbt⟩ : ∃ bt, w5.heap.size = bt := ⟨_, rfl⟩
      rw [hbt] at HWT hs6
      rw [hbt]
      have hs6l : bt < w6.heap.size := by omega
      have HS6 := Lib.hid hs6
      have hbtw : w4.heap.size ≤ bt := by omega
      have hbw56 : w5.heap.size ≤ w6.heap.size := by omega
      clear hs6
      go_loopw [12, 13] (fun v i wi => ∃ jx : Nat, jx ≤ nr ∧ i = .int .i64 jx ∧ wi.ownsRow w6.heap.size 61 7 v jx (repC ((mm.reps.map Rp.norm).take jx)) ∧ Below w6.heap.size w6 wi) (fun _ i _ => nr - (intOf i).toNat)
      case atStart => exact ⟨0, Nat.zero_le _, rfl, World.ownsRow_nil _ _ _ _, Below.refl _ _⟩
      case round =>
        obtain ⟨jx, hjk, rfl, hown, hbi⟩ := hrel
        have HWi := HWT.out.below hbi HWT.out.lt
        have t7 : wr.cell? ⟨bt, 7, none⟩ = some (.slice ra2 nr rc2) := HWi.cell 7
        by_cases hjt : jx < nr
        · obtain ⟨r, hr⟩ : ∃ r, mm.reps[jx]? = some r := ⟨mm.reps[jx]'(by rw [HNR.out]; exact hjt), by simp⟩
          have hbw : Below w5.heap.size w5 wr := HB6.out.trans (hbi.mono (by omega))
          obtain ⟨g2, o2, hrA, hg2, hrc⟩ := (HM2.out.reps.below hbw (by omega)).2 (by rw [HNR.out]; omega)
          have HTK := Lib.hid (repN_take mm.reps jx r hr)
          have hrf : r.lost % 16777216 < 16777216 := Nat.mod_lt _ (by decide)
          obtain ⟨x0, x1, x2, x3, x4, x5, x6⟩ := r
          dsimp only at hrf
          dsimp only at hrA
          subst hrA
          have r0 : wr.cell? ⟨g2, o2 + jx * 7, none⟩ = some (.int .u32 (x0 : Int)) := hrc (jx * 7) _ ((repC_get _ _ _ hr 0 (by decide)).trans rfl)
          have r1 : wr.cell? ⟨g2, o2 + jx * 7 + 1, none⟩ = some (.int .u8 (x1 : Int)) := hrc (jx * 7 + 1) _ ((repC_get _ _ _ hr 1 (by decide)).trans rfl)
          have r2 : wr.cell? ⟨g2, o2 + jx * 7 + 2, none⟩ = some (.int .u32 (x2 : Int)) := hrc (jx * 7 + 2) _ ((repC_get _ _ _ hr 2 (by decide)).trans rfl)
          have r3 : wr.cell? ⟨g2, o2 + jx * 7 + 3, none⟩ = some (.int .u32 (x3 : Int)) := hrc (jx * 7 + 3) _ ((repC_get _ _ _ hr 3 (by decide)).trans rfl)
          have r4 : wr.cell? ⟨g2, o2 + jx * 7 + 4, none⟩ = some (.int .u32 (x4 : Int)) := hrc (jx * 7 + 4) _ ((repC_get _ _ _ hr 4 (by decide)).trans rfl)
          have r5 : wr.cell? ⟨g2, o2 + jx * 7 + 5, none⟩ = some (.int .u32 (x5 : Int)) := hrc (jx * 7 + 5) _ ((repC_get _ _ _ hr 5 (by decide)).trans rfl)
          have r6 : wr.cell? ⟨g2, o2 + jx * 7 + 6, none⟩ = some (.int .u32 (x6 : Int)) := hrc (jx * 7 + 6) _ ((repC_get _ _ _ hr 6 (by decide)).trans rfl)
          obtain ⟨qx, hqx⟩ : ∃ q, x2 % 16777216 = q := ⟨_, rfl⟩
          have hqi : (x2 : Int) % 16777216 = (qx : Int) := by omega
          have HNC : Hid ((Rp.norm ⟨x0, x1, x2, x3, x4, x5, x6⟩).cells = [.int .u32 (x0 : Int), .int .u8 (x1 : Int), .int .u32 (qx : Int), .int .u32 (x3 : Int), .int .u32 (x4 : Int), .int .u32 (x5 : Int), .int .u32 (x6 : Int)]) := Lib.hid (by rw [← hqx]; rfl)
          have hj1 : (0 : Int) ≤ (jx : Int) := by omega
          have hj2 : (jx : Int) < (nr : Int) := by omega
          have HRW := Lib.hid (show Row ((wr.alloc (.cells #[.int .u32 (x0 : Int), .int .u8 (x1 : Int), .int .u32 (qx : Int), .int .u32 (x3 : Int), .int .u32 (x4 : Int), .int .u32 (x5 : Int), .int .u32 (x6 : Int)] 61)).alloc (.cells #[.int .u32 (x0 : Int), .int .u8 (x1 : Int), .int .u32 (qx : Int), .int .u32 (x3 : Int), .int .u32 (x4 : Int), .int .u32 (x5 : Int), .int .u32 (x6 : Int)] 61)) ((wr.alloc (.cells #[.int .u32 (x0 : Int), .int .u8 (x1 : Int), .int .u32 (qx : Int), .int .u32 (x3 : Int), .int .u32 (x4 : Int), .int .u32 (x5 : Int), .int .u32 (x6 : Int)] 61)).alloc (.cells #[.int .u32 (x0 : Int), .int .u8 (x1 : Int), .int .u32 (qx : Int), .int .u32 (x3 : Int), .int .u32 (x4 : Int), .int .u32 (x5 : Int), .int .u32 (x6 : Int)] 61)).heap.size 7 (some ⟨(wr.alloc (.cells #[.int .u32 (x0 : Int), .int .u8 (x1 : Int), .int .u32 (qx : Int), .int .u32 (x3 : Int), .int .u32 (x4 : Int), .int .u32 (x5 : Int), .int .u32 (x6 : Int)] 61)).heap.size, 0, none⟩) 1 (Rp.norm ⟨x0, x1, x2, x3, x4, x5, x6⟩).cells from Row.fresh _ _ _ 7 1 _ rfl (by rw [HNC.out]))
          have e34 : (wr.alloc (.cells #[.int .u32 (x0 : Int), .int .u8 (x1 : Int), .int .u32 (qx : Int), .int .u32 (x3 : Int), .int .u32 (x4 : Int), .int .u32 (x5 : Int), .int .u32 (x6 : Int)] 61)).heap.size = wr.heap.size + 1 := by simp
          rw [e34] at HRW
          have HOI := Lib.hid ((hown.alloc (.cells #[.int .u32 (x0 : Int), .int .u8 (x1 : Int), .int .u32 (qx : Int), .int .u32 (x3 : Int), .int .u32 (x4 : Int), .int .u32 (x5 : Int), .int .u32 (x6 : Int)] 61)).alloc (.cells #[.int .u32 (x0 : Int), .int .u8 (x1 : Int), .int .u32 (qx : Int), .int .u32 (x3 : Int), .int .u32 (x4 : Int), .int .u32 (x5 : Int), .int .u32 (x6 : Int)] 61))
          have HBI := Lib.hid hbi
          have hsi := hbi.size
          clear hown hbi hrc hr hbw e34 hqx hrf HWi
          go_wp2_with (at_builtin; go_loud (refine wpl_append _ rfl (.tmp 75) (.tmp 77) 45 rfl w6.heap.size 61 (.agg #[.int .u32 0, .int .u8 0, .int .u32 0, .int .u32 0, .int .u32 0, .int .u32 0, .int .u32 0]) 7 28 Tryd.underlying45 info_R9 rfl (by decide) _ _ _ rfl HOI.out _ _ 1 1 _ rfl HRW.out ?c0 ?c1 ?c2 ?c3 ?_))
          case c0 => rw [HNC.out]; intro u hu; simp at hu; rcases hu with rfl | rfl | rfl | rfl | rfl | rfl | rfl <;> rfl
          case c1 => unfold maxLen; omega
          case c2 => omega
          case c3 => simp; omega
          intro v7 w7 own7 g7 _
          have R7 : w7.ownsRow w6.heap.size 61 7 v7 (jx + 1) (repC ((mm.reps.map Rp.norm).take (jx + 1))) := by rw [HTK.out]; exact own7
          have B7 : Below w6.heap.size w6 w7 := ((HBI.out.alloc hsi _).alloc (by simp; omega) _).grown g7 (by simp; omega) (fun q hq => (HOI.out.lt q hq).1)
          clear own7 g7 HRW HOI HBI HTK HNC
          go_wp2
          go_roundw
          case rel => exact ⟨jx + 1, by omega, by go_num, R7, B7⟩
          case measure => simp [intOf]; omega
        · obtain rfl : nr = jx := by omega
          rw [List.take_of_length_le (by rw [List.length_map, HNR.out]; exact Nat.le_refl _)] at hown
          obtain ⟨A12, c12, rfl⟩ := own_form hown
          have z0 : wr.cell? ⟨bt, 0, none⟩ = some (.int .i64 mm.kind) := HWi.cell 0
          have z1 : wr.cell? ⟨bt, 1, none⟩ = some (.int .u32 (mm.ssrc : Int)) := HWi.cell 1
          have z2 : wr.cell? ⟨bt, 2, none⟩ = some (.int .u32 (mm.media : Int)) := HWi.cell 2
          have z3 : wr.cell? ⟨bt, 3, none⟩ = some (.int .u64 (mm.clock : Int)) := HWi.cell 3
          have z4 : wr.cell? ⟨bt, 4, none⟩ = some (.int .u32 (mm.time : Int)) := HWi.cell 4
          have z5 : wr.cell? ⟨bt, 5, none⟩ = some (.int .u32 (mm.packets : Int)) := HWi.cell 5
          have z6 : wr.cell? ⟨bt, 6, none⟩ = some (.int .u32 (mm.bytes : Int)) := HWi.cell 6
          have z7 : wr.cell? ⟨bt, 7, none⟩ = some (.slice ra2 nr rc2) := HWi.cell 7
          have z8 : wr.cell? ⟨bt, 8, none⟩ = some (.slice wa2 mm.who.length wc2) := HWi.cell 8
          have z9 : wr.cell? ⟨bt, 9, none⟩ = some (.slice pa2 mm.pairs.length pc2) := HWi.cell 9
          have z10 : wr.cell? ⟨bt, 10, none⟩ = some (.slice aa2 mm.asks.length ac2) := HWi.cell 10
          have z11 : wr.cell? ⟨bt, 11, none⟩ = some (.int .u8 (mm.typ : Int)) := HWi.cell 11
          have y7 : wr.frozen? ⟨bt, 7, none⟩ = false := HWi.free 7
          have own7 := own_setG hown hs6l 7 (.slice A12 nr c12)
          have hbw : Below w5.heap.size w5 wr := HB6.out.trans (hbi.mono hbw56)
          have hws : w6.heap.size ≤ wr.heap.size := hbi.size
          have BO7 := (HB5.out.trans (hbw.mono (by omega))).setCell (p := ⟨bt, 7, none⟩) (show wo.heap.size ≤ bt by omega) (.slice A12 nr c12)
          obtain ⟨mw, hmw⟩ : ∃ mw : Ms, ({ mm with reps := mm.reps.map Rp.norm } : Ms) = mw := ⟨_, rfl⟩
          obtain ⟨s3, hs3'⟩ : ∃ s3 : Sl, (⟨A12, c12, wa2, wc2, pa2, pc2, aa2, ac2⟩ : Sl) = s3 := ⟨_, rfl⟩
          have hcl : mw.cells s3 = [.int .i64 mm.kind, .int .u32 (mm.ssrc : Int), .int .u32 (mm.media : Int), .int .u64 (mm.clock : Int), .int .u32 (mm.time : Int), .int .u32 (mm.packets : Int), .int .u32 (mm.bytes : Int), .slice A12 nr c12, .slice wa2 mm.who.length wc2, .slice pa2 mm.pairs.length pc2, .slice aa2 mm.asks.length ac2, .int .u8 (mm.typ : Int)] := by rw [← hmw, ← hs3']; simp [Ms.cells, HNR.out]
          have hma7 : MsAt (wr.setCell ⟨bt, 7, none⟩ (.slice A12 nr c12)) (wr.setCell ⟨bt, 7, none⟩ (.slice A12 nr c12)).heap.size mw s3 := by
            have hz : (wr.setCell ⟨bt, 7, none⟩ (.slice A12 nr c12)).heap.size = wr.heap.size := by simp
            rw [← hmw, ← hs3', hz]
            refine ⟨?_, ?_, ?_, ?_⟩
            · have := Row.of_own own7
              rw [hz] at this
              simpa [HNR.out] using this
            · exact ((HM2.out.who.below hbw (by omega)).set (p := ⟨bt, 7, none⟩) hbtw _).more (by omega)
            · exact ((HM2.out.pairs.below hbw (by omega)).set (p := ⟨bt, 7, none⟩) hbtw _).more (by omega)
            · exact ((HM2.out.asks.below hbw (by omega)).set (p := ⟨bt, 7, none⟩) hbtw _).more (by omega)
          have hfm : FarM (Value.slice A' k c').ownBlock mw s3 := by
            rw [← hmw, ← hs3']
            refine ⟨fun _ g o e e2 => ?_, HFAR2.out.2.1, HFAR2.out.2.2.1, HFAR2.out.2.2.2⟩
            have h1 := oown_lo hown ⟨g, o, none⟩ e
            have h2 := (HO.out.lt g e2).2
            dsimp only at h1
            omega
          have HFB7 := Lib.hid (show FarM (Value.slice A3 bx.length c3).ownBlock mw s3 by
            rw [← hmw, ← hs3']
            refine ⟨fun _ g o e e2 => ?_, HFB2.out.2.1, HFB2.out.2.2.1, HFB2.out.2.2.2⟩
            have h1 := oown_lo hown ⟨g, o, none⟩ e
            have h2 := (HO3.out.lt g e2).2
            dsimp only at h1
            omega)
          have HO7 := Lib.hid (own_belowR HO.out BO7 (Nat.le_refl _))
          have HALL7 := Lib.hid (show ∀ x ∈ lw, MsAt (wr.setCell ⟨bt, 7, none⟩ (.slice A12 nr c12)) (wr.setCell ⟨bt, 7, none⟩ (.slice A12 nr c12)).heap.size x.1 x.2 ∧ FarM (Value.slice A' k c').ownBlock x.1 x.2 from fun x hx => ⟨((HA.out x hx).1.below BO7 (Nat.le_refl _)).more BO7.size, (HA.out x hx).2⟩)
          have HMA7 := Lib.hid hma7
          have HFM7 := Lib.hid hfm
          have HCL := Lib.hid hcl
          have HBO7 := Lib.hid BO7
          have HMW := Lib.hid (hmw.symm.trans HNM.out)
          have hltq : ∀ q, (Value.slice A' k c').ownBlock = some q → w3.heap.size ≤ q ∧ q < wo.heap.size := fun q hq => HO.out.lt q hq
          have HRL : Hid (Row ((wr.setCell ⟨bt, 7, none⟩ (.slice A12 nr c12)).alloc (.cells #[.int .i64 mm.kind, .int .u32 (mm.ssrc : Int), .int .u32 (mm.media : Int), .int .u64 (mm.clock : Int), .int .u32 (mm.time : Int), .int .u32 (mm.packets : Int), .int .u32 (mm.bytes : Int), .slice A12 nr c12, .slice wa2 mm.who.length wc2, .slice pa2 mm.pairs.length pc2, .slice aa2 mm.asks.length ac2, .int .u8 (mm.typ : Int)] 50)) (wr.heap.size + 1) 12 (some ⟨wr.heap.size, 0, none⟩) 1 (mw.cells s3)) := Lib.hid (by
            have := Row.lit (wr.setCell ⟨bt, 7, none⟩ (.slice A12 nr c12)) 50 #[.int .i64 mm.kind, .int .u32 (mm.ssrc : Int), .int .u32 (mm.media : Int), .int .u64 (mm.clock : Int), .int .u32 (mm.time : Int), .int .u32 (mm.packets : Int), .int .u32 (mm.bytes : Int), .slice A12 nr c12, .slice wa2 mm.who.length wc2, .slice pa2 mm.pairs.length pc2, .slice aa2 mm.asks.length ac2, .int .u8 (mm.typ : Int)] 12 1 rfl
            rw [hcl]
            simpa using this)
          have hone : ∀ u ∈ mw.cells s3, u.oneCell' = true := by
            rw [hcl]
            intro u hu
            simp at hu
            rcases hu with rfl | rfl | rfl | rfl | rfl | rfl | rfl | rfl | rfl | rfl | rfl | rfl <;> rfl
          have HONE := Lib.hid hone
          have HOWN : Hid (((wr.setCell ⟨bt, 7, none⟩ (.slice A12 nr c12)).alloc (.cells #[.int .i64 mm.kind, .int .u32 (mm.ssrc : Int), .int .u32 (mm.media : Int), .int .u64 (mm.clock : Int), .int .u32 (mm.time : Int), .int .u32 (mm.packets : Int), .int .u32 (mm.bytes : Int), .slice A12 nr c12, .slice wa2 mm.who.length wc2, .slice pa2 mm.pairs.length pc2, .slice aa2 mm.asks.length ac2, .int .u8 (mm.typ : Int)] 50)).ownsRow w3.heap.size 50 12 (.slice A' k c') k (msC lw)) := Lib.hid (HO7.out.alloc _)
          clear hown own7 hbw BO7 hmw hs3' hcl hma7 hfm hone HWi t7 hbi HNM HFAR2 HM2 HWT HB6 HB5 HA hltq
          go_wp2_with (at_builtin; go_loud (refine wpl_append _ rfl (.tmp 81) (.tmp 83) 31 rfl w3.heap.size 50 (.agg #[.int .i64 0, .int .u32 0, .int .u32 0, .int .u64 0, .int .u32 0, .int .u32 0, .int .u32 0, .slice none 0 0, .slice none 0 0, .slice none 0 0, .slice none 0 0, .int .u8 0]) 12 144 Tryd.underlying31 info_M9 rfl (by decide) (.slice A' k c') k (msC lw) rfl HOWN.out (wr.heap.size + 1) (some ⟨wr.heap.size, 0, none⟩) 1 1 (mw.cells s3) rfl HRL.out HONE.out ?e1 ?e2 ?e3 ?_))
          case e1 => unfold maxLen; omega
          case e2 => omega
          case e3 => simp; omega
          intro v8 w8 own8 g8 hwhere
          obtain ⟨A8, c8, rfl⟩ := own_form own8
          have HALL8 : Hid (∀ x ∈ lw ++ [(mw, s3)], MsAt w8 w8.heap.size x.1 x.2 ∧ FarM (Value.slice A8 (k + 1) c8).ownBlock x.1 x.2) := Lib.hid (by
            have step : ∀ x : Ms × Sl, MsAt (wr.setCell ⟨bt, 7, none⟩ (.slice A12 nr c12)) (wr.setCell ⟨bt, 7, none⟩ (.slice A12 nr c12)).heap.size x.1 x.2 → FarM (Value.slice A' k c').ownBlock x.1 x.2 → MsAt w8 w8.heap.size x.1 x.2 ∧ FarM (Value.slice A8 (k + 1) c8).ownBlock x.1 x.2 := by
              intro x h1 h2
              have ha := (Below.refl (wr.setCell ⟨bt, 7, none⟩ (.slice A12 nr c12)).heap.size (wr.setCell ⟨bt, 7, none⟩ (.slice A12 nr c12))).alloc (Nat.le_refl _) (.cells #[.int .i64 mm.kind, .int .u32 (mm.ssrc : Int), .int .u32 (mm.media : Int), .int .u64 (mm.clock : Int), .int .u32 (mm.time : Int), .int .u32 (mm.packets : Int), .int .u32 (mm.bytes : Int), .slice A12 nr c12, .slice wa2 mm.who.length wc2, .slice pa2 mm.pairs.length pc2, .slice aa2 mm.asks.length ac2, .int .u8 (mm.typ : Int)] 50)
              have h3 := (h1.below ha (Nat.le_refl _)).more ha.size
              refine ⟨h3.grown h2 g8, ?_⟩
              rcases hwhere with e | e
              · rw [e]; exact h2
              · rw [e]; exact h3.farAt (by simp)
            intro x hx
            rcases List.mem_append.1 hx with hx | hx
            · exact step x (HALL7.out x hx).1 (HALL7.out x hx).2
            · obtain rfl := List.mem_singleton.1 hx
              exact step _ HMA7.out HFM7.out)
          have HO8 : Hid (w8.ownsRow w3.heap.size 50 12 (.slice A8 (k + 1) c8) (k + 1) (msC (lw ++ [(mw, s3)]))) := Lib.hid (by rw [msC_append]; simpa [msC] using own8)
          have HB8 : Hid (Below w3.heap.size w3 w8) := Lib.hid (((hb'.out.trans (HBO7.out.mono hsz)).alloc (by have := HBO7.out.size; omega) _).grown g8 (by have := HBO7.out.size; simp at this ⊢; omega) (fun q hq => (HO.out.lt q hq).1))
          have HBF8 : Hid (∀ x ∈ lw ++ [(mw, s3)], FarM (Value.slice A3 bx.length c3).ownBlock x.1 x.2) := Lib.hid (by
            intro x hx
            rcases List.mem_append.1 hx with hx | hx
            · exact HBF.out x hx
            · obtain rfl := List.mem_singleton.1 hx
              exact HFB7.out)
          have HL8 : Hid ((lw ++ [(mw, s3)]).map Prod.fst = (l.take (k + 1)).map (fun x => x.1.norm)) := Lib.hid (by rw [HT.out, List.map_append, hlw.out, ← HMW.out]; rfl)
          clear own8 g8 hwhere HONE HOWN HRL HMW HBO7 HCL HFM7 HMA7 HALL7 HO7 y7 z0 z1 z2 z3 z4 z5 z6 z7 z8 z9 z10 z11
          go_wp2
          go_roundw
          case rel => exact ⟨k + 1, A8, c8, lw ++ [(mw, s3)], by omega, rfl, by go_num, HL8, HO8.out, HALL8.out, HBF8.out, HB8.out⟩
          case measure => simp [intOf]; omega
    · obtain rfl : n = k := by omega
      have hlw2 : lw.map Prod.fst = l.map (fun x => x.1.norm) := by rw [hlw.out, List.take_of_length_le (by rw [HN.out]; exact Nat.le_refl _)]
      have hlen : lw.length = n := by have := congrArg List.length hlw2; simpa [HN.out] using this
      have hs := hb.size
      have BW := HB3.out.trans (hb.mono hs3)
      obtain ⟨nb, hnb⟩ : ∃ nb, bx.length = nb := ⟨_, rfl⟩
      have HNB := Lib.hid hnb
      have HOB : Hid (wr.ownsRow w1.heap.size 5 1 (.slice A3 nb c3) nb (u8s bx)) := Lib.hid (by have := own_belowR HO3.out hb (Nat.le_refl _); rwa [hnb] at this)
      have HQB : Hid (∀ q, (Value.slice A3 nb c3).ownBlock = some q → w1.heap.size ≤ q ∧ q < w3.heap.size) := Lib.hid (by have := HO3.out.lt; rwa [hnb] at this)
      have HPARSE : Hid (parseL bx = ((l.map Prod.fst).map Ms.norm, 0)) := Lib.hid (by
        rw [HBX.out]
        refine parse_put _ (fun m hm => ?_) (fun e => hn0 ?_) (by rw [← HBX.out]; omega)
        · obtain ⟨x, hx, rfl⟩ := List.mem_map.1 hm
          exact ⟨HG.out x hx, HFF.out x hx⟩
        · have := congrArg List.length e
          simp [HN.out] at this
          omega)
      have HALLW := Lib.hid hall
      have HBFW : Hid (∀ x ∈ lw, FarM (Value.slice A3 nb c3).ownBlock x.1 x.2) := Lib.hid (by rwa [hnb] at hbf)
      have HROW := Lib.hid hown
      have HLW := Lib.hid hlw2
      have HLEN := Lib.hid hlen
      have HB := Lib.hid hb
      have HBW := Lib.hid BW
      have HMD : Hid (∀ x ∈ lw, x.1.Mod) := Lib.hid (fun x hx => by
        have h1 : x.1 ∈ (parseL bx).1 := by rw [HPARSE.out, List.map_map]; have hz : x.1 ∈ lw.map Prod.fst := List.mem_map.2 ⟨x, hx, rfl⟩; rw [hlw2] at hz; exact hz
        exact ((parseL_fits bx).1 x.1 h1).2)
      have CP := rparse_any A3 c3 nb bx wr (HFM.out.next BW) (Row.of_own HOB.out) hnb (by omega)
      unfold ParseOut at CP
      rw [HPARSE.out] at CP
      have CPH := Lib.hid CP
      rw [hnb] at h15 ⊢
      clear hlw hlt hk hall hbf hown hlw2 hlen hb BW CP hnb HO3
      go_wp2_with fail
      refine CPH.out.mono ?_
      rintro e w4 ⟨⟨A4, c4, k4, l4, rfl, hk4, hm4, r4⟩, b4⟩
      dsimp only
      obtain rfl : n = k4 := by rw [← hk4]; have := congrArg List.length hm4; simpa [HN.out] using this.symm
      have C4 := all_any A4 c4 n l4 w4 r4 hk4 (fun x hx => (parseL_fits bx).1 x.1 (by rw [HPARSE.out, ← hm4]; exact List.mem_map.2 ⟨x, hx, rfl⟩)) (by omega)
      have C4H := Lib.hid C4
      have HM4 := Lib.hid hm4
      have HB4 := Lib.hid b4
      have hs4 := b4.size
      clear C4 CPH b4 r4 hk4 hm4
      go_wp2_with fail
      refine C4H.out.mono ?_
      rintro e w5 ⟨⟨A5, c5, l5, rfl, hm5, r5⟩, b5⟩
      have hs5 := b5.size
      have HB5 := Lib.hid (HB4.out.trans (b5.mono hs4))
      have hl5 : l5.length = n := by have := congrArg List.length hm5; rw [HM4.out] at this; simpa [HN.out] using this
      have RW5 : MsRow w5 w5.heap.size A' lw := (show MsRow wr wr.heap.size A' lw from ⟨by have := Row.of_own HROW.out; rwa [HLEN.out], fun x hx => (HALLW.out x hx).1⟩).below HB5.out (Nat.le_refl _) |>.more HB5.out.size
      have C5 := same_any A5 A' c5 c' n n l5 lw w5 r5 RW5 hl5 HLEN.out (fun x hx => by
        have h1 : x.1 ∈ (parseL bx).1 := by rw [HPARSE.out, ← HM4.out, ← hm5]; exact List.mem_map.2 ⟨x, hx, rfl⟩
        exact ((parseL_fits bx).1 x.1 h1).2) HMD.out (by omega) (by omega)
      have heq : decide (l5.map Prod.fst = lw.map Prod.fst) = true := by rw [hm5, HM4.out, HLW.out, List.map_map]; exact decide_eq_true rfl
      rw [heq] at C5
      have C5H := Lib.hid C5
      clear C5 heq RW5 hl5 r5 hm5 C4H b5
      go_wp2_with fail
      refine C5H.out.mono ?_
      rintro e w6 ⟨rfl, b6⟩
      have hs6 := b6.size
      have HB6 := Lib.hid (HB5.out.trans (b6.mono (by omega)))
      clear C5H b6 HB5 HB4 HM4 HPARSE
      have HB6w := Lib.hid (HBW.out.trans (HB6.out.mono HBW.out.size))
      obtain ⟨x, hx⟩ : ∃ x, l[n - 1]? = some x := ⟨l[n - 1]'(by rw [HN.out]; omega), by simp⟩
      obtain ⟨g, o, rfl, hg, hcs, hat⟩ := (H.out.below HB6w.out (Nat.le_refl _)).at (n - 1) x hx
      obtain ⟨hfit, hfew⟩ := HFF.out x (List.mem_of_getElem? hx)
      have hgd := HG.out x (List.mem_of_getElem? hx)
      have HL := encs_take (l.map Prod.fst) (n - 1) x.1 (by rw [List.getElem?_map, hx]; rfl)
      rw [show n - 1 + 1 = n by omega, List.take_of_length_le (by rw [List.length_map, HN.out]; exact Nat.le_refl _), ← HBX.out] at HL
      have HSP : Hid (l.map Prod.fst = (l.map Prod.fst).take (n - 1) ++ [x.1]) := Lib.hid (by
        have := List.take_add_one (l := l.map Prod.fst) (i := n - 1)
        rw [show n - 1 + 1 = n by omega, List.take_of_length_le (by rw [List.length_map, HN.out]; exact Nat.le_refl _), List.getElem?_map, hx] at this
        exact this)
      obtain ⟨n1, hn1⟩ : ∃ n1, n - 1 = n1 := ⟨_, rfl⟩
      have hn1i : (n : Int) - 1 = (n1 : Int) := by omega
      have hn1a : (0 : Int) ≤ (n1 : Int) := by omega
      have hn1b : (n1 : Int) < (n : Int) := by omega
      rw [hn1] at hcs HL HSP
      obtain ⟨pre, hpre⟩ : ∃ pre, (l.map Prod.fst).take n1 = pre := ⟨_, rfl⟩
      rw [hpre] at HL HSP
      obtain ⟨np, hnp⟩ : ∃ np, (encs pre).length = np := ⟨_, rfl⟩
      obtain ⟨m, s⟩ := x
      dsimp only at hcs hat hfit hfew hgd HL HSP
      obtain ⟨nm, hnm⟩ : ∃ nm, m.enc.length = nm := ⟨_, rfl⟩
      have hnbs : nb = np + nm := by rw [← HNB.out, HL, List.length_append, hnp, hnm]
      have hel : nm = 4 + m.body.length := by rw [← hnm]; simp [Ms.enc, bytesN_length]; omega
      have HELEN := Lib.hid hel
      have HNP := Lib.hid hnp
      have HNM := Lib.hid hnm
      have HLS := Lib.hid HL
      have h4m : 4 ≤ nm := by omega
      have ha := (Below.refl w6.heap.size w6).alloc (Nat.le_refl _) (.cells #[.int .i64 m.kind, .int .u32 (m.ssrc : Int), .int .u32 (m.media : Int), .int .u64 (m.clock : Int), .int .u32 (m.time : Int), .int .u32 (m.packets : Int), .int .u32 (m.bytes : Int), .slice s.rA m.reps.length s.rc, .slice s.wA m.who.length s.wc, .slice s.pA m.pairs.length s.pc, .slice s.aA m.asks.length s.ac, .int .u8 (m.typ : Int)] 59)
      have R7 : CmRow (w6.alloc (.cells #[.int .i64 m.kind, .int .u32 (m.ssrc : Int), .int .u32 (m.media : Int), .int .u64 (m.clock : Int), .int .u32 (m.time : Int), .int .u32 (m.packets : Int), .int .u32 (m.bytes : Int), .slice s.rA m.reps.length s.rc, .slice s.wA m.who.length s.wc, .slice s.pA m.pairs.length s.pc, .slice s.aA m.asks.length s.ac, .int .u8 (m.typ : Int)] 59)) (w6.alloc (.cells #[.int .i64 m.kind, .int .u32 (m.ssrc : Int), .int .u32 (m.media : Int), .int .u64 (m.clock : Int), .int .u32 (m.time : Int), .int .u32 (m.packets : Int), .int .u32 (m.bytes : Int), .slice s.rA m.reps.length s.rc, .slice s.wA m.who.length s.wc, .slice s.pA m.pairs.length s.pc, .slice s.aA m.asks.length s.ac, .int .u8 (m.typ : Int)] 59)).heap.size (some ⟨w6.heap.size, 0, none⟩) [(m, s)] :=
        ⟨Row.fresh w6 59 #[.int .i64 m.kind, .int .u32 (m.ssrc : Int), .int .u32 (m.media : Int), .int .u64 (m.clock : Int), .int .u32 (m.time : Int), .int .u32 (m.packets : Int), .int .u32 (m.bytes : Int), .slice s.rA m.reps.length s.rc, .slice s.wA m.who.length s.wc, .slice s.pA m.pairs.length s.pc, .slice s.aA m.asks.length s.ac, .int .u8 (m.typ : Int)] 12 1 (msC [(m, s)]) rfl rfl, fun y hy => by
          obtain rfl := List.mem_singleton.1 hy
          exact (hat.below ha HB6w.out.size).more (by have := HB6w.out.size; have := ha.size; omega)⟩
      have hB7 := HB6w.out.alloc HB6w.out.size (.cells #[.int .i64 m.kind, .int .u32 (m.ssrc : Int), .int .u32 (m.media : Int), .int .u64 (m.clock : Int), .int .u32 (m.time : Int), .int .u32 (m.packets : Int), .int .u32 (m.bytes : Int), .slice s.rA m.reps.length s.rc, .slice s.wA m.who.length s.wc, .slice s.pA m.pairs.length s.pc, .slice s.aA m.asks.length s.ac, .int .u8 (m.typ : Int)] 59)
      have CP2 := rput_any (some ⟨w6.heap.size, 0, none⟩) 1 1 [(m, s)] (w6.alloc (.cells #[.int .i64 m.kind, .int .u32 (m.ssrc : Int), .int .u32 (m.media : Int), .int .u64 (m.clock : Int), .int .u32 (m.time : Int), .int .u32 (m.packets : Int), .int .u32 (m.bytes : Int), .slice s.rA m.reps.length s.rc, .slice s.wA m.who.length s.wc, .slice s.pA m.pairs.length s.pc, .slice s.aA m.asks.length s.ac, .int .u8 (m.typ : Int)] 59)) (HFM.out.next hB7) R7 rfl (fun y hy => by obtain rfl := List.mem_singleton.1 hy; exact ⟨hfit, hfew⟩) (by omega)
      have hpm : putL ([(m, s)].map Prod.fst) = (m.enc, 0) := by
        show putL [m] = _
        unfold putL
        rw [if_pos (by simp [hgd]), if_neg (by simp [encs]; omega)]
        simp [encs]
      unfold PutOut at CP2
      rw [hpm] at CP2
      dsimp only at CP2
      rw [hnm] at CP2
      have CP2H := Lib.hid CP2
      have HB7 := Lib.hid hB7
      have HGD := Lib.hid hgd
      have HFIT := Lib.hid hfit
      have HFEW := Lib.hid hfew
      have q0 : w6.cell? ⟨g, o + n1 * 12, none⟩ = some (.int .i64 m.kind) := hcs 0 _ rfl
      have q1 : w6.cell? ⟨g, o + n1 * 12 + 1, none⟩ = some (.int .u32 (m.ssrc : Int)) := hcs 1 _ rfl
      have q2 : w6.cell? ⟨g, o + n1 * 12 + 2, none⟩ = some (.int .u32 (m.media : Int)) := hcs 2 _ rfl
      have q3 : w6.cell? ⟨g, o + n1 * 12 + 3, none⟩ = some (.int .u64 (m.clock : Int)) := hcs 3 _ rfl
      have q4 : w6.cell? ⟨g, o + n1 * 12 + 4, none⟩ = some (.int .u32 (m.time : Int)) := hcs 4 _ rfl
      have q5 : w6.cell? ⟨g, o + n1 * 12 + 5, none⟩ = some (.int .u32 (m.packets : Int)) := hcs 5 _ rfl
      have q6 : w6.cell? ⟨g, o + n1 * 12 + 6, none⟩ = some (.int .u32 (m.bytes : Int)) := hcs 6 _ rfl
      have q7 : w6.cell? ⟨g, o + n1 * 12 + 7, none⟩ = some (.slice s.rA m.reps.length s.rc) := hcs 7 _ rfl
      have q8 : w6.cell? ⟨g, o + n1 * 12 + 8, none⟩ = some (.slice s.wA m.who.length s.wc) := hcs 8 _ rfl
      have q9 : w6.cell? ⟨g, o + n1 * 12 + 9, none⟩ = some (.slice s.pA m.pairs.length s.pc) := hcs 9 _ rfl
      have q10 : w6.cell? ⟨g, o + n1 * 12 + 10, none⟩ = some (.slice s.aA m.asks.length s.ac) := hcs 10 _ rfl
      have q11 : w6.cell? ⟨g, o + n1 * 12 + 11, none⟩ = some (.int .u8 (m.typ : Int)) := hcs 11 _ rfl
      clear CP2 hpm R7 hat hfit hfew hgd hnm hnp HL hpre hn1 hx hel
      clear hcs ha hB7
      go_wp2_with fail
      refine CP2H.out.mono ?_
      rintro e w8 ⟨⟨A8, c8, rfl, o8⟩, b8⟩
      have HBr8 := Lib.hid ((HB6.out.alloc HB6.out.size (.cells #[.int .i64 m.kind, .int .u32 (m.ssrc : Int), .int .u32 (m.media : Int), .int .u64 (m.clock : Int), .int .u32 (m.time : Int), .int .u32 (m.packets : Int), .int .u32 (m.bytes : Int), .slice s.rA m.reps.length s.rc, .slice s.wA m.who.length s.wc, .slice s.pA m.pairs.length s.pc, .slice s.aA m.asks.length s.ac, .int .u8 (m.typ : Int)] 59)).trans (b8.mono (by have := HB6.out.size; simp; omega)))
      have HB8 := Lib.hid (HB7.out.trans (b8.mono HB7.out.size))
      subst hnbs
      have HO8 := own_belowR HOB.out HBr8.out (Nat.le_refl _)
      clear q0 q1 q2 q3 q4 q5 q6 q7 q8 q9 q10 q11 CP2H o8 b8 HB7 HB6w HB6
      obtain ⟨pq, hpq⟩ : ∃ pq, pd % 8 = pq := ⟨_, rfl⟩
      have hpqi : (pd : Int) % 8 = (pq : Int) := by omega
      have hpq8 : pq < 8 := by omega
      clear hpq
      obtain ⟨nz, hnz⟩ : ∃ nz, 4 + 4 * pq = nz := ⟨_, rfl⟩
      have hnzi : 4 + 4 * (pq : Int) = (nz : Int) := by omega
      have hz4 : 4 ≤ nz := by omega
      have hz32 : nz ≤ 32 := by omega
      have hzm : nz % 4 = 0 := by omega
      have h4i : (4 : Int) ≤ (nm : Int) := by omega
      clear hnz
      by_cases ht : (1500 : Int) < (np : Int) + (nm : Int) + (nz : Int)
      · go_wp2
        go_ret
        exact ⟨rfl, HB8.out⟩
      · rw [HLS.out] at HO8
        have hcn := (good_facts m HGD.out).1
        obtain ⟨e0, e2, e3⟩ := enc_at (encs pre) m HGD.out HFEW.out np HNP.out
        obtain ⟨hi, hhi⟩ : ∃ q, m.body.length / 4 / 256 = q := ⟨_, rfl⟩
        obtain ⟨lo, hlo⟩ : ∃ q, m.body.length / 4 % 256 = q := ⟨_, rfl⟩
        obtain ⟨a0, ha0⟩ : ∃ q, 128 + m.cnt = q := ⟨_, rfl⟩
        rw [hhi] at e2
        rw [hlo] at e3
        rw [show (128 + (m.cnt : Int)) = (a0 : Int) by omega] at e0
        obtain ⟨gb, rfl, hgb1, hgb2, hc0, hf0, hset0⟩ := own_setAt HO8 np (by omega)
        obtain ⟨gb', e', _, _, hc2, hf2, _⟩ := own_setAt HO8 (np + 2) (by omega)
        injection e' with e'
        injection e' with e' _
        subst e'
        obtain ⟨gb', e', _, _, hc3, hf3, _⟩ := own_setAt HO8 (np + 3) (by omega)
        injection e' with e'
        injection e' with e' _
        subst e'
        rw [e0] at hc0
        rw [e2] at hc2
        rw [e3] at hc3
        obtain ⟨a1, ha1⟩ : ∃ q, 160 + m.cnt = q := ⟨_, rfl⟩
        have ha1i : (a0 : Int) + 32 = (a1 : Int) := by omega
        have ha1b : a1 < 256 := by omega
        obtain ⟨nqz, hnq⟩ : ∃ q, nz / 4 = q := ⟨_, rfl⟩
        have hnqi : (nz : Int) / 4 = (nqz : Int) := by omega
        have hmb : m.body.length ≤ 1500 := by have := HELEN.out; omega
        obtain ⟨sz, hsz⟩ : ∃ q, m.body.length / 4 + nz / 4 = q := ⟨_, rfl⟩
        have hszi : 256 * (hi : Int) + (lo : Int) + (nqz : Int) = (sz : Int) := by omega
        have hszb : sz < 65536 := by omega
        obtain ⟨h2, hh2⟩ : ∃ q, sz / 256 = q := ⟨_, rfl⟩
        obtain ⟨l2, hl2⟩ : ∃ q, sz % 256 = q := ⟨_, rfl⟩
        have hh2i : (sz : Int) / 256 = (h2 : Int) := by omega
        have hl2i : (sz : Int) % 256 = (l2 : Int) := by omega
        have hh2b : h2 < 256 := by omega
        have hl2b : l2 < 256 := by omega
        have hhib : hi < 256 := by omega
        have hlob : lo < 256 := by omega
        have ha0b : a0 < 256 := by omega
        have HESET := Lib.hid (enc_set (encs pre) m HGD.out HFEW.out np nz h2 l2 HNP.out hz4 hz32 (by omega) (by omega))
        have HA1 := Lib.hid ha1
        have HO8H := Lib.hid HO8
        have HSET := Lib.hid hset0
        clear ha1 ha0 hhi hlo hnq hsz hh2 hl2 e0 e2 e3 HO8 hset0 hmb hcn
        go_wp2_with fail
        go_quiet (fail)
        go_wp2_with fail
        obtain ⟨w9, hw9⟩ : ∃ w9, w8.drewN nq = w9 := ⟨_, rfl⟩
        rw [hw9]
        have HO9 : w9.ownsRow w1.heap.size 5 1 (.slice (some ⟨gb, 0, none⟩) (np + nm) c3) (np + nm) (u8s (encs pre ++ m.enc)) := by rw [← hw9]; exact HO8H.out
        have HBr9 : Below wr.heap.size wr w9 := by rw [← hw9]; exact below_drewN HBr8.out _
        have HB9 : Below w.heap.size w w9 := by rw [← hw9]; exact below_drewN HB8.out _
        have hq := HQB.out gb rfl
        have hsz1 := HB1.out.size
        have hsz9 := HB9.size
        have hFA : FarR (some gb) lw.length A' := fun hn2 ga oa e e2 => by
          have h1 := oown_lo HROW.out ⟨ga, oa, none⟩ e
          injection e2 with e2
          dsimp only at h1
          omega
        have hFE : ∀ x ∈ lw, FarM (some gb) x.1 x.2 := HBFW.out
        have HFA := Lib.hid hFA
        have HFE := Lib.hid hFE
        have RW9 : MsRow w9 w9.heap.size A' lw := (show MsRow wr wr.heap.size A' lw from ⟨by have := Row.of_own HROW.out; rwa [HLEN.out], fun x hx => (HALLW.out x hx).1⟩).below HBr9 (Nat.le_refl _) |>.more HBr9.size
        have R1 := RW9.setFar hFA hFE np (.int .u8 (a1 : Int))
        have R2 := R1.setFar hFA hFE (np + 2) (.int .u8 (h2 : Int))
        have R3 := R2.setFar hFA hFE (np + 3) (.int .u8 (l2 : Int))
        have o1 := own_setG9 HO9 np (by omega) (.int .u8 (a1 : Int))
        have o2 := own_setG9 o1 (np + 2) (by omega) (.int .u8 (h2 : Int))
        have o3 := own_setG9 o2 (np + 3) (by omega) (.int .u8 (l2 : Int))
        have B10 := ((HB9.setCell (p := ⟨gb, np, none⟩) (show w.heap.size ≤ gb by omega) (.int .u8 (a1 : Int))).setCell (p := ⟨gb, np + 2, none⟩) (show w.heap.size ≤ gb by omega) (.int .u8 (h2 : Int))).setCell (p := ⟨gb, np + 3, none⟩) (show w.heap.size ≤ gb by omega) (.int .u8 (l2 : Int))
        obtain ⟨w10, hw10⟩ : ∃ w10, ((w9.setCell ⟨gb, np, none⟩ (.int .u8 (a1 : Int))).setCell ⟨gb, np + 2, none⟩ (.int .u8 (h2 : Int))).setCell ⟨gb, np + 3, none⟩ (.int .u8 (l2 : Int)) = w10 := ⟨_, rfl⟩
        rw [hw10] at o3 R3 B10
        rw [hw10]
        have HO10 := Lib.hid o3
        have HR10 := Lib.hid R3
        have HB10 := Lib.hid B10
        clear o1 o2 o3 R1 R2 R3 RW9 B10 hw10 hw9 HO9 HBr9 HB9 hq hFA hFE HO8H HSET HBr8 HALLW HBFW HROW HB
        clear hc0 hc2 hc3 hf0 hf2 hf3 hgb1 hgb2 hsz9
        obtain ⟨cs, hcs, hcz, hmk⟩ := make9 nz (by omega) w10
        have wz := Whole.new w10 5 cs
        obtain ⟨nz1, hnz1⟩ : ∃ q, nz - 1 = q := ⟨_, rfl⟩
        have hnz1i : (nz : Int) - 1 = (nz1 : Int) := by omega
        have hnz1b : (nz1 : Int) < (nz : Int) := by omega
        have hnz1a : (0 : Int) ≤ (nz1 : Int) := by omega
        have hcc : cs[nz1]? = some (.int .u8 0) := by
          rw [← Array.getElem?_toList, hcs]
          simp [u8s, show nz1 < nz by omega]
        have hb11 := (Below.refl w10.heap.size w10).alloc (Nat.le_refl _) (.cells cs 5)
        obtain ⟨w11, hw11⟩ : ∃ w11, w10.alloc (.cells cs 5) = w11 := ⟨_, rfl⟩
        rw [hw11] at hmk wz hb11
        obtain ⟨gt, hgt⟩ : ∃ q, w10.heap.size = q := ⟨_, rfl⟩
        have HG10 := Lib.hid hgt
        rw [hgt] at hmk wz hb11
        have t0 := (wz.cell nz1).trans hcc
        have tf := wz.free nz1
        have HWZ := Lib.hid wz
        have HB11 := Lib.hid hb11
        have HCS := Lib.hid hcs
        have HCZ := Lib.hid hcz
        have HN1 := Lib.hid hnz1
        have HMK := hmk
        rw [hmk]
        clear hcs hcz hcc wz hb11 hw11 hgt hnz1 hmk HMK
        have HB12 : Hid (Below gt w10 (w11.setCell ⟨gt, nz1, none⟩ (.int .u8 (nz : Int)))) := Lib.hid (HB11.out.setCell (p := ⟨gt, nz1, none⟩) (Nat.le_refl gt) (.int .u8 (nz : Int)))
        have HO12 : Hid ((w11.setCell ⟨gt, nz1, none⟩ (.int .u8 (nz : Int))).ownsRow w1.heap.size 5 1 (.slice (some ⟨gb, 0, none⟩) (np + nm) c3) (np + nm) _) := Lib.hid (own_belowR HO10.out HB12.out (Nat.le_of_eq HG10.out))
        have HT12 : Hid (Row (w11.setCell ⟨gt, nz1, none⟩ (.int .u8 (nz : Int))) (w11.setCell ⟨gt, nz1, none⟩ (.int .u8 (nz : Int))).heap.size 1 (some ⟨gt, 0, none⟩) nz ((u8s (List.replicate nz 0)).set nz1 (.int .u8 (nz : Int)))) := Lib.hid (whole_row (HWZ.out.set nz1 (.int .u8 (nz : Int))) 1 nz _ (by simp [HCZ.out]) (by rw [Array.toList_setIfInBounds, HCS.out]))
        have HONE2 : Hid (∀ u ∈ (u8s (List.replicate nz 0)).set nz1 (.int .u8 (nz : Int)), u.oneCell' = true) := Lib.hid (fun u hu => by
          rcases List.mem_or_eq_of_mem_set hu with h | h
          · obtain ⟨x, _, rfl⟩ := List.mem_map.1 h
            rfl
          · subst h
            rfl)
        have HL1 := Lib.hid (show w1.heap.size ≤ gt by rw [← HG10.out]; have := HB10.out.size; have := (HO10.out.lt gb rfl); omega)
        have HS12 := Lib.hid (show gt < (w11.setCell ⟨gt, nz1, none⟩ (.int .u8 (nz : Int))).heap.size by have := HWZ.out.lt; simpa using this)
        rw [HN1.out, show (160 + (m.cnt : Int)) = (a1 : Int) by have := HA1.out; omega] at HESET
        clear HWZ HCS HCZ HB11
        go_wp2_with (at_builtin; go_loud (refine wpl_append _ rfl (.tmp 186) (.tmp 187) 25 rfl w1.heap.size 5 (.int .u8 0) 1 1 Tryd.underlying25 info_u8W rfl (by decide) (.slice (some ⟨gb, 0, none⟩) (np + nm) c3) (np + nm) _ rfl HO12.out _ (some ⟨gt, 0, none⟩) nz nz _ rfl HT12.out HONE2.out ?f1 ?f2 ?f3 ?_))
        case f1 => unfold maxLen; omega
        case f2 => omega
        case f3 => have := HL1.out; have := HS12.out; omega
        intro v13 w13 own13 g13 _
        obtain ⟨A13, c13, rfl⟩ := own_form own13
        rw [HESET.out] at own13
        obtain ⟨pb, hpb⟩ : ∃ pb, encs pre ++ ([UInt8.ofNat (160 + m.cnt), UInt8.ofNat m.num] ++ (bytesN (m.body.length / 4 + nz / 4) 2 ++ (m.body ++ tailB nz))) = pb := ⟨_, rfl⟩
        have HPP : Hid (parseL pb = ((l.map Prod.fst).map Ms.norm, 0)) := Lib.hid (by
          rw [← hpb, HSP.out]
          refine parse_padded pre m nz (fun y hy => ?_) HGD.out HFIT.out HFEW.out hz4 (by omega) hzm (by rw [HNP.out, HNM.out]; omega)
          have hy2 : y ∈ l.map Prod.fst := by rw [HSP.out]; exact List.mem_append_left _ hy
          obtain ⟨x, hx, rfl⟩ := List.mem_map.1 hy2
          exact ⟨HG.out x hx, HFF.out x hx⟩)
        rw [hpb] at own13
        have B12w := HB10.out.trans (HB12.out.mono (show w.heap.size ≤ gt by have := HL1.out; have := HB1.out.size; omega))
        have B13 := B12w.grown g13 B12w.size (fun q hq => Nat.le_trans HB1.out.size (HO12.out.lt q hq).1)
        have RW13 : MsRow w13 w13.heap.size A' lw := ((HR10.out.below HB12.out (Nat.le_of_eq HG10.out)).more HB12.out.size).grownFar HFA.out HFE.out g13
        have R13 := Row.of_own own13
        have hpl : pb.length = np + nm + nz := by have := R13.1; rw [u8s_len] at this; omega
        have HRW13 := Lib.hid RW13
        have HB13 := Lib.hid B13
        have CP3 := rparse_any A13 c13 (np + nm + nz) pb w13 (HFM.out.next B13) R13 hpl (by omega)
        unfold ParseOut at CP3
        rw [HPP.out] at CP3
        have CP3H := Lib.hid CP3
        clear CP3 R13 hpl RW13 B13 B12w own13 g13 hpb HESET HO12 HT12 HONE2 HB12 HR10 HO10 HB10
        go_wp2_with fail
        refine CP3H.out.mono ?_
        rintro e w14 ⟨⟨A14, c14, k14, l14, rfl, hk14, hm14, r14⟩, b14⟩
        dsimp only
        obtain rfl : n = k14 := by rw [← hk14]; have := congrArg List.length hm14; simpa [HN.out] using this.symm
        have C14 := all_any A14 c14 n l14 w14 r14 hk14 (fun x hx => (parseL_fits pb).1 x.1 (by rw [HPP.out, ← hm14]; exact List.mem_map.2 ⟨x, hx, rfl⟩)) (by omega)
        have C14H := Lib.hid C14
        have HM14 := Lib.hid hm14
        have HB14 := Lib.hid b14
        have hs14 := b14.size
        clear C14 CP3H b14 r14 hk14 hm14
        go_wp2_with fail
        refine C14H.out.mono ?_
        rintro e w15 ⟨⟨A15, c15, l15, rfl, hm15, r15⟩, b15⟩
        have HB15 := Lib.hid (HB14.out.trans (b15.mono hs14))
        have hl15 : l15.length = n := by have := congrArg List.length hm15; rw [HM14.out] at this; simpa [HN.out] using this
        have RW15 : MsRow w15 w15.heap.size A' lw := (HRW13.out.below HB15.out (Nat.le_refl _)).more HB15.out.size
        have C15 := same_any A15 A' c15 c' n n l15 lw w15 r15 RW15 hl15 HLEN.out (fun x hx => by
          have h1 : x.1 ∈ (parseL pb).1 := by rw [HPP.out, ← HM14.out, ← hm15]; exact List.mem_map.2 ⟨x, hx, rfl⟩
          exact ((parseL_fits pb).1 x.1 h1).2) HMD.out (by omega) (by omega)
        have heq : decide (l15.map Prod.fst = lw.map Prod.fst) = true := by rw [hm15, HM14.out, HLW.out, List.map_map]; exact decide_eq_true rfl
        rw [heq] at C15
        have C15H := Lib.hid C15
        clear C15 heq RW15 hl15 r15 hm15 C14H b15
        go_wp2_with fail
        refine C15H.out.mono ?_
        rintro e w16 ⟨rfl, b16⟩
        have HB16 := Lib.hid (HB13.out.trans ((HB15.out.trans (b16.mono HB15.out.size)).mono HB13.out.size))
        clear C15H b16
        go_wp2
        go_ret
        exact ⟨rfl, HB16.out⟩
set_option maxRecDepth 100000 in
theorem lifted (os : Os) (started : os.Started) (H : Type) (enc : TypeId × Value → H) :
    ReturnsInHanded {} Tryd.checked os 5 .any (fun w args => (Rows.rtcpBackSpec.pre enc Tryd.prog Tryd.f5 [] false w args ∧ laidMetH Tryd.prog laid9 w) ∧ sizedMet enc Tryd.prog Tryd.f5 (OpenSpec.ofChange Rows.rtcpBackSpec) false w args) (Rows.rtcpBackSpec.post enc Tryd.prog Tryd.f5 false true false false) := by
  refine returnsInHanded_of_change_and (C := Tryd.checked) (X := fun w _ => laidMetH Tryd.prog laid9 w) (fun _ _ _ hh h => h.of_heap hh) own9 started (by kernel_rfl) Tryd.func5
    (ChangeSpec.witness_shaped (enc := enc) (C := Tryd.checked) (os := os) (X := fun w _ => laidMetH Tryd.prog laid9 w) false (World.doorLaid Tryd.prog 400 os) #[.slice none 0 0, .int .u8 0] 8 rfl (World.shaped_of_RefB (by kernel_rfl) (by kernel_rfl)) (by kernel_rfl) (by kernel_rfl) (by kernel_rfl) (door_met os _)) ?_
  intro W base args ds gs before hval0 hW _ _ hL _
  have hval : ∀ (j : Nat) t v, Tryd.f5.params[j]? = some t → args[j]? = some v → Value.okWide Tryd.prog W .any base t v := hval0
  have hW' := hW
  obtain ⟨p, q, hA0, hV, _, _, _⟩ := hW
  have hA : DataW.TrodAll enc Tryd.prog W 0 (fun _ => true) true Tryd.f5.params.toList args.toList ds p := hA0
  rw [Tryd.params5] at hA hval
  obtain ⟨v0, vs0, d0, ds0, p0, q0, hargs, rfl, _, h0, r0⟩ := trodAll_cons hA
  obtain ⟨v1, vs1, d1, ds1, p1, q1, rfl, rfl, _, h1, r1⟩ := trodAll_cons r0
  obtain ⟨rfl, rfl, _⟩ := trodAll_nil r1
  obtain rfl : args = #[v0, v1] := by cases args; simp_all
  obtain ⟨rfl, _⟩ := trodVars_none hV
  refine law_post (s := Rows.rtcpBackSpec) rfl rfl (by rw [Tryd.params5]; intro t ht; simp at ht; rcases ht with rfl | rfl <;> exact ⟨by kernel_rfl, of_decide_eq_true (by kernel_rfl)⟩) rfl hW' ?_
  obtain ⟨A0, c0, l0, rfl, hl0, hr0, hf0, _, _⟩ := open_msgs (hval 0 22 v0 rfl rfl) h0
  obtain ⟨a1, rfl, _, _, w1⟩ := open_int Tryd.underlying5 (hval 1 5 v1 rfl rfl) h1
  exact walk W (forms_of_laid hL) A0 c0 l0 hl0 hr0 hf0 a1 w1

theorem over : Rows.RtcpBackSaid :=
  OpenClaim.holds_of_wide 5 Tryd.f5 rfl rfl rfl rfl rfl rfl rfl ⟨rfl, rfl, rfl, rfl, rfl⟩ rfl rfl rfl rfl rfl (by kernel_rfl) Tryd.func5 (by kernel_rfl)
    (of_decide_eq_true (by kernel_rfl)) (by unfold Func.isWrapper; first | (rw [if_pos (by decide +kernel)]; kernel_rfl) | (rw [if_neg (by decide +kernel)]; exact ⟨rfl, rfl⟩))
    (fun os started H enc _ => lifted os started H enc)

/-- The statement: the tied card. -/
theorem rtcpBack_holds : Rows.RtcpBackCardSaid :=
  Claim7.holds_tied_plain_at .later [] [.data] true (true, "43220aab9b1970ee321f7e0974090884d79636b54e389793af709f370493d7b1") false
    over (fun _ h => by cases h) (by kernel_rfl) (fun _ h => by cases h) rtcpBack_row_tie rfl ⟨rfl, rfl⟩ (by kernel_rfl) rfl
    (fun f fn hf hfn => by
      obtain rfl : f = 5 := Option.some.inj ((show Tryd.prog.funcNamed "louver/louverlaw09.RtcpBack" = some 5 by kernel_rfl).symm.trans hf) |>.symm
      obtain rfl : fn = Tryd.f5 := (Option.some.inj (Tryd.func5.symm.trans hfn)).symm
      exact ⟨by kernel_rfl, fun j t ht => by
        rw [Tryd.params5] at ht
        have hm : t ∈ [22, 5] := by simpa using Array.mem_of_getElem? ht
        have hall : ([22, 5].all fun u => !Tryd.prog.wantsStandIn u) = true := by kernel_rfl
        exact (show Tryd.prog.wantsStandIn t = false by simpa using List.all_eq_true.1 hall t hm)⟩)
    (by kernel_rfl)
end Go.Proofs.YtmbhibkiadgcbaaDoor.RBack
