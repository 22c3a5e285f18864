/-
  RtcpCuts: messages that end too early are refused; of another version, or with padding within, too. Conditions: the package's table of kinds reads as the program's text lays it (the tied card).
-/
import Derived.Test.YtmbhibkiadgcbaaDoorRcV
namespace Go.Proofs.YtmbhibkiadgcbaaDoor.RCuts
open Go.ChangeShapes Go.WideShapes Go.ChangeAt Go.RowKit
set_option maxRecDepth 100000

theorem xor64 (x : Nat) (h1 : 128 ≤ x) (h2 : x < 160) : bits .xor .u8 (x : Int) 64 = ((x + 64 : Nat) : Int) ∧ bits .xor .u8 ((x + 64 : Nat) : Int) 64 = (x : Int) ∧ bits .or .u8 (x : Int) 32 = ((x + 32 : Nat) : Int) := by
  have : ∀ x : Nat, x < 160 → 128 ≤ x → bits .xor .u8 (x : Int) 64 = ((x + 64 : Nat) : Int) ∧ bits .xor .u8 ((x + 64 : Nat) : Int) 64 = (x : Int) ∧ bits .or .u8 (x : Int) 32 = ((x + 32 : Nat) : Int) := by decide +kernel
  exact this x h2 h1
/-- What Parse tells of bytes that it refuses. -/
theorem refused {A : Option Addr} {c n : Nat} {s : List UInt8} {w : World} {er : Int} (hF : Forms w) (h : Row w w.heap.size 1 A n (u8s s)) (hn : s.length = n) (hl : n ≤ 100000) (hp : parseL s = ([], er)) :
    Calls Tryd.prog 14 #[.slice A n c] w fun e w' => (∃ (A' : Option Addr) (c' k : Nat), e = .returned (.tuple #[.slice A' k c', .int .i64 er])) ∧ Below w.heap.size w w' := by
  refine (rparse_any A c n s w hF h hn hl).mono ?_
  rintro e w' ⟨⟨A', c', k, l', h1, _, _, _⟩, h2⟩
  exact ⟨⟨A', c', k, by rw [h1, hp]⟩, h2⟩

set_option maxHeartbeats 6400000 in
theorem walk (w : World) (hF : Forms w) (A : Option Addr) (c : Nat) (l : List (Ms × Sl)) (hl : l.length ≤ maxLen) (h : CmRow w w.heap.size A l) (hfit : ∀ x ∈ l, x.1.Fits) (ai : Int) (hai : (Lit.int .u16 ai).wf = true) :
    Calls Tryd.prog 6 #[.slice A l.length c, .int .u16 ai] w fun e w' => e = .returned (.bool true) ∧ Below w.heap.size w w' := by
  have ha2 := wf_u16 hai
  clear hai
  obtain ⟨a, rfl⟩ := Int.eq_ofNat_of_zero_le ha2.1
  obtain ⟨n, hn⟩ : ∃ n, l.length = n := ⟨_, rfl⟩
  rw [hn] at hl ⊢
  have H := Lib.hid h
  have HN := Lib.hid hn
  have HF := Lib.hid hfit
  have HFM := Lib.hid hF
  clear h hn hfit hF
  obtain ⟨b, hb⟩ : ∃ b, fewM (l.map Prod.fst) = b := ⟨_, rfl⟩
  have HW := Lib.hid hb
  clear hb
  go_enter Tryd.func6, Tryd.ntmps6
  go_wp2_with fail
  refine (awake9 w HFM.out).mono ?_
  rintro e w1 ⟨rfl, b1⟩
  have HB1 := Lib.hid b1
  have C1 := few_any A c n l w1 ((H.out.below b1 (Nat.le_refl _)).more b1.size) HN.out hl
  rw [HW.out] at C1
  clear b1
  go_wp2_with fail
  refine C1.mono ?_
  rintro e w2 ⟨rfl, rfl⟩
  clear C1
  cases b with
  | false =>
    go_wp2
    go_ret
    exact ⟨rfl, HB1.out⟩
  | true =>
  by_cases hn0 : (n : Int) = 0
  · go_wp2
    go_ret
    exact ⟨rfl, HB1.out⟩
  obtain ⟨hf, h12⟩ := few_mod HW.out HF.out
  rw [HN.out] at h12
  obtain ⟨⟨bx, ex⟩, hpx⟩ : ∃ p, putL (l.map Prod.fst) = p := ⟨_, rfl⟩
  obtain ⟨⟨m, s⟩, hx⟩ : ∃ x, l[0]? = some x := ⟨l[0]'(by rw [HN.out]; omega), by simp⟩
  obtain ⟨l2, hl2⟩ : ∃ l2, l = (m, s) :: l2 := by
    match l, hx with
    | y :: l2, hx => simp at hx; exact ⟨l2, by rw [hx]⟩
  obtain ⟨⟨b1x, e1x⟩, hp1⟩ : ∃ p, putL [m] = p := ⟨_, rfl⟩
  have hmf := hf (m, s) (by rw [hl2]; simp)
  have HREL : Hid (ex = 0 → e1x = 0 ∧ m.good = true ∧ b1x = m.enc ∧ bx = m.enc ++ encs (l2.map Prod.fst) ∧ bx.length ≤ 1500 ∧ (1 < n → encs (l2.map Prod.fst) ≠ [])) := Lib.hid (by
    intro h0
    subst h0
    have hc : putL ([m] ++ l2.map Prod.fst) = (bx, 0) := by rw [← hpx, hl2]; rfl
    have h1 := putL_append [m] (l2.map Prod.fst) (by rw [hc])
    rw [hp1] at h1
    rcases putL_cases ([m] ++ l2.map Prod.fst) with ⟨p1, g1, s1⟩ | ⟨_, p2, _⟩
    · rcases putL_cases [m] with ⟨p3, g3, s3⟩ | ⟨_, p2, _⟩
      · rw [hc] at p1
        rw [hp1] at p3
        injection p1 with q1 _
        injection p3 with q3 _
        rw [encs_append] at q1
        have e1 : encs [m] = m.enc := by simp [encs]
        rw [e1] at q1 q3
        refine ⟨h1.1, g3 m (by simp), q3, q1, by rw [q1, ← e1, ← encs_append]; exact s1, fun h1n => ?_⟩
        match l2, hl2 with
        | [], hl2 => exfalso; have := HN.out; rw [hl2] at this; simp at this; omega
        | y :: l3, _ => simp [encs, Ms.enc]
      · rw [hp1] at p2; exact absurd h1.1 p2
    · rw [hc] at p2; exact absurd rfl p2)
  obtain ⟨g, o, rfl, hg, hcs, hms⟩ := H.out.at 0 (m, s) hx
  dsimp only at hcs hms
  simp only [Nat.zero_mul, Nat.add_zero] at hcs
  have CX := rput_any (some ⟨g, o, none⟩) c n l w1 (HFM.out.next HB1.out) ((H.out.below HB1.out (Nat.le_refl _)).more HB1.out.size) HN.out hf (by omega)
  rw [hpx] at CX
  have CXH : Hid (Calls Tryd.prog 11 #[.slice (some ⟨g, o, none⟩) n c] w1 fun e w' => (∃ (A' : Option Addr) (c' : Nat), e = .returned (.tuple #[.slice A' bx.length c', .int .i64 ex]) ∧ w'.ownsRow w1.heap.size 5 1 (.slice A' bx.length c') bx.length (u8s bx)) ∧ Below w1.heap.size w1 w') := Lib.hid CX
  have HMF := Lib.hid hmf
  have HP1 := Lib.hid hp1
  clear CX hpx hf hx hl2 hmf hp1
  go_wp2_with fail
  refine CXH.out.mono ?_
  rintro e w3 ⟨⟨A3, c3, rfl, o3⟩, b3⟩
  have B3 := bnext HB1.out b3
  have hm3 := (hms.below B3 (Nat.le_refl _)).more B3.size
  have q0 : w3.cell? ⟨g, o, none⟩ = some (.int .i64 m.kind) := (B3.cell (p := ⟨g, o, none⟩) (by simpa using hg)).trans (hcs 0 _ rfl)
  have q1 : w3.cell? ⟨g, o + 1, none⟩ = some (.int .u32 (m.ssrc : Int)) := (B3.cell (p := ⟨g, o + 1, none⟩) (by simpa using hg)).trans (hcs 1 _ rfl)
  have q2 : w3.cell? ⟨g, o + 2, none⟩ = some (.int .u32 (m.media : Int)) := (B3.cell (p := ⟨g, o + 2, none⟩) (by simpa using hg)).trans (hcs 2 _ rfl)
  have q3 : w3.cell? ⟨g, o + 3, none⟩ = some (.int .u64 (m.clock : Int)) := (B3.cell (p := ⟨g, o + 3, none⟩) (by simpa using hg)).trans (hcs 3 _ rfl)
  have q4 : w3.cell? ⟨g, o + 4, none⟩ = some (.int .u32 (m.time : Int)) := (B3.cell (p := ⟨g, o + 4, none⟩) (by simpa using hg)).trans (hcs 4 _ rfl)
  have q5 : w3.cell? ⟨g, o + 5, none⟩ = some (.int .u32 (m.packets : Int)) := (B3.cell (p := ⟨g, o + 5, none⟩) (by simpa using hg)).trans (hcs 5 _ rfl)
  have q6 : w3.cell? ⟨g, o + 6, none⟩ = some (.int .u32 (m.bytes : Int)) := (B3.cell (p := ⟨g, o + 6, none⟩) (by simpa using hg)).trans (hcs 6 _ rfl)
  have q7 : w3.cell? ⟨g, o + 7, none⟩ = some (.slice s.rA m.reps.length s.rc) := (B3.cell (p := ⟨g, o + 7, none⟩) (by simpa using hg)).trans (hcs 7 _ rfl)
  have q8 : w3.cell? ⟨g, o + 8, none⟩ = some (.slice s.wA m.who.length s.wc) := (B3.cell (p := ⟨g, o + 8, none⟩) (by simpa using hg)).trans (hcs 8 _ rfl)
  have q9 : w3.cell? ⟨g, o + 9, none⟩ = some (.slice s.pA m.pairs.length s.pc) := (B3.cell (p := ⟨g, o + 9, none⟩) (by simpa using hg)).trans (hcs 9 _ rfl)
  have q10 : w3.cell? ⟨g, o + 10, none⟩ = some (.slice s.aA m.asks.length s.ac) := (B3.cell (p := ⟨g, o + 10, none⟩) (by simpa using hg)).trans (hcs 10 _ rfl)
  have q11 : w3.cell? ⟨g, o + 11, none⟩ = some (.int .u8 (m.typ : Int)) := (B3.cell (p := ⟨g, o + 11, none⟩) (by simpa using hg)).trans (hcs 11 _ rfl)
  have b4 := (Below.refl w3.heap.size w3).alloc (Nat.le_refl _) (.cells #[.int .i64 m.kind, .int .u32 (m.ssrc : Int), .int .u32 (m.media : Int), .int .u64 (m.clock : Int), .int .u32 (m.time : Int), .int .u32 (m.packets : Int), .int .u32 (m.bytes : Int), .slice s.rA m.reps.length s.rc, .slice s.wA m.who.length s.wc, .slice s.pA m.pairs.length s.pc, .slice s.aA m.asks.length s.ac, .int .u8 (m.typ : Int)] 59)
  have C1 := rput_any (some ⟨w3.heap.size, 0, none⟩) 1 1 [(m, s)] (w3.alloc (.cells #[.int .i64 m.kind, .int .u32 (m.ssrc : Int), .int .u32 (m.media : Int), .int .u64 (m.clock : Int), .int .u32 (m.time : Int), .int .u32 (m.packets : Int), .int .u32 (m.bytes : Int), .slice s.rA m.reps.length s.rc, .slice s.wA m.who.length s.wc, .slice s.pA m.pairs.length s.pc, .slice s.aA m.asks.length s.ac, .int .u8 (m.typ : Int)] 59)) (HFM.out.next (bnext B3 b4)) ⟨Row.fresh w3 _ #[.int .i64 m.kind, .int .u32 (m.ssrc : Int), .int .u32 (m.media : Int), .int .u64 (m.clock : Int), .int .u32 (m.time : Int), .int .u32 (m.packets : Int), .int .u32 (m.bytes : Int), .slice s.rA m.reps.length s.rc, .slice s.wA m.who.length s.wc, .slice s.pA m.pairs.length s.pc, .slice s.aA m.asks.length s.ac, .int .u8 (m.typ : Int)] 12 1 (msC [(m, s)]) rfl (by simp [msC, Ms.cells]), fun x hx => by simp at hx; subst hx; exact (hm3.below b4 (Nat.le_refl _)).more b4.size⟩ rfl (fun x hx => by simp at hx; subst hx; exact HMF.out) (by omega)
  rw [show [(m, s)].map Prod.fst = [m] from rfl, HP1.out] at C1
  have C1H : Hid (Calls Tryd.prog 11 #[.slice (some ⟨w3.heap.size, 0, none⟩) 1 1] (w3.alloc (.cells #[.int .i64 m.kind, .int .u32 (m.ssrc : Int), .int .u32 (m.media : Int), .int .u64 (m.clock : Int), .int .u32 (m.time : Int), .int .u32 (m.packets : Int), .int .u32 (m.bytes : Int), .slice s.rA m.reps.length s.rc, .slice s.wA m.who.length s.wc, .slice s.pA m.pairs.length s.pc, .slice s.aA m.asks.length s.ac, .int .u8 (m.typ : Int)] 59)) fun e w' => (∃ (A' : Option Addr) (c' : Nat), e = .returned (.tuple #[.slice A' b1x.length c', .int .i64 e1x])) ∧ Below w3.heap.size w3 w') := Lib.hid (C1.mono fun e w' hh => ⟨(by obtain ⟨⟨A', c', h1, _⟩, _⟩ := hh; exact ⟨A', c', h1⟩), bnext b4 hh.2⟩)
  have HO3 := Lib.hid o3
  have HB3 := Lib.hid B3
  have hn1 : 0 < n := by omega
  have hs1 := HB1.out.size
  have hs3 := b3.size
  clear CXH C1 o3 b3 B3 b4 hm3 hms hcs HP1
  go_wp2_with fail
  refine C1H.out.mono ?_
  rintro e w4 ⟨⟨A4, c4, rfl⟩, b4⟩
  have HO4 := Lib.hid (own_belowR HO3.out b4 (Nat.le_refl _))
  have HB4 := Lib.hid (bnext HB3.out b4)
  have hs4 := b4.size
  clear C1H b4 HO3 HB3 q0 q1 q2 q3 q4 q5 q6 q7 q8 q9 q10 q11
  by_cases hex : ex = 0
  · subst hex
    obtain ⟨rfl, hgood, e1, e2, h15, hne⟩ := HREL.out rfl
    obtain ⟨gf1, gf2, gf3⟩ := good_facts m hgood
    have hel := m.enc_length HMF.out.2
    have hb4 := body_four m
    obtain ⟨n1, hn1'⟩ : ∃ n1, b1x.length = n1 := ⟨_, rfl⟩
    have he4 : 4 ≤ n1 := by rw [← hn1', e1]; simp [Ms.enc, bytesN_length]
    have hle : n1 ≤ bx.length := by rw [← hn1', e1, e2, List.length_append]; omega
    rw [hn1']
    obtain ⟨k, hk⟩ : ∃ k, a % n1 = k := ⟨_, rfl⟩
    have hkl : k < n1 := by rw [← hk]; exact Nat.mod_lt _ (by omega)
    have hkm : IntKind.i64.wrap ((a : Int).tmod (n1 : Int)) = (k : Int) := by
      rw [← hk, Int.tmod_eq_emod_of_nonneg (by omega), IntWalk.i64_in _ (by have h1 := Int.emod_nonneg (a : Int) (b := (n1 : Int)) (by omega); have h2 := Int.emod_lt_of_pos (a : Int) (b := (n1 : Int)) (by omega); omega)]
      rfl
    have hkm2 : (a : Int).tmod (n1 : Int) = (k : Int) := by rw [← hk, Int.tmod_eq_emod_of_nonneg (by omega)]; rfl
    have hkm3 : (a : Int) % (n1 : Int) = (k : Int) := by rw [← hk]; rfl
    have hn1z : ¬ (n1 : Int) = 0 := by omega
    have hn14 : ¬ (n1 : Int) < 4 := by omega
    have hbn : ¬ (bx.length : Int) < (n1 : Int) := by omega
    have hkb : (k : Int) ≤ (bx.length : Int) := by omega
    have r4 := Row.of_own HO4.out
    have hcap := oown_cap HO4.out
    have hkc : (k : Int) ≤ (c3 : Int) := by omega
    have CK := refused (er := 10) (c := c3) (HFM.out.next HB4.out) (show Row w4 w4.heap.size 1 A3 k (u8s (bx.take k)) from by
      have := r4.take (k := k) (by omega)
      rwa [show (u8s bx).take k = u8s (bx.take k) by simp [u8s, List.map_take]] at this) (by rw [List.length_take]; omega) (by omega) (by rw [e2]; exact parse_cut m _ k hgood HMF.out.2 (by rw [← e1, hn1']; exact hkl) (by omega))
    have CKH := Lib.hid CK
    have HGOOD := Lib.hid hgood
    have HE2 := Lib.hid e2
    have HNE := Lib.hid hne
    have HN14 := Lib.hid (show 4 ≤ bx.length by omega)
    obtain ⟨rest, hrest⟩ : ∃ r, encs (l2.map Prod.fst) = r := ⟨_, rfl⟩
    rw [hrest] at e2 hne
    obtain ⟨xc, hxc⟩ : ∃ xc, 128 + m.cnt = xc := ⟨_, rfl⟩
    obtain ⟨y64, hy64⟩ : ∃ y, xc + 64 = y := ⟨_, rfl⟩
    obtain ⟨y32, hy32⟩ : ∃ y, xc + 32 = y := ⟨_, rfl⟩
    obtain ⟨bb1, bb2, bb3⟩ := xor64 xc (by omega) (by omega)
    rw [hy64] at bb1 bb2
    rw [hy32] at bb3
    have hset : ∀ v, bx.set 0 v = v :: (m.enc ++ rest).drop 1 := fun v => by rw [e2]; rfl
    have HV : Hid (parseL (bx.set 0 (UInt8.ofNat y64)) = ([], 11)) := Lib.hid (by rw [hset, show y64 = 192 + m.cnt by omega]; exact parse_version m rest hgood (by rw [← e2]; exact h15))
    have HWI : Hid (1 < n → parseL (bx.set 0 (UInt8.ofNat y32)) = ([], 11)) := Lib.hid (fun h1 => by rw [hset, show y32 = 160 + m.cnt by omega]; exact parse_within m rest hgood HMF.out.2 (hne h1) (by rw [← e2]; exact h15))
    have hat0 : bx[0]? = some (UInt8.ofNat xc) := by rw [e2, ← hxc]; rfl
    have hback : (bx.set 0 (UInt8.ofNat y64)).set 0 (UInt8.ofNat xc) = bx := by
      rw [List.set_set]
      apply List.ext_getElem?
      intro i
      rw [List.getElem?_set]
      by_cases hi : 0 = i
      · subst hi; rw [if_pos rfl, if_pos (by omega), hat0]
      · rw [if_neg hi]
    have HAT := Lib.hid hat0
    have HBK := Lib.hid hback
    have u64 : (UInt8.ofNat y64).toNat = y64 := by simp [UInt8.toNat_ofNat']; omega
    have u32' : (UInt8.ofNat y32).toNat = y32 := by simp [UInt8.toNat_ofNat']; omega
    have ux : (UInt8.ofNat xc).toNat = xc := by simp [UInt8.toNat_ofNat']; omega
    have hbl0 : 0 < bx.length := by omega
    have hbi : (0 : Int) < (bx.length : Int) := by omega
    have HU := Lib.hid (show (UInt8.ofNat y64).toNat = y64 ∧ (UInt8.ofNat y32).toNat = y32 ∧ (UInt8.ofNat xc).toNat = xc from ⟨u64, u32', ux⟩)
    clear CK HREL r4 hgood e1 e2 hne hel hb4 hk hn1' hset hat0 hback u64 u32' ux hxc hy64 hy32 hrest HGOOD HE2 HNE gf1 gf2 gf3
    go_wp2_with fail
    refine CKH.out.mono ?_
    rintro e w5 ⟨⟨A5, c5, k5, rfl⟩, b5⟩
    have O5 := own_belowR HO4.out b5 (Nat.le_refl _)
    obtain ⟨gb, rfl, hgb1, hgb2, hgc, hgf, hgs⟩ := own_setAt O5 0 hbl0
    rw [u8s_at bx 0 _ HAT.out, HU.out.2.2] at hgc
    have O6 := hgs (.int .u8 (y64 : Int))
    rw [show (Value.int .u8 (y64 : Int)) = .int .u8 ((UInt8.ofNat y64).toNat : Int) by rw [HU.out.1], u8s_set] at O6
    have B5 := bnext HB4.out b5
    have B6 := B5.setCell (p := ⟨gb, 0, none⟩) (Nat.le_trans hs1 hgb1) (.int .u8 ((UInt8.ofNat y64).toNat : Int))
    have C6 := refused (c := c3) (HFM.out.next B6) (Row.of_own O6) (by rw [List.length_set]) (by omega) HV.out
    rw [HU.out.1] at C6 O6 B6
    have C6H := Lib.hid C6
    have HO6 := Lib.hid O6
    have HB6 := Lib.hid B6
    clear CKH HO4 HB4 b5 O5 O6 hgs B5 B6 C6 HV
    go_wp2_with fail
    refine C6H.out.mono ?_
    rintro e w7 ⟨⟨A7, c7, k7, rfl⟩, b7⟩
    have O7 := own_belowR HO6.out b7 (Nat.le_refl _)
    obtain ⟨gb', hgb', hgb1', hgb2', hgc', hgf', hgs'⟩ := own_setAt O7 0 hbl0
    obtain rfl : gb = gb' := by injection hgb' with hgb'; injection hgb' with hgb' _
    rw [u8s_at _ 0 (UInt8.ofNat y64) (by rw [List.getElem?_set, if_pos rfl, if_pos hbl0]), HU.out.1] at hgc'
    have O8 := hgs' (.int .u8 (xc : Int))
    rw [show (Value.int .u8 (xc : Int)) = .int .u8 ((UInt8.ofNat xc).toNat : Int) by rw [HU.out.2.2], u8s_set, HBK.out] at O8
    have B7 := bnext HB6.out b7
    have B8 := B7.setCell (p := ⟨gb, 0, none⟩) (Nat.le_trans hs1 hgb1) (.int .u8 ((UInt8.ofNat xc).toNat : Int))
    rw [HU.out.2.2] at O8 B8
    by_cases h1n : (1 : Int) < (n : Int)
    · obtain ⟨gb'', hgb'', _, _, hgc'', hgf'', hgs''⟩ := own_setAt O8 0 hbl0
      obtain rfl : gb = gb'' := by injection hgb'' with hgb''; injection hgb'' with hgb'' _
      rw [u8s_at bx 0 _ HAT.out, HU.out.2.2] at hgc''
      have O9 := hgs'' (.int .u8 (y32 : Int))
      rw [show (Value.int .u8 (y32 : Int)) = .int .u8 ((UInt8.ofNat y32).toNat : Int) by rw [HU.out.2.1], u8s_set] at O9
      have B9 := B8.setCell (p := ⟨gb, 0, none⟩) (Nat.le_trans hs1 hgb1) (.int .u8 ((UInt8.ofNat y32).toNat : Int))
      have C9 := refused (c := c3) (HFM.out.next B9) (Row.of_own O9) (by rw [List.length_set]) (by omega) (HWI.out (by omega))
      rw [HU.out.2.1] at C9 B9
      have C9H := Lib.hid C9
      have HB9 := Lib.hid B9
      clear C6H HO6 HB6 b7 O7 O8 O9 hgs' hgs'' B7 B8 B9 C9 HWI HAT HBK hgb' hgb''
      go_wp2_with fail
      refine C9H.out.mono ?_
      rintro e w10 ⟨⟨A10, c10, k10, rfl⟩, b10⟩
      have HR := Lib.hid (bnext HB9.out b10)
      clear C9H HB9 b10 hgc hgf hgc' hgf' hgc'' hgf''
      go_wp2
      go_ret
      exact ⟨rfl, HR.out⟩
    · have HR := Lib.hid B8
      clear C6H HO6 HB6 b7 O7 O8 hgs' B7 B8 HWI HAT HBK hgb'
      go_wp2
      go_ret
      exact ⟨rfl, HR.out⟩
  · have HX : Hid ((ex != 0) = true) := Lib.hid (by simpa using hex)
    clear HREL HO4 HMF
    go_wp2
    go_ret
    exact ⟨ret_boolR HX.out, HB4.out⟩
set_option maxRecDepth 100000 in
theorem lifted (os : Os) (started : os.Started) (H : Type) (enc : TypeId × Value → H) :
    ReturnsInHanded {} Tryd.checked os 6 .any (fun w args => (Rows.rtcpCutsSpec.pre enc Tryd.prog Tryd.f6 [] false w args ∧ laidMetH Tryd.prog laid9 w) ∧ sizedMet enc Tryd.prog Tryd.f6 (OpenSpec.ofChange Rows.rtcpCutsSpec) false w args) (Rows.rtcpCutsSpec.post enc Tryd.prog Tryd.f6 false true false false) := by
  refine returnsInHanded_of_change_and (C := Tryd.checked) (X := fun w _ => laidMetH Tryd.prog laid9 w) (fun _ _ _ hh h => h.of_heap hh) own9 started (by kernel_rfl) Tryd.func6
    (ChangeSpec.witness_shaped (enc := enc) (C := Tryd.checked) (os := os) (X := fun w _ => laidMetH Tryd.prog laid9 w) false (World.doorLaid Tryd.prog 400 os) #[.slice none 0 0, .int .u16 0] 8 rfl (World.shaped_of_RefB (by kernel_rfl) (by kernel_rfl)) (by kernel_rfl) (by kernel_rfl) (by kernel_rfl) (door_met os _)) ?_
  intro W base args ds gs before hval0 hW _ _ hL _
  have hval : ∀ (j : Nat) t v, Tryd.f6.params[j]? = some t → args[j]? = some v → Value.okWide Tryd.prog W .any base t v := hval0
  have hW' := hW
  obtain ⟨p, q, hA0, hV, _, _, _⟩ := hW
  have hA : DataW.TrodAll enc Tryd.prog W 0 (fun _ => true) true Tryd.f6.params.toList args.toList ds p := hA0
  rw [Tryd.params6] at hA hval
  obtain ⟨v0, vs0, d0, ds0, p0, q0, hargs, rfl, _, h0, r0⟩ := trodAll_cons hA
  obtain ⟨v1, vs1, d1, ds1, p1, q1, rfl, rfl, _, h1, r1⟩ := trodAll_cons r0
  obtain ⟨rfl, rfl, _⟩ := trodAll_nil r1
  obtain rfl : args = #[v0, v1] := by cases args; simp_all
  obtain ⟨rfl, _⟩ := trodVars_none hV
  refine law_post (s := Rows.rtcpCutsSpec) rfl rfl (by rw [Tryd.params6]; intro t ht; simp at ht; rcases ht with rfl | rfl <;> exact ⟨by kernel_rfl, of_decide_eq_true (by kernel_rfl)⟩) rfl hW' ?_
  obtain ⟨A0, c0, l0, rfl, hl0, hr0, hf0, _, _⟩ := open_msgs (hval 0 22 v0 rfl rfl) h0
  obtain ⟨a1, rfl, _, _, w1⟩ := open_int Tryd.underlying34 (hval 1 34 v1 rfl rfl) h1
  exact walk W (forms_of_laid hL) A0 c0 l0 hl0 hr0 hf0 a1 w1

theorem over : Rows.RtcpCutsSaid :=
  OpenClaim.holds_of_wide 6 Tryd.f6 rfl rfl rfl rfl rfl rfl rfl ⟨rfl, rfl, rfl, rfl, rfl⟩ rfl rfl rfl rfl rfl (by kernel_rfl) Tryd.func6 (by kernel_rfl)
    (of_decide_eq_true (by kernel_rfl)) (by unfold Func.isWrapper; first | (rw [if_pos (by decide +kernel)]; kernel_rfl) | (rw [if_neg (by decide +kernel)]; exact ⟨rfl, rfl⟩))
    (fun os started H enc _ => lifted os started H enc)

/-- The statement: the tied card. -/
theorem rtcpCuts_holds : Rows.RtcpCutsCardSaid :=
  Claim7.holds_tied_plain_at .later [] [.data] true (true, "43220aab9b1970ee321f7e0974090884d79636b54e389793af709f370493d7b1") false
    over (fun _ h => by cases h) (by kernel_rfl) (fun _ h => by cases h) rtcpCuts_row_tie rfl ⟨rfl, rfl⟩ (by kernel_rfl) rfl
    (fun f fn hf hfn => by
      obtain rfl : f = 6 := Option.some.inj ((show Tryd.prog.funcNamed "louver/louverlaw09.RtcpCuts" = some 6 by kernel_rfl).symm.trans hf) |>.symm
      obtain rfl : fn = Tryd.f6 := (Option.some.inj (Tryd.func6.symm.trans hfn)).symm
      exact ⟨by kernel_rfl, fun j t ht => by
        rw [Tryd.params6] at ht
        have hm : t ∈ [22, 34] := by simpa using Array.mem_of_getElem? ht
        have hall : ([22, 34].all fun u => !Tryd.prog.wantsStandIn u) = true := by kernel_rfl
        exact (show Tryd.prog.wantsStandIn t = false by simpa using List.all_eq_true.1 hall t hm)⟩)
    (by kernel_rfl)
end Go.Proofs.YtmbhibkiadgcbaaDoor.RCuts
