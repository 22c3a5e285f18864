/-
  The contract of package rtcp's Put: the bytes of messages, or the error.
-/
import Derived.Test.YtcjmiidnhbmclaaDoorRcE
namespace Go.Proofs.YtcjmiidnhbmclaaDoor
open Go.RowKit
set_option maxRecDepth 100000

def PutOut (w : World) (p : List UInt8 × Int) (e : Ending) (w' : World) : Prop :=
  (∃ (A' : Option Addr) (c' : Nat), e = .returned (.tuple #[.slice A' p.1.length c', .int .i64 p.2]) ∧ w'.ownsRow w.heap.size 5 1 (.slice A' p.1.length c') p.1.length (u8s p.1)) ∧ Below w.heap.size w w'
theorem encs_le : ∀ (l : List Ms), (∀ m ∈ l, m.Few) → (encs l).length ≤ 1700 * l.length
  | [], _ => by simp [encs]
  | m :: l, h => by
    have h1 := m.enc_length (h m (by simp))
    have h2 := encs_le l (fun x hx => h x (by simp [hx]))
    simp only [encs, List.flatMap_cons, List.length_append, List.length_cons] at h2 ⊢
    omega
set_option maxHeartbeats 3200000 in
theorem rput_any (A : Option Addr) (c n : Nat) (l : List (Ms × Sl)) (w : World) (hF : Forms w) (h : CmRow w w.heap.size A l) (hn : l.length = n) (hfw : ∀ x ∈ l, x.1.Fits ∧ x.1.Few) (hl : n ≤ 64) :
    Calls Tryd.prog 11 #[.slice A n c] w (PutOut w (putL (l.map Prod.fst))) := by
  have H := Lib.hid h
  have HN := Lib.hid hn
  have HW := Lib.hid hfw
  have HFM := Lib.hid hF
  have hLE : ∀ k, k ≤ n → (encs ((l.map Prod.fst).take k)).length ≤ 1700 * 64 := fun k hk => by
    have := encs_le ((l.map Prod.fst).take k) (fun m hm => by
      obtain ⟨x, hx, rfl⟩ := List.mem_map.1 (List.mem_of_mem_take hm)
      exact (hfw x hx).2)
    have h2 : ((l.map Prod.fst).take k).length ≤ k := by simp [List.length_take]; omega
    omega
  have HLE := Lib.hid hLE
  clear h hn hfw hF hLE
  go_enter Tryd.func11, Tryd.ntmps11
  go_wp2_with fail
  go_loopw [4, 9] (fun v i wr => ∃ k : Nat, k ≤ n ∧ i = .int .i64 k ∧ Hid (∀ m ∈ (l.map Prod.fst).take k, m.good = true) ∧ wr.ownsRow w.heap.size 5 1 v (encs ((l.map Prod.fst).take k)).length (u8s (encs ((l.map Prod.fst).take k))) ∧ Below w.heap.size w wr) (fun _ i _ => n - (intOf i).toNat)
  case atStart => exact ⟨0, Nat.zero_le _, rfl, Lib.hid (by simp), World.ownsRow_nil _ _ _ _, Below.refl _ _⟩
  case round =>
    obtain ⟨k, hk, rfl, HG, hown, hb⟩ := hrel
    have hacc := HLE.out k hk
    by_cases hlt : k < n
    · obtain ⟨x, hx⟩ : ∃ x, l[k]? = some x := ⟨l[k]'(by rw [HN.out]; exact hlt), by simp⟩
      have hxm : (l.map Prod.fst)[k]? = some x.1 := by simp [hx]
      obtain ⟨g, o, hA, hg, hcs, hms⟩ := H.out.at k x hx
      subst hA
      obtain ⟨hfit, hfew⟩ := HW.out x (List.mem_of_getElem? hx)
      have hel := x.1.enc_length hfew
      have HBAD := Lib.hid (fun hb => putL_bad _ k x.1 hxm hb)
      have HT := Lib.hid (encs_take _ k x.1 hxm)
      have HG' : Hid (x.1.good = true → ∀ m ∈ (l.map Prod.fst).take (k + 1), m.good = true) := Lib.hid (fun hg m hm => by
        rw [List.take_add_one, hxm] at hm
        rcases List.mem_append.1 hm with h | h
        · exact HG.out m h
        · simp at h; rw [h]; exact hg)
      have CW := Lib.hid (fun wx => isWrong_any x.1 x.2 wx)
      have CB := Lib.hid (fun wx (b : Below w.heap.size w wx) (hgd : x.1.good = true) => bytes_msg x.1 x.2 wx hgd (HFM.out.next b) ((hms.below b (Nat.le_refl _)).more b.size) hfit hfew)
      generalize encs ((l.map Prod.fst).take k) = acc at hown hacc HT
      obtain ⟨m, s⟩ := x
      dsimp only at HBAD HT HG' CW CB hel
      have q0 : wr.cell? ⟨g, o + k * 12, none⟩ = some (.int .i64 m.kind) := (hb.cell (p := ⟨g, o + k * 12, none⟩) (by simpa using hg)).trans (hcs 0 _ rfl)
      have q1 : wr.cell? ⟨g, o + k * 12 + 1, none⟩ = some (.int .u32 (m.ssrc : Int)) := (hb.cell (p := ⟨g, o + k * 12 + 1, none⟩) (by simpa using hg)).trans (hcs 1 _ rfl)
      have q2 : wr.cell? ⟨g, o + k * 12 + 2, none⟩ = some (.int .u32 (m.media : Int)) := (hb.cell (p := ⟨g, o + k * 12 + 2, none⟩) (by simpa using hg)).trans (hcs 2 _ rfl)
      have q3 : wr.cell? ⟨g, o + k * 12 + 3, none⟩ = some (.int .u64 (m.clock : Int)) := (hb.cell (p := ⟨g, o + k * 12 + 3, none⟩) (by simpa using hg)).trans (hcs 3 _ rfl)
      have q4 : wr.cell? ⟨g, o + k * 12 + 4, none⟩ = some (.int .u32 (m.time : Int)) := (hb.cell (p := ⟨g, o + k * 12 + 4, none⟩) (by simpa using hg)).trans (hcs 4 _ rfl)
      have q5 : wr.cell? ⟨g, o + k * 12 + 5, none⟩ = some (.int .u32 (m.packets : Int)) := (hb.cell (p := ⟨g, o + k * 12 + 5, none⟩) (by simpa using hg)).trans (hcs 5 _ rfl)
      have q6 : wr.cell? ⟨g, o + k * 12 + 6, none⟩ = some (.int .u32 (m.bytes : Int)) := (hb.cell (p := ⟨g, o + k * 12 + 6, none⟩) (by simpa using hg)).trans (hcs 6 _ rfl)
      have q7 : wr.cell? ⟨g, o + k * 12 + 7, none⟩ = some (.slice s.rA m.reps.length s.rc) := (hb.cell (p := ⟨g, o + k * 12 + 7, none⟩) (by simpa using hg)).trans (hcs 7 _ rfl)
      have q8 : wr.cell? ⟨g, o + k * 12 + 8, none⟩ = some (.slice s.wA m.who.length s.wc) := (hb.cell (p := ⟨g, o + k * 12 + 8, none⟩) (by simpa using hg)).trans (hcs 8 _ rfl)
      have q9 : wr.cell? ⟨g, o + k * 12 + 9, none⟩ = some (.slice s.pA m.pairs.length s.pc) := (hb.cell (p := ⟨g, o + k * 12 + 9, none⟩) (by simpa using hg)).trans (hcs 9 _ rfl)
      have q10 : wr.cell? ⟨g, o + k * 12 + 10, none⟩ = some (.slice s.aA m.asks.length s.ac) := (hb.cell (p := ⟨g, o + k * 12 + 10, none⟩) (by simpa using hg)).trans (hcs 10 _ rfl)
      have q11 : wr.cell? ⟨g, o + k * 12 + 11, none⟩ = some (.int .u8 (m.typ : Int)) := (hb.cell (p := ⟨g, o + k * 12 + 11, none⟩) (by simpa using hg)).trans (hcs 11 _ rfl)
      obtain ⟨gd, hgd⟩ : ∃ b, m.good = b := ⟨_, rfl⟩
      rw [hgd] at CW HG'
      have HGD := Lib.hid hgd
      have hi1 : (0 : Int) ≤ (k : Int) := by omega
      have hi2 : (k : Int) < (n : Int) := by omega
      generalize hen : m.enc = en at CB HT hel
      have CWL : Hid (∀ wx, Calls Tryd.prog 22 #[.agg #[.int .i64 m.kind, .int .u32 (m.ssrc : Int), .int .u32 (m.media : Int), .int .u64 (m.clock : Int), .int .u32 (m.time : Int), .int .u32 (m.packets : Int), .int .u32 (m.bytes : Int), .slice s.rA m.reps.length s.rc, .slice s.wA m.who.length s.wc, .slice s.pA m.pairs.length s.pc, .slice s.aA m.asks.length s.ac, .int .u8 (m.typ : Int)]] wx fun e w' => e = .returned (.bool (!gd)) ∧ Below wx.heap.size wx w') := CW
      have CBL : Hid (∀ wx, Below w.heap.size w wx → m.good = true → Calls Tryd.prog 23 #[.agg #[.int .i64 m.kind, .int .u32 (m.ssrc : Int), .int .u32 (m.media : Int), .int .u64 (m.clock : Int), .int .u32 (m.time : Int), .int .u32 (m.packets : Int), .int .u32 (m.bytes : Int), .slice s.rA m.reps.length s.rc, .slice s.wA m.who.length s.wc, .slice s.pA m.pairs.length s.pc, .slice s.aA m.asks.length s.ac, .int .u8 (m.typ : Int)]] wx (Byt wx en)) := CB
      have b0 := (Below.refl wr.heap.size wr).alloc (Nat.le_refl _) (.cells #[.int .i64 m.kind, .int .u32 (m.ssrc : Int), .int .u32 (m.media : Int), .int .u64 (m.clock : Int), .int .u32 (m.time : Int), .int .u32 (m.packets : Int), .int .u32 (m.bytes : Int), .slice s.rA m.reps.length s.rc, .slice s.wA m.who.length s.wc, .slice s.pA m.pairs.length s.pc, .slice s.aA m.asks.length s.ac, .int .u8 (m.typ : Int)] 59)
      have hw := Whole.new wr 59 #[.int .i64 m.kind, .int .u32 (m.ssrc : Int), .int .u32 (m.media : Int), .int .u64 (m.clock : Int), .int .u32 (m.time : Int), .int .u32 (m.packets : Int), .int .u32 (m.bytes : Int), .slice s.rA m.reps.length s.rc, .slice s.wA m.who.length s.wc, .slice s.pA m.pairs.length s.pc, .slice s.aA m.asks.length s.ac, .int .u8 (m.typ : Int)]
      clear hcs hms hx hxm HG hfit hfew CW CB hgd hen
      go_wp2_with fail
      refine (CWL.out _).mono ?_
      rintro e w1 ⟨rfl, b1⟩
      have hw1 := hw.below b1 hw.lt
      have own1 := own_belowR hown (bnextA b0 b1) (Nat.le_refl _)
      have B1 := bnextA hb (bnextA b0 b1)
      clear hw b0 b1 hown q0 q1 q2 q3 q4 q5 q6 q7 q8 q9 q10 q11 hb
      cases gd with
      | false =>
        have HF : Hid (PutOut w (putL (l.map Prod.fst)) (.returned (.tuple #[.slice none 0 0, .int .i64 1])) w1) := Lib.hid (by
          rw [HBAD.out HGD.out]
          exact ⟨⟨none, 0, rfl, World.ownsRow_nil _ _ _ _⟩, B1⟩)
        clear hw1 own1 B1 CWL CBL HG' HT
        go_wp2
        exact bodyPost_ret (v := .tuple #[.slice none 0 0, .int .i64 1]) (by simp [results, Tryd.results11, go_sem]) rfl HF.out
      | true =>
        have HG2 := Lib.hid (HG'.out rfl)
        have z0 : w1.cell? ⟨wr.heap.size, 0, none⟩ = some (.int .i64 m.kind) := hw1.cell 0
        have z1 : w1.cell? ⟨wr.heap.size, 1, none⟩ = some (.int .u32 (m.ssrc : Int)) := hw1.cell 1
        have z2 : w1.cell? ⟨wr.heap.size, 2, none⟩ = some (.int .u32 (m.media : Int)) := hw1.cell 2
        have z3 : w1.cell? ⟨wr.heap.size, 3, none⟩ = some (.int .u64 (m.clock : Int)) := hw1.cell 3
        have z4 : w1.cell? ⟨wr.heap.size, 4, none⟩ = some (.int .u32 (m.time : Int)) := hw1.cell 4
        have z5 : w1.cell? ⟨wr.heap.size, 5, none⟩ = some (.int .u32 (m.packets : Int)) := hw1.cell 5
        have z6 : w1.cell? ⟨wr.heap.size, 6, none⟩ = some (.int .u32 (m.bytes : Int)) := hw1.cell 6
        have z7 : w1.cell? ⟨wr.heap.size, 7, none⟩ = some (.slice s.rA m.reps.length s.rc) := hw1.cell 7
        have z8 : w1.cell? ⟨wr.heap.size, 8, none⟩ = some (.slice s.wA m.who.length s.wc) := hw1.cell 8
        have z9 : w1.cell? ⟨wr.heap.size, 9, none⟩ = some (.slice s.pA m.pairs.length s.pc) := hw1.cell 9
        have z10 : w1.cell? ⟨wr.heap.size, 10, none⟩ = some (.slice s.aA m.asks.length s.ac) := hw1.cell 10
        have z11 : w1.cell? ⟨wr.heap.size, 11, none⟩ = some (.int .u8 (m.typ : Int)) := hw1.cell 11
        have CB3 := Lib.hid (CBL.out w1 B1 HGD.out)
        clear hw1 HG' HBAD CWL CBL
        go_wp2_with fail
        refine CB3.out.mono ?_
        rintro e w2 ⟨A2, c2, rfl, o2, b2⟩
        have own2 := own_belowR own1 b2 (Nat.le_refl _)
        have B2 := bnextA B1 b2
        have r2 := Row.of_own o2
        clear own1 o2 z0 z1 z2 z3 z4 z5 z6 z7 z8 z9 z10 z11 CB3 B1 b2
        go_wp2_with (at_builtin; go_loud (refine wpl_append _ rfl (.tmp 15) (.tmp 17) 25 rfl w.heap.size 5 (.int .u8 0) 1 1 Tryd.underlying25 info_u8 rfl (by decide) _ _ _ rfl own2 _ _ _ _ _ rfl r2 (u8s_one _) ?c1 ?c2 ?c3 ?_))
        case c1 => unfold maxLen; omega
        case c2 => omega
        case c3 => exact B2.size
        intro v3 w3 own3 g3 _
        have B3 := B2.grown g3 B2.size (fun q hq => (own2.lt q hq).1)
        have R : w3.ownsRow w.heap.size 5 1 v3 (encs ((l.map Prod.fst).take (k + 1))).length (u8s (encs ((l.map Prod.fst).take (k + 1)))) := by
          rw [HT.out, u8s_append, List.length_append]
          exact own3
        clear own2 g3 B2 r2 own3
        go_wp2
        go_roundw
        case rel => exact ⟨k + 1, by omega, by go_num, HG2, R, B3⟩
        case measure => simp [intOf]; omega
    · obtain rfl : n = k := by omega
      have hall : (l.map Prod.fst).take n = l.map Prod.fst := List.take_of_length_le (by rw [List.length_map, HN.out]; exact Nat.le_refl _)
      rw [hall] at HG hown hacc
      obtain ⟨A5, c5, rfl⟩ := oown_form hown
      by_cases hbig : 1500 < (encs (l.map Prod.fst)).length
      · have HF : Hid (PutOut w (putL (l.map Prod.fst)) (.returned (.tuple #[.slice none 0 0, .int .i64 13])) wr) := Lib.hid (by
          rw [putL_big _ HG.out hbig]
          exact ⟨⟨none, 0, rfl, World.ownsRow_nil _ _ _ _⟩, hb⟩)
        clear hown hb HG hall
        go_wp2
        exact bodyPost_ret (v := .tuple #[.slice none 0 0, .int .i64 13]) (by simp [results, Tryd.results11, go_sem]) rfl HF.out
      · have HF : Hid (PutOut w (putL (l.map Prod.fst)) (.returned (.tuple #[.slice A5 (encs (l.map Prod.fst)).length c5, .int .i64 0])) wr) := Lib.hid (by
          rw [putL_ok _ HG.out hbig]
          exact ⟨⟨A5, c5, rfl, hown⟩, hb⟩)
        clear hown hb HG hall
        go_wp2
        exact bodyPost_ret (v := .tuple #[.slice A5 (encs (l.map Prod.fst)).length c5, .int .i64 0]) (by simp [results, Tryd.results11, go_sem]) rfl HF.out
end Go.Proofs.YtcjmiidnhbmclaaDoor
