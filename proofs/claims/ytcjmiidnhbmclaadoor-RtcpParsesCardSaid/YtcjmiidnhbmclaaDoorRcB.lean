/-
  Contracts of package rtcp's each: the bytes of things, one behind the other.
-/
import Derived.Test.YtcjmiidnhbmclaaDoorRcA
import Derived.Test.YtcjmiidnhbmclaaDoorRtK
namespace Go.Proofs.YtcjmiidnhbmclaaDoor
open Go.RowKit
set_option maxRecDepth 100000

theorem own_belowR {w w' : World} {base b : Nat} {e : TypeId} {z n : Nat} {v : Value} {xs : List Value} (h : w.ownsRow base e z v n xs) (hb : Below b w w') (hB : w.heap.size ≤ b) : w'.ownsRow base e z v n xs := by
  rcases h.2 with ⟨hv, hx⟩ | ⟨g, cap, cur, hv, h1, h2, h3⟩
  · exact ⟨h.1, .inl ⟨hv, hx⟩⟩
  · have hlt : g < w.heap.size := (Array.getElem?_eq_some_iff.1 h2).1
    exact ⟨h.1, .inr ⟨g, cap, cur, hv, h1, (hb.block g (by omega)).trans h2, h3⟩⟩

theorem pair_get0 (l : List (Nat × Nat)) (k : Nat) (p : Nat × Nat) (h : l[k]? = some p) : (p16C l)[k * 2]? = some (.int .u16 (p.1 : Int)) := (two_get (fun p : Nat × Nat => Value.int .u16 (p.1 : Int)) (fun p => Value.int .u16 (p.2 : Int)) l k p h).1
theorem pair_get1 (l : List (Nat × Nat)) (k : Nat) (p : Nat × Nat) (h : l[k]? = some p) : (p16C l)[k * 2 + 1]? = some (.int .u16 (p.2 : Int)) := (two_get (fun p : Nat × Nat => Value.int .u16 (p.1 : Int)) (fun p => Value.int .u16 (p.2 : Int)) l k p h).2
theorem ask_get0 (l : List (Nat × Nat)) (k : Nat) (p : Nat × Nat) (h : l[k]? = some p) : (askC l)[k * 2]? = some (.int .u32 (p.1 : Int)) := (two_get (fun p : Nat × Nat => Value.int .u32 (p.1 : Int)) (fun p => Value.int .u8 (p.2 : Int)) l k p h).1
theorem ask_get1 (l : List (Nat × Nat)) (k : Nat) (p : Nat × Nat) (h : l[k]? = some p) : (askC l)[k * 2 + 1]? = some (.int .u8 (p.2 : Int)) := (two_get (fun p : Nat × Nat => Value.int .u32 (p.1 : Int)) (fun p => Value.int .u8 (p.2 : Int)) l k p h).2

set_option maxHeartbeats 1600000 in
theorem eachRep_any (A : Option Addr) (c n : Nat) (l : List (Rp)) (w : World) (h : Row w w.heap.size 7 A n (repC l)) (hn : l.length = n) (hl : n ≤ 64) (hf : ∀ x ∈ l, x.Fits) :
    Calls Tryd.prog 47 #[.slice A n c, .func (.func 48) #[] #[]] w (Byt w (repE l)) := by
  have H := Lib.hid h
  have HN := Lib.hid hn
  have HF := Lib.hid hf
  clear h hn hf
  go_enter Tryd.func47, Tryd.ntmps47
  go_wp2_with fail
  go_loopw [5, 10] (fun v i wr => ∃ k : Nat, k ≤ n ∧ i = .int .i64 k ∧ wr.ownsRow w.heap.size 5 1 v (repE (l.take k)).length (u8s (repE (l.take k))) ∧ Below w.heap.size w wr) (fun _ i _ => n - (intOf i).toNat)
  case atStart => exact ⟨0, Nat.zero_le _, rfl, World.ownsRow_nil _ _ _ _, Below.refl _ _⟩
  case round =>
    obtain ⟨k, hk, rfl, hown, hb⟩ := hrel
    by_cases hlt : k < n
    · obtain ⟨x, hx⟩ : ∃ x, l[k]? = some x := ⟨l[k]'(by rw [HN.out]; exact hlt), by simp⟩
      obtain ⟨g, o, hA, hg, hcs⟩ := H.out.2 (by omega)
      subst hA
      have hfx := HF.out x (List.mem_of_getElem? hx)
      have HT := Lib.hid (repE_take l k x hx)
      have hacc : (repE (l.take k)).length ≤ 24 * 64 := by rw [repE_length, List.length_take]; omega
      obtain ⟨x0, x1, x2, x3, x4, x5, x6⟩ := x
      have q0 : wr.cell? ⟨g, o + k * 7, none⟩ = some (.int .u32 (x0 : Int)) := (hb.cell (p := ⟨g, o + k * 7, none⟩) (by simpa using hg)).trans (hcs (k * 7) _ ((repC_get l k _ hx 0 (by decide)).trans rfl))
      have q1 : wr.cell? ⟨g, o + k * 7 + 1, none⟩ = some (.int .u8 (x1 : Int)) := (hb.cell (p := ⟨g, o + k * 7 + 1, none⟩) (by simpa using hg)).trans (hcs (k * 7 + 1) _ ((repC_get l k _ hx 1 (by decide)).trans rfl))
      have q2 : wr.cell? ⟨g, o + k * 7 + 2, none⟩ = some (.int .u32 (x2 : Int)) := (hb.cell (p := ⟨g, o + k * 7 + 2, none⟩) (by simpa using hg)).trans (hcs (k * 7 + 2) _ ((repC_get l k _ hx 2 (by decide)).trans rfl))
      have q3 : wr.cell? ⟨g, o + k * 7 + 3, none⟩ = some (.int .u32 (x3 : Int)) := (hb.cell (p := ⟨g, o + k * 7 + 3, none⟩) (by simpa using hg)).trans (hcs (k * 7 + 3) _ ((repC_get l k _ hx 3 (by decide)).trans rfl))
      have q4 : wr.cell? ⟨g, o + k * 7 + 4, none⟩ = some (.int .u32 (x4 : Int)) := (hb.cell (p := ⟨g, o + k * 7 + 4, none⟩) (by simpa using hg)).trans (hcs (k * 7 + 4) _ ((repC_get l k _ hx 4 (by decide)).trans rfl))
      have q5 : wr.cell? ⟨g, o + k * 7 + 5, none⟩ = some (.int .u32 (x5 : Int)) := (hb.cell (p := ⟨g, o + k * 7 + 5, none⟩) (by simpa using hg)).trans (hcs (k * 7 + 5) _ ((repC_get l k _ hx 5 (by decide)).trans rfl))
      have q6 : wr.cell? ⟨g, o + k * 7 + 6, none⟩ = some (.int .u32 (x6 : Int)) := (hb.cell (p := ⟨g, o + k * 7 + 6, none⟩) (by simpa using hg)).trans (hcs (k * 7 + 6) _ ((repC_get l k _ hx 6 (by decide)).trans rfl))
      have CB : ∀ wx, Below wr.heap.size wr wx → Calls Tryd.prog 48 #[.agg #[.int .u32 (x0 : Int), .int .u8 (x1 : Int), .int .u32 (x2 : Int), .int .u32 (x3 : Int), .int .u32 (x4 : Int), .int .u32 (x5 : Int), .int .u32 (x6 : Int)]] wx (Byt wr (Rp.enc ⟨x0, x1, x2, x3, x4, x5, x6⟩)) := fun wx hbx => (reportBytes_any ⟨x0, x1, x2, x3, x4, x5, x6⟩ wx hfx).mono fun e w2 h2 => h2.at hbx
      have hel : (Rp.enc ⟨x0, x1, x2, x3, x4, x5, x6⟩).length ≤ 24 := by simp [Rp.enc, bytesN_length]
      have HT2 : Hid (repE (l.take (k + 1)) = repE (l.take k) ++ (Rp.enc ⟨x0, x1, x2, x3, x4, x5, x6⟩)) := HT
      generalize (Rp.enc ⟨x0, x1, x2, x3, x4, x5, x6⟩) = en at CB hel HT2
      generalize repE (l.take k) = acc at hown hacc HT2
      have hi1 : (0 : Int) ≤ (k : Int) := by omega
      have hi2 : (k : Int) < (n : Int) := by omega
      have CBH := Lib.hid CB
      clear HT hcs hx hfx CB
      go_wp2_with fail
      refine (CBH.out _ ((Below.refl _ wr).alloc (Nat.le_refl _) _)).mono ?_
      rintro e w2 ⟨A2, c2, rfl, o2, b2⟩
      have own2 := own_belowR hown b2 (Nat.le_refl _)
      have B2 := bnextA hb b2
      have r2 := Row.of_own o2
      clear hown o2 q0 q1 q2 q3 q4 q5 q6 CBH
      go_wp2_with (at_builtin; go_loud (refine wpl_append _ rfl (.tmp 14) (.tmp 17) 25 rfl w.heap.size 5 (.int .u8 0) 1 1 Tryd.underlying25 info_u8 rfl (by decide) _ _ _ rfl own2 _ _ _ _ _ rfl r2 (u8s_one _) ?c1 ?c2 ?c3 ?_))
      case c1 => unfold maxLen; omega
      case c2 => omega
      case c3 => exact B2.size
      intro v3 w3 own3 g3 _
      have B3 := B2.grown g3 B2.size (fun q hq => (own2.lt q hq).1)
      have R : w3.ownsRow w.heap.size 5 1 v3 (repE (l.take (k + 1))).length (u8s (repE (l.take (k + 1)))) := by
        rw [HT2.out, u8s_append, List.length_append]
        exact own3
      clear own2 g3 B2 r2 own3 hb b2
      go_wp2
      go_roundw
      case rel => exact ⟨k + 1, by omega, by go_num, R, B3⟩
      case measure => simp [intOf]; omega
    · obtain rfl : n = k := by omega
      rw [List.take_of_length_le (by rw [HN.out]; exact Nat.le_refl _)] at hown
      have hll : (repE l).length ≤ 24 * 64 := by rw [repE_length, HN.out]; omega
      obtain ⟨A5, c5, rfl⟩ := oown_form hown
      have HF2 : Hid (Byt w (repE l) (.returned (.slice A5 (repE l).length c5)) wr) := Lib.hid ⟨A5, c5, rfl, hown, hb⟩
      clear hown hb
      go_wp2
      go_ret
      exact HF2.out

set_option maxHeartbeats 1600000 in
theorem eachWho_any (A : Option Addr) (c n : Nat) (l : List (Nat)) (w : World) (h : Row w w.heap.size 1 A n (u32s l)) (hn : l.length = n) (hl : n ≤ 64) (hf : ∀ x ∈ l, x < 4294967296) :
    Calls Tryd.prog 49 #[.slice A n c, .func (.func 45) #[] #[]] w (Byt w (whoE l)) := by
  have H := Lib.hid h
  have HN := Lib.hid hn
  have HF := Lib.hid hf
  clear h hn hf
  go_enter Tryd.func49, Tryd.ntmps49
  go_wp2_with fail
  go_loopw [5, 10] (fun v i wr => ∃ k : Nat, k ≤ n ∧ i = .int .i64 k ∧ wr.ownsRow w.heap.size 5 1 v (whoE (l.take k)).length (u8s (whoE (l.take k))) ∧ Below w.heap.size w wr) (fun _ i _ => n - (intOf i).toNat)
  case atStart => exact ⟨0, Nat.zero_le _, rfl, World.ownsRow_nil _ _ _ _, Below.refl _ _⟩
  case round =>
    obtain ⟨k, hk, rfl, hown, hb⟩ := hrel
    by_cases hlt : k < n
    · obtain ⟨x, hx⟩ : ∃ x, l[k]? = some x := ⟨l[k]'(by rw [HN.out]; exact hlt), by simp⟩
      obtain ⟨g, o, hA, hg, hcs⟩ := H.out.2 (by omega)
      subst hA
      have hfx := HF.out x (List.mem_of_getElem? hx)
      have HT := Lib.hid (whoE_take l k x hx)
      have hacc : (whoE (l.take k)).length ≤ 4 * 64 := by rw [whoE_length, List.length_take]; omega
      skip
      have q0 : wr.cell? ⟨g, o + k, none⟩ = some (.int .u32 (x : Int)) := (hb.cell (p := ⟨g, o + k, none⟩) (by simpa using hg)).trans (hcs k _ (u32s_get l k _ hx))
      have CB : ∀ wx, Below wr.heap.size wr wx → Calls Tryd.prog 45 #[.int .u32 (x : Int)] wx (Byt wr (bytesN x 4)) := fun wx hbx => (wordBytes_any x wx hfx).mono fun e w2 h2 => h2.at hbx
      have hel : (bytesN x 4).length ≤ 4 := by simp [bytesN_length]
      have HT2 : Hid (whoE (l.take (k + 1)) = whoE (l.take k) ++ (bytesN x 4)) := HT
      generalize (bytesN x 4) = en at CB hel HT2
      generalize whoE (l.take k) = acc at hown hacc HT2
      have hi1 : (0 : Int) ≤ (k : Int) := by omega
      have hi2 : (k : Int) < (n : Int) := by omega
      have CBH := Lib.hid CB
      clear HT hcs hx hfx CB
      go_wp2_with fail
      refine (CBH.out _ (Below.refl _ wr)).mono ?_
      rintro e w2 ⟨A2, c2, rfl, o2, b2⟩
      have own2 := own_belowR hown b2 (Nat.le_refl _)
      have B2 := bnextA hb b2
      have r2 := Row.of_own o2
      clear hown o2 q0 CBH
      go_wp2_with (at_builtin; go_loud (refine wpl_append _ rfl (.tmp 14) (.tmp 17) 25 rfl w.heap.size 5 (.int .u8 0) 1 1 Tryd.underlying25 info_u8 rfl (by decide) _ _ _ rfl own2 _ _ _ _ _ rfl r2 (u8s_one _) ?c1 ?c2 ?c3 ?_))
      case c1 => unfold maxLen; omega
      case c2 => omega
      case c3 => exact B2.size
      intro v3 w3 own3 g3 _
      have B3 := B2.grown g3 B2.size (fun q hq => (own2.lt q hq).1)
      have R : w3.ownsRow w.heap.size 5 1 v3 (whoE (l.take (k + 1))).length (u8s (whoE (l.take (k + 1)))) := by
        rw [HT2.out, u8s_append, List.length_append]
        exact own3
      clear own2 g3 B2 r2 own3 hb b2
      go_wp2
      go_roundw
      case rel => exact ⟨k + 1, by omega, by go_num, R, B3⟩
      case measure => simp [intOf]; omega
    · obtain rfl : n = k := by omega
      rw [List.take_of_length_le (by rw [HN.out]; exact Nat.le_refl _)] at hown
      have hll : (whoE l).length ≤ 4 * 64 := by rw [whoE_length, HN.out]; omega
      obtain ⟨A5, c5, rfl⟩ := oown_form hown
      have HF2 : Hid (Byt w (whoE l) (.returned (.slice A5 (whoE l).length c5)) wr) := Lib.hid ⟨A5, c5, rfl, hown, hb⟩
      clear hown hb
      go_wp2
      go_ret
      exact HF2.out

set_option maxHeartbeats 1600000 in
theorem eachPair_any (A : Option Addr) (c n : Nat) (l : List (Nat × Nat)) (w : World) (h : Row w w.heap.size 2 A n (p16C l)) (hn : l.length = n) (hl : n ≤ 64) (hf : ∀ x ∈ l, x.1 < 65536 ∧ x.2 < 65536) :
    Calls Tryd.prog 50 #[.slice A n c, .func (.func 51) #[] #[]] w (Byt w (pairE l)) := by
  have H := Lib.hid h
  have HN := Lib.hid hn
  have HF := Lib.hid hf
  clear h hn hf
  go_enter Tryd.func50, Tryd.ntmps50
  go_wp2_with fail
  go_loopw [5, 10] (fun v i wr => ∃ k : Nat, k ≤ n ∧ i = .int .i64 k ∧ wr.ownsRow w.heap.size 5 1 v (pairE (l.take k)).length (u8s (pairE (l.take k))) ∧ Below w.heap.size w wr) (fun _ i _ => n - (intOf i).toNat)
  case atStart => exact ⟨0, Nat.zero_le _, rfl, World.ownsRow_nil _ _ _ _, Below.refl _ _⟩
  case round =>
    obtain ⟨k, hk, rfl, hown, hb⟩ := hrel
    by_cases hlt : k < n
    · obtain ⟨x, hx⟩ : ∃ x, l[k]? = some x := ⟨l[k]'(by rw [HN.out]; exact hlt), by simp⟩
      obtain ⟨g, o, hA, hg, hcs⟩ := H.out.2 (by omega)
      subst hA
      have hfx := HF.out x (List.mem_of_getElem? hx)
      have HT := Lib.hid (pairE_take l k x hx)
      have hacc : (pairE (l.take k)).length ≤ 4 * 64 := by rw [pairE_length, List.length_take]; omega
      obtain ⟨x0, x1⟩ := x
      have q0 : wr.cell? ⟨g, o + k * 2, none⟩ = some (.int .u16 (x0 : Int)) := (hb.cell (p := ⟨g, o + k * 2, none⟩) (by simpa using hg)).trans (hcs (k * 2) _ (pair_get0 l k _ hx))
      have q1 : wr.cell? ⟨g, o + k * 2 + 1, none⟩ = some (.int .u16 (x1 : Int)) := (hb.cell (p := ⟨g, o + k * 2 + 1, none⟩) (by simpa using hg)).trans (hcs (k * 2 + 1) _ (pair_get1 l k _ hx))
      have CB : ∀ wx, Below wr.heap.size wr wx → Calls Tryd.prog 51 #[.agg #[.int .u16 (x0 : Int), .int .u16 (x1 : Int)]] wx (Byt wr (bytesN x0 2 ++ bytesN x1 2)) := fun wx hbx => (pairBytes_any (x0, x1) wx hfx.1 hfx.2).mono fun e w2 h2 => h2.at hbx
      have hel : (bytesN x0 2 ++ bytesN x1 2).length ≤ 4 := by simp [bytesN_length]
      have HT2 : Hid (pairE (l.take (k + 1)) = pairE (l.take k) ++ (bytesN x0 2 ++ bytesN x1 2)) := HT
      generalize (bytesN x0 2 ++ bytesN x1 2) = en at CB hel HT2
      generalize pairE (l.take k) = acc at hown hacc HT2
      have hi1 : (0 : Int) ≤ (k : Int) := by omega
      have hi2 : (k : Int) < (n : Int) := by omega
      have CBH := Lib.hid CB
      clear HT hcs hx hfx CB
      go_wp2_with fail
      refine (CBH.out _ ((Below.refl _ wr).alloc (Nat.le_refl _) _)).mono ?_
      rintro e w2 ⟨A2, c2, rfl, o2, b2⟩
      have own2 := own_belowR hown b2 (Nat.le_refl _)
      have B2 := bnextA hb b2
      have r2 := Row.of_own o2
      clear hown o2 q0 q1 CBH
      go_wp2_with (at_builtin; go_loud (refine wpl_append _ rfl (.tmp 14) (.tmp 17) 25 rfl w.heap.size 5 (.int .u8 0) 1 1 Tryd.underlying25 info_u8 rfl (by decide) _ _ _ rfl own2 _ _ _ _ _ rfl r2 (u8s_one _) ?c1 ?c2 ?c3 ?_))
      case c1 => unfold maxLen; omega
      case c2 => omega
      case c3 => exact B2.size
      intro v3 w3 own3 g3 _
      have B3 := B2.grown g3 B2.size (fun q hq => (own2.lt q hq).1)
      have R : w3.ownsRow w.heap.size 5 1 v3 (pairE (l.take (k + 1))).length (u8s (pairE (l.take (k + 1)))) := by
        rw [HT2.out, u8s_append, List.length_append]
        exact own3
      clear own2 g3 B2 r2 own3 hb b2
      go_wp2
      go_roundw
      case rel => exact ⟨k + 1, by omega, by go_num, R, B3⟩
      case measure => simp [intOf]; omega
    · obtain rfl : n = k := by omega
      rw [List.take_of_length_le (by rw [HN.out]; exact Nat.le_refl _)] at hown
      have hll : (pairE l).length ≤ 4 * 64 := by rw [pairE_length, HN.out]; omega
      obtain ⟨A5, c5, rfl⟩ := oown_form hown
      have HF2 : Hid (Byt w (pairE l) (.returned (.slice A5 (pairE l).length c5)) wr) := Lib.hid ⟨A5, c5, rfl, hown, hb⟩
      clear hown hb
      go_wp2
      go_ret
      exact HF2.out

set_option maxHeartbeats 1600000 in
theorem eachAsk_any (A : Option Addr) (c n : Nat) (l : List (Nat × Nat)) (w : World) (h : Row w w.heap.size 2 A n (askC l)) (hn : l.length = n) (hl : n ≤ 64) (hf : ∀ x ∈ l, x.1 < 4294967296 ∧ x.2 < 256) :
    Calls Tryd.prog 52 #[.slice A n c, .func (.func 53) #[] #[]] w (Byt w (askE l)) := by
  have H := Lib.hid h
  have HN := Lib.hid hn
  have HF := Lib.hid hf
  clear h hn hf
  go_enter Tryd.func52, Tryd.ntmps52
  go_wp2_with fail
  go_loopw [5, 10] (fun v i wr => ∃ k : Nat, k ≤ n ∧ i = .int .i64 k ∧ wr.ownsRow w.heap.size 5 1 v (askE (l.take k)).length (u8s (askE (l.take k))) ∧ Below w.heap.size w wr) (fun _ i _ => n - (intOf i).toNat)
  case atStart => exact ⟨0, Nat.zero_le _, rfl, World.ownsRow_nil _ _ _ _, Below.refl _ _⟩
  case round =>
    obtain ⟨k, hk, rfl, hown, hb⟩ := hrel
    by_cases hlt : k < n
    · obtain ⟨x, hx⟩ : ∃ x, l[k]? = some x := ⟨l[k]'(by rw [HN.out]; exact hlt), by simp⟩
      obtain ⟨g, o, hA, hg, hcs⟩ := H.out.2 (by omega)
      subst hA
      have hfx := HF.out x (List.mem_of_getElem? hx)
      have HT := Lib.hid (askE_take l k x hx)
      have hacc : (askE (l.take k)).length ≤ 8 * 64 := by rw [askE_length, List.length_take]; omega
      obtain ⟨x0, x1⟩ := x
      have q0 : wr.cell? ⟨g, o + k * 2, none⟩ = some (.int .u32 (x0 : Int)) := (hb.cell (p := ⟨g, o + k * 2, none⟩) (by simpa using hg)).trans (hcs (k * 2) _ (ask_get0 l k _ hx))
      have q1 : wr.cell? ⟨g, o + k * 2 + 1, none⟩ = some (.int .u8 (x1 : Int)) := (hb.cell (p := ⟨g, o + k * 2 + 1, none⟩) (by simpa using hg)).trans (hcs (k * 2 + 1) _ (ask_get1 l k _ hx))
      have CB : ∀ wx, Below wr.heap.size wr wx → Calls Tryd.prog 53 #[.agg #[.int .u32 (x0 : Int), .int .u8 (x1 : Int)]] wx (Byt wr (bytesN x0 4 ++ [UInt8.ofNat x1, 0, 0, 0])) := fun wx hbx => (askBytes_any (x0, x1) wx hfx.1 hfx.2).mono fun e w2 h2 => h2.at hbx
      have hel : (bytesN x0 4 ++ [UInt8.ofNat x1, 0, 0, 0]).length ≤ 8 := by simp [bytesN_length]
      have HT2 : Hid (askE (l.take (k + 1)) = askE (l.take k) ++ (bytesN x0 4 ++ [UInt8.ofNat x1, 0, 0, 0])) := HT
      generalize (bytesN x0 4 ++ [UInt8.ofNat x1, 0, 0, 0]) = en at CB hel HT2
      generalize askE (l.take k) = acc at hown hacc HT2
      have hi1 : (0 : Int) ≤ (k : Int) := by omega
      have hi2 : (k : Int) < (n : Int) := by omega
      have CBH := Lib.hid CB
      clear HT hcs hx hfx CB
      go_wp2_with fail
      refine (CBH.out _ ((Below.refl _ wr).alloc (Nat.le_refl _) _)).mono ?_
      rintro e w2 ⟨A2, c2, rfl, o2, b2⟩
      have own2 := own_belowR hown b2 (Nat.le_refl _)
      have B2 := bnextA hb b2
      have r2 := Row.of_own o2
      clear hown o2 q0 q1 CBH
      go_wp2_with (at_builtin; go_loud (refine wpl_append _ rfl (.tmp 14) (.tmp 17) 25 rfl w.heap.size 5 (.int .u8 0) 1 1 Tryd.underlying25 info_u8 rfl (by decide) _ _ _ rfl own2 _ _ _ _ _ rfl r2 (u8s_one _) ?c1 ?c2 ?c3 ?_))
      case c1 => unfold maxLen; omega
      case c2 => omega
      case c3 => exact B2.size
      intro v3 w3 own3 g3 _
      have B3 := B2.grown g3 B2.size (fun q hq => (own2.lt q hq).1)
      have R : w3.ownsRow w.heap.size 5 1 v3 (askE (l.take (k + 1))).length (u8s (askE (l.take (k + 1)))) := by
        rw [HT2.out, u8s_append, List.length_append]
        exact own3
      clear own2 g3 B2 r2 own3 hb b2
      go_wp2
      go_roundw
      case rel => exact ⟨k + 1, by omega, by go_num, R, B3⟩
      case measure => simp [intOf]; omega
    · obtain rfl : n = k := by omega
      rw [List.take_of_length_le (by rw [HN.out]; exact Nat.le_refl _)] at hown
      have hll : (askE l).length ≤ 8 * 64 := by rw [askE_length, HN.out]; omega
      obtain ⟨A5, c5, rfl⟩ := oown_form hown
      have HF2 : Hid (Byt w (askE l) (.returned (.slice A5 (askE l).length c5)) wr) := Lib.hid ⟨A5, c5, rfl, hown, hb⟩
      clear hown hb
      go_wp2
      go_ret
      exact HF2.out

end Go.Proofs.YtcjmiidnhbmclaaDoor
