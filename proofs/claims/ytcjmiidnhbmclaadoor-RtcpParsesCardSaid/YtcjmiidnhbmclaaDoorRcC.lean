/-
  Contracts of slices.Grow and slices.Concat of bytes, as package rtcp calls them.
-/
import Derived.Test.YtcjmiidnhbmclaaDoorRcB
import Derived.Lib.AppendZeros
namespace Go.Proofs.YtcjmiidnhbmclaaDoor
open Go.RowKit
set_option maxRecDepth 100000

theorem info_full : ∃ i, Tryd.prog.info? 5 = some i ∧ i.zero = some (.int .u8 0) ∧ i.size = 1 ∧ i.bytes = 1 := by
  obtain ⟨i, h0, h1, h2, h3⟩ := info_parts info_u8
  exact ⟨i, h0, h1, h2, h3⟩
def Grown (w : World) (e : Ending) (w' : World) : Prop := ∃ A c, e = .returned (.slice A 0 c) ∧ w'.ownsRow w.heap.size 5 1 (.slice A 0 c) 0 [] ∧ Below w.heap.size w w'
theorem grow_any (n : Nat) (w : World) (hn : n ≤ 65536) :
    Calls Tryd.prog 59 #[.slice none 0 0, .int .i64 (n : Int)] w (Grown w) := by
  by_cases h0 : n = 0
  · subst h0
    have HF : Hid (Grown w (.returned (.slice none 0 0)) w) := Lib.hid ⟨none, 0, rfl, World.ownsRow_nil _ _ _ _, Below.refl _ _⟩
    go_enter Tryd.func59, Tryd.ntmps59
    go_wp2
    go_ret
    exact HF.out
  · obtain ⟨i, hi, hz, hs, hb⟩ := info_full
    have hge := grownCap_ge w n 0 5
    have hle := grownCap_le_maxLen w n 0 5 (by unfold maxLen; omega)
    have hrun := fun ty => Lib.run_append_nil_zeros (P := Tryd.prog) w 25 3 ty 5 i (.int .u8 0) .i64 .i64 Tryd.underlying25 Tryd.underlying3 hi hz n (by omega) (by omega) (by omega) (by rw [hb]; omega)
    obtain ⟨cur, hcur⟩ : ∃ cur, Builtin.zeroCells (Value.int .u8 0).cells n ++ Builtin.zeroCells (Value.int .u8 0).cells (grownCap w n 0 5 - n) = cur := ⟨_, rfl⟩
    have hsz : cur.size = grownCap w n 0 5 := by
      rw [← hcur]
      simp [Builtin.zeroCells, Value.cells]
      omega
    obtain ⟨cap, hcap⟩ : ∃ cap, grownCap w n 0 5 = cap := ⟨_, rfl⟩
    rw [hcap] at hge hle hrun hcur hsz
    rw [hcur] at hrun
    have HF : Hid (Grown w (.returned (.slice (some ⟨w.heap.size, 0, none⟩) 0 cap)) (w.drew.alloc (.cells cur 5))) := Lib.hid ⟨_, cap, rfl, World.ownsRow_made w.drew cur cap (Nat.le_refl _) hle (by omega), (Below.refl _ _).drew.alloc (Nat.le_refl _) _⟩
    have hn0 : 0 < n := by omega
    have hcur2 : cap ≤ maxLen := hle
    clear hsz hcur hcap hi hz hs hb
    go_enter Tryd.func59, Tryd.ntmps59
    go_wp2_with (at_builtin; go_loud (refine Lib.wpList_append_run _ rfl (.tmp 20) (.tmp 21) _ _ rfl _ _ rfl rfl _ _ (hrun _) ?_))
    go_ret
    exact HF.out

/-- Slices of bytes: where each lies, and its bytes. -/
def joinB (l : List (Option Addr × Nat × List UInt8)) : List UInt8 := l.flatMap fun s => s.2.2
theorem joinB_take (l : List (Option Addr × Nat × List UInt8)) (k : Nat) (s : Option Addr × Nat × List UInt8) (h : l[k]? = some s) : joinB (l.take (k + 1)) = joinB (l.take k) ++ s.2.2 := by
  rw [List.take_add_one, h]; simp [joinB]
theorem joinB_len (l : List (Option Addr × Nat × List UInt8)) (h : ∀ s ∈ l, s.2.2.length ≤ 2000) : (joinB l).length ≤ 2000 * l.length := by
  induction l with
  | nil => simp [joinB]
  | cons s l ih =>
    have h1 := h s (by simp)
    have h2 := ih (fun x hx => h x (by simp [hx]))
    simp only [joinB, List.flatMap_cons, List.length_append, List.length_cons] at h2 ⊢
    omega
set_option maxHeartbeats 1600000 in
theorem concat_any (G c n : Nat) (ss : List (Option Addr × Nat × List UInt8)) (w : World) (hn : ss.length = n) (hc : ∀ j s, ss[j]? = some s → w.cell? ⟨G, j, none⟩ = some (.slice s.1 s.2.2.length s.2.1)) (hG : G < w.heap.size)
    (hs : ∀ s ∈ ss, Row w w.heap.size 1 s.1 s.2.2.length (u8s s.2.2)) (hm : n ≤ 3) (hlen : ∀ s ∈ ss, s.2.2.length ≤ 2000) :
    Calls Tryd.prog 44 #[.slice (some ⟨G, 0, none⟩) n c] w (Byt w (joinB ss)) := by
  have HC := Lib.hid hc
  have HS := Lib.hid hs
  have HL := Lib.hid hlen
  have HN := Lib.hid hn
  have HT : ∀ k, k ≤ n → (joinB (ss.take k)).length ≤ 6000 := fun k hk => by
    have := joinB_len (ss.take k) (fun s h => hlen s (List.mem_of_mem_take h))
    have h2 : (ss.take k).length ≤ k := by simp [List.length_take]; omega
    omega
  have HTH := Lib.hid HT
  clear hc hs hlen hn HT
  go_enter Tryd.func44, Tryd.ntmps44
  go_wp2_with fail
  go_loop [3, 11] (fun v i => ∃ k : Nat, k ≤ n ∧ i = .int .i64 k ∧ v = .int .i64 ((joinB (ss.take k)).length : Int)) (fun _ i => n - (intOf i).toNat)
  case atStart => exact ⟨0, Nat.zero_le _, rfl, rfl⟩
  case round =>
    obtain ⟨k, hk, rfl, rfl⟩ := hrel
    have hacc := HTH.out k hk
    by_cases hlt : k < n
    · obtain ⟨s, hx⟩ : ∃ s, ss[k]? = some s := ⟨ss[k]'(by rw [HN.out]; exact hlt), by simp⟩
      have hcell := HC.out k s hx
      have hsl := HL.out s (List.mem_of_getElem? hx)
      have ht := joinB_take ss k s hx
      have htl : (joinB (ss.take (k + 1))).length = (joinB (ss.take k)).length + s.2.2.length := by rw [ht, List.length_append]
      have HTL := Lib.hid htl
      have hi1 : (0 : Int) ≤ (k : Int) := by omega
      have hi2 : (k : Int) < (n : Int) := by omega
      obtain ⟨A, cs, bs⟩ := s
      dsimp only at hcell hsl HTL
      generalize (joinB (ss.take k)).length = a at hacc HTL
      generalize bs.length = b at hcell hsl HTL
      clear ht htl hx
      go_wp2
      go_round
      case rel => exact ⟨k + 1, by omega, by go_num, by rw [HTL.out]; go_num⟩
      case measure => simp [intOf]; omega
    · obtain rfl : n = k := by omega
      rw [List.take_of_length_le (by rw [HN.out]; exact Nat.le_refl _)] at hacc ⊢
      go_wp2_with fail
      refine (grow_any _ w (by omega)).mono ?_
      rintro e w1 ⟨A1, c1, rfl, own1, b1⟩
      go_wp2_with fail
      go_loopw [6, 27] (fun v i wr => ∃ k : Nat, k ≤ n ∧ i = .int .i64 k ∧ wr.ownsRow w.heap.size 5 1 v (joinB (ss.take k)).length (u8s (joinB (ss.take k))) ∧ Below w.heap.size w wr) (fun _ i _ => n - (intOf i).toNat)
      case atStart => exact ⟨0, Nat.zero_le _, rfl, own1, b1⟩
      case round =>
        clear own1 b1
        obtain ⟨k, hk, rfl, hown, hb⟩ := hrel
        by_cases hlt : k < n
        · obtain ⟨s, hx⟩ : ∃ s, ss[k]? = some s := ⟨ss[k]'(by rw [HN.out]; exact hlt), by simp⟩
          have hcell := (hb.cell (p := ⟨G, k, none⟩) (by simpa using hG)).trans (HC.out k s hx)
          have hr := (HS.out s (List.mem_of_getElem? hx)).below hb (Nat.le_refl _)
          have hsl := HL.out s (List.mem_of_getElem? hx)
          have HTK := Lib.hid (joinB_take ss k s hx)
          have hi1 : (0 : Int) ≤ (k : Int) := by omega
          have hi2 : (k : Int) < (n : Int) := by omega
          have hak := HTH.out k hk
          obtain ⟨A, cs, bs⟩ := s
          dsimp only at hcell hr hsl HTK
          generalize joinB (ss.take k) = acc at hown hak HTK
          clear hx
          go_wp2_with (at_builtin; go_loud (refine wpl_append _ rfl (.tmp 31) (.tmp 32) 25 rfl w.heap.size 5 (.int .u8 0) 1 1 Tryd.underlying25 info_u8 rfl (by decide) _ _ _ rfl hown _ _ _ _ _ rfl hr (u8s_one _) ?c1 ?c2 ?c3 ?_))
          case c1 => unfold maxLen; omega
          case c2 => omega
          case c3 => exact hb.size
          intro v3 w3 own3 g3 _
          have B3 := hb.grown g3 hb.size (fun q hq => (hown.lt q hq).1)
          have R : w3.ownsRow w.heap.size 5 1 v3 (joinB (ss.take (k + 1))).length (u8s (joinB (ss.take (k + 1)))) := by
            rw [HTK.out, u8s_append, List.length_append]
            exact own3
          clear g3 own3 hb hown hr hcell
          go_wp2
          go_roundw
          case rel => exact ⟨k + 1, by omega, by go_num, R, B3⟩
          case measure => simp [intOf]; omega
        · obtain rfl : n = k := by omega
          rw [List.take_of_length_le (by rw [HN.out]; exact Nat.le_refl _)] at hown
          obtain ⟨A5, c5, rfl⟩ := oown_form hown
          have HF2 : Hid (Byt w (joinB ss) (.returned (.slice A5 (joinB ss).length c5)) wr) := Lib.hid ⟨A5, c5, rfl, hown, hb⟩
          clear hown hb
          go_wp2
          go_ret
          exact HF2.out
end Go.Proofs.YtcjmiidnhbmclaaDoor
