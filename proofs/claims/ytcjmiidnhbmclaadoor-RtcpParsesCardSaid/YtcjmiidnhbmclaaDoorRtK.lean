/-
  Messages as the program has them in memory; few (layer 9's laws).
-/
import Derived.Test.YtcjmiidnhbmclaaDoorProg
import Derived.Test.YtcjmiidnhbmclaaDoorRtM
import Derived.Test.YtcjmiidnhbmclaaDoorQueL
import Derived.Deep.DeepCutAuto
import Derived.RegionTactic
import Derived.StillTailTactics
namespace Go.Proofs.YtcjmiidnhbmclaaDoor
set_option maxRecDepth 100000
open Go.RowKit

/-- No more things in it than bytes of a datagram can name. -/
def Ms.Mod (m : Ms) : Prop := m.reps.length ≤ 2000 ∧ m.who.length ≤ 2000 ∧ m.pairs.length ≤ 2000 ∧ m.asks.length ≤ 2000
theorem Ms.Few.mod {m : Ms} (h : m.Few) : m.Mod := by unfold Ms.Few at h; unfold Ms.Mod; omega
def p16C (l : List (Nat × Nat)) : List Value := l.flatMap fun p => [.int .u16 (p.1 : Int), .int .u16 (p.2 : Int)]
/-- Its rows, as the program has them. -/
structure CmAt (w : World) (B : Nat) (m : Ms) (s : Sl) : Prop where
  reps : Row w B 7 s.rA m.reps.length (repC m.reps)
  who : Row w B 1 s.wA m.who.length (u32s m.who)
  pairs : Row w B 2 s.pA m.pairs.length (p16C m.pairs)
  asks : Row w B 2 s.aA m.asks.length (askC m.asks)
theorem CmAt.below {w w' : World} {B b : Nat} {m : Ms} {s : Sl} (h : CmAt w B m s) (hb : Below b w w') (hB : B ≤ b) : CmAt w' B m s :=
  ⟨h.reps.below hb hB, h.who.below hb hB, h.pairs.below hb hB, h.asks.below hb hB⟩
theorem CmAt.more {w : World} {B B' : Nat} {m : Ms} {s : Sl} (h : CmAt w B m s) (hB : B ≤ B') : CmAt w B' m s := ⟨h.reps.more hB, h.who.more hB, h.pairs.more hB, h.asks.more hB⟩
structure CmRow (w : World) (B : Nat) (A : Option Addr) (l : List (Ms × Sl)) : Prop where
  row : Row w B 12 A l.length (msC l)
  each : ∀ x ∈ l, CmAt w B x.1 x.2
theorem CmRow.below {w w' : World} {B b : Nat} {A : Option Addr} {l : List (Ms × Sl)} (h : CmRow w B A l) (hb : Below b w w') (hB : B ≤ b) : CmRow w' B A l :=
  ⟨h.row.below hb hB, fun x hx => (h.each x hx).below hb hB⟩
theorem CmRow.more {w : World} {B B' : Nat} {A : Option Addr} {l : List (Ms × Sl)} (h : CmRow w B A l) (hB : B ≤ B') : CmRow w B' A l := ⟨h.row.more hB, fun x hx => (h.each x hx).more hB⟩
theorem CmRow.at {w : World} {B : Nat} {A : Option Addr} {l : List (Ms × Sl)} (h : CmRow w B A l) (k : Nat) (x : Ms × Sl) (hx : l[k]? = some x) :
    ∃ g o, A = some ⟨g, o, none⟩ ∧ g < B ∧ (∀ j u, (x.1.cells x.2)[j]? = some u → w.cell? ⟨g, o + k * 12 + j, none⟩ = some u) ∧ CmAt w B x.1 x.2 := by
  have hk := (List.getElem?_eq_some_iff.1 hx).1
  obtain ⟨g, o, hA, hg, hc⟩ := h.row.2 (by omega)
  refine ⟨g, o, hA, hg, fun j u hu => ?_, h.each x (List.mem_of_getElem? hx)⟩
  have hj : j < 12 := (List.getElem?_eq_some_iff.1 hu).1
  rw [Nat.add_assoc]
  exact hc _ _ ((msC_get l k x hx j hj).trans hu)

def fewA (m : Ms) : Bool := decide (m.reps.length ≤ 40 ∧ m.who.length ≤ 40 ∧ m.pairs.length ≤ 60 ∧ m.asks.length ≤ 40)
def fewM (l : List Ms) : Bool := l.all fewA && decide (l.length ≤ 12)
theorem fewM_yes {l : List Ms} (h : fewM l = true) : (∀ m ∈ l, fewA m = true) ∧ l.length ≤ 12 := by
  unfold fewM at h
  rw [Bool.and_eq_true] at h
  exact ⟨List.all_eq_true.1 h.1, by simpa using h.2⟩
theorem fewM_no (l : List Ms) (k : Nat) (m : Ms) (h : l[k]? = some m) (hn : ¬ fewA m = true) : fewM l = false := by
  unfold fewM
  rw [Bool.and_eq_false_iff]
  left
  rw [Bool.eq_false_iff]
  intro hh
  exact hn (List.all_eq_true.1 hh m (List.mem_of_getElem? h))
theorem fewA_few {m : Ms} (h : fewA m = true) : m.Few := by unfold fewA at h; simp only [decide_eq_true_eq] at h; unfold Ms.Few; omega
theorem ret_boolK {a b : Bool} (h : a = b) : Ending.returned (.bool a) = .returned (.bool b) := by rw [h]

set_option maxRecDepth 100000 in
set_option maxHeartbeats 1600000 in
theorem few_any (A : Option Addr) (c n : Nat) (l : List (Ms × Sl)) (w : World) (h : CmRow w w.heap.size A l) (hn : l.length = n) (hl : n ≤ maxLen) :
    Calls Tryd.prog 10 #[.slice A n c] w fun e w' => e = .returned (.bool (fewM (l.map Prod.fst))) ∧ w = w' := by
  unfold maxLen at hl
  have H := Lib.hid h
  have HN := Lib.hid hn
  clear h hn
  go_enter Tryd.func10, Tryd.ntmps10
  go_wp2
  go_loop [3] (fun i => ∃ k : Nat, k ≤ n ∧ i = .int .i64 k ∧ Hid (∀ m ∈ (l.map Prod.fst).take k, fewA m = true)) (fun i => n - (intOf i).toNat)
  case atStart => exact ⟨0, Nat.zero_le _, rfl, Lib.hid (by simp)⟩
  case round =>
    obtain ⟨k, hk, rfl, HG⟩ := hrel
    by_cases hlt : k < n
    · obtain ⟨x, hx⟩ : ∃ x, l[k]? = some x := ⟨l[k]'(by rw [HN.out]; exact hlt), by simp⟩
      have hxm : (l.map Prod.fst)[k]? = some x.1 := by simp [hx]
      obtain ⟨g, o, hA, hg, hcs, hms⟩ := H.out.at k x hx
      subst hA
      have HBAD := Lib.hid (fewM_no _ k x.1 hxm)
      have HG' : Hid (fewA x.1 = true → ∀ m ∈ (l.map Prod.fst).take (k + 1), fewA m = true) := Lib.hid (fun hg m hm => by
        rw [List.take_add_one, hxm] at hm
        rcases List.mem_append.1 hm with h | h
        · exact HG.out m h
        · simp at h; rw [h]; exact hg)
      obtain ⟨m, s⟩ := x
      have c7 : w.cell? ⟨g, o + k * 12 + 7, none⟩ = some (.slice s.rA m.reps.length s.rc) := hcs 7 _ rfl
      have c8 : w.cell? ⟨g, o + k * 12 + 8, none⟩ = some (.slice s.wA m.who.length s.wc) := hcs 8 _ rfl
      have c9 : w.cell? ⟨g, o + k * 12 + 9, none⟩ = some (.slice s.pA m.pairs.length s.pc) := hcs 9 _ rfl
      have c10 : w.cell? ⟨g, o + k * 12 + 10, none⟩ = some (.slice s.aA m.asks.length s.ac) := hcs 10 _ rfl
      have hi1 : (0 : Int) ≤ (k : Int) := by omega
      have hi2 : (k : Int) < (n : Int) := by omega
      have HFA : Hid ((fewA m = true) = (m.reps.length ≤ 40 ∧ m.who.length ≤ 40 ∧ m.pairs.length ≤ 60 ∧ m.asks.length ≤ 40)) := Lib.hid (by unfold fewA; simp only [decide_eq_true_eq])
      obtain ⟨nr, hnr⟩ : ∃ n, m.reps.length = n := ⟨_, rfl⟩
      obtain ⟨nw, hnw⟩ : ∃ n, m.who.length = n := ⟨_, rfl⟩
      obtain ⟨np, hnp⟩ : ∃ n, m.pairs.length = n := ⟨_, rfl⟩
      obtain ⟨na, hna⟩ : ∃ n, m.asks.length = n := ⟨_, rfl⟩
      rw [hnr] at c7 HFA
      rw [hnw] at c8 HFA
      rw [hnp] at c9 HFA
      rw [hna] at c10 HFA
      clear hcs hms hx hxm HG hnr hnw hnp hna
      by_cases h1 : 40 < nr
      · have HT : Hid (fewM (l.map Prod.fst) = false) := Lib.hid (HBAD.out (by dsimp only; rw [HFA.out]; omega))
        go_wp2
        go_ret
        exact ⟨ret_boolK HT.out.symm, rfl⟩
      by_cases h2 : 40 < nw
      · have HT : Hid (fewM (l.map Prod.fst) = false) := Lib.hid (HBAD.out (by dsimp only; rw [HFA.out]; omega))
        go_wp2
        go_ret
        exact ⟨ret_boolK HT.out.symm, rfl⟩
      by_cases h3 : 60 < np
      · have HT : Hid (fewM (l.map Prod.fst) = false) := Lib.hid (HBAD.out (by dsimp only; rw [HFA.out]; omega))
        go_wp2
        go_ret
        exact ⟨ret_boolK HT.out.symm, rfl⟩
      by_cases h4 : 40 < na
      · have HT : Hid (fewM (l.map Prod.fst) = false) := Lib.hid (HBAD.out (by dsimp only; rw [HFA.out]; omega))
        go_wp2
        go_ret
        exact ⟨ret_boolK HT.out.symm, rfl⟩
      have HG2 := Lib.hid (HG'.out (by dsimp only; rw [HFA.out]; omega))
      clear HG' HFA HBAD
      go_wp2
      go_round
      case rel => exact ⟨k + 1, by omega, by go_num, HG2⟩
      case measure => simp [intOf]; omega
    · obtain rfl : n = k := by omega
      have hall : (l.map Prod.fst).take n = l.map Prod.fst := List.take_of_length_le (by rw [List.length_map, HN.out]; exact Nat.le_refl _)
      rw [hall] at HG
      have HT : Hid (fewM (l.map Prod.fst) = decide ((n : Int) ≤ 12)) := Lib.hid (by
        unfold fewM
        rw [List.all_eq_true.2 HG.out, Bool.true_and, List.length_map, HN.out]
        simp
        omega)
      clear HG hall
      go_wp2
      go_ret
      exact ⟨ret_boolK (by rw [HT.out]), rfl⟩
end Go.Proofs.YtcjmiidnhbmclaaDoor
