/-
  The contract of the laws' 'all' (layer 9): messages as the document has them.
-/
import Derived.Test.YtcjmiidnhbmclaaDoorRtF
namespace Go.Proofs.YtcjmiidnhbmclaaDoor
set_option maxRecDepth 100000
set_option linter.unusedSimpArgs false
open Go.RowKit

theorem info_M9 : (Tryd.prog.info? 50).map (fun i => (i.zero, i.size, i.bytes)) = some (some (.agg #[.int .i64 0, .int .u32 0, .int .u32 0, .int .u64 0, .int .u32 0, .int .u32 0, .int .u32 0, .slice none 0 0, .slice none 0 0, .slice none 0 0, .slice none 0 0, .int .u8 0]), 12, 144) := by kernel_rfl

/-- A row that is not empty does not lie in this block. -/
def FarR (ob : Option Nat) (n : Nat) (A : Option Addr) : Prop := 0 < n → ∀ g o, A = some ⟨g, o, none⟩ → ob ≠ some g
def FarM (ob : Option Nat) (m : Ms) (s : Sl) : Prop := FarR ob m.reps.length s.rA ∧ FarR ob m.who.length s.wA ∧ FarR ob m.pairs.length s.pA ∧ FarR ob m.asks.length s.aA
theorem Row.keepAt {w w' : World} {B B' z n : Nat} {A : Option Addr} {xs : List Value} (h : Row w B z A n xs) (hB : B ≤ B') (f : 0 < n → ∀ g o o', A = some ⟨g, o, none⟩ → g < B → w'.cell? ⟨g, o', none⟩ = w.cell? ⟨g, o', none⟩) : Row w' B' z A n xs :=
  ⟨h.1, fun hn => by
    obtain ⟨g, o, e, hb, hc⟩ := h.2 hn
    exact ⟨g, o, e, by omega, fun j u hu => (f hn g o _ e hb).trans (hc j u hu)⟩⟩
theorem Row.grownFar {w w' : World} {z n : Nat} {A : Option Addr} {xs : List Value} {ob : Option Nat} (h : Row w w.heap.size z A n xs) (hf : FarR ob n A) (hg : w.grownBy w' ob) : Row w' w'.heap.size z A n xs :=
  h.keepAt hg.size fun hn g o _ e hlt => World.cell?_of_block (hg.block g hlt (fun e' => hf hn g o e e'.symm))
theorem MsAt.grown {w w' : World} {m : Ms} {s : Sl} {ob : Option Nat} (h : MsAt w w.heap.size m s) (hf : FarM ob m s) (hg : w.grownBy w' ob) : MsAt w' w'.heap.size m s :=
  ⟨h.reps.grownFar hf.1 hg, h.who.grownFar hf.2.1 hg, h.pairs.grownFar hf.2.2.1 hg, h.asks.grownFar hf.2.2.2 hg⟩
theorem Row.farAt {w : World} {B N z n : Nat} {A : Option Addr} {xs : List Value} (h : Row w B z A n xs) (hN : B ≤ N) : FarR (some N) n A := by
  intro hn g o e e2
  obtain ⟨g', o', e', hlt, _⟩ := h.2 hn
  rw [e] at e'
  injection e' with e'
  injection e' with e1
  injection e2 with e2
  omega
theorem MsAt.farAt {w : World} {B N : Nat} {m : Ms} {s : Sl} (h : MsAt w B m s) (hN : B ≤ N) : FarM (some N) m s := ⟨h.reps.farAt hN, h.who.farAt hN, h.pairs.farAt hN, h.asks.farAt hN⟩
theorem NewIn.far {lo b : Nat} {m : Ms} {s : Sl} {ob : Option Nat} (h : NewIn lo s) (ho : ∀ q, ob = some q → b ≤ q ∧ q < lo) (hw : ∀ g o, s.wA = some ⟨g, o, none⟩ → 0 < m.who.length → g < b) : FarM ob m s := by
  refine ⟨fun _ g o e e2 => ?_, fun hn g o e e2 => ?_, fun _ g o e e2 => ?_, fun _ g o e e2 => ?_⟩
  · have := h g o (.inl e); have := ho g e2; omega
  · have := hw g o e hn; have := ho g e2; omega
  · have := h g o (.inr (.inl e)); have := ho g e2; omega
  · have := h g o (.inr (.inr e)); have := ho g e2; omega

set_option maxRecDepth 1000000 in
set_option maxHeartbeats 6400000 in
theorem all_any (A : Option Addr) (c n : Nat) (l : List (Ms × Sl)) (w : World) (h : CmRow w w.heap.size A l) (hn : l.length = n) (hf : ∀ x ∈ l, x.1.Fits ∧ x.1.Mod) (hl : n ≤ 2000) :
    Calls Tryd.prog 13 #[.slice A n c] w
      fun e w' => (∃ (A' : Option Addr) (c' : Nat) (l' : List (Ms × Sl)), e = .returned (.slice A' n c') ∧ l'.map Prod.fst = l.map Prod.fst ∧ MsRow w' w'.heap.size A' l') ∧ Below w.heap.size w w' := by
  have H := Lib.hid h
  have HN := Lib.hid hn
  have HF := Lib.hid hf
  clear h hn hf
  go_enter Tryd.func13, Tryd.ntmps13
  go_wp2_with fail
  go_loopw [3, 4] (fun o i wr => ∃ (k : Nat) (A' : Option Addr) (c' : Nat) (l' : List (Ms × Sl)), k ≤ n ∧ o = .slice A' k c' ∧ i = .int .i64 k ∧ l'.map Prod.fst = (l.take k).map Prod.fst ∧ wr.ownsRow w.heap.size 50 12 (.slice A' k c') k (msC l') ∧ (∀ x ∈ l', MsAt wr wr.heap.size x.1 x.2 ∧ FarM (Value.slice A' k c').ownBlock x.1 x.2) ∧ Below w.heap.size w wr) (fun _ i _ => n - (intOf i).toNat)
  case atStart => exact ⟨0, none, 0, [], Nat.zero_le _, rfl, rfl, rfl, World.ownsRow_nil _ _ _ _, fun x hx => absurd hx (by simp), Below.refl _ _⟩
  case round =>
    obtain ⟨k, A', c', l', hk, rfl, rfl, hl', hown, hall, hb⟩ := hrel
    by_cases hlt : k < n
    · obtain ⟨x, hx⟩ : ∃ x, l[k]? = some x := ⟨l[k]'(by rw [HN.out]; exact hlt), by simp⟩
      have hsz := hb.size
      obtain ⟨g, o, rfl, hg, hcs, hat⟩ := (H.out.below hb (Nat.le_refl _)).at k x hx
      obtain ⟨hfit, hfew⟩ := HF.out x (List.mem_of_getElem? hx)
      obtain ⟨m, s⟩ := x
      have HT : Hid ((l.take (k + 1)).map Prod.fst = (l.take k).map Prod.fst ++ [m]) := Lib.hid (by rw [List.take_add_one, hx]; simp)
      dsimp only at hcs hat hfit hfew
      have C := Lib.hid (of_any m s wr (hat.more hsz) hfit hfew)
      have HWA : Hid (∀ g o, s.wA = some ⟨g, o, none⟩ → 0 < m.who.length → g < w.heap.size) := Lib.hid (fun g o e h0 => by obtain ⟨g', o', e', hl, _⟩ := hat.who.2 h0; rw [e] at e'; injection e' with e'; injection e' with e1 _; omega)
      have hb' := Lib.hid hb
      have HO := Lib.hid hown
      have HA := Lib.hid hall
      have HL := Lib.hid hl'
      have hi1 : (0 : Int) ≤ (k : Int) := by omega
      have hi2 : (k : Int) < (n : Int) := by omega
      clear hown hall hb hl' hat hfit hfew hx
      have q0 : wr.cell? ⟨g, o + k * 12, none⟩ = some (.int .i64 m.kind) := hcs 0 _ rfl
      have q1 : wr.cell? ⟨g, o + k * 12 + 1, none⟩ = some (.int .u32 (m.ssrc : Int)) := hcs 1 _ rfl
      have q2 : wr.cell? ⟨g, o + k * 12 + 2, none⟩ = some (.int .u32 (m.media : Int)) := hcs 2 _ rfl
      have q3 : wr.cell? ⟨g, o + k * 12 + 3, none⟩ = some (.int .u64 (m.clock : Int)) := hcs 3 _ rfl
      have q4 : wr.cell? ⟨g, o + k * 12 + 4, none⟩ = some (.int .u32 (m.time : Int)) := hcs 4 _ rfl
      have q5 : wr.cell? ⟨g, o + k * 12 + 5, none⟩ = some (.int .u32 (m.packets : Int)) := hcs 5 _ rfl
      have q6 : wr.cell? ⟨g, o + k * 12 + 6, none⟩ = some (.int .u32 (m.bytes : Int)) := hcs 6 _ rfl
      have q7 : wr.cell? ⟨g, o + k * 12 + 7, none⟩ = some (.slice s.rA m.reps.length s.rc) := hcs 7 _ rfl
      have q8 : wr.cell? ⟨g, o + k * 12 + 8, none⟩ = some (.slice s.wA m.who.length s.wc) := hcs 8 _ rfl
      have q9 : wr.cell? ⟨g, o + k * 12 + 9, none⟩ = some (.slice s.pA m.pairs.length s.pc) := hcs 9 _ rfl
      have q10 : wr.cell? ⟨g, o + k * 12 + 10, none⟩ = some (.slice s.aA m.asks.length s.ac) := hcs 10 _ rfl
      have q11 : wr.cell? ⟨g, o + k * 12 + 11, none⟩ = some (.int .u8 (m.typ : Int)) := hcs 11 _ rfl
      unfold Ms.cells at hcs C
      clear hcs
      go_wp2_with fail
      refine C.out.mono ?_
      rintro e w1 ⟨⟨s', rfl, hm, hnew, hwa⟩, hB⟩
      dsimp only
      have hs1 := hB.size
      have HM := Lib.hid hm
      have HNW := Lib.hid hnew
      have HW := Lib.hid hwa
      have HBB := Lib.hid hB
      have HO1 : Hid (w1.ownsRow w.heap.size 50 12 (.slice A' k c') k (msC l')) := Lib.hid (own_below HO.out hB (Nat.le_refl _))
      have HR : Hid (Row (w1.alloc (.cells #[.int .i64 m.kind, .int .u32 (m.ssrc : Int), .int .u32 (m.media : Int), .int .u64 (m.clock : Int), .int .u32 (m.time : Int), .int .u32 (m.packets : Int), .int .u32 (m.bytes : Int), .slice s'.rA m.reps.length s'.rc, .slice s'.wA m.who.length s'.wc, .slice s'.pA m.pairs.length s'.pc, .slice s'.aA m.asks.length s'.ac, .int .u8 (m.typ : Int)] 50)) (w1.heap.size + 1) 12 (some ⟨w1.heap.size, 0, none⟩) 1 (m.cells s')) := Lib.hid (Row.lit w1 50 #[.int .i64 m.kind, .int .u32 (m.ssrc : Int), .int .u32 (m.media : Int), .int .u64 (m.clock : Int), .int .u32 (m.time : Int), .int .u32 (m.packets : Int), .int .u32 (m.bytes : Int), .slice s'.rA m.reps.length s'.rc, .slice s'.wA m.who.length s'.wc, .slice s'.pA m.pairs.length s'.pc, .slice s'.aA m.asks.length s'.ac, .int .u8 (m.typ : Int)] 12 1 rfl)
      clear hm hnew hwa hB C q0 q1 q2 q3 q4 q5 q6 q7 q8 q9 q10 q11
      go_wp2_with (at_builtin; refine wpl_append _ rfl (.tmp 11) (.tmp 17) 31 rfl w.heap.size 50 (.agg #[.int .i64 0, .int .u32 0, .int .u32 0, .int .u64 0, .int .u32 0, .int .u32 0, .int .u32 0, .slice none 0 0, .slice none 0 0, .slice none 0 0, .slice none 0 0, .int .u8 0]) 12 144 Tryd.underlying31 info_M9 rfl (by decide) (.slice A' k c') k (msC l') rfl (HO1.out.alloc _) (w1.heap.size + 1) (some ⟨w1.heap.size, 0, none⟩) 1 1 (m.cells s') rfl HR.out (by simp [Ms.cells, Value.oneCell']) ?c1 ?c2 ?c3 ?_)
      case c1 => unfold maxLen; omega
      case c2 => omega
      case c3 => simp; omega
      intro v3 w3 hown3 hg3 hwhere
      obtain ⟨A3, c3', rfl⟩ := own_form hown3
      obtain ⟨wa, hwa⟩ : ∃ wa, wa = w1.alloc (.cells #[.int .i64 m.kind, .int .u32 (m.ssrc : Int), .int .u32 (m.media : Int), .int .u64 (m.clock : Int), .int .u32 (m.time : Int), .int .u32 (m.packets : Int), .int .u32 (m.bytes : Int), .slice s'.rA m.reps.length s'.rc, .slice s'.wA m.who.length s'.wc, .slice s'.pA m.pairs.length s'.pc, .slice s'.aA m.asks.length s'.ac, .int .u8 (m.typ : Int)] 50) := ⟨_, rfl⟩
      have hBA : Below wr.heap.size wr wa := by rw [hwa]; exact HBB.out.alloc hs1 _
      have hsa : wa.heap.size = w1.heap.size + 1 := by rw [hwa]; simp
      have hma : MsAt wa wa.heap.size m s' := by
        have hb1 : Below w1.heap.size w1 wa := by rw [hwa]; exact (Below.refl _ _).alloc (Nat.le_refl _) _
        exact (HM.out.below hb1 (Nat.le_refl _)).more (by omega)
      rw [← hwa] at hg3
      clear hwa
      have hlt : ∀ q, (Value.slice A' k c').ownBlock = some q → w.heap.size ≤ q ∧ q < wr.heap.size := fun q hq => HO.out.lt q hq
      have HALL : Hid (∀ x ∈ l' ++ [(m, s')], MsAt w3 w3.heap.size x.1 x.2 ∧ FarM (Value.slice A3 (k + 1) c3').ownBlock x.1 x.2) := Lib.hid (by
        have step : ∀ x : Ms × Sl, MsAt wa wa.heap.size x.1 x.2 → FarM (Value.slice A' k c').ownBlock x.1 x.2 → MsAt w3 w3.heap.size x.1 x.2 ∧ FarM (Value.slice A3 (k + 1) c3').ownBlock x.1 x.2 := by
          intro x h1 h2
          refine ⟨h1.grown h2 hg3, ?_⟩
          rcases hwhere with e | e
          · rw [e]; exact h2
          · rw [e]; exact h1.farAt (by omega)
        intro x hx
        rcases List.mem_append.1 hx with hx | hx
        · obtain ⟨h1, h2⟩ := HA.out x hx
          exact step x ((h1.below hBA (Nat.le_refl _)).more hBA.size) h2
        · obtain rfl := List.mem_singleton.1 hx
          exact step _ hma (HNW.out.far hlt (by dsimp only; rw [HW.out]; exact HWA.out)))
      have HB3 : Hid (Below w.heap.size w w3) := Lib.hid ((hb'.out.trans (hBA.mono hsz)).grown hg3 (by omega) (fun q hq => (hlt q hq).1))
      have HO3 : Hid (w3.ownsRow w.heap.size 50 12 (.slice A3 (k + 1) c3') (k + 1) (msC (l' ++ [(m, s')]))) := Lib.hid (by rw [msC_append]; simpa [msC] using hown3)
      have HL3 : Hid ((l' ++ [(m, s')]).map Prod.fst = (l.take (k + 1)).map Prod.fst) := Lib.hid (by rw [HT.out, List.map_append, HL.out]; rfl)
      clear hown3 hg3 hwhere hBA hsa hma hlt HR HO1 HBB HM HNW HW hs1
      go_wp2
      go_roundw
      case rel => exact ⟨k + 1, A3, c3', l' ++ [(m, s')], by omega, rfl, by go_num, HL3.out, HO3.out, HALL.out, HB3.out⟩
      case measure => simp [intOf]; omega
    · obtain rfl : n = k := by omega
      have hl2 : l'.map Prod.fst = l.map Prod.fst := by rwa [List.take_of_length_le (by rw [HN.out]; exact Nat.le_refl _)] at hl'
      have hlen : l'.length = n := by have := congrArg List.length hl2; simpa [HN.out] using this
      have HRES : Hid ((∃ (A'' : Option Addr) (c'' : Nat) (l'' : List (Ms × Sl)), Ending.returned (.slice A' n c') = .returned (.slice A'' n c'') ∧ l''.map Prod.fst = l.map Prod.fst ∧ MsRow wr wr.heap.size A'' l'') ∧ Below w.heap.size w wr) := Lib.hid ⟨⟨A', c', l', rfl, hl2, ⟨by have := Row.of_own hown; rwa [← hlen] at this, fun x hx => (hall x hx).1⟩⟩, hb⟩
      clear hown hall hb hl' hl2 hlen
      go_wp2
      go_ret
      exact HRES.out
end Go.Proofs.YtcjmiidnhbmclaaDoor
