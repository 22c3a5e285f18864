/-
  Items as the document has them: exts (layer 14's law), Same.
-/
import Derived.Test.YticnaljfnjiofaaGex
import Derived.RegionTactic
import Derived.Deep.QuietTactic
import Derived.BigQuiet
import Derived.Deep.RegionHeld3
import Derived.Deep.AppendLies
namespace Go.Proofs.Yticnaljfnjiofaa
open Go.RowKit

set_option maxRecDepth 100000
/-- Items as the document has them. -/
def itC (l : List It) : List Value := l.flatMap fun i => [.int .u8 (i.id.toNat : Int), .string (str i.d)]
theorem itC_length (l : List It) : (itC l).length = l.length * 2 := by induction l <;> simp_all [itC]; omega
theorem itC_get (l : List It) (k : Nat) (hk : k < l.length) : (itC l)[k * 2]? = some (.int .u8 (l[k].id.toNat : Int)) ∧ (itC l)[k * 2 + 1]? = some (.string (str l[k].d)) := by
  induction l generalizing k with
  | nil => simp at hk
  | cons p l ih =>
    cases k with
    | zero => simp [itC]
    | succ k =>
      have h := ih k (by simpa using hk)
      have e : (k + 1) * 2 = k * 2 + 1 + 1 := by omega
      simpa [itC, e] using h
theorem itC_snoc (l : List It) (i : It) : itC (l ++ [i]) = itC l ++ [.int .u8 (i.id.toNat : Int), .string (str i.d)] := by simp [itC]
theorem itC_at {w : World} {B : Nat} {A : Option Addr} {l : List It} (h : Row w B 2 A l.length (itC l)) (k : Nat) (hk : k < l.length) :
    ∃ g o, A = some ⟨g, o, none⟩ ∧ g < B ∧ w.cell? ⟨g, o + k * 2, none⟩ = some (.int .u8 (l[k].id.toNat : Int)) ∧ w.cell? ⟨g, o + k * 2 + 1, none⟩ = some (.string (str l[k].d)) := by
  obtain ⟨g, o, hA, hg, hc⟩ := h.2 (by omega)
  exact ⟨g, o, hA, hg, hc _ _ (itC_get l k hk).1, hc _ _ (itC_get l k hk).2⟩
/-- New items as the document has them. -/
def NewIL (l : List It) (w : World) (e : Ending) (w' : World) : Prop :=
  ∃ A c, e = .returned (.slice A l.length c) ∧ Row w' w'.heap.size 2 A l.length (itC l) ∧ Below w.heap.size w w' ∧ ∀ a, A = some a → w.heap.size ≤ a.block
theorem info_I : (Try.prog.info? 129).map (fun i => (i.zero, i.size, i.bytes)) = some (some (.agg #[.int .u8 0, .string ⟨#[]⟩]), 2, 24) := by kernel_rfl

set_option maxRecDepth 100000 in
theorem exts_any (A : Option Addr) (c : Nat) (ps : List Ip) (w : World) (h : Its w A ps) (hl : ps.length ≤ 20) :
    Calls Try.prog 33 #[.slice A ps.length c] w (NewIL (ps.map Ip.it) w) := by
  have H := Lib.hid h
  clear h
  go_enter Try.func33, Try.ntmps33
  go_wp2
  go_loopw [3, 4] (fun v i wr => ∃ k : Nat, k ≤ ps.length ∧ i = .int .i64 k ∧ wr.ownsRow w.heap.size 129 2 v k (itC ((ps.map Ip.it).take k)) ∧ Below w.heap.size w wr) (fun _ i _ => ps.length - (intOf i).toNat)
  case atStart => exact ⟨0, Nat.zero_le _, rfl, World.ownsRow_nil _ _ _ _, Below.refl _ _⟩
  case round =>
    obtain ⟨k, hk, rfl, hown, hb⟩ := hrel
    obtain ⟨Av, cv, rfl⟩ := own_form hown
    by_cases hlt : k < ps.length
    · obtain ⟨g, o, hA, hg, hc0, hc1⟩ := (H.out.next hb).at k hlt
      subst hA
      have htk : (ps.map Ip.it).take (k + 1) = (ps.map Ip.it).take k ++ [ps[k].it] := by
        rw [List.take_succ_eq_append_getElem (by simpa using hlt)]
        simp
      have hd0 := (H.out.2 ps[k] (List.getElem_mem _)).1
      have KEEP := Lib.hid (fun w' (b' : Below w.heap.size w w') => show w'.cell? ⟨g, o + k * 2, none⟩ = some (.int .u8 (ps[k].it.id.toNat : Int)) ∧ w'.cell? ⟨g, o + k * 2 + 1, none⟩ = some (.slice ps[k].A ps[k].it.d.length ps[k].c) ∧ (convert 33 9 (.slice ps[k].A ps[k].it.d.length ps[k].c)).run Try.prog w' = .ok (.string (str ps[k].it.d)) w' from by
        obtain ⟨g', o', e', _, k0, k1⟩ := (H.out.next b').at k hlt
        injection e' with e'
        injection e' with e1 e2
        subst e1 e2
        exact ⟨k0, k1, run_text (P := Try.prog) w' 33 5 9 Try.underlying33 Try.underlying5 Try.underlying9 _ _ _ _ _ (hd0.below b' (Nat.le_refl _))⟩)
      clear hd0 hc0 hc1
      generalize ps[k] = p at KEEP htk
      have HT := Lib.hid htk
      have hi1 : (0 : Int) ≤ (k : Int) := by omega
      have hi2 : (k : Int) < (ps.length : Int) := by omega
      have hsz := hb.size
      have hfar := Lib.hid (fun a ha => (hown.lt a ha).1)
      have HO := Lib.hid hown
      have HB := Lib.hid hb
      obtain ⟨i0, hi0, hz0, hz1, hz2⟩ := info_parts info_I
      have HI0 := Lib.hid hi0
      have HZ0 := Lib.hid hz0
      have HZ1 := Lib.hid hz1
      have HZ2 := Lib.hid hz2
      clear htk hown hb hi0 hz0 hz1 hz2
      go_wp2_with fail
      go_region_held3 (fun w' => w'.cell? ⟨g, o + k * 2, none⟩ = some (.int .u8 (p.it.id.toNat : Int)) ∧ w'.cell? ⟨g, o + k * 2 + 1, none⟩ = some (.slice p.A p.it.d.length p.c) ∧ (convert 33 9 (.slice p.A p.it.d.length p.c)).run Try.prog w' = .ok (.string (str p.it.d)) w')
        (first
          | exact KEEP.out _ HB.out
          | exact KEEP.out _ HB.out.drew
          | exact KEEP.out _ (HB.out.drew.alloc (by simpa using hsz) _)
          | exact KEEP.out _ ((HB.out.drew.alloc (by simpa using hsz) _).grown hgrow (by simp; omega) hfar.out))
        ((first
          | (refine step_append_lies _ (by rfl) _ _ _ (by rfl) w.heap.size 129 i0 _ 2 24 Try.underlying49 HI0.out HZ0.out HZ1.out HZ2.out rfl (by omega) (.slice Av k cv) k (itC ((ps.map Ip.it).take k)) (by rfl) (HO.out.drew.alloc _)
              ⟨wr.heap.size, 0, none⟩ 1 1 [.int .u8 (p.it.id.toNat : Int), .string (str p.it.d)] (by rfl) (by rfl) (World.news_of_block (cs := #[.int .u8 (p.it.id.toNat : Int), .string (str p.it.d)]) (t := 129) (fr := (0, 0)) (heap_alloc_new wr.drew _)) (by simp [Value.oneCell'])
              (by omega) (by unfold maxLen; omega) (by omega) (by simp; omega) (wr.heap.size + 1) (by simp) ?_; intro gg cap w1 hown1 hgrow hat hlt1)))
      have hB1 : Below w.heap.size w w1 := (HB.out.drew.alloc (by simpa using hsz) _).grown hgrow (by simp; omega) hfar.out
      have R : w1.ownsRow w.heap.size 129 2 (.slice (some ⟨gg, 0, none⟩) (k + 1) cap) (k + 1) (itC ((ps.map Ip.it).take (k + 1))) := by rw [HT.out, itC_snoc]; exact hown1
      clear hown1 hgrow hat KEEP HO HB hfar HI0 HZ0 HZ1 HZ2
      clear ‹_ ∧ _ ∧ _›
      go_wp2
      go_roundw
      case rel => exact ⟨k + 1, by omega, by go_num, R, hB1⟩
      case measure => simp [intOf]; omega
    · obtain rfl : k = ps.length := by omega
      have hlm : (ps.map Ip.it).length = ps.length := by simp
      have HF := Lib.hid (show NewIL (ps.map Ip.it) w (.returned (.slice Av ps.length cv)) wr from by
        rw [← hlm, List.take_length] at hown
        exact ⟨Av, cv, by rw [hlm], by have := Row.of_own hown; exact this, hb, own_lo hown⟩)
      clear hown hb hlm
      go_wp2
      go_ret
      exact HF.out

set_option maxRecDepth 100000 in
theorem same_yes (A B : Option Addr) (c d : Nat) (l : List It) (w : World) (h : Row w w.heap.size 2 A l.length (itC l)) (h' : Row w w.heap.size 2 B l.length (itC l)) (hl : l.length ≤ 20) :
    Calls Try.prog 34 #[.slice A l.length c, .slice B l.length d] w fun e w' => e = .returned (.bool true) ∧ ∃ m, w' = w.drewN m := by
  go_enter Try.func34, Try.ntmps34
  go_wp2
  go_loopw [5] (fun i wr => ∃ k m : Nat, k ≤ l.length ∧ i = .int .i64 k ∧ wr = w.drewN m) (fun i _ => l.length - (intOf i).toNat)
  case atStart => exact ⟨0, 0, Nat.zero_le _, rfl, rfl⟩
  case round =>
    obtain ⟨k, m, hk, rfl, rfl⟩ := hrel
    by_cases hlt : k < l.length
    · obtain ⟨g, o, hA, hg, hc⟩ := h.2 (by omega)
      obtain ⟨g', o', hB, hg', hc'⟩ := h'.2 (by omega)
      subst hA hB
      have c0 := hc _ _ (itC_get l k hlt).1
      have c1 := hc _ _ (itC_get l k hlt).2
      have d0 := hc' _ _ (itC_get l k hlt).1
      have d1 := hc' _ _ (itC_get l k hlt).2
      generalize l[k] = i at c0 c1 d0 d1
      have hi1 : (0 : Int) ≤ (k : Int) := by omega
      have hi2 : (k : Int) < (l.length : Int) := by omega
      have e0 : (w.drewN m).cell? ⟨g, o + k * 2, none⟩ = some (.int .u8 (i.id.toNat : Int)) := c0
      have e1 : (w.drewN m).cell? ⟨g, o + k * 2 + 1, none⟩ = some (.string (str i.d)) := c1
      have f0 : (w.drewN m).cell? ⟨g', o' + k * 2, none⟩ = some (.int .u8 (i.id.toNat : Int)) := d0
      have f1 : (w.drewN m).cell? ⟨g', o' + k * 2 + 1, none⟩ = some (.string (str i.d)) := d1
      clear h h' hc hc' c0 c1 d0 d1
      have hend := Lib.hid (show ∃ m', (w.drewN m).drew = w.drewN m' from ⟨m + 1, rfl⟩)
      generalize w.drewN m = wo at *
      go_wp2_with fail
      go_region
      obtain ⟨m', hm'⟩ := hend.out
      rw [hm']
      clear hend e0 e1 f0 f1 hm'
      go_wp2
      go_roundw
      case rel => exact ⟨k + 1, m', by omega, by go_num, rfl⟩
      case measure => simp [intOf]; omega
    · obtain rfl : k = l.length := by omega
      have hi2 : ¬ (l.length : Int) < (l.length : Int) := by omega
      clear h h'
      go_wp2
      go_ret
      exact ⟨rfl, m, rfl⟩
end Go.Proofs.Yticnaljfnjiofaa
