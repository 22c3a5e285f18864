/-
  The document's example, as the laws of layer 5 run it first.
-/
import Derived.Test.YtdfbbmaaonkjiaaExtD
import Derived.Test.YtdfbbmaaonkjiaaExtF
import Derived.Test.YtdfbbmaaonkjiaaExtG
import Derived.Lib.SlBytesConst
namespace Go.Proofs.Ytdfbbmaaonkjiaa
open Go.RowKit

def exIt : It := ⟨1, [97, 98]⟩
theorem ex_its (w : World) : Its ((w.alloc (.cells #[.int .u8 97, .int .u8 98] 5 (2, 3))).alloc (.cells #[.int .u8 1, .slice (some ⟨w.heap.size, 0, none⟩) 2 2] 46)) (some ⟨w.heap.size + 1, 0, none⟩) [⟨exIt, some ⟨w.heap.size, 0, none⟩, 2⟩] := by
  refine ⟨Row.fresh2 w _ _ _ 2 1 _ rfl rfl, fun p hp => ?_⟩
  simp at hp
  subst hp
  refine ⟨?_, by show 2 ≤ maxLen; decide⟩
  have r : Row (w.alloc (.cells #[.int .u8 97, .int .u8 98] 5 (2, 3))) (w.alloc (.cells #[.int .u8 97, .int .u8 98] 5 (2, 3))).heap.size 1 (some ⟨w.heap.size, 0, none⟩) 2 (u8s exIt.d) :=
    ⟨rfl, fun _ => ⟨w.heap.size, 0, rfl, by simp, fun j u hu => by rw [Nat.zero_add, World.cell?_alloc_mark]; simpa [u8s, exIt] using hu⟩⟩
  exact (r.alloc (Nat.le_refl _) _).more (by simp)
theorem ex_put : putP [exIt] = 48862 ∧ putB [exIt] = [17, 97, 98, 0] ∧ putE [exIt] = 0 := ⟨rfl, rfl, rfl⟩
theorem ex_parse : parseL 48862 [17, 97, 98, 0] = ([exIt], 0) := rfl

set_option maxRecDepth 100000 in
theorem awake_any (w : World) : Calls Try.prog 9 #[] w fun e w' => e = .returned (.bool true) ∧ Below w.heap.size w w' := by
  have C := extPut_any (some ⟨w.heap.size + 1, 0, none⟩) 1 [⟨exIt, some ⟨w.heap.size, 0, none⟩, 2⟩] _ (ex_its w) (by show 1 ≤ maxLen; decide)
  have b0 := ((Below.refl w.heap.size w).alloc (Nat.le_refl _) (.cells #[.int .u8 97, .int .u8 98] 5 (2, 3))).alloc (by simp) (.cells #[.int .u8 1, .slice (some ⟨w.heap.size, 0, none⟩) 2 2] 46)
  have HB := Lib.hid b0
  have hcc := Lib.run_convert_bytes_const (P := Try.prog) w 26 5 #[.int .u8 97, .int .u8 98] 2 2 Try.underlying26 Try.underlying5
  clear b0
  go_enter Try.func9, Try.ntmps9
  go_wp2_with fail
  refine C.mono ?_
  rintro e w1 ⟨A1, c1, rfl, r1, b1⟩
  clear C hcc
  obtain ⟨x1, x2, x3⟩ := ex_put
  rw [show List.map Ip.it [(⟨exIt, some ⟨w.heap.size, 0, none⟩, 2⟩ : Ip)] = [exIt] from rfl, x2] at r1
  rw [show List.map Ip.it [(⟨exIt, some ⟨w.heap.size, 0, none⟩, 2⟩ : Ip)] = [exIt] from rfl, x1, x2, x3]
  have B1 := HB.out.trans (b1.mono (by simp; omega))
  clear b1 x1 x2 x3
  go_wp2_with fail
  refine (parse_any 48862 A1 c1 [17, 97, 98, 0] w1 r1 (by decide)).mono ?_
  rintro e w2 ⟨A2, c2, ps, rfl, hps, its2, b2⟩
  rw [ex_parse] at hps ⊢
  have B2 := bnext B1 b2
  have hlen : ps.length = 1 := by have := congrArg List.length hps; simpa using this
  have hlen2 : ps.length ≤ maxLen := by rw [hlen]; decide
  have hdd : ∀ p ∈ ps, p.it.d.length ≤ 140737488355328 := by
    intro p hp
    have : p.it ∈ ps.map Ip.it := List.mem_map.2 ⟨p, hp, rfl⟩
    rw [hps] at this
    simp at this
    rw [this]
    decide
  have r2 := (r1.below b2 (Nat.le_refl _)).more b2.size
  have C1 := find_any A2 c2 ps 1 w2 its2 hlen2 hdd
  have C2 := Lib.hid (fun w' (b' : Below w2.heap.size w2 w') => find_any A2 c2 ps 2 w' (its2.next b') hlen2 hdd)
  rw [hps] at C1
  rw [hps] at C2
  rw [hlen] at C1 C2 ⊢
  clear hps its2 b2 r1 B1 hdd hlen hlen2
  go_wp2_with fail
  refine C1.mono ?_
  rintro e w3 (⟨hn, _, _⟩ | ⟨j, i, A3, c3, hj, hi, _, rfl, r3, b3⟩)
  · exact absurd rfl (hn exIt (by simp))
  have hi0 : i = exIt := by
    have := List.mem_of_getElem? hj
    simpa using this
  subst hi0
  have B3 := bnext B2 b3
  have r23 := (r2.below b3 (Nat.le_refl _)).more b3.size
  clear C1 hj hi r2 B2
  go_wp2_with fail
  refine (C2.out w3 b3).mono ?_
  rintro e w4 hf
  obtain ⟨rfl, b4⟩ : e = .returned (.tuple #[.slice none 0 0, .bool false]) ∧ Below w3.heap.size w3 w4 := by
    rcases hf with ⟨_, h1, h2⟩ | ⟨j, i, A4, c4, hj, hi, _, _⟩
    · exact ⟨h1, h2⟩
    · have hi0 : i = exIt := by
        have := List.mem_of_getElem? hj
        simpa using this
      subst hi0
      exact absurd hi (by decide)
  have B4 := Lib.hid (bnext B3 b4)
  have r24 := (r23.below b4 (Nat.le_refl _)).more b4.size
  have r34 := (r3.below b4 (Nat.le_refl _)).more b4.size
  have ht : (convert 26 9 (.slice A1 4 c1)).run Try.prog w4 = .ok (.string { data := #[17, 97, 98, 0] }) w4 := run_text (P := Try.prog) w4 26 5 9 Try.underlying26 Try.underlying5 Try.underlying9 _ _ _ c1 [17, 97, 98, 0] r24
  have ht3 : (convert 26 9 (.slice A3 2 c3)).run Try.prog w4 = .ok (.string { data := #[97, 98] }) w4 := run_text (P := Try.prog) w4 26 5 9 Try.underlying26 Try.underlying5 Try.underlying9 _ _ _ c3 [97, 98] r34
  rw [show exIt.d.length = 2 from rfl]
  clear r23 r24 r34 r3 b3 b4 B3 hf C2
  go_wp2_with fail
  go_ret
  exact ⟨rfl, B4.out⟩
end Go.Proofs.Ytdfbbmaaonkjiaa
