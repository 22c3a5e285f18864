/-
  The contract of package ext's Find.
-/
import Derived.Test.YtdfbbmaaonkjiaaExtB
namespace Go.Proofs.Ytdfbbmaaonkjiaa
open Go.RowKit

/-- What Find tells. -/
def Found (l : List It) (k : UInt8) (w : World) (e : Ending) (w' : World) : Prop :=
  (∀ i ∈ l, i.id ≠ k) ∧ e = .returned (.tuple #[.slice none 0 0, .bool false]) ∧ Below w.heap.size w w' ∨
  ∃ (j : Nat) (i : It) (A : Option Addr) (c : Nat), l[j]? = some i ∧ i.id = k ∧ (∀ (j' : Nat) (i' : It), j' < j → l[j']? = some i' → i'.id ≠ k) ∧
    e = .returned (.tuple #[.slice A i.d.length c, .bool true]) ∧ Row w' w'.heap.size 1 A i.d.length (u8s i.d) ∧ Below w.heap.size w w'

set_option maxRecDepth 100000 in
theorem find_any (A : Option Addr) (c : Nat) (ps : List Ip) (k : UInt8) (w : World) (h : Its w A ps) (hl : ps.length ≤ maxLen) (hd : ∀ p ∈ ps, p.it.d.length ≤ 140737488355328) :
    Calls Try.prog 17 #[.slice A ps.length c, .int .u8 (k.toNat : Int)] w (Found (ps.map Ip.it) k w) := by
  have hl' := hl
  unfold maxLen at hl'
  have b1 := (Below.refl w.heap.size w).alloc (Nat.le_refl _) (.cells #[.int .u8 (k.toNat : Int)] 5)
  have C := index_id A c ps k w.heap.size (w.alloc (.cells #[.int .u8 (k.toNat : Int)] 5)) (h.next b1) hl (by simp) (by simp)
  have H1 := Lib.hid (h.next b1)
  have HD := Lib.hid hd
  have HB := Lib.hid b1
  clear h hd b1
  go_enter Try.func17, Try.ntmps17
  go_wp2_with fail
  refine C.mono ?_
  rintro e w2 ⟨r, rfl, hr, b2⟩
  clear C
  have HB2 := Lib.hid (bnext HB.out b2)
  have H2 := Lib.hid (H1.out.next b2)
  clear b2
  rcases hr with ⟨rfl, hn⟩ | ⟨j, p, rfl, hp, hq, hj⟩
  · have HF := Lib.hid (show Found (ps.map Ip.it) k w (.returned (.tuple #[.slice none 0 0, .bool false])) w2 from .inl ⟨fun i hi => by
      obtain ⟨p, hp, rfl⟩ := List.mem_map.1 hi
      have := hn p hp
      simpa [isIdB] using this, rfl, HB2.out⟩)
    clear hn H2
    go_wp2
    go_ret2
    exact HF.out
  · have hlt := (List.getElem?_eq_some_iff.1 hp).1
    obtain ⟨g, o, hA, hg, hc0, hc1⟩ := H2.out.at j hlt
    subst hA
    have he : ps[j] = p := (List.getElem?_eq_some_iff.1 hp).2
    rw [he] at hc0 hc1
    have hm := List.mem_of_getElem? hp
    have hrow := (H2.out.2 p hm).1
    have hlen := HD.out p hm
    have hi1 : ¬ (j : Int) < 0 := by omega
    have hi2 : (j : Int) < (ps.length : Int) := by omega
    have hi3 : (0 : Int) ≤ (j : Int) := by omega
    have HF := Lib.hid (fun A4 c4 w4 (hr : Row w4 w4.heap.size 1 A4 p.it.d.length (u8s p.it.d)) (hb : Below w.heap.size w w4) => show Found (ps.map Ip.it) k w (.returned (.tuple #[.slice A4 p.it.d.length c4, .bool true])) w4 from
      .inr ⟨j, p.it, A4, c4, by simp [hp], by simpa [isIdB] using hq, fun j' i' h1 h2 => by
        simp at h2
        obtain ⟨p', h3, rfl⟩ := h2
        have := hj j' p' h1 h3
        simpa [isIdB] using this, rfl, hr, hb⟩)
    clear hp hq hj he hm H2 HD hc0
    go_wp2_with fail
    refine (clone_any p.A p.it.d.length p.c p.it.d w2 hrow hlen).mono ?_
    rintro e w3 ⟨A4, c4, rfl, own4, b4⟩
    have HG := Lib.hid (HF.out A4 c4 w3 (Row.of_own own4) (bnext HB2.out b4))
    clear own4 b4 hrow
    go_wp2
    go_ret2
    exact HG.out
end Go.Proofs.Ytdfbbmaaonkjiaa
