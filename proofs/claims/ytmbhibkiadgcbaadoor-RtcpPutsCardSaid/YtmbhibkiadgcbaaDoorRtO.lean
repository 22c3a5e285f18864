/-
  The contracts of the document's put of any message, and of its Put (layer 9).
-/
import Derived.Test.YtmbhibkiadgcbaaDoorRtP
import Derived.Test.YtmbhibkiadgcbaaDoorRtP1
import Derived.Test.YtmbhibkiadgcbaaDoorRtP2
import Derived.Test.YtmbhibkiadgcbaaDoorRtP3
import Derived.Test.YtmbhibkiadgcbaaDoorRtP4
import Derived.Test.YtmbhibkiadgcbaaDoorRtP5
import Derived.Test.YtmbhibkiadgcbaaDoorRtP7
namespace Go.Proofs.YtmbhibkiadgcbaaDoor
set_option maxRecDepth 100000
open Go.RowKit

theorem refput_any (m : Ms) (s : Sl) (w : World) (h : MsAt w w.heap.size m s) (hf : m.Fits) (hw : m.Few) :
    Calls Tryd.prog 24 #[.agg (m.cells s).toArray] w (PutTold m w) := by
  by_cases k0 : m.kind = 0
  · exact refput_0 m s w h hf hw k0
  by_cases k1 : m.kind = 1
  · exact refput_1 m s w h hf hw k1
  by_cases k2 : m.kind = 2
  · exact refput_2 m s w h hf hw k2
  by_cases k3 : m.kind = 3
  · exact refput_3 m s w h hf hw k3
  by_cases k4 : m.kind = 4
  · exact refput_4 m s w h hf hw k4
  by_cases k5 : m.kind = 5
  · exact refput_5 m s w h hf hw k5
  exact refput_other m s w h hf hw (by simp [Ms.num, k0, k1, k2, k3, k4, k5])

/-- What Put tells. -/
def PutsTold (l : List Ms) (w : World) (e : Ending) (w' : World) : Prop := e = .returned (.tuple #[.string (str (putL l).1), .int .i64 (putL l).2]) ∧ Below w.heap.size w w'

set_option maxRecDepth 100000 in
set_option maxHeartbeats 1600000 in
theorem refPut_any (A : Option Addr) (c n : Nat) (l : List (Ms × Sl)) (w : World) (h : MsRow w w.heap.size A l) (hn : l.length = n) (hf : ∀ x ∈ l, x.1.Fits ∧ x.1.Few) (hl : n ≤ 64) :
    Calls Tryd.prog 12 #[.slice A n c] w (PutsTold (l.map Prod.fst) w) := by
  have H := Lib.hid h
  have HF := Lib.hid hf
  have HN := Lib.hid hn
  clear h hf hn
  go_enter Tryd.func12, Tryd.ntmps12
  go_wp2
  go_loopw [4, 5] (fun s i wr => ∃ (k : Nat) (d : List UInt8), k ≤ n ∧ i = .int .i64 k ∧ s = .string (str d) ∧ d.length ≤ 1700 * k ∧ Hid (d = encs ((l.map Prod.fst).take k)) ∧ Hid (∀ m ∈ (l.map Prod.fst).take k, m.good = true) ∧ Below w.heap.size w wr) (fun _ i _ => n - (intOf i).toNat)
  case atStart => exact ⟨0, [], Nat.zero_le _, rfl, rfl, by simp, Lib.hid rfl, Lib.hid (by simp), Below.refl _ _⟩
  case round =>
    obtain ⟨k, d, hk, rfl, rfl, hd, HD, HG, hb⟩ := hrel
    by_cases hlt : k < n
    · obtain ⟨x, hx⟩ : ∃ x, l[k]? = some x := ⟨l[k]'(by rw [HN.out]; exact hlt), by simp⟩
      have hxm : (l.map Prod.fst)[k]? = some x.1 := by simp [hx]
      obtain ⟨g, o, hA, hg, hcs, hms⟩ := (H.out.below hb (Nat.le_refl _)).at k x hx
      subst hA
      obtain ⟨hfit, hfew⟩ := HF.out x (List.mem_of_getElem? hx)
      have hel := x.1.enc_length hfew
      have HD' : x.1.good = true → encs ((l.map Prod.fst).take (k + 1)) = d ++ x.1.enc := fun _ => by rw [encs_take _ _ _ hxm, HD.out]
      have HG' : x.1.good = true → ∀ m ∈ (l.map Prod.fst).take (k + 1), m.good = true := fun hg m hm => by
        rw [List.take_add_one, hxm] at hm
        rcases List.mem_append.1 hm with h | h
        · exact HG.out m h
        · simp at h; rw [h]; exact hg
      have HBAD : Hid (x.1.good = false → putL (l.map Prod.fst) = ([], 1)) := Lib.hid (putL_bad _ k x.1 hxm)
      have C := Lib.hid (refput_any x.1 x.2 wr (hms.more hb.size) hfit hfew)
      unfold PutTold at C
      obtain ⟨⟨kind, ssrc, media, clock, time, packets, bytes, reps, who, pairs, asks, typ⟩, ⟨rA, rc, wA, wc, pA, pc, aA, ac⟩⟩ := x
      dsimp only [Ms.cells] at hcs C
      have c0 : wr.cell? ⟨g, o + k * 12, none⟩ = some (.int .i64 kind) := hcs 0 _ rfl
      have c1 : wr.cell? ⟨g, o + k * 12 + 1, none⟩ = some (.int .u32 (ssrc : Int)) := hcs 1 _ rfl
      have c2 : wr.cell? ⟨g, o + k * 12 + 2, none⟩ = some (.int .u32 (media : Int)) := hcs 2 _ rfl
      have c3 : wr.cell? ⟨g, o + k * 12 + 3, none⟩ = some (.int .u64 (clock : Int)) := hcs 3 _ rfl
      have c4 : wr.cell? ⟨g, o + k * 12 + 4, none⟩ = some (.int .u32 (time : Int)) := hcs 4 _ rfl
      have c5 : wr.cell? ⟨g, o + k * 12 + 5, none⟩ = some (.int .u32 (packets : Int)) := hcs 5 _ rfl
      have c6 : wr.cell? ⟨g, o + k * 12 + 6, none⟩ = some (.int .u32 (bytes : Int)) := hcs 6 _ rfl
      have c7 : wr.cell? ⟨g, o + k * 12 + 7, none⟩ = some (.slice rA reps.length rc) := hcs 7 _ rfl
      have c8 : wr.cell? ⟨g, o + k * 12 + 8, none⟩ = some (.slice wA who.length wc) := hcs 8 _ rfl
      have c9 : wr.cell? ⟨g, o + k * 12 + 9, none⟩ = some (.slice pA pairs.length pc) := hcs 9 _ rfl
      have c10 : wr.cell? ⟨g, o + k * 12 + 10, none⟩ = some (.slice aA asks.length ac) := hcs 10 _ rfl
      have c11 : wr.cell? ⟨g, o + k * 12 + 11, none⟩ = some (.int .u8 (typ : Int)) := hcs 11 _ rfl
      obtain ⟨m, hm⟩ : ∃ m, m = (⟨kind, ssrc, media, clock, time, packets, bytes, reps, who, pairs, asks, typ⟩ : Ms) := ⟨_, rfl⟩
      rw [← hm] at C hel HD' HG' HBAD
      have hi1 : (0 : Int) ≤ (k : Int) := by omega
      have hi2 : (k : Int) < (n : Int) := by omega
      have HB := Lib.hid hb
      have HDD := Lib.hid HD'
      have HGG := Lib.hid HG'
      clear hb hcs hms hx hxm HD HG HD' HG' hm hfit hfew
      go_wp2_with fail
      refine C.out.mono ?_
      rintro e w2 ⟨rfl, b2⟩
      have B2 := Lib.hid (bnext HB.out b2)
      clear b2 C HB c0 c1 c2 c3 c4 c5 c6 c7 c8 c9 c10 c11
      cases hg : m.good with
      | false =>
        rw [told_bad m hg]
        have HT : Hid (PutsTold (l.map Prod.fst) w (.returned (.tuple #[.string ⟨#[]⟩, .int .i64 1])) w2) := Lib.hid ⟨by rw [HBAD.out hg]; rfl, B2.out⟩
        clear HDD HGG HBAD hg
        go_wp2
        go_ret2
        exact HT.out
      | true =>
        rw [told_good m hg]
        obtain ⟨y, hy⟩ : ∃ y, m.enc = y := ⟨_, rfl⟩
        have HE : Hid (encs ((l.map Prod.fst).take (k + 1)) = d ++ y) := Lib.hid (by rw [← hy]; exact HDD.out hg)
        have HG2 := Lib.hid (HGG.out hg)
        rw [hy] at hel ⊢
        obtain ⟨z, hz⟩ : ∃ z, d ++ y = z := ⟨_, rfl⟩
        have hadd : ∀ wx, (Op.stringOp .add (str d) (str y)).run Tryd.prog wx = .ok (.string (str z)) wx := by rw [← hz]; exact fun wx => run_str_add wx d y (by omega)
        have hzl : z.length ≤ 1700 * (k + 1) := by rw [← hz, List.length_append]; omega
        have HZ : Hid (z = encs ((l.map Prod.fst).take (k + 1))) := Lib.hid (by rw [HE.out, hz])
        clear HDD HGG HBAD hg hy hz HE
        go_wp2
        go_roundw
        case rel => exact ⟨k + 1, z, by omega, by go_num, rfl, hzl, HZ, HG2, B2.out⟩
        case measure => simp [intOf]; omega
    · obtain rfl : n = k := by omega
      have hall : (l.map Prod.fst).take n = l.map Prod.fst := List.take_of_length_le (by rw [List.length_map, HN.out]; exact Nat.le_refl _)
      rw [hall] at HD HG
      by_cases hbig : 1500 < d.length
      · have HT : Hid (PutsTold (l.map Prod.fst) w (.returned (.tuple #[.string ⟨#[]⟩, .int .i64 13])) wr) := Lib.hid ⟨by rw [putL_big _ HG.out (by rw [← HD.out]; exact hbig)]; rfl, hb⟩
        clear hall HD HG hb
        go_wp2
        go_ret2
        exact HT.out
      · have HT : Hid (PutsTold (l.map Prod.fst) w (.returned (.tuple #[.string (str d), .int .i64 0])) wr) := Lib.hid ⟨by rw [putL_ok _ HG.out (by rw [← HD.out]; exact hbig), ← HD.out], hb⟩
        clear hall HD HG hb
        go_wp2
        go_ret2
        exact HT.out
end Go.Proofs.YtmbhibkiadgcbaaDoor
