/-
  Layer 14's law: few.
-/
import Derived.Test.YticnaljfnjiofaaGdn
import Derived.Deep.CutBlock
import Derived.Deep.DeepCutAuto
namespace Go.Proofs.Yticnaljfnjiofaa
open Go.RowKit
set_option linter.unusedSimpArgs false
set_option linter.unusedVariables false
set_option maxRecDepth 100000

/-- Is a packet few and short? -/
def Sa.small (a : Sa) : Bool := a.q.h.ps.all (fun p => decide (p.it.d.length ≤ 60)) && (decide (a.q.h.csrc.length ≤ 20) && decide (a.q.h.ps.length ≤ 20) && decide (a.q.pay.length ≤ 200))
def fewS (l : List Sa) : Bool := l.all Sa.small && decide (l.length ≤ 120)
theorem all_take {α : Type} (f : α → Bool) (l : List α) (k : Nat) (a : α) (h : l[k]? = some a) : (l.take (k + 1)).all f = ((l.take k).all f && f a) := by
  rw [List.take_add_one, h]; simp
theorem all_no {α : Type} {f : α → Bool} {l : List α} {k : Nat} {a : α} (h : l[k]? = some a) (hf : f a = false) : l.all f = false := by
  rw [List.all_eq_false]
  exact ⟨a, List.mem_of_getElem? h, by simp [hf]⟩
set_option maxHeartbeats 1600000 in
theorem few_any (A : Option Addr) (c : Nat) (l : List Sa) (W w : World) (hb : Below W.heap.size W w) (hl : l.length ≤ maxLen) (hr : Row W W.heap.size 15 A l.length (rowC Sa.cells l)) (ho : ∀ a ∈ l, a.q.Ok W) :
    Calls Try.prog 10 #[.slice A l.length c] w fun e w' => e = .returned (.bool (fewS l)) ∧ Below w.heap.size w w' := by
  obtain ⟨n, hn⟩ : ∃ n, l.length = n := ⟨_, rfl⟩
  rw [hn] at hr ⊢
  have HR := Lib.hid (fun (h0 : 0 < n) => row_at Sa.cells_length hr h0)
  have HO := Lib.hid ho
  have HN := Lib.hid hn
  have HB := Lib.hid hb
  unfold maxLen at hl
  rw [hn] at hl
  clear hr ho hb hn
  go_enter Try.func10, Try.ntmps10
  go_wp2_with fail
  go_loopw [3] (fun i wr => ∃ k : Nat, k ≤ n ∧ i = .int .i64 (k : Int) ∧ (l.take k).all Sa.small = true ∧ Below w.heap.size w wr) (fun i _ => n - (intOf i).toNat)
  case atStart => exact ⟨0, Nat.zero_le _, rfl, by simp, Below.refl _ _⟩
  case round =>
    obtain ⟨k, hk, rfl, hs, hbr⟩ := hrel
    have HS := Lib.hid hs
    have HBR := Lib.hid hbr
    clear hs hbr
    by_cases hlt : k < n
    · obtain ⟨g, o, rfl, hg, hc⟩ := HR.out (by omega)
      obtain ⟨a, ha⟩ : ∃ a, l[k]? = some a := ⟨l[k]'(by rw [HN.out]; exact hlt), by simp⟩
      have hBW := HB.out.trans (HBR.out.mono HB.out.size)
      have e := fun j v hj => hc wr hBW k a j v ha hj
      have r0 := e 0 _ rfl
      rw [Nat.add_zero] at r0
      have r1 := e 1 _ rfl
      have r2 := e 2 _ rfl
      have r3 := e 3 _ rfl
      have r4 := e 4 _ rfl
      have r5 := e 5 _ rfl
      have r6 := e 6 _ rfl
      have r7 := e 7 _ rfl
      have r8 := e 8 _ rfl
      have i1 : (0 : Int) ≤ (k : Int) := by omega
      have i2 : (k : Int) < (n : Int) := by omega
      clear e
      go_wp2_with fail
      have HOK := Lib.hid (HO.out a (List.mem_of_getElem? ha))
      obtain ⟨wz, hwz⟩ : ∃ z, z = wr.alloc (.cells #[.bool a.q.h.mark, .int .u8 (a.q.h.typ : Int), .int .u16 (a.q.h.seq : Int), .int .u32 (a.q.h.time : Int), .int .u32 (a.q.h.ssrc : Int), .slice a.q.h.A1 a.q.h.csrc.length a.q.h.c1, .slice a.q.h.A2 a.q.h.ps.length a.q.h.c2, .slice a.q.A3 a.q.pay.length a.q.c3, .int .i64 a.q.pad] 35) := ⟨_, rfl⟩
      have HP := Lib.hid (show Whole wz wr.heap.size 35 #[.bool a.q.h.mark, .int .u8 (a.q.h.typ : Int), .int .u16 (a.q.h.seq : Int), .int .u32 (a.q.h.time : Int), .int .u32 (a.q.h.ssrc : Int), .slice a.q.h.A1 a.q.h.csrc.length a.q.h.c1, .slice a.q.h.A2 a.q.h.ps.length a.q.h.c2, .slice a.q.A3 a.q.pay.length a.q.c3, .int .i64 a.q.pad] from by rw [hwz]; exact Whole.new wr _ _)
      have HBZ := Lib.hid (show Below w.heap.size w wz from by rw [hwz]; exact HBR.out.alloc HBR.out.size _)
      rw [← hwz]
      have hgp := HP.out.lt
      clear hwz r0 r1 r2 r3 r4 r5 r6 r7 r8 hc
      have HIT := Lib.hid ((HOK.out.h.its.next (HB.out.trans (HBZ.out.mono HB.out.size))))
      obtain ⟨m, hm⟩ : ∃ m, a.q.h.ps.length = m := ⟨_, rfl⟩
      have hm63 : m ≤ 9223372036854775807 := by rw [← hm]; exact HOK.out.h.len2
      have HM := Lib.hid hm
      rw [hm] at HP
      rw [hm]
      clear hm
      have p5 := HP.out.cell 5
      have p6 := HP.out.cell 6
      have p7 := HP.out.cell 7
      go_loopw [5] (fun j wi => wi = wz ∧ ∃ q : Nat, q ≤ m ∧ j = .int .i64 (q : Int) ∧ (a.q.h.ps.take q).all (fun p => decide (p.it.d.length ≤ 60)) = true) (fun j _ => m - (intOf j).toNat)
      case atStart => exact ⟨rfl, 0, Nat.zero_le _, rfl, by simp⟩
      case round =>
        obtain ⟨rfl, q, hq, rfl, hqs⟩ := hrel
        by_cases hql : q < m
        · obtain ⟨y, hy⟩ : ∃ y, a.q.h.ps[q]? = some y := ⟨a.q.h.ps[q]'(by rw [HM.out]; exact hql), by simp⟩
          have hqy : a.q.h.ps[q]'(by rw [HM.out]; exact hql) = y := by have := (List.getElem?_eq_some_iff.1 hy).2; exact this
          obtain ⟨g2, o2, hA2, hg2, hi0, hi1⟩ := HIT.out.at q (by rw [HM.out]; exact hql)
          rw [hqy] at hi1
          rw [hA2] at p6
          have j1 : (0 : Int) ≤ (q : Int) := by omega
          have j2 : (q : Int) < (m : Int) := by omega
          have HHY := Lib.hid hy
          have HQS := Lib.hid hqs
          clear hi0 hqy hA2 hy hqs
          by_cases hbig : 60 < y.it.d.length
          · have hF : fewS l = false := by
              unfold fewS
              rw [all_no ha (by unfold Sa.small; rw [all_no HHY.out (by simpa using hbig)]; rfl)]
              rfl
            have HF := Lib.hid hF
            clear hF ha
            go_wp2_with fail
            go_ret
            exact ⟨ret_bool HF.out.symm, HBZ.out⟩
          · have HS2 : Hid ((a.q.h.ps.take (q + 1)).all (fun p => decide (p.it.d.length ≤ 60)) = true) := Lib.hid (by rw [all_take _ _ _ _ HHY.out, HQS.out]; simp; omega)
            clear HHY HQS
            go_wp2_with fail
            go_roundw
            case rel => exact ⟨by first | trivial | rfl, q + 1, by omega, by go_num, HS2.out⟩
            case measure => simp [intOf]; omega
        · obtain rfl : q = m := by omega
          have HQ : Hid (a.q.h.ps.all (fun p => decide (p.it.d.length ≤ 60)) = true) := Lib.hid (by rw [← HM.out, List.take_length] at hqs; exact hqs)
          have HQM : Hid (a.q.h.ps.length = q) := HM
          clear hqs HM
          by_cases b1 : 20 < a.q.h.csrc.length
          · have hF : fewS l = false := by
              unfold fewS
              rw [all_no ha (by unfold Sa.small; rw [HQM.out]; simp; omega)]
              rfl
            have HF := Lib.hid hF
            clear hF ha
            go_wp2_with fail
            go_ret
            exact ⟨ret_bool HF.out.symm, HBZ.out⟩
          by_cases b2 : 20 < q
          · have hF : fewS l = false := by
              unfold fewS
              rw [all_no ha (by unfold Sa.small; rw [HQM.out]; simp; omega)]
              rfl
            have HF := Lib.hid hF
            clear hF ha
            go_wp2_with fail
            go_ret
            exact ⟨ret_bool HF.out.symm, HBZ.out⟩
          by_cases b3 : 200 < a.q.pay.length
          · have hF : fewS l = false := by
              unfold fewS
              rw [all_no ha (by unfold Sa.small; rw [HQM.out]; simp; omega)]
              rfl
            have HF := Lib.hid hF
            clear hF ha
            go_wp2_with fail
            go_ret
            exact ⟨ret_bool HF.out.symm, HBZ.out⟩
          have HS2 : Hid ((l.take (k + 1)).all Sa.small = true) := Lib.hid (by rw [all_take _ _ _ _ ha, HS.out, Bool.true_and]; unfold Sa.small; rw [HQ.out, HQM.out]; simp; omega)
          clear ha
          go_wp2_with fail
          go_roundw
          case rel => exact ⟨k + 1, by omega, by go_num, HS2.out, HBZ.out⟩
          case measure => simp [intOf]; omega
    · obtain rfl : k = n := by omega
      have HF : Hid (fewS l = decide (k ≤ 120)) := Lib.hid (by unfold fewS; have h := HS.out; rw [← HN.out, List.take_length] at h; rw [h, HN.out]; rfl)
      go_wp2_with fail
      go_ret
      exact ⟨ret_bool (by rw [HF.out]; simp; omega), HBR.out⟩
end Go.Proofs.Yticnaljfnjiofaa
