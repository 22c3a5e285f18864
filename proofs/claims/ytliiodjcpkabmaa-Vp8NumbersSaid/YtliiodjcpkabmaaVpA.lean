/-
  Contracts of package vp8's small calls, and of the law's own 'of'.
-/
import Derived.Test.YtliiodjcpkabmaaMem
import Derived.Test.YtliiodjcpkabmaaVpL
import Derived.Deep.QuietTactic
import Derived.BigQuiet
import Derived.Deep.CutBlock
import Derived.Deep.DeepCutAuto
namespace Go.Proofs.Ytliiodjcpkabmaa
open Go.RowKit

/-- What is told of a descriptor. -/
def Dsc.told (d : Dsc) : Dsc :=
  if d.more then ⟨true, d.lone, d.start, d.part % 8, d.hasPic, d.hasPic && d.wide, if d.hasPic then (if d.wide then d.pic % 32768 else d.pic % 128) else 0, d.hasTl0, if d.hasTl0 then d.tl0 else 0, d.hasTid, if d.hasTid then d.tid % 4 else 0, d.hasTid && d.sync, d.hasKey, if d.hasKey then d.key % 32 else 0⟩
  else ⟨false, d.lone, d.start, d.part % 8, false, false, 0, false, 0, false, 0, false, false, 0⟩

theorem begins_any (d : Dsc) (w : World) : Calls Try.prog 14 #[.agg d.cells] w fun e w' => e = .returned (.bool d.begins) ∧ w' = w.alloc (.cells d.cells 26) := by
  obtain ⟨more, lone, start, part, hasPic, wide, pic, hasTl0, tl0, hasTid, tid, sync, hasKey, key⟩ := d
  unfold Dsc.cells Dsc.begins
  dsimp only
  cases start with
  | false =>
    go_enter Try.func14, Try.ntmps14
    go_wp2
    go_ret
    exact ⟨rfl, rfl⟩
  | true =>
    by_cases h : part = 0
    · subst h
      go_enter Try.func14, Try.ntmps14
      go_wp2
      go_ret
      exact ⟨rfl, rfl⟩
    · have h' : ((part : Int) == 0) = false := by simpa using h
      have e : decide (part = 0) = false := by simpa using h
      rw [e]
      clear h e
      go_enter Try.func14, Try.ntmps14
      go_wp2
      go_ret
      exact ⟨by simp, rfl⟩

theorem when_any (b : Bool) (x : Int) (w : World) : Calls Try.prog 28 #[.bool b, .int .u8 x] w fun e w' => e = .returned (.int .u8 (wh b x)) ∧ w = w' := by
  cases b
  all_goals
    go_enter Try.func28, Try.ntmps28
    go_wp2
    go_ret
    exact ⟨rfl, rfl⟩

theorem of_any (d : Dsc) (hd : d.Fits) (w : World) : Calls Try.prog 13 #[.agg d.cells] w fun e w' => e = .returned (.agg d.plain) ∧ w' = (w.alloc (.cells d.cells 26)).alloc (.cells d.plain 31) := by
  obtain ⟨h1, h2, h3, h4, h5⟩ := hd
  obtain ⟨more, lone, start, part, hasPic, wide, pic, hasTl0, tl0, hasTid, tid, sync, hasKey, key⟩ := d
  unfold Dsc.cells Dsc.plain
  dsimp only at h1 h2 h3 h4 h5 ⊢
  go_enter Try.func13, Try.ntmps13
  go_wp2
  exact bodyPost_ret (v := .agg #[.bool more, .bool lone, .bool start, .int .i64 (part : Int), .bool hasPic, .bool wide, .int .i64 (pic : Int), .bool hasTl0, .int .i64 (tl0 : Int), .bool hasTid, .int .i64 (tid : Int), .bool sync, .bool hasKey, .int .i64 (key : Int)]) (by simp [results, Try.results13, go_sem]) rfl ⟨rfl, rfl⟩

set_option maxRecDepth 100000 in
set_option maxHeartbeats 1600000 in
theorem told_any (d : Dsc) (hd : d.Fits) (w : World) : Calls Try.prog 27 #[.agg d.cells] w fun e w' => e = .returned (.agg d.told.cells) ∧ ∃ A B : Array Value, w' = (w.alloc (.cells A 26)).alloc (.cells B 26) := by
  obtain ⟨h1, h2, h3, h4, h5⟩ := hd
  obtain ⟨more, lone, start, part, hasPic, wide, pic, hasTl0, tl0, hasTid, tid, sync, hasKey, key⟩ := d
  unfold Dsc.cells Dsc.told
  dsimp only at h1 h2 h3 h4 h5 ⊢
  cases more with
  | false =>
    go_enter Try.func27, Try.ntmps27
    go_wp2
    exact bodyPost_ret (v := .agg #[.bool false, .bool lone, .bool start, .int .u8 ((part : Int) % 8), .bool false, .bool false, .int .u16 0, .bool false, .int .u8 0, .bool false, .int .u8 0, .bool false, .bool false, .int .u8 0]) (by simp [results, Try.results27, go_sem]) rfl ⟨by simp, _, _, rfl⟩
  | true =>
    obtain ⟨W1, hW1⟩ : ∃ W1 : Bool, W1 = (hasPic && wide) := ⟨_, rfl⟩
    obtain ⟨P1, hP1⟩ : ∃ P1 : Nat, P1 = (if hasPic then (if wide then pic % 32768 else pic % 128) else 0) := ⟨_, rfl⟩
    obtain ⟨T1, hT1⟩ : ∃ T1 : Nat, T1 = (if hasTl0 then tl0 else 0) := ⟨_, rfl⟩
    obtain ⟨I0, hI0⟩ : ∃ I0 : Nat, I0 = (if hasTid then tid else 0) := ⟨_, rfl⟩
    obtain ⟨S1, hS1⟩ : ∃ S1 : Bool, S1 = (hasTid && sync) := ⟨_, rfl⟩
    obtain ⟨K0, hK0⟩ : ∃ K0 : Nat, K0 = (if hasKey then key else 0) := ⟨_, rfl⟩
    have hI1 : (if hasTid = true then tid % 4 else 0) = I0 % 4 := by rw [hI0]; split <;> rfl
    have hK1 : (if hasKey = true then key % 32 else 0) = K0 % 32 := by rw [hK0]; split <;> rfl
    have hIl : I0 < 256 := by rw [hI0]; split <;> omega
    have hKl : K0 < 256 := by rw [hK0]; split <;> omega
    simp only [if_true]
    rw [← hW1, ← hP1, ← hT1, ← hS1, hI1, hK1]
    have HW := Lib.hid hW1
    have HP := Lib.hid hP1
    have HT := Lib.hid hT1
    have HI := Lib.hid hI0
    have HS := Lib.hid hS1
    have HK := Lib.hid hK0
    clear hW1 hP1 hT1 hI0 hS1 hK0 hI1 hK1
    go_enter Try.func27, Try.ntmps27
    go_upto_block 0 with fail
    go_cut [] (fun wx => wx = (w.alloc (.cells #[.bool true, .bool lone, .bool start, .int .u8 ((part : Int) % 8), .bool hasPic, .bool W1, .int .u16 P1, .bool hasTl0, .int .u8 tl0, .bool hasTid, .int .u8 tid, .bool sync, .bool hasKey, .int .u8 key] 26)).alloc (.cells #[.bool false, .bool false, .bool false, .int .u8 0, .bool false, .bool false, .int .u16 0, .bool false, .int .u8 0, .bool false, .int .u8 0, .bool false, .bool false, .int .u8 0] 26))
    case first =>
      clear hIl hKl HT HI HS HK
      cases hasPic with
      | false =>
        have e1 : W1 = false := by simpa using HW.out
        have e2 : P1 = 0 := by simpa using HP.out
        subst e1 e2
        go_wp2_with fail
        go_meet
        rfl
      | true =>
        cases wide with
        | true =>
          have e1 : W1 = true := by simpa using HW.out
          have e2 : P1 = pic % 32768 := by simpa using HP.out
          subst e1 e2
          go_wp2_with fail
          go_meet
          simp [and15 pic h2]
        | false =>
          have e1 : W1 = false := by simpa using HW.out
          have e2 : P1 = pic % 128 := by simpa using HP.out
          subst e1 e2
          go_wp2_with fail
          go_meet
          simp [and7 pic h2]
    case rest =>
      subst hcut
      clear HW HP
      go_upto_if 36 with fail
      go_cut [] (fun wx => wx = (w.alloc (.cells #[.bool true, .bool lone, .bool start, .int .u8 ((part : Int) % 8), .bool hasPic, .bool W1, .int .u16 P1, .bool hasTl0, .int .u8 T1, .bool hasTid, .int .u8 tid, .bool sync, .bool hasKey, .int .u8 key] 26)).alloc (.cells #[.bool false, .bool false, .bool false, .int .u8 0, .bool false, .bool false, .int .u16 0, .bool false, .int .u8 0, .bool false, .int .u8 0, .bool false, .bool false, .int .u8 0] 26))
      case first =>
        clear hIl hKl HI HS HK
        cases hasTl0 with
        | false =>
          have e1 : T1 = 0 := by simpa using HT.out
          subst e1
          go_wp2_with fail
          go_meet
          rfl
        | true =>
          have e1 : T1 = tl0 := by simpa using HT.out
          subst e1
          go_wp2_with fail
          go_meet
          rfl
      case rest =>
        subst hcut
        clear HT
        go_upto_if 40 with fail
        go_cut [] (fun wx => wx = (w.alloc (.cells #[.bool true, .bool lone, .bool start, .int .u8 ((part : Int) % 8), .bool hasPic, .bool W1, .int .u16 P1, .bool hasTl0, .int .u8 T1, .bool hasTid, .int .u8 I0, .bool S1, .bool hasKey, .int .u8 key] 26)).alloc (.cells #[.bool false, .bool false, .bool false, .int .u8 0, .bool false, .bool false, .int .u16 0, .bool false, .int .u8 0, .bool false, .int .u8 0, .bool false, .bool false, .int .u8 0] 26))
        case first =>
          clear hIl hKl HK
          cases hasTid with
          | false =>
            have e1 : I0 = 0 := by simpa using HI.out
            have e2 : S1 = false := by simpa using HS.out
            subst e1 e2
            go_wp2_with fail
            go_meet
            rfl
          | true =>
            have e1 : I0 = tid := by simpa using HI.out
            have e2 : S1 = sync := by simpa using HS.out
            subst e1 e2
            go_wp2_with fail
            go_meet
            rfl
        case rest =>
          subst hcut
          clear HI HS
          go_upto_if 45 with fail
          go_cut [] (fun wx => wx = (w.alloc (.cells #[.bool true, .bool lone, .bool start, .int .u8 ((part : Int) % 8), .bool hasPic, .bool W1, .int .u16 P1, .bool hasTl0, .int .u8 T1, .bool hasTid, .int .u8 I0, .bool S1, .bool hasKey, .int .u8 K0] 26)).alloc (.cells #[.bool false, .bool false, .bool false, .int .u8 0, .bool false, .bool false, .int .u16 0, .bool false, .int .u8 0, .bool false, .int .u8 0, .bool false, .bool false, .int .u8 0] 26))
          case first =>
            clear hIl hKl
            cases hasKey with
            | false =>
              have e1 : K0 = 0 := by simpa using HK.out
              subst e1
              go_wp2_with fail
              go_meet
              rfl
            | true =>
              have e1 : K0 = key := by simpa using HK.out
              subst e1
              go_wp2_with fail
              go_meet
              rfl
          case rest =>
            subst hcut
            clear HK
            go_wp2
            exact bodyPost_ret (v := .agg #[.bool true, .bool lone, .bool start, .int .u8 ((part : Int) % 8), .bool hasPic, .bool W1, .int .u16 P1, .bool hasTl0, .int .u8 T1, .bool hasTid, .int .u8 ((I0 : Int) % 4), .bool S1, .bool hasKey, .int .u8 ((K0 : Int) % 32)]) (by simp [results, Try.results27, go_sem, and3 I0 hIl]) rfl ⟨by simp, _, _, rfl⟩
end Go.Proofs.Ytliiodjcpkabmaa
