/-
  The code's Parse of rtp (layer 6): padding, extensions.
-/
import Derived.Test.YticnaljfnjiofaaGpl
import Derived.Test.YticnaljfnjiofaaGeg
import Derived.Test.YticnaljfnjiofaaGoc
import Derived.Deep.CutBlock
import Derived.Deep.DeepCutAuto
namespace Go.Proofs.Yticnaljfnjiofaa
open Go.RowKit
set_option linter.unusedSimpArgs false
set_option linter.unusedVariables false
set_option maxRecDepth 100000

theorem padM_last (r : List UInt8) (x : UInt8) : padM (r ++ [x]) = if x.toNat < 1 ∨ r.length + 1 < x.toNat then (0, 11) else (x.toNat, 0) := by
  unfold padM
  rw [List.getLast?_append, List.getLast?_singleton]
  simp
theorem rpadof_any (A : Option Addr) (c : Nat) (r : List UInt8) (w : World) (h : Row w w.heap.size 1 A r.length (u8s r)) (hl : r.length ≤ 65536) :
    Calls Try.prog 27 #[.slice A r.length c] w fun e w' => e = .returned (.tuple #[.int .i64 ((padM r).1 : Int), .int .i64 (padM r).2]) ∧ w = w' := by
  rcases List.eq_nil_or_concat r with rfl | ⟨l, x, rfl⟩
  · have hp : padM [] = (0, 11) := rfl
    rw [hp]
    rw [List.length_nil]
    clear h hl hp
    go_enter Try.func27, Try.ntmps27
    go_wp2
    go_ret2
    exact ⟨rfl, rfl⟩
  · rw [List.concat_eq_append] at *
    obtain ⟨g, o, rfl, hg, hc⟩ := h.2 (by simp)
    have hx := hc l.length (.int .u8 (x.toNat : Int)) (by rw [u8s_get _ _ (by simp)]; simp)
    rw [padM_last]
    have hxl : (x.toNat : Int) < 256 := u8_lt x
    rw [List.length_append, List.length_singleton] at *
    obtain ⟨n, hn⟩ : ∃ n, l.length = n := ⟨_, rfl⟩
    rw [hn] at hx hl ⊢
    obtain ⟨y, hy⟩ : ∃ y, x.toNat = y := ⟨_, rfl⟩
    rw [hy] at hx hxl ⊢
    clear hn hc h hy
    by_cases h1 : y < 1
    · rw [if_pos (.inl h1)]
      have h0 : y = 0 := by omega
      subst h0
      go_enter Try.func27, Try.ntmps27
      go_wp2
      go_ret2
      exact ⟨rfl, rfl⟩
    by_cases h2 : n + 1 < y
    · rw [if_pos (.inr h2)]
      go_enter Try.func27, Try.ntmps27
      go_wp2
      go_ret2
      exact ⟨rfl, rfl⟩
    rw [if_neg (by omega)]
    go_enter Try.func27, Try.ntmps27
    go_wp2
    go_ret2
    exact ⟨rfl, rfl⟩

theorem head_small (l : List UInt8) (e : Int) (n : Nat) (b : Bool) : (headS l e n b).length ≤ n := by
  unfold headS
  split
  · simp; omega
  · simp
theorem Cu.nm_lt (s : Cu) (n : Nat) : s.nm n < 256 ^ n := by
  unfold Cu.nm
  exact Nat.lt_of_lt_of_le (be_lt _) (Nat.pow_le_pow_right (by decide) (head_small _ _ _ _))
theorem Cu.nm_1 (s : Cu) : s.nm 1 < 256 := s.nm_lt 1
theorem Cu.nm_2 (s : Cu) : s.nm 2 < 65536 := s.nm_lt 2
theorem Cu.nm_4 (s : Cu) : s.nm 4 < 4294967296 := s.nm_lt 4
theorem rest_le (l : List UInt8) (e n : Int) (b : Bool) : (restS l e n b).length ≤ l.length := by
  unfold restS
  split
  · simp
  · simp
theorem Cu.tk_le (s : Cu) (n : Int) : (s.tk n).l.length ≤ s.l.length := rest_le _ _ _ _
theorem Cu.by_le (s : Cu) (n : Int) : (s.by n).l.length ≤ s.l.length := rest_le _ _ _ _
theorem num_cu (s : Cu) (lo g : Nat) (n : Int) (w : World) (h : CutAt w lo g s.l s.e) :
    Calls Try.prog 30 #[.pointer (some ⟨g, 0, none⟩), .int .i64 n] w fun e w' => e = .returned (.int .u64 (s.nm n : Int)) ∧ CutAt w' lo g (s.tk n).l (s.tk n).e ∧ w.grownBy w' (some g) := num_any g s.l s.e n w h
theorem bytes_cu (s : Cu) (lo g : Nat) (n : Int) (w : World) (h : CutAt w lo g s.l s.e) (hl : s.l.length ≤ 140737488355328) :
    Calls Try.prog 29 #[.pointer (some ⟨g, 0, none⟩), .int .i64 n] w fun e w' => ∃ A c, e = .returned (.slice A (s.bs n).length c) ∧ w'.ownsRow w.heap.size 5 1 (.slice A (s.bs n).length c) (s.bs n).length (u8s (s.bs n)) ∧ CutAt w' lo g (s.by n).l (s.by n).e ∧ w.grownBy w' (some g) := bytes_any g s.l s.e n w h hl

/-- What extsOf tells. -/
def ExtsTold (s : Cu) (w : World) (lo g : Nat) (e : Ending) (w' : World) : Prop :=
  ∃ A c ps, e = .returned (.tuple #[.slice A ps.length c, .int .i64 s.ext.2]) ∧ ps.map Ip.it = s.ext.1 ∧ Its w' A ps ∧ CutAt w' lo g s.extE.l s.extE.e ∧ w.grownBy w' (some g) ∧ AtIts w.heap.size A ps
theorem wrapU16 (x : Nat) (h : x < 65536) : IntKind.u16.wrap (x : Int) = (x : Int) := by simp only [IntKind.wrap, IntKind.bits, IntKind.signed]; simp; omega
theorem wrapI64 (x : Int) (h : -9223372036854775808 ≤ x ∧ x ≤ 9223372036854775807) : IntKind.i64.wrap x = x := by simp only [IntKind.wrap, IntKind.bits, IntKind.signed]; simp; omega
set_option maxHeartbeats 1600000 in
theorem rexts_any (s : Cu) (lo g : Nat) (w : World) (h : CutAt w lo g s.l s.e) (hl : s.l.length ≤ 65536) :
    Calls Try.prog 45 #[.pointer (some ⟨g, 0, none⟩)] w (ExtsTold s w lo g) := by
  obtain ⟨s1, h1⟩ : ∃ s1, s.tk 2 = s1 := ⟨_, rfl⟩
  obtain ⟨s2, h2⟩ : ∃ s2, s1.tk 2 = s2 := ⟨_, rfl⟩
  obtain ⟨x1, hx1⟩ : ∃ x, s.nm 2 = x := ⟨_, rfl⟩
  obtain ⟨x2, hx2⟩ : ∃ x, s1.nm 2 = x := ⟨_, rfl⟩
  obtain ⟨s3, h3⟩ : ∃ s3, s2.by ((x2 : Int) * 4) = s3 := ⟨_, rfl⟩
  obtain ⟨bb, hbb⟩ : ∃ b, s2.bs ((x2 : Int) * 4) = b := ⟨_, rfl⟩
  have hE : s.extE = s3 := by unfold Cu.extE; rw [h1, h2, hx2, h3]
  have hX : s.ext = if s3.e ≠ 0 then ([], s3.e) else parseL (x1 : Int) bb := by unfold Cu.ext; rw [hE, h1, h2, hx1, hx2, hbb]
  have l1 : s1.l.length ≤ s.l.length := by rw [← h1]; exact s.tk_le 2
  have l2 : s2.l.length ≤ s1.l.length := by rw [← h2]; exact s1.tk_le 2
  have lb : bb.length ≤ s2.l.length := by rw [← hbb]; exact head_le _ _ _ _
  have b1 : x1 < 65536 := by rw [← hx1]; exact s.nm_2
  have b2 : x2 < 65536 := by rw [← hx2]; exact s1.nm_2
  have C1 := num_cu s lo g 2 w h
  have C2 := fun w h => num_cu s1 lo g 2 w h
  have C3 := fun w h => bytes_cu s2 lo g ((x2 : Int) * 4) w h (by omega)
  rw [h1, hx1] at C1
  rw [h2, hx2] at C2
  rw [h3, hbb] at C3
  have C4 := fun w h => err_any (lo := lo) g s3.l s3.e w h
  obtain ⟨er, her⟩ : ∃ x, s3.e = x := ⟨_, rfl⟩
  have C5 := fun A c w (h : Row w w.heap.size 1 A bb.length (u8s bb)) => parse_anyN (x1 : Int) A c bb w h (by omega)
  obtain ⟨R, hR⟩ : ∃ R, parseL (x1 : Int) bb = R := ⟨_, rfl⟩
  have HF : Hid (∀ e w', (∃ A c ps, e = .returned (.tuple #[.slice A ps.length c, .int .i64 (if er ≠ 0 then er else R.2)]) ∧ ps.map Ip.it = (if er ≠ 0 then [] else R.1) ∧ Its w' A ps ∧ CutAt w' lo g s3.l er ∧ w.grownBy w' (some g) ∧ AtIts w.heap.size A ps) → ExtsTold s w lo g e w') := Lib.hid (by
    rintro e w' ⟨A, c, ps, rfl, q1, q2, q3, q4, q5⟩
    rw [her, hR] at hX
    refine ⟨A, c, ps, ?_, ?_, q2, by rw [hE, her]; exact q3, q4, q5⟩
    · rw [hX]; split <;> rfl
    · rw [hX, q1]; split <;> rfl)
  rw [her] at C3 C4
  rw [hR] at C5
  generalize ExtsTold s w lo g = P at *
  clear h1 h2 hx1 hx2 h3 hbb hE hX l1 l2 her hR h
  have C2 := Lib.hid C2
  have C3 := Lib.hid C3
  have C4 := Lib.hid C4
  have C5 := Lib.hid C5
  have HW1 := Lib.hid (wrapU16 x1 b1)
  have HW2 := Lib.hid (wrapI64 (x2 : Int) (by omega))
  clear lb hl
  go_enter Try.func45, Try.ntmps45
  go_wp2_with fail
  refine C1.mono ?_
  rintro e w1 ⟨rfl, k1, g1⟩
  have HK1 := Lib.hid k1
  have HG1 := Lib.hid g1
  clear k1 g1 C1
  go_wp2_with fail
  refine (C2.out w1 HK1.out).mono ?_
  rintro e w2 ⟨rfl, k2, g2⟩
  have HK2 := Lib.hid k2
  have HG2 := Lib.hid (only_trans HG1.out g2)
  clear k2 g2 C2 HK1 HG1
  go_wp2_with fail
  refine (C3.out w2 HK2.out).mono ?_
  rintro e w3 ⟨A3, c3, rfl, o3, k3, g3⟩
  have HR3 := Lib.hid (Row.of_own o3)
  have HK3 := Lib.hid k3
  have HG3 := Lib.hid (only_trans HG2.out g3)
  clear o3 k3 g3 C3 HK2 HG2
  go_wp2_with fail
  refine (C4.out w3 HK3.out).mono ?_
  rintro e w4 ⟨rfl, rfl⟩
  by_cases hz : er = 0
  · subst hz
    go_wp2_with fail
    refine (C5.out A3 c3 w3 HR3.out).mono ?_
    rintro e w5 ⟨A5, c5, ps, rfl, hp5, hi5, b5, n5⟩
    have HEND := Lib.hid (HF.out _ _ ⟨A5, c5, ps, rfl, by rw [if_neg (by simp)]; exact hp5, hi5, HK3.out.below b5 HK3.out.lt, only_trans HG3.out (only_below b5 _), fun a ha => Nat.le_trans HG3.out.size (n5.1 a ha), fun p hp a ha => Nat.le_trans HG3.out.size (n5.2 p hp a ha)⟩)
    rw [if_neg (by simp)] at HEND
    clear hp5 hi5 b5 n5 C4 C5 HF HK3 HG3 HR3
    go_wp2_with fail
    exact HEND.out
  · have hz1 : (er == 0) = false := by simp [hz]
    have hz2 : (er != 0) = true := by simp [hz]
    have HEND := Lib.hid (HF.out _ _ ⟨none, 0, [], rfl, by rw [if_pos hz]; rfl, ⟨Row.nil, by simp⟩, HK3.out, HG3.out, fun a h => (by cases h), by simp⟩)
    rw [if_pos hz] at HEND
    have HZ := Lib.hid hz
    clear hz C5 HF HG3 HR3
    go_wp2_with fail
    refine (C4.out w3 HK3.out).mono ?_
    rintro e w5 ⟨rfl, rfl⟩
    go_wp2_with fail
    exact HEND.out
end Go.Proofs.Yticnaljfnjiofaa
