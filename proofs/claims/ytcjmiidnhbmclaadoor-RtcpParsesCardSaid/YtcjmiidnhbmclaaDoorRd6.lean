/-
  The document's read, kind 6 (layer 9): a type that is of no other kind; and all of read.
-/
import Derived.Test.YtcjmiidnhbmclaaDoorRd0
import Derived.Test.YtcjmiidnhbmclaaDoorRd1
import Derived.Test.YtcjmiidnhbmclaaDoorRd2
import Derived.Test.YtcjmiidnhbmclaaDoorRd3
import Derived.Test.YtcjmiidnhbmclaaDoorRd4
import Derived.Test.YtcjmiidnhbmclaaDoorRd5
namespace Go.Proofs.YtcjmiidnhbmclaaDoor
set_option maxRecDepth 1000000
set_option linter.unusedSimpArgs false
open Go.RowKit

set_option maxHeartbeats 3200000 in
theorem dread6a_any (s : List UInt8) (c : Nat) (w : World) (h1 : ¬ c = 1) (hl : s.length ≤ 1500) (p : Ms × Int) (hp : p = (⟨6, 0, 0, 0, 0, 0, 0, [], [], [], [], 205⟩, 0)) :
    Calls Tryd.prog 29 #[.int .i64 205, .int .i64 (c : Int), .string (str s)] w (RdR p w) := by
  have h1b : ((c : Int) == 1) = false := by simpa using (show ¬ (c : Int) = 1 by omega)
  have HP := Lib.hid hp
  have hn : ¬ (s.length : Int) < 0 := by omega
  clear hp h1
  go_enter Tryd.func29, Tryd.ntmps29
  go_wp2_with fail
  exact bodyPost_ret (v := .tuple #[.agg #[.int .i64 6, .int .u32 0, .int .u32 0, .int .u64 0, .int .u32 0, .int .u32 0, .int .u32 0, .slice none 0 0, .slice none 0 0, .slice none 0 0, .slice none 0 0, .int .u8 205], .int .i64 0]) (by simp [results, Tryd.results29, go_sem]) rfl (RdR.plain ⟨6, 0, 0, 0, 0, 0, 0, [], [], [], [], 205⟩ 0 (((Below.refl _ _).alloc (Nat.le_refl _) _).alloc (by simp) _) HP.out rfl rfl rfl rfl)
set_option maxHeartbeats 3200000 in
theorem dread6b_any (s : List UInt8) (c : Nat) (w : World) (h1 : ¬ c = 1) (h4 : ¬ c = 4) (hl : s.length ≤ 1500) (p : Ms × Int) (hp : p = (⟨6, 0, 0, 0, 0, 0, 0, [], [], [], [], 206⟩, 0)) :
    Calls Tryd.prog 29 #[.int .i64 206, .int .i64 (c : Int), .string (str s)] w (RdR p w) := by
  have h1b : ((c : Int) == 1) = false := by simpa using (show ¬ (c : Int) = 1 by omega)
  have h4b : ((c : Int) == 4) = false := by simpa using (show ¬ (c : Int) = 4 by omega)
  have HP := Lib.hid hp
  have hn : ¬ (s.length : Int) < 0 := by omega
  clear hp h1 h4
  go_enter Tryd.func29, Tryd.ntmps29
  go_wp2_with fail
  exact bodyPost_ret (v := .tuple #[.agg #[.int .i64 6, .int .u32 0, .int .u32 0, .int .u64 0, .int .u32 0, .int .u32 0, .int .u32 0, .slice none 0 0, .slice none 0 0, .slice none 0 0, .slice none 0 0, .int .u8 206], .int .i64 0]) (by simp [results, Tryd.results29, go_sem]) rfl (RdR.plain ⟨6, 0, 0, 0, 0, 0, 0, [], [], [], [], 206⟩ 0 (((Below.refl _ _).alloc (Nat.le_refl _) _).alloc (by simp) _) HP.out rfl rfl rfl rfl)
set_option maxHeartbeats 3200000 in
theorem dread6c_any (s : List UInt8) (t c : Nat) (w : World) (ht : t < 256) (h0 : ¬ t = 200) (h1 : ¬ t = 201) (h3 : ¬ t = 203) (h5 : ¬ t = 205) (h6 : ¬ t = 206) (hl : s.length ≤ 1500) (p : Ms × Int) (hp : p = (⟨6, 0, 0, 0, 0, 0, 0, [], [], [], [], t⟩, 0)) :
    Calls Tryd.prog 29 #[.int .i64 (t : Int), .int .i64 (c : Int), .string (str s)] w (RdR p w) := by
  have t0 : ((t : Int) == 200) = false := by simpa using (show ¬ (t : Int) = 200 by omega)
  have t1 : ((t : Int) == 201) = false := by simpa using (show ¬ (t : Int) = 201 by omega)
  have t3 : ((t : Int) == 203) = false := by simpa using (show ¬ (t : Int) = 203 by omega)
  have t5 : ((t : Int) == 205) = false := by simpa using (show ¬ (t : Int) = 205 by omega)
  have t6 : ((t : Int) == 206) = false := by simpa using (show ¬ (t : Int) = 206 by omega)
  have HP := Lib.hid hp
  have hn : ¬ (s.length : Int) < 0 := by omega
  have hw : IntKind.u8.wrap (t : Int) = (t : Int) := by simp only [IntKind.wrap, IntKind.bits, IntKind.signed]; simp; omega
  have ht' : (t : Int) < 256 := by omega
  clear hp h0 h1 h3 h5 h6 ht
  go_enter Tryd.func29, Tryd.ntmps29
  go_wp2_with fail
  exact bodyPost_ret (v := .tuple #[.agg #[.int .i64 6, .int .u32 0, .int .u32 0, .int .u64 0, .int .u32 0, .int .u32 0, .int .u32 0, .slice none 0 0, .slice none 0 0, .slice none 0 0, .slice none 0 0, .int .u8 (t : Int)], .int .i64 0]) (by simp [results, Tryd.results29, go_sem]) rfl (RdR.plain ⟨6, 0, 0, 0, 0, 0, 0, [], [], [], [], t⟩ 0 (((Below.refl _ _).alloc (Nat.le_refl _) _).alloc (by simp) _) HP.out rfl rfl rfl rfl)

/-- All of read. -/
theorem read_any (s : List UInt8) (t c : Nat) (w : World) (ht : t < 256) (hc : c < 32) (hl : s.length ≤ 1500) :
    Calls Tryd.prog 29 #[.int .i64 (t : Int), .int .i64 (c : Int), .string (str s)] w (RdR (readM t c s) w) := by
  by_cases h0 : t = 200
  · subst h0; exact dread0_any s c w hl hc
  by_cases h1 : t = 201
  · subst h1; exact dread1_any s c w hl hc
  by_cases h3 : t = 203
  · subst h3; exact dread2_any s c w hl hc
  by_cases h5 : t = 205
  · subst h5
    by_cases c1 : c = 1
    · subst c1; exact dread3_any s w hl
    · exact dread6a_any s c w c1 hl _ (by unfold readM; simp [c1])
  by_cases h6 : t = 206
  · subst h6
    by_cases c1 : c = 1
    · subst c1; exact dread4_any s w hl
    by_cases c4 : c = 4
    · subst c4; exact dread5_any s w hl
    · exact dread6b_any s c w c1 c4 hl _ (by unfold readM; simp [c1, c4])
  · exact dread6c_any s t c w ht h0 h1 h3 h5 h6 hl _ (by unfold readM; simp [h0, h1, h3, h5, h6])
end Go.Proofs.YtcjmiidnhbmclaaDoor
