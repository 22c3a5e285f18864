/-
  Proved: OctetBack returns true for every list of parts and every place of a cut: of numbers that fit their sizes, what is put is taken as it was; cut anywhere it ends too early. Conditions: none.
-/
import Derived.Test.YtahaeeedpnoelaaOctS
import Derived.Deep.RegionHeld3
import Derived.Deep.DeepCutAuto
import Derived.Deep.QuietTactic
import Derived.BigQuiet
namespace Go.Proofs.Ytahaeeedpnoelaa.Back
open Go.ChangeShapes Go.WideShapes Go.ChangeAt Go.RowKit

/-- How many bytes the parts have, in all. -/
def sz (l : List (Nat × Int)) : Nat := (l.map fun p => p.2.toNat).sum
theorem sz_take (l : List (Nat × Int)) (k : Nat) (hk : k < l.length) : sz (l.take (k + 1)) = sz (l.take k) + l[k].2.toNat := by
  unfold sz; rw [List.take_succ_eq_append_getElem hk, List.map_append, List.sum_append]; simp

/-- A part whose number fits. -/
def Fits (p : Nat × Int) : Prop := 1 ≤ p.2 ∧ p.2 ≤ 8 ∧ p.1 < 256 ^ p.2.toNat
theorem fits_take (l : List (Nat × Int)) (k : Nat) (hk : k < l.length) (h : ∀ p ∈ l.take k, Fits p) (hp : Fits l[k]) : ∀ p ∈ l.take (k + 1), Fits p := by
  intro p hm
  rw [List.take_succ_eq_append_getElem hk] at hm
  rcases List.mem_append.1 hm with hm | hm
  · exact h p hm
  · simp at hm; subst hm; exact hp

theorem fits_of (x s : Nat) (h1 : 1 ≤ s) (h8 : s ≤ 8) (h : (x : Int) / 2 ^ (8 * s) ≤ 0) : Fits (x, (s : Int)) := by
  have e : (2 : Int) ^ (8 * s) = ((256 ^ s : Nat) : Int) := by rw [Int.pow_mul, Int.natCast_pow]; rfl
  rw [e, ← Int.natCast_ediv] at h
  have hq : 0 < 256 ^ s := Nat.pow_pos (by omega)
  refine ⟨by show (1 : Int) ≤ (s : Int); omega, by show (s : Int) ≤ 8; omega, ?_⟩
  show x < 256 ^ (s : Int).toNat
  rw [Int.toNat_natCast]
  rcases Nat.lt_or_ge x (256 ^ s) with hx | hx
  · exact hx
  · have := Nat.div_pos hx hq
    omega
theorem fits_full (x : Nat) (hx : x < 18446744073709551616) : Fits (x, 8) := ⟨by show (1 : Int) ≤ 8; omega, by show (8 : Int) ≤ 8; omega, by show x < 256 ^ 8; omega⟩

theorem sz_le (l : List (Nat × Int)) (h : ∀ p ∈ l, Fits p) : sz l ≤ 8 * l.length := by
  induction l with
  | nil => simp [sz]
  | cons p l ih =>
    have h1 := h p (by simp)
    have h2 := ih fun q hq => h q (by simp [hq])
    have e : sz (p :: l) = p.2.toNat + sz l := by simp [sz]
    have := h1.2.1
    rw [e, List.length_cons]; omega
theorem putS_sz (l : List (Nat × Int)) (h : ∀ p ∈ l, Fits p) : (putS l).length = sz l := by
  induction l with
  | nil => rfl
  | cons p l ih =>
    have h1 := h p (by simp)
    obtain ⟨x, s⟩ := p
    obtain ⟨s, rfl⟩ := Int.eq_ofNat_of_zero_le (show 0 ≤ s by have := h1.1; dsimp only at this; omega)
    have e : sz ((x, (s : Int)) :: l) = s + sz l := by simp [sz]
    rw [putS_cons, List.length_append, ih fun q hq => h q (by simp [hq]), e, putOne_yes x (by have := h1.1; dsimp only at this; omega) (by have := h1.2.1; dsimp only at this; omega), bytesN_length]

theorem be_from (l : List UInt8) (x : Nat) : l.foldl (fun x b => x * 256 + b.toNat) x = x * 256 ^ l.length + be l := by
  induction l generalizing x with
  | nil => simp [be]
  | cons b l ih =>
    have h0 : be (b :: l) = b.toNat * 256 ^ l.length + be l := by
      show List.foldl _ 0 (b :: l) = _
      rw [List.foldl_cons, Nat.zero_mul, Nat.zero_add, ih]
    rw [List.foldl_cons, ih, h0, List.length_cons, Nat.pow_succ, Nat.add_mul, Nat.mul_assoc, Nat.mul_comm 256, Nat.add_assoc]
theorem be_bytesN (x s : Nat) : be (bytesN x s) = x % 256 ^ s := by
  induction s with
  | zero => simp [bytesN, be, Nat.mod_one]
  | succ s ih =>
    have h : be (bytesN x (s + 1)) = (UInt8.ofNat (x / 256 ^ s)).toNat * 256 ^ s + be (bytesN x s) := by
      show (UInt8.ofNat (x / 256 ^ s) :: bytesN x s).foldl _ 0 = _
      rw [List.foldl_cons, be_from, bytesN_length]; simp
    have h2 : x % 256 ^ (s + 1) = x % 256 ^ s + 256 ^ s * (x / 256 ^ s % 256) := by
      rw [show (256 : Nat) ^ (s + 1) = 256 ^ s * 256 from rfl]; exact Nat.mod_mul
    rw [h, ih, h2, UInt8.toNat_ofNat', show 2 ^ 8 = 256 from rfl, Nat.mul_comm (256 ^ s), Nat.add_comm]

/-- The first cut's state while parts are left. -/
theorem head_part (x s : Nat) (l : List UInt8) (h1 : 1 ≤ s) (h8 : s ≤ 8) (hx : x < 256 ^ s) :
    be (headS (bytesN x s ++ l) 0 (s : Int) (sizeB (s : Int))) = x ∧ restS (bytesN x s ++ l) 0 (s : Int) (sizeB (s : Int)) = l ∧ errS (bytesN x s ++ l) 0 (s : Int) (sizeB (s : Int)) = 0 := by
  rw [sizeB_yes h1 h8]
  have hl : (s : Int) ≤ ((bytesN x s ++ l).length : Int) := by rw [List.length_append, bytesN_length]; omega
  have e1 : headS (bytesN x s ++ l) 0 (s : Int) true = bytesN x s := by
    simp only [headS, hl, and_self, if_true, Int.toNat_natCast]
    rw [List.take_append_of_le_length (by rw [bytesN_length]; exact Nat.le_refl _), List.take_of_length_le (by rw [bytesN_length]; exact Nat.le_refl _)]
  have e2 : restS (bytesN x s ++ l) 0 (s : Int) true = l := by
    simp only [restS, hl, and_self, if_true, Int.toNat_natCast]
    rw [List.drop_append_of_le_length (by rw [bytesN_length]; exact Nat.le_refl _), List.drop_of_length_le (by rw [bytesN_length]; exact Nat.le_refl _), List.nil_append]
  refine ⟨?_, e2, by unfold errS; rw [if_neg (by simp), if_neg (by simp), if_pos hl]⟩
  rw [e1, be_bytesN, Nat.mod_eq_of_lt hx]

/-- The second cut's state: nothing went wrong, and so much is left; or it was too short. -/
def Cutted (rs : List UInt8) (e : Int) (k0 s : Nat) : Prop := (e = 0 ∧ rs.length + s = k0) ∨ e = 10
theorem Cutted.next {rs : List UInt8} {e : Int} {k0 s n : Nat} (h : Cutted rs e k0 s) (h1 : 1 ≤ n) (h8 : n ≤ 8) : Cutted (restS rs e (n : Int) (sizeB (n : Int))) (errS rs e (n : Int) (sizeB (n : Int))) k0 (s + n) := by
  rw [sizeB_yes h1 h8]
  rcases h with ⟨rfl, h⟩ | rfl
  · by_cases hn : (n : Int) ≤ (rs.length : Int)
    · left
      refine ⟨by simp [errS, hn], ?_⟩
      simp only [restS, hn, and_self, if_true, Int.toNat_natCast, List.length_drop]
      omega
    · right
      simp [errS, hn]
  · right
    simp [errS]

set_option maxRecDepth 100000 in
set_option maxHeartbeats 1600000 in
theorem walk (w : World) (A : Option Addr) (c : Nat) (l : List (Nat × Int)) (hl : l.length ≤ maxLen) (hr : Row w w.heap.size 2 A l.length (partC l)) (hx : ∀ x ∈ l, x.1 < 18446744073709551616 ∧ -9223372036854775808 ≤ x.2 ∧ x.2 < 9223372036854775808) (at0 : Int) (hat : (Lit.int .u16 at0).wf = true) :
    Calls Try.prog 5 #[.slice A l.length c, .int .u16 at0] w fun e w' => e = .returned (.bool true) ∧ Below w.heap.size w w' := by
  unfold maxLen at hl
  have hat' := wf_u16 hat
  clear hat
  obtain ⟨at0, rfl⟩ := Int.eq_ofNat_of_zero_le hat'.1
  by_cases hlong : 60 < l.length
  · go_enter Try.func5, Try.ntmps5
    go_wp2_with (go_at_call 10; refine (awake_any w).mono ?_; rintro e w1 ⟨rfl, b1⟩)
    go_ret
    exact ⟨rfl, b1⟩
  have Hx := Lib.hid hx
  clear hx
  go_enter Try.func5, Try.ntmps5
  go_wp2_with fail
  refine (awake_any w).mono ?_
  rintro e w1 ⟨rfl, b1⟩
  go_wp2_with fail
  go_loopw [6, 7] (fun nv i wr => ∃ k : Nat, k ≤ l.length ∧ i = .int .i64 k ∧ nv = .int .i64 (sz (l.take k) : Int) ∧ Hid (∀ p ∈ l.take k, Fits p) ∧ Below w.heap.size w wr) (fun _ i _ => l.length - (intOf i).toNat)
  case atStart => exact ⟨0, Nat.zero_le _, rfl, rfl, by intro p hp; simp at hp, b1⟩
  case round =>
    obtain ⟨k, hk, rfl, rfl, hfit, hb⟩ := hrel
    have hszk : sz (l.take k) ≤ 480 := by have := sz_le _ hfit.out; simp only [List.length_take] at this; omega
    by_cases hlt : k < l.length
    · obtain ⟨g, o, hA, hg, hcell⟩ := hr.2 (by omega)
      subst hA
      have hc0 := (hb.cell (p := ⟨g, o + k * 2, none⟩) hg).trans (hcell _ _ (partC_get l k hlt).1)
      have hc1 := (hb.cell (p := ⟨g, o + k * 2 + 1, none⟩) hg).trans (hcell _ _ (partC_get l k hlt).2)
      have htk := Lib.hid (sz_take l k hlt)
      have hfk := Lib.hid (fits_take l k hlt hfit.out)
      have hxk := Hx.out l[k] (List.getElem_mem _)
      generalize l[k] = p at hc0 hc1 htk hxk hfk
      obtain ⟨x, s⟩ := p
      dsimp only at hc0 hc1 hxk
      generalize sz (l.take k) = acc at htk hszk
      have hk0 : (0 : Int) ≤ (k : Int) := by omega
      have hkl : (k : Int) < (l.length : Int) := by omega
      clear hcell hr Hx hfit
      by_cases h1 : s < 1
      · have hd1 : decide (s < 1) = true := by simpa using h1
        go_wp2_with fail
        go_quiet (fail)
        go_wp2
        go_ret
        exact ⟨rfl, ⟨hb.os, hb.tape, hb.output, hb.size, hb.block⟩⟩
      have hd1 : decide (s < 1) = false := by simpa using h1
      by_cases h8 : 8 < s
      · have hd8 : decide (8 < s) = true := by simpa using h8
        go_wp2_with fail
        go_quiet (fail)
        go_wp2
        go_ret
        exact ⟨rfl, ⟨hb.os, hb.tape, hb.output, hb.size, hb.block⟩⟩
      have hd8 : decide (8 < s) = false := by simpa using h8
      obtain ⟨s, rfl⟩ := Int.eq_ofNat_of_zero_le (show 0 ≤ s by omega)
      by_cases h7 : (s : Int) < 8
      · have hd7 : decide ((s : Int) < 8) = true := by simpa using h7
        go_wp2_with fail
        go_quiet (fail)
        clear hd1 hd8 hd7
        go_wp2_with fail
        · go_ret
          exact ⟨rfl, ⟨hb.os, hb.tape, hb.output, hb.size, hb.block⟩⟩
        · have hle : (x : Int) / 2 ^ (8 * s) ≤ 0 := by assumption
          have hfit2 := hfk.out (fits_of x s (by omega) (by omega) hle)
          go_roundw
          case rel => exact ⟨k + 1, by omega, by go_num, by rw [htk.out]; go_num, hfit2, ⟨hb.os, hb.tape, hb.output, hb.size, hb.block⟩⟩
          case measure => simp [intOf]; omega
      · have hd7 : decide ((s : Int) < 8) = false := by simpa using h7
        obtain rfl : s = 8 := by omega
        go_wp2_with fail
        go_quiet (fail)
        clear hd1 hd8 hd7
        go_wp2_with fail
        have hfit2 := hfk.out (fits_full x hxk.1)
        go_roundw
        case rel => exact ⟨k + 1, by omega, by go_num, by rw [htk.out]; go_num, hfit2, ⟨hb.os, hb.tape, hb.output, hb.size, hb.block⟩⟩
        case measure => simp [intOf]; omega
    · have hk2 : k = l.length := by omega
      subst hk2
      rw [List.take_length] at hfit hszk ⊢
      have hxs : ∀ x ∈ l, x.1 < 18446744073709551616 := fun x hx => (Hx.out x hx).1
      have hlen := putS_sz l hfit.out
      have HL := Lib.hid hlen
      clear hlen
      go_wp2_with fail
      refine (put_any A l.length c l wr ((hr.below hb (Nat.le_refl _)).more hb.size) (by omega) hxs).mono ?_
      rintro e w2 ⟨A2, c2, rfl, hown2, b2⟩
      rw [HL.out] at hown2 ⊢
      have B2 := hb.trans (b2.mono hb.size)
      have r2 := Row.of_own hown2
      have cap2 := own_cap hown2
      clear b2 hown2 hxs
      go_wp2_with fail
      refine (new_any A2 (sz l) c2 (putS l) w2 r2 (by omega)).mono ?_
      rintro e w3 ⟨g, rfl, hg, hc3, b3⟩
      have r3 := r2.below b3 (Nat.le_refl _)
      have B3 := B2.trans (b3.mono B2.size)
      have z3 := B3.size
      have z2 := B2.size
      clear b3 r2 B2 b1 hb
      obtain ⟨wq, hwq⟩ : ∃ wq : World, wq = w3 := ⟨_, rfl⟩
      rw [← hwq] at hc3 r3 B3 z3 ⊢
      clear hwq
      go_upto_if 79 with fail
      go_cut [10] (fun s10 wx => wx = wq ∧ ∃ k0 : Nat, s10 = .int .i64 k0 ∧ ((sz l = 0 ∧ k0 = 0) ∨ k0 < sz l))
      case first =>
        clear hc3 r3 B3
        by_cases hz : 0 < sz l
        · have hz1 : (1 : Int) ≤ (sz l : Int) := by omega
          have hm := Nat.mod_lt at0 hz
          go_wp2_with fail
          all_goals go_meet
          all_goals exact ⟨rfl, at0 % sz l, by go_num, .inr hm⟩
        · have hz0 : ¬ (0 : Int) < (sz l : Int) := by omega
          go_wp2_with fail
          all_goals go_meet
          all_goals exact ⟨rfl, 0, rfl, .inl ⟨by omega, rfl⟩⟩
      case rest =>
        obtain ⟨rfl, k0, rfl, hk0⟩ := hcut
        have hk0l : k0 ≤ sz l := by omega
        have hk0c : (k0 : Int) ≤ (c2 : Int) := by omega
        have hk00 : (0 : Int) ≤ (k0 : Int) := by omega
        have hc2m : (c2 : Int) ≤ 9223372036854775807 := by have := cap2.2; unfold maxLen at this; omega
        have rt := r3.take hk0l
        rw [← u8s_take] at rt
        go_wp2_with fail
        refine (new_any A2 k0 c2 _ wc (rt.more (by have := hc3.lt; omega)) (by omega)).mono ?_
        rintro e w4 ⟨g2, rfl, hg2, hc4, b4⟩
        have hlt3 := hc3.lt
        have hc5 := hc3.below b4 hlt3
        have B4 := B3.trans (b4.mono z3)
        have hct : Cutted ((putS l).take k0) 0 k0 (sz (l.take 0)) := .inl ⟨rfl, by rw [List.take_zero, List.length_take, HL.out]; show min k0 (sz l) + 0 = k0; omega⟩
        clear hc3 r3 B3 b4 rt
        go_wp2_with fail
        go_loopw [12] (fun i wr => ∃ (j : Nat) (rs : List UInt8) (e2 : Int), j ≤ l.length ∧ i = .int .i64 j ∧ CutAt wr w2.heap.size g (putS (l.drop j)) 0 ∧ CutAt wr wc.heap.size g2 rs e2 ∧ Cutted rs e2 k0 (sz (l.take j)) ∧ Below w.heap.size w wr) (fun i _ => l.length - (intOf i).toNat)
        case atStart => exact ⟨0, _, 0, Nat.zero_le _, rfl, by simpa using hc5, hc4, hct, B4⟩
        case round =>
          clear hc5 hc4 B4 hct
          obtain ⟨j, rs, e2, hj, rfl, hcA, hcB, hcu, hb⟩ := hrel
          by_cases hlt : j < l.length
          · obtain ⟨ga, o, hA, hga, hcell⟩ := hr.2 (by omega)
            subst hA
            have hs0 := hcell _ _ (partC_get l j hlt).1
            have hs1 := hcell _ _ (partC_get l j hlt).2
            have htk := sz_take l j hlt
            have hfj := hfit.out l[j] (List.getElem_mem _)
            have hdrop : l.drop j = l[j] :: l.drop (j + 1) := List.drop_eq_getElem_cons hlt
            rw [hdrop, putS_cons] at hcA
            generalize l[j] = p at hs0 hs1 htk hfj hcA hdrop
            clear hdrop
            obtain ⟨x, s⟩ := p
            obtain ⟨hf1, hf8, hfx⟩ := hfj
            dsimp only at hs0 hs1 htk hf1 hf8 hfx
            obtain ⟨s, rfl⟩ := Int.eq_ofNat_of_zero_le (show 0 ≤ s by omega)
            rw [Int.toNat_natCast] at htk hfx
            rw [putOne_yes x (by omega) (by omega)] at hcA
            obtain ⟨p1, p2, p3⟩ := head_part x s (putS (l.drop (j + 1))) (by omega) (by omega) hfx
            have hcu2 := hcu.next (n := s) (by omega) (by omega)
            rw [← htk] at hcu2
            obtain ⟨wo, rfl⟩ : ∃ wo : World, wo = wr := ⟨_, rfl⟩
            have ht0 := (hb.cell (p := ⟨ga, o + j * 2, none⟩) hga).trans hs0
            have ht1 := (hb.cell (p := ⟨ga, o + j * 2 + 1, none⟩) hga).trans hs1
            have hcAd : CutAt wo.drew w2.heap.size g _ 0 := hcA
            have zo := hb.size
            have HP := Lib.hid (And.intro p1 (And.intro p2 p3))
            clear hcell htk p1 p2 p3 hcu
            have Hcu := Lib.hid hcu2
            clear hcu2
            go_upto_region 24 with fail
            go_cut [106] (fun s106 wx => s106 = .bool false ∧ CutAt wx w2.heap.size g (putS (l.drop (j + 1))) 0 ∧ CutAt wx wc.heap.size g2 rs e2 ∧ Below w.heap.size w wx)
            case first =>
              have hgg : some (⟨ga, 0, none⟩ : Addr).block ≠ some g := by simp; omega
              have hcBd : CutAt wo.drew wc.heap.size g2 rs e2 := hcB
              have Hlo : Hid (∀ q, some g = some q → q < wc.heap.size) := fun q hq => by injection hq with hq; omega
              have Hlw : Hid (∀ q, some g = some q → w.heap.size ≤ q) := fun q hq => by injection hq with hq; omega
              go_region_held3 (fun w' => w'.cell? ⟨ga, o + j * 2, none⟩ = some (.int .u64 (x : Int)) ∧ w'.cell? ⟨ga, o + j * 2 + 1, none⟩ = some (.int .i64 (s : Int)))
                (first | exact ⟨ht0, ht1⟩ | exact ⟨k6 _ _ ht0, k6 _ _ ht1⟩)
                (first | (go_at_call 17; refine (num_any g _ 0 s _ hcAd).mono ?_; rintro e w6 ⟨rfl, hc6, g6⟩; rw [HP.out.1]; rw [HP.out.2.1, HP.out.2.2] at hc6; have k6 : ∀ q v, wo.cell? ⟨ga, q, none⟩ = some v → w6.cell? ⟨ga, q, none⟩ = some v := fun q v h => g6.cell (a := ⟨ga, q, none⟩) h hgg; have hcB6 := hcBd.kept g6 Hlo.out hg2; have B6 := hb.drew.grown g6 zo Hlw.out))
              all_goals (go_wp2_with fail; go_meet)
              all_goals exact ⟨by simp, hc6, hcB6, B6⟩
            case rest =>
              obtain ⟨rfl, hcA6, hcB6, B6⟩ := hcut
              have hu1 := (B6.cell (p := ⟨ga, o + j * 2 + 1, none⟩) hga).trans hs1
              clear hcA hcB hb hcAd ht0 ht1 hs0 HP
              go_wp2_with fail
              refine (num_any g2 rs e2 s _ hcB6).mono ?_
              rintro e w7 ⟨rfl, hcB7, g7⟩
              have hcA7 := hcA6.grown g7 (fun q hq => by injection hq with hq; omega)
              have B7 := B6.grown g7 B6.size (fun q hq => by injection hq with hq; omega)
              clear hu1 hs1 hcA6 hcB6 B6 g7
              go_wp2_with fail
              go_roundw
              case rel => exact ⟨j + 1, _, _, by omega, by go_num, hcA7, hcB7, Hcu.out, B7⟩
              case measure => simp [intOf]; omega
          · have hj2 : j = l.length := by omega
            subst hj2
            have H := Lib.hid hb
            rw [List.drop_length, putS_nil] at hcA
            rw [List.take_length] at hcu
            clear hb hr
            have hq : (sz l = 0) ∨ (0 < sz l ∧ e2 = 10) := by
              rcases hk0 with ⟨h0, _⟩ | h0
              · exact .inl h0
              · rcases hcu with ⟨rfl, h1⟩ | h1
                · omega
                · exact .inr ⟨by omega, h1⟩
            rcases hq with hq | ⟨hq, rfl⟩
            · have hqb : ((sz l : Int) == 0) = true := by simp [hq]
              clear hq hcu
              go_wp2_with (first
                | (go_at_call 18; refine (left_any g _ _ _ hcA).mono ?_; rintro e w' ⟨rfl, rfl⟩)
                | (go_at_call_of 19 (Value.pointer (some ⟨g, 0, none⟩)); refine (err_any g _ _ _ hcA).mono ?_; rintro e w' ⟨rfl, rfl⟩))
              go_ret
              exact ⟨rfl, H.out⟩
            · have hqb : ((sz l : Int) == 0) = false := by simp; omega
              clear hcu
              go_wp2_with (first
                | (go_at_call 18; refine (left_any g _ _ _ hcA).mono ?_; rintro e w' ⟨rfl, rfl⟩)
                | (go_at_call_of 19 (Value.pointer (some ⟨g, 0, none⟩)); refine (err_any g _ _ _ hcA).mono ?_; rintro e w' ⟨rfl, rfl⟩)
                | (go_at_call_of 19 (Value.pointer (some ⟨g2, 0, none⟩)); refine (err_any g2 _ _ _ hcB).mono ?_; rintro e w' ⟨rfl, rfl⟩))
              go_ret
              exact ⟨rfl, H.out⟩

set_option maxRecDepth 100000 in
theorem lifted (os : Os) (started : os.Started) (H : Type) (enc : TypeId × Value → H) :
    ReturnsInHanded {} Try.checked os 5 .any (Rows.octetBackSpec.pre6 enc Try.prog Try.f5 Rows.octetBackRow.domain false) (Rows.octetBackSpec.post enc Try.prog Try.f5 false true false false) := by
  refine returnsInHanded_of_change (C := Try.checked) own started (by kernel_rfl) Try.func5
    (ChangeSpec.witness6 (enc := enc) (C := Try.checked) false ⟨#[], #[.slice none 0 0, .int .u16 0], []⟩ 8 (by kernel_rfl) (by kernel_rfl) (by kernel_rfl) (by kernel_rfl)) ?_
  intro W base args ds gs before hval0 hW _ _
  have hval : ∀ (j : Nat) t v, Try.f5.params[j]? = some t → args[j]? = some v → Value.okWide Try.prog W .any base t v := hval0
  have hW' := hW
  obtain ⟨p, q, hA0, hV, _, _, _⟩ := hW
  have hA : DataW.TrodAll enc Try.prog W 0 (fun _ => true) true Try.f5.params.toList args.toList ds p := hA0
  rw [Try.params5] at hA hval
  obtain ⟨v0, vs0, d0, ds0, p0, q0, hargs, rfl, _, h0, r0⟩ := trodAll_cons hA
  obtain ⟨v1, vs1, d1, ds1, p1, q1, rfl, rfl, _, h1, r1⟩ := trodAll_cons r0
  obtain ⟨rfl, rfl, _⟩ := trodAll_nil r1
  obtain rfl : args = #[v0, v1] := by cases args; simp_all
  obtain ⟨rfl, _⟩ := trodVars_none hV
  refine law_post (s := Rows.octetBackSpec) rfl rfl (by rw [Try.params5]; intro t ht; simp at ht; rcases ht with rfl | rfl <;> exact ⟨by kernel_rfl, of_decide_eq_true (by kernel_rfl)⟩) rfl hW' ?_
  obtain ⟨A0, c0, l0, rfl, hl0, hr0, hx0⟩ := open_parts (hval 0 22 v0 rfl rfl) h0
  obtain ⟨a1, rfl, _, _, w1⟩ := open_int Try.underlying48 (hval 1 48 v1 rfl rfl) h1
  exact walk W A0 c0 l0 hl0 hr0 hx0 a1 w1

theorem over : Rows.octetBackRow.holds Try.pinned (OpenSpec.ofChange Rows.octetBackSpec) :=
  OpenClaim.holds_of_wide 5 Try.f5 rfl rfl rfl rfl rfl rfl rfl ⟨rfl, rfl, rfl, rfl, rfl⟩ rfl rfl rfl rfl rfl (by kernel_rfl) Try.func5 (by kernel_rfl)
    (of_decide_eq_true (by kernel_rfl)) (by unfold Func.isWrapper; first | (rw [if_pos (by decide +kernel)]; kernel_rfl) | (rw [if_neg (by decide +kernel)]; exact ⟨rfl, rfl⟩))
    (fun os started H enc _ => lifted os started H enc)

/-- The statement. -/
theorem octetBack_holds : Rows.OctetBackSaid := over
end Go.Proofs.Ytahaeeedpnoelaa.Back
