/-
  The contract of the document's Put of layer 5.
-/
import Derived.Test.YtdfbbmaaonkjiaaExtH
namespace Go.Proofs.Ytdfbbmaaonkjiaa
open Go.RowKit

/-- string([]byte{a, b}). -/
theorem run_text_two {P : Program} (w : World) (src e dst : TypeId) (hs : P.underlying src = some (.slice e)) (he : P.underlying e = some (.int .u8)) (hd : P.underlying dst = some .string)
    (a b : UInt8) : (convert src dst (.slice (some ⟨w.heap.size, 0, none⟩) 2 2)).run P (w.alloc (.cells #[.int .u8 (a.toNat : Int), .int .u8 (b.toNat : Int)] e)) = .ok (.string (str [a, b])) (w.alloc (.cells #[.int .u8 (a.toNat : Int), .int .u8 (b.toNat : Int)] e)) :=
  run_text (P := P) _ src e dst hs he hd _ _ 2 2 [a, b] (Row.fresh w e _ 1 2 _ rfl rfl)

def RefPutTold (l : List It) (w : World) (e : Ending) (w' : World) : Prop :=
  e = .returned (.tuple #[.int .u16 (putP l), .string (str (putB l)), .int .i64 (putE l)]) ∧ Below w.heap.size w w'

theorem big_eq (i : It) : i.big = !(decide (i.id.toNat < 15) && decide (0 < i.d.length) && decide (i.d.length < 17)) := by
  unfold It.big
  generalize i.id.toNat = x
  generalize i.d.length = n
  by_cases h1 : x < 15 <;> by_cases h2 : 0 < n <;> by_cases h3 : n < 17 <;> simp [h1, h2, h3] <;> omega
def strV : Value → Nat
  | .string s => s.size
  | _ => 0

set_option maxRecDepth 100000 in
set_option maxHeartbeats 3200000 in
theorem refPut_any (A : Option Addr) (c : Nat) (l : List It) (w : World) (h : Row w w.heap.size 2 A l.length (itC l)) (hl : l.length ≤ 20) (hd : ∀ i ∈ l, i.d.length ≤ 300) :
    Calls Try.prog 12 #[.slice A l.length c] w (RefPutTold l w) := by
  by_cases h14 : 14 < l.length
  · have he : putE l = 13 := by unfold putE; rw [if_pos h14]
    have HF := Lib.hid (show RefPutTold l w (.returned (.tuple #[.int .u16 0, .string ⟨#[]⟩, .int .i64 13])) w from ⟨by rw [putB_no (by simp [he]), putP_no (by simp [he]), he]; rfl, Below.refl _ _⟩)
    clear he h
    go_enter Try.func12, Try.ntmps12
    go_wp2
    go_ret3
    exact HF.out
  have H := Lib.hid h
  have HD := Lib.hid hd
  clear h hd
  go_enter Try.func12, Try.ntmps12
  go_wp2_with fail
  go_loop [5, 6] (fun a i => ∃ (k : Nat) (bg : Bool), k ≤ l.length ∧ i = .int .i64 k ∧ a = .bool (!bg) ∧ Hid (bg = (l.take k).any It.big) ∧ Hid ((l.take k).any It.wrong = false)) (fun _ i => l.length - (intOf i).toNat)
  case atStart => exact ⟨0, false, Nat.zero_le _, rfl, rfl, rfl, rfl⟩
  case round =>
    obtain ⟨k, bg, hk, rfl, rfl, hbg, hwr⟩ := hrel
    by_cases hlt : k < l.length
    · obtain ⟨g, o, hA, hg, c0, c1⟩ := itC_at H.out k hlt
      subst hA
      have hlen := HD.out l[k] (List.getElem_mem _)
      have hm : l[k] ∈ l := List.getElem_mem _
      have htk : l.take (k + 1) = l.take k ++ [l[k]] := List.take_succ_eq_append_getElem hlt
      generalize l[k] = i at c0 c1 hlen htk hm
      have HT := Lib.hid htk
      have HM := Lib.hid hm
      have hi1 : (0 : Int) ≤ (k : Int) := by omega
      have hi2 : (k : Int) < (l.length : Int) := by omega
      have hib := i.id.toNat_lt
      clear htk hm
      cases hw : i.wrong with
      | true =>
        have he : putE l = 1 := by unfold putE; rw [if_neg h14, if_pos (List.any_eq_true.2 ⟨i, HM.out, hw⟩)]
        have HF := Lib.hid (show RefPutTold l w (.returned (.tuple #[.int .u16 0, .string ⟨#[]⟩, .int .i64 1])) w from ⟨by rw [putB_no (by simp [he]), putP_no (by simp [he]), he]; rfl, Below.refl _ _⟩)
        unfold It.wrong at hw
        rw [decide_eq_true_eq] at hw
        clear he
        by_cases h0 : i.id.toNat = 0
        · have h0' : (i.id.toNat : Int) = 0 := by omega
          clear hw
          go_wp2
          go_ret3
          exact HF.out
        · have h0' : ¬ (i.id.toNat : Int) = 0 := by omega
          have h1' : (255 : Int) < (i.d.length : Int) := by omega
          clear hw
          go_wp2
          go_ret3
          exact HF.out
      | false =>
        obtain ⟨w0, w1⟩ := It.wrong_no hw
        have h0' : ¬ (i.id.toNat : Int) = 0 := by omega
        have h1' : ¬ (255 : Int) < (i.d.length : Int) := by omega
        have HWN : Hid ((l.take (k + 1)).any It.wrong = false) := by
          show _ = false
          rw [HT.out, List.any_append, hwr.out]
          simp [hw]
        have HBN : Hid ((bg || i.big) = (l.take (k + 1)).any It.big) := by
          show _ = _
          rw [HT.out, List.any_append, ← hbg.out]
          simp
        clear hw hwr hbg HM w0 w1
        cases bg with
        | true =>
          go_wp2
          go_round
          case rel => exact ⟨k + 1, true, by omega, by go_num, rfl, HBN, HWN⟩
          case measure => simp [intOf]; omega
        | false =>
          have hval := big_eq i
          rw [Bool.false_or, hval] at HBN
          clear hval
          by_cases t1 : i.id.toNat < 15 <;> by_cases t2 : 0 < i.d.length <;> by_cases t3 : i.d.length < 17
          all_goals try (exfalso; omega)
          all_goals
            simp only [t1, t2, t3, decide_true, decide_false, Bool.and_true, Bool.and_false, Bool.not_true, Bool.not_false, Bool.and_self] at HBN
            have HB2 := HBN
            clear HBN
            go_wp2
            go_round
            case rel => exact ⟨k + 1, _, by omega, by go_num, by first | rfl | (simp; omega), HB2, HWN⟩
            case measure => simp [intOf]; omega
    · obtain rfl : k = l.length := by omega
      rw [List.take_length] at hbg hwr
      have he : putE l = 0 := by unfold putE; rw [if_neg h14, hwr.out]; rfl
      have hok := (any_wrong he).2
      have HOK := Lib.hid hok
      clear hok hwr hlt
      cases bg with
      | true =>
        have HF := Lib.hid (fun w' (hb : Below w.heap.size w w') => show RefPutTold l w (.returned (.tuple #[.int .u16 4096, .string (str (pad (enc hdL l))), .int .i64 0])) w' from ⟨by rw [putB_big he hbg.out.symm, putP_big he hbg.out.symm, he], hb⟩)
        have hall : Hid (∀ i ∈ l, i.d.length ≤ 255) := fun i hi => (It.wrong_no (HOK.out i hi)).2
        obtain ⟨bs, hbs⟩ : ∃ bs, bs = enc hdL l := ⟨_, rfl⟩
        have HBS := Lib.hid hbs
        have hacc0 : Hid (∀ k, (enc hdL (l.take k)).length ≤ 3598) := by
          intro k
          have := enc_len hdL 2 255 hdL_len (l.take k) (fun i hi => (It.wrong_no (HOK.out i (List.mem_of_mem_take hi))).2)
          have h2 : (l.take k).length ≤ 14 := by simp; omega
          have h3 : (l.take k).length * (2 + 255) ≤ 14 * (2 + 255) := Nat.mul_le_mul_right _ h2
          omega
        clear he hbg hbs
        go_wp2_with fail
        go_loopw [8, 9] (fun s i wr => ∃ k : Nat, k ≤ l.length ∧ i = .int .i64 k ∧ s = .string (str (enc hdL (l.take k))) ∧ Below w.heap.size w wr) (fun _ i _ => l.length - (intOf i).toNat)
        case atStart => exact ⟨0, Nat.zero_le _, rfl, rfl, Below.refl _ _⟩
        case round =>
          obtain ⟨k, hk, rfl, rfl, hb⟩ := hrel
          have hacc := hacc0.out k
          by_cases hlt : k < l.length
          · obtain ⟨g, o, hA, hg, c0, c1⟩ := itC_at ((H.out.below hb (Nat.le_refl _)).more hb.size) k hlt
            subst hA
            have hq := hall.out l[k] (List.getElem_mem _)
            have htk := enc_take hdL l k hlt
            generalize l[k] = i at c0 c1 hq htk
            generalize enc hdL (l.take k) = acc at hacc htk ⊢
            have HT := Lib.hid htk
            have hi1 : (0 : Int) ≤ (k : Int) := by omega
            have hi2 : (k : Int) < (l.length : Int) := by omega
            have hib := i.id.toNat_lt
            obtain ⟨h, hh⟩ : ∃ h, h = hdL i := ⟨_, rfl⟩
            have HH := Lib.hid hh
            have hhl : h.length = 2 := by rw [hh]; rfl
            have hcv : (convert 26 9 (.slice (some ⟨wr.heap.size, 0, none⟩) 2 2)).run Try.prog (wr.alloc (.cells #[.int .u8 (i.id.toNat : Int), .int .u8 (i.d.length : Int)] 5)) = .ok (.string (str h)) (wr.alloc (.cells #[.int .u8 (i.id.toNat : Int), .int .u8 (i.d.length : Int)] 5)) := by
              have := run_text_two (P := Try.prog) wr 26 5 9 Try.underlying26 Try.underlying5 Try.underlying9 i.id (UInt8.ofNat i.d.length)
              rw [show (UInt8.ofNat i.d.length).toNat = i.d.length by rw [UInt8.toNat_ofNat']; omega] at this
              rw [this, hh]
              rfl
            have HL := Lib.hid hhl
            have hhl2 : h.length ≤ 2 := by omega
            have ga := hb.alloc hb.size
            have HB := Lib.hid ga
            clear htk hh hhl hb ga
            go_wp2
            go_roundw
            case rel => exact ⟨k + 1, by omega, by go_num, by rw [HT.out, ← HH.out], HB.out _⟩
            case measure => simp [intOf]; omega
          · obtain rfl : k = l.length := by omega
            rw [List.take_length, ← HBS.out] at hacc ⊢
            rw [← HBS.out] at HF
            clear hacc0 hall H
            go_wp2_with fail
            go_loop [8] (fun s => ∃ m : Nat, m ≤ padN bs.length ∧ s = .string (str (bs ++ List.replicate m (0 : UInt8)))) (fun s => bs.length + 4 - strV s)
            case atStart => exact ⟨0, Nat.zero_le _, by simp⟩
            case round =>
              obtain ⟨m, hm, rfl⟩ := hrel
              have hm3 : padN bs.length ≤ 3 := by unfold padN; omega
              have hN3 : (bs ++ List.replicate m (0 : UInt8)).length = bs.length + m := by simp
              by_cases hlt2 : m < padN bs.length
              · have h4 := pad_step bs m hlt2
                have hrep : bs ++ List.replicate (m + 1) (0 : UInt8) = (bs ++ List.replicate m (0 : UInt8)) ++ [0] := by rw [List.replicate_succ', List.append_assoc]
                rw [hN3] at h4
                generalize bs ++ List.replicate m (0 : UInt8) = L at hrep hN3 ⊢
                have HR := Lib.hid hrep
                have h4' : ¬ ((bs.length : Int) + m) % 4 = 0 := by omega
                have hadd : (Op.stringOp .add (str L) ⟨#[0]⟩).run Try.prog wr = .ok (.string (str (L ++ [0]))) wr := run_str_add (P := Try.prog) wr L [0] (by simp; omega)
                clear hrep h4
                go_wp2
                go_round
                case rel => exact ⟨m + 1, by omega, by rw [HR.out]⟩
                case measure => simp [strV, str_size, hN3]; omega
              · obtain ⟨h4, hp⟩ := pad_done bs m hm hlt2
                rw [hp] at h4 ⊢
                have hpl : (pad bs).length ≤ 3601 := by rw [← hp, hN3]; omega
                have h4' : ((pad bs).length : Int) % 4 = 0 := by omega
                have HG := Lib.hid (HF.out wr hb)
                clear hp h4 hN3 HF
                go_wp2
                go_ret3
                exact HG.out
      | false =>
        have HF := Lib.hid (fun w' (hb : Below w.heap.size w w') => show RefPutTold l w (.returned (.tuple #[.int .u16 48862, .string (str (pad (enc hdS l))), .int .i64 0])) w' from ⟨by rw [putB_small he hbg.out.symm, putP_small he hbg.out.symm, he], hb⟩)
        have hall : Hid (∀ i ∈ l, i.id.toNat ≤ 14 ∧ 1 ≤ i.d.length ∧ i.d.length ≤ 16) := fun i hi => It.big_no (any_big hbg.out.symm i hi)
        obtain ⟨bs, hbs⟩ : ∃ bs, bs = enc hdS l := ⟨_, rfl⟩
        have HBS := Lib.hid hbs
        have hacc0 : Hid (∀ k, (enc hdS (l.take k)).length ≤ 3598) := by
          intro k
          have := enc_len hdS 1 255 hdS_len (l.take k) (fun i hi => (It.wrong_no (HOK.out i (List.mem_of_mem_take hi))).2)
          have h2 : (l.take k).length ≤ 14 := by simp; omega
          have h3 : (l.take k).length * (1 + 255) ≤ 14 * (1 + 255) := Nat.mul_le_mul_right _ h2
          omega
        clear he hbg hbs
        go_wp2_with fail
        go_loopw [8, 9] (fun s i wr => ∃ k : Nat, k ≤ l.length ∧ i = .int .i64 k ∧ s = .string (str (enc hdS (l.take k))) ∧ Below w.heap.size w wr) (fun _ i _ => l.length - (intOf i).toNat)
        case atStart => exact ⟨0, Nat.zero_le _, rfl, rfl, Below.refl _ _⟩
        case round =>
          obtain ⟨k, hk, rfl, rfl, hb⟩ := hrel
          have hacc := hacc0.out k
          by_cases hlt : k < l.length
          · obtain ⟨g, o, hA, hg, c0, c1⟩ := itC_at ((H.out.below hb (Nat.le_refl _)).more hb.size) k hlt
            subst hA
            have hq := hall.out l[k] (List.getElem_mem _)
            have htk := enc_take hdS l k hlt
            generalize l[k] = i at c0 c1 hq htk
            generalize enc hdS (l.take k) = acc at hacc htk ⊢
            have HT := Lib.hid htk
            have hi1 : (0 : Int) ≤ (k : Int) := by omega
            have hi2 : (k : Int) < (l.length : Int) := by omega
            have hib := i.id.toNat_lt
            obtain ⟨h, hh⟩ : ∃ h, h = hdS i := ⟨_, rfl⟩
            have HH := Lib.hid hh
            have hhl : h.length = 1 := by rw [hh]; rfl
            have hcv : (convert 26 9 (.slice (some ⟨wr.heap.size, 0, none⟩) 1 1)).run Try.prog (wr.alloc (.cells #[.int .u8 ((i.id.toNat : Int) * 16 + i.d.length - 1)] 5)) = .ok (.string (str h)) (wr.alloc (.cells #[.int .u8 ((i.id.toNat : Int) * 16 + i.d.length - 1)] 5)) := by
              have := run_text_one (P := Try.prog) wr 26 5 9 Try.underlying26 Try.underlying5 Try.underlying9 ((i.id.toNat : Int) * 16 + i.d.length - 1) (by omega) (by omega)
              rw [this, hh]
              have e : ((i.id.toNat : Int) * 16 + i.d.length - 1).toNat = i.id.toNat * 16 + (i.d.length - 1) := by omega
              rw [e]
              rfl
            have HL := Lib.hid hhl
            have hhl2 : h.length ≤ 2 := by omega
            have ga := hb.alloc hb.size
            have HB := Lib.hid ga
            clear htk hh hhl hb ga
            go_wp2
            go_roundw
            case rel => exact ⟨k + 1, by omega, by go_num, by rw [HT.out, ← HH.out], HB.out _⟩
            case measure => simp [intOf]; omega
          · obtain rfl : k = l.length := by omega
            rw [List.take_length, ← HBS.out] at hacc ⊢
            rw [← HBS.out] at HF
            clear hacc0 hall H
            go_wp2_with fail
            go_loop [8] (fun s => ∃ m : Nat, m ≤ padN bs.length ∧ s = .string (str (bs ++ List.replicate m (0 : UInt8)))) (fun s => bs.length + 4 - strV s)
            case atStart => exact ⟨0, Nat.zero_le _, by simp⟩
            case round =>
              obtain ⟨m, hm, rfl⟩ := hrel
              have hm3 : padN bs.length ≤ 3 := by unfold padN; omega
              have hN3 : (bs ++ List.replicate m (0 : UInt8)).length = bs.length + m := by simp
              by_cases hlt2 : m < padN bs.length
              · have h4 := pad_step bs m hlt2
                have hrep : bs ++ List.replicate (m + 1) (0 : UInt8) = (bs ++ List.replicate m (0 : UInt8)) ++ [0] := by rw [List.replicate_succ', List.append_assoc]
                rw [hN3] at h4
                generalize bs ++ List.replicate m (0 : UInt8) = L at hrep hN3 ⊢
                have HR := Lib.hid hrep
                have h4' : ¬ ((bs.length : Int) + m) % 4 = 0 := by omega
                have hadd : (Op.stringOp .add (str L) ⟨#[0]⟩).run Try.prog wr = .ok (.string (str (L ++ [0]))) wr := run_str_add (P := Try.prog) wr L [0] (by simp; omega)
                clear hrep h4
                go_wp2
                go_round
                case rel => exact ⟨m + 1, by omega, by rw [HR.out]⟩
                case measure => simp [strV, str_size, hN3]; omega
              · obtain ⟨h4, hp⟩ := pad_done bs m hm hlt2
                rw [hp] at h4 ⊢
                have hpl : (pad bs).length ≤ 3601 := by rw [← hp, hN3]; omega
                have h4' : ((pad bs).length : Int) % 4 = 0 := by omega
                have HG := Lib.hid (HF.out wr hb)
                clear hp h4 hN3 HF
                go_wp2
                go_ret3
                exact HG.out
end Go.Proofs.Ytdfbbmaaonkjiaa
