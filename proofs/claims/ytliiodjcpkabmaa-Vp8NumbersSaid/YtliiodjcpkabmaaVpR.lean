/-
  Bytes with other numbers, as plain functions; bits that say nothing.
-/
import Derived.Test.YtliiodjcpkabmaaVpP
namespace Go.Proofs.Ytliiodjcpkabmaa
open Go.RowKit

theorem pic_put {t : Nat} {d : Dsc} (hb : bitN t 128 = true) (wide : Bool) (x : Nat) (l : List UInt8) :
    stPic t d (picB wide x ++ l) = some ({ d with hasPic := true, wide := wide, pic := if wide then x % 32768 else x % 128 }, l) := by
  unfold stPic picB
  rw [hb]
  cases wide with
  | true =>
    have e1 : (UInt8.ofNat (128 + x / 256 % 128)).toNat = 128 + x / 256 % 128 := toNat_of (by omega)
    have e2 : (UInt8.ofNat x).toNat = x % 256 := UInt8.toNat_ofNat' ..
    simp only [if_true, List.cons_append, List.nil_append, takePicS, e1, e2, show ¬ 128 + x / 256 % 128 < 128 by omega, if_false, Option.map_some, Option.some.injEq, Prod.mk.injEq, Dsc.mk.injEq, and_true, true_and]
    omega
  | false =>
    have e1 : (UInt8.ofNat (x % 128)).toNat = x % 128 := toNat_of (by omega)
    simp only [if_true, Bool.false_eq_true, if_false, List.cons_append, List.nil_append, takePicS, e1, show x % 128 < 128 by omega, Option.map_some]
theorem pic_back (p : UInt8) (h : p.toNat < 128) : picB false p.toNat = [p] := by
  simp only [picB, Bool.false_eq_true, if_false]
  rw [show p.toNat % 128 = p.toNat by omega, UInt8.ofNat_toNat]
theorem pic_back2 (p q : UInt8) (h : 128 ≤ p.toNat) : picB true ((p.toNat - 128) * 256 + q.toNat) = [p, q] := by
  have hp := p.toNat_lt
  have hq := q.toNat_lt
  simp only [picB, if_true]
  have e1 : UInt8.ofNat (128 + ((p.toNat - 128) * 256 + q.toNat) / 256 % 128) = p := by
    apply UInt8.toNat_inj.1
    rw [toNat_of (by omega)]
    omega
  have e2 : UInt8.ofNat ((p.toNat - 128) * 256 + q.toNat) = q := by
    apply UInt8.toNat_inj.1
    rw [UInt8.toNat_ofNat']
    omega
  rw [e1, e2]

theorem upd_key (t x : Nat) (d : Dsc) (pic tl0 : Nat) : (setKey t x (setTid t x d)).upd pic tl0 = setKey t x (setTid t x (d.upd pic tl0)) := by
  unfold setKey setTid Dsc.upd
  cases bitN t 32 <;> cases bitN t 16 <;> rfl
theorem last_upd {t : Nat} {d d1 : Dsc} {l l1 : List UInt8} (pic tl0 : Nat) (h : stLast t d l = some (d1, l1)) : stLast t (d.upd pic tl0) l = some (d1.upd pic tl0, l1) := by
  rcases lastForm h with ⟨hb, rfl, rfl⟩ | ⟨hb, x, rfl, rfl⟩
  · simp [stLast, hb]
  · simp only [stLast, hb, if_true, upd_key]

/-- What is written is parsed as what was, with these numbers; and back. -/
theorem write_facts {b r : List UInt8} {d : Dsc} (h : parseS b = some (d, r)) (pic tl0 : Nat) (ht : tl0 < 256) :
    parseS (writeS d pic tl0 b) = some (d.upd pic tl0, r) ∧ (writeS d pic tl0 b).length = b.length ∧ writeS (d.upd pic tl0) d.pic d.tl0 (writeS d pic tl0 b) = b := by
  rcases parse_cases h with ⟨f, hf, rfl, rfl⟩ | ⟨f, t, l, l1, l2, d1, d2, hf, rfl, h1, h2, h3⟩
  · have e : writeS (firstD f.toNat) pic tl0 (f :: r) = f :: r := by rw [show writeS (firstD f.toNat) pic tl0 (f :: r) = (f :: r).take 2 ++ [] ++ [] ++ (f :: r).drop 2 from rfl, List.append_nil, List.append_nil, List.take_append_drop]
    have e2 : (firstD f.toNat).upd pic tl0 = firstD f.toNat := by simp [Dsc.upd, firstD, dsc0]
    have e3 : writeS (firstD f.toNat) (firstD f.toNat).pic (firstD f.toNat).tl0 (f :: r) = f :: r := by rw [show writeS (firstD f.toNat) (firstD f.toNat).pic (firstD f.toNat).tl0 (f :: r) = (f :: r).take 2 ++ [] ++ [] ++ (f :: r).drop 2 from rfl, List.append_nil, List.append_nil, List.take_append_drop]
    rw [e, e2, e3]
    exact ⟨h, rfl, rfl⟩
  · have T := setT_more
    have hd : d.hasPic = d2.hasPic ∧ d.wide = d2.wide ∧ d.hasTl0 = d2.hasTl0 ∧ d.pic = d2.pic ∧ d.tl0 = d2.tl0 := by
      rcases lastForm h3 with ⟨hb, rfl, rfl⟩ | ⟨hb, z, rfl, rfl⟩
      · exact ⟨rfl, rfl, rfl, rfl, rfl⟩
      · have := T t.toNat z.toNat d2
        exact ⟨this.2.1, this.2.2.1, this.2.2.2.1, this.2.2.2.2.1, this.2.2.2.2.2.1⟩
    obtain ⟨k1, k2, k3, k4, k5⟩ := hd
    have h3' := last_upd pic tl0 h3
    have ew : ∀ b, writeS d pic tl0 b = writeS d2 pic tl0 b := fun b => by unfold writeS Dsc.pw; rw [k1, k2, k3]
    have eu : ∀ b, writeS (d.upd pic tl0) d.pic d.tl0 b = writeS (d2.upd pic tl0) d2.pic d2.tl0 b := fun b => by unfold writeS Dsc.pw Dsc.upd; simp only [k1, k2, k3, k4, k5]
    rw [ew, eu]
    clear ew eu k1 k2 k3 k4 k5
    have u1 : (UInt8.ofNat tl0).toNat = tl0 := toNat_of ht
    rcases picForm h1 with ⟨hp, rfl, rfl⟩ | ⟨hp, p, hpp, rfl, rfl⟩ | ⟨hp, p, q, hpp, rfl, rfl⟩ <;> rcases tl0Form h2 with ⟨hq, rfl, rfl⟩ | ⟨hq, x, rfl, rfl⟩
    -- neither
    · have e2 : (firstD f.toNat).upd pic tl0 = firstD f.toNat := by simp [Dsc.upd, firstD, dsc0]
      rw [e2] at h3' ⊢
      exact ⟨parse_of hf h1 h2 h3', rfl, rfl⟩
    -- Tl0
    · refine ⟨?_, rfl, ?_⟩
      · refine parse_of (l := UInt8.ofNat tl0 :: l2) (l1 := UInt8.ofNat tl0 :: l2) (l2 := l2) (d1 := firstD f.toNat) hf (by simp [stPic, hp]) ?_ h3'
        simp [stTl0, hq, u1, Dsc.upd, firstD, dsc0]
      · simp [writeS, Dsc.upd, Dsc.pw, firstD, dsc0]
    -- Pic of a byte
    · refine ⟨?_, rfl, ?_⟩
      · exact parse_of (l := picB false pic ++ l1) hf (pic_put hp false pic l1) (by simp [stTl0, hq, Dsc.upd, firstD, dsc0]) h3'
      · simp [writeS, Dsc.upd, Dsc.pw, firstD, dsc0, pic_back p hpp]
        simp [picB]
    -- both
    · refine ⟨?_, rfl, ?_⟩
      · exact parse_of (l := picB false pic ++ (UInt8.ofNat tl0 :: l2)) hf (pic_put hp false pic _) (by simp [stTl0, hq, u1, Dsc.upd, firstD, dsc0]) h3'
      · simp [writeS, Dsc.upd, Dsc.pw, firstD, dsc0, pic_back p hpp]
        simp [picB]
    -- Pic of two bytes
    · refine ⟨?_, rfl, ?_⟩
      · exact parse_of (l := picB true pic ++ l1) hf (pic_put hp true pic l1) (by simp [stTl0, hq, Dsc.upd, firstD, dsc0]) h3'
      · simp [writeS, Dsc.upd, Dsc.pw, firstD, dsc0, pic_back2 p q hpp]
        simp [picB]
    -- both
    · refine ⟨?_, rfl, ?_⟩
      · exact parse_of (l := picB true pic ++ (UInt8.ofNat tl0 :: l2)) hf (pic_put hp true pic _) (by simp [stTl0, hq, u1, Dsc.upd, firstD, dsc0]) h3'
      · simp [writeS, Dsc.upd, Dsc.pw, firstD, dsc0, pic_back2 p q hpp]
        simp [picB]
end Go.Proofs.Ytliiodjcpkabmaa
