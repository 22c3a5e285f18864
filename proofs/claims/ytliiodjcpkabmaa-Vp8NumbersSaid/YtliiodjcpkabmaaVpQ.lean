/-
  What the program reads, read by read, is what the bytes begin with.
-/
import Derived.Test.YtliiodjcpkabmaaVpH
namespace Go.Proofs.Ytliiodjcpkabmaa
open Go.RowKit

theorem s1_err (s : VS) (h : s.e = 10) : s.s1.e = 10 := by
  have r1 := rd_err s.l (e := s.e) (by rw [h]; decide)
  show picE s.l s.e = 10
  unfold picE
  rw [r1.1, if_neg (by decide), r1.2.2, h]
theorem a1_err (t : Nat) (s : VS) (h : s.e = 10) : (s.a1 t).e = 10 := by
  unfold VS.a1
  split
  · exact s1_err s h
  · exact h
theorem a2_err (t : Nat) (s : VS) (h : (s.a1 t).e = 10) : (s.a2 t).e = 10 := by
  unfold VS.a2
  split
  · show rdE _ _ = 10
    rw [(rd_err _ (by rw [h]; decide)).2.2, h]
  · exact h
theorem a3_err (t : Nat) (s : VS) (h : (s.a2 t).e = 10) : (s.a3 t).e = 10 := by
  unfold VS.a3
  split
  · show rdE _ _ = 10
    rw [(rd_err _ (by rw [h]; decide)).2.2, h]
  · exact h
theorem a5_e (t : Nat) (s : VS) : (s.a5 t).e = (s.a3 t).e ∧ (s.a5 t).l = (s.a3 t).l := by
  unfold VS.a5 VS.a4
  constructor <;> split <;> split <;> rfl

theorem a1_ok (t : Nat) (d : Dsc) (l : List UInt8) : match stPic t d l with
    | none => (VS.a1 t ⟨d, l, 0, 0⟩).e = 10
    | some (d', l') => VS.a1 t ⟨d, l, 0, 0⟩ = ⟨d', l', 0, 0⟩ := by
  unfold stPic VS.a1
  cases hb : bitN t 128 with
  | false => simp
  | true =>
    simp only [if_true]
    cases l with
    | nil =>
      show picE [] 0 = 10
      unfold picE
      rw [rd_nil.1, if_neg (by decide), rd_nil.2.2]
    | cons p r =>
      have h1 := rd_cons p r
      by_cases hp : p.toNat < 128
      · simp only [takePicS, if_pos hp, Option.map_some]
        simp only [VS.s1, picW, picX, picL, picE, h1.1, h1.2.1, h1.2.2, show ¬ 128 ≤ p.toNat by omega, decide_false, if_false]
      · cases r with
        | nil =>
          simp only [takePicS, if_neg hp, Option.map_none]
          show picE [p] 0 = 10
          unfold picE
          rw [h1.1, if_pos (by omega), h1.2.1, h1.2.2, rd_nil.2.2]
        | cons q r =>
          have h2 := rd_cons q r
          have hp2 := p.toNat_lt
          simp only [takePicS, if_neg hp, Option.map_some]
          simp only [VS.s1, picW, picX, picL, picE, h1.1, h1.2.1, h1.2.2, h2.1, h2.2.1, h2.2.2, show 128 ≤ p.toNat by omega, decide_true, if_true, show p.toNat % 128 = p.toNat - 128 by omega]
theorem a2_ok (t : Nat) (s : VS) (d : Dsc) (l : List UInt8) (h : s.a1 t = ⟨d, l, 0, 0⟩) : match stTl0 t d l with
    | none => (s.a2 t).e = 10
    | some (d', l') => s.a2 t = ⟨d', l', 0, 0⟩ := by
  unfold stTl0 VS.a2
  rw [h]
  cases hb : bitN t 64 with
  | false => simp
  | true =>
    simp only [if_true]
    cases l with
    | nil => exact rd_nil.2.2
    | cons p r =>
      have h1 := rd_cons p r
      simp only [VS.s2, h1.1, h1.2.1, h1.2.2]
theorem a5_ok (t : Nat) (s : VS) (d : Dsc) (l : List UInt8) (h : s.a2 t = ⟨d, l, 0, 0⟩) : match stLast t d l with
    | none => (s.a5 t).e = 10
    | some (d', l') => (s.a5 t).d = d' ∧ (s.a5 t).l = l' ∧ (s.a5 t).e = 0 := by
  have h5 := a5_e t s
  cases hb : (bitN t 32 || bitN t 16) with
  | false =>
    have e3 : s.a3 t = ⟨d, l, 0, 0⟩ := by unfold VS.a3; rw [hb, h]; simp
    rw [e3] at h5
    unfold stLast
    rw [hb]
    simp only [Bool.or_eq_false_iff] at hb
    refine ⟨?_, h5.2, h5.1⟩
    unfold VS.a5 VS.a4
    rw [hb.1, hb.2, e3]
    rfl
  | true =>
    unfold stLast
    rw [hb]
    cases l with
    | nil =>
      have e3 : (s.a3 t).e = 10 := by unfold VS.a3; rw [hb, h]; exact rd_nil.2.2
      show (s.a5 t).e = 10
      rw [h5.1, e3]
    | cons x r =>
      have h1 := rd_cons x r
      have e3 : s.a3 t = ⟨d, r, 0, x.toNat⟩ := by unfold VS.a3; rw [hb, h]; simp [VS.s3, h1.1, h1.2.1, h1.2.2]
      rw [e3] at h5
      refine ⟨?_, h5.2, h5.1⟩
      unfold VS.a5 VS.a4 setKey setTid
      rw [e3]
      split <;> split <;> rfl

/-- What Parse comes to. -/
def codeS (b : List UInt8) : VS := if 128 ≤ rdN b 0 then VS.all (firstD (rdN b 0)) (rdL b 0) (rdE b 0) else ⟨firstD (rdN b 0), rdL b 0, rdE b 0, 0⟩
theorem code_parse (b : List UInt8) : match parseS b with
    | none => (codeS b).e = 10
    | some (d, r) => (codeS b).d = d ∧ (codeS b).l = r ∧ (codeS b).e = 0 := by
  unfold codeS
  cases b with
  | nil =>
    show (if 128 ≤ rdN [] 0 then _ else _ : VS).e = 10
    rw [rd_nil.1, if_neg (by decide)]
    exact rd_nil.2.2
  | cons f r =>
    have h1 := rd_cons f r
    rw [h1.1, h1.2.1, h1.2.2]
    by_cases hf : f.toNat < 128
    · simp only [parseS, if_pos hf, if_neg (show ¬ 128 ≤ f.toNat by omega)]
      exact ⟨trivial, trivial, trivial⟩
    · rw [if_pos (by omega)]
      cases r with
      | nil =>
        simp only [parseS, if_neg hf]
        unfold VS.all
        rw [(a5_e _ _).1]
        exact a3_err _ _ (a2_err _ _ (a1_err _ _ rd_nil.2.2))
      | cons t r =>
        have h2 := rd_cons t r
        simp only [parseS, if_neg hf]
        unfold VS.all moreS
        rw [h2.1, h2.2.1, h2.2.2]
        have A1 := a1_ok t.toNat (firstD f.toNat) r
        cases hp : stPic t.toNat (firstD f.toNat) r with
        | none =>
          rw [hp] at A1
          simp only [Option.bind_none]
          rw [(a5_e _ _).1]
          exact a3_err _ _ (a2_err _ _ A1)
        | some x =>
          obtain ⟨d1, l1⟩ := x
          rw [hp] at A1
          simp only [Option.bind_some]
          have A2 := a2_ok t.toNat ⟨firstD f.toNat, r, 0, 0⟩ d1 l1 A1
          cases hq : stTl0 t.toNat d1 l1 with
          | none =>
            rw [hq] at A2
            simp only [Option.bind_none]
            rw [(a5_e _ _).1]
            exact a3_err _ _ A2
          | some y =>
            obtain ⟨d2, l2⟩ := y
            rw [hq] at A2
            simp only [Option.bind_some]
            exact a5_ok t.toNat ⟨firstD f.toNat, r, 0, 0⟩ d2 l2 A2
end Go.Proofs.Ytliiodjcpkabmaa
