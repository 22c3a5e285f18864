/-
  What follows of the plain functions of layer 7.
-/
import Derived.Test.YtliiodjcpkabmaaVpL
namespace Go.Proofs.Ytliiodjcpkabmaa
open Go.RowKit

theorem picForm {t : Nat} {d d1 : Dsc} {l l1 : List UInt8} (h : stPic t d l = some (d1, l1)) :
    bitN t 128 = false ∧ l = l1 ∧ d1 = d ∨ bitN t 128 = true ∧ (∃ p : UInt8, p.toNat < 128 ∧ l = p :: l1 ∧ d1 = { d with hasPic := true, wide := false, pic := p.toNat }) ∨
      bitN t 128 = true ∧ ∃ p q : UInt8, 128 ≤ p.toNat ∧ l = p :: q :: l1 ∧ d1 = { d with hasPic := true, wide := true, pic := (p.toNat - 128) * 256 + q.toNat } := by
  unfold stPic at h
  cases hb : bitN t 128 with
  | false =>
    rw [hb] at h
    simp at h
    exact .inl ⟨rfl, h.2, h.1.symm⟩
  | true =>
    rw [hb] at h
    simp only [if_true] at h
    cases l with
    | nil => simp [takePicS] at h
    | cons p r =>
      by_cases hp : p.toNat < 128
      · simp only [takePicS, if_pos hp, Option.map_some, Option.some.injEq, Prod.mk.injEq] at h
        exact .inr (.inl ⟨rfl, p, hp, by rw [h.2], h.1.symm⟩)
      · cases r with
        | nil => simp [takePicS, hp] at h
        | cons q r =>
          simp only [takePicS, if_neg hp, Option.map_some, Option.some.injEq, Prod.mk.injEq] at h
          exact .inr (.inr ⟨rfl, p, q, by omega, by rw [h.2], h.1.symm⟩)
theorem tl0Form {t : Nat} {d d1 : Dsc} {l l1 : List UInt8} (h : stTl0 t d l = some (d1, l1)) :
    bitN t 64 = false ∧ l = l1 ∧ d1 = d ∨ bitN t 64 = true ∧ ∃ x : UInt8, l = x :: l1 ∧ d1 = { d with hasTl0 := true, tl0 := x.toNat } := by
  unfold stTl0 at h
  cases hb : bitN t 64 with
  | false =>
    rw [hb] at h
    simp at h
    exact .inl ⟨rfl, h.2, h.1.symm⟩
  | true =>
    rw [hb] at h
    simp only [if_true] at h
    cases l with
    | nil => simp at h
    | cons p r =>
      simp only [Option.some.injEq, Prod.mk.injEq] at h
      exact .inr ⟨rfl, p, by rw [h.2], h.1.symm⟩
theorem lastForm {t : Nat} {d d1 : Dsc} {l l1 : List UInt8} (h : stLast t d l = some (d1, l1)) :
    (bitN t 32 || bitN t 16) = false ∧ l = l1 ∧ d1 = d ∨ (bitN t 32 || bitN t 16) = true ∧ ∃ x : UInt8, l = x :: l1 ∧ d1 = setKey t x.toNat (setTid t x.toNat d) := by
  unfold stLast at h
  cases hb : (bitN t 32 || bitN t 16) with
  | false =>
    rw [hb] at h
    simp at h
    exact .inl ⟨rfl, h.2, h.1.symm⟩
  | true =>
    rw [hb] at h
    simp only [if_true] at h
    cases l with
    | nil => simp at h
    | cons p r =>
      simp only [Option.some.injEq, Prod.mk.injEq] at h
      exact .inr ⟨rfl, p, by rw [h.2], h.1.symm⟩

/-- Bytes with a descriptor: one byte, or more. -/
theorem parse_cases {b : List UInt8} {d : Dsc} {r : List UInt8} (h : parseS b = some (d, r)) :
    (∃ f : UInt8, f.toNat < 128 ∧ b = f :: r ∧ d = firstD f.toNat) ∨ ∃ (f t : UInt8) (l l1 l2 : List UInt8) (d1 d2 : Dsc), 128 ≤ f.toNat ∧ b = f :: t :: l ∧ stPic t.toNat (firstD f.toNat) l = some (d1, l1) ∧ stTl0 t.toNat d1 l1 = some (d2, l2) ∧ stLast t.toNat d2 l2 = some (d, r) := by
  cases b with
  | nil => simp [parseS] at h
  | cons f r0 =>
    by_cases hf : f.toNat < 128
    · simp only [parseS, if_pos hf, Option.some.injEq, Prod.mk.injEq] at h
      exact .inl ⟨f, hf, by rw [h.2], h.1.symm⟩
    · cases r0 with
      | nil => simp [parseS, hf] at h
      | cons t l =>
        simp only [parseS, if_neg hf, moreS] at h
        obtain ⟨⟨d1, l1⟩, h1, h2⟩ := Option.bind_eq_some_iff.1 h
        obtain ⟨⟨d2, l2⟩, h2, h3⟩ := Option.bind_eq_some_iff.1 h2
        exact .inr ⟨f, t, l, l1, l2, d1, d2, by omega, rfl, h1, h2, h3⟩
theorem parse_of {f t : UInt8} {l l1 l2 r : List UInt8} {d1 d2 d : Dsc} (hf : 128 ≤ f.toNat) (h1 : stPic t.toNat (firstD f.toNat) l = some (d1, l1)) (h2 : stTl0 t.toNat d1 l1 = some (d2, l2)) (h3 : stLast t.toNat d2 l2 = some (d, r)) :
    parseS (f :: t :: l) = some (d, r) := by
  simp only [parseS, if_neg (show ¬ f.toNat < 128 by omega), moreS, h1, Option.bind_some, h2, h3]

theorem setT_more (t x : Nat) (d : Dsc) : (setKey t x (setTid t x d)).more = d.more ∧ (setKey t x (setTid t x d)).hasPic = d.hasPic ∧ (setKey t x (setTid t x d)).wide = d.wide ∧ (setKey t x (setTid t x d)).hasTl0 = d.hasTl0 ∧ (setKey t x (setTid t x d)).pic = d.pic ∧
    (setKey t x (setTid t x d)).tl0 = d.tl0 ∧ (setKey t x (setTid t x d)).hasTid = (bitN t 32 || d.hasTid) ∧ (setKey t x (setTid t x d)).hasKey = (bitN t 16 || d.hasKey) ∧ (setKey t x (setTid t x d)).part = d.part ∧ (setKey t x (setTid t x d)).start = d.start ∧ (setKey t x (setTid t x d)).lone = d.lone := by
  unfold setKey setTid
  cases bitN t 32 <;> cases bitN t 16 <;> simp

/-- How many bytes a descriptor has; it is right. -/
theorem parse_size {b : List UInt8} {d : Dsc} {r : List UInt8} (h : parseS b = some (d, r)) : ∃ pre, b = pre ++ r ∧ pre.length = d.size := by
  rcases parse_cases h with ⟨f, hf, rfl, rfl⟩ | ⟨f, t, l, l1, l2, d1, d2, hf, rfl, h1, h2, h3⟩
  · exact ⟨[f], rfl, by simp [Dsc.size, firstD]; omega⟩
  · rcases picForm h1 with ⟨_, rfl, rfl⟩ | ⟨_, p, hp, rfl, rfl⟩ | ⟨_, p, q, hp, rfl, rfl⟩ <;> rcases tl0Form h2 with ⟨_, rfl, rfl⟩ | ⟨_, x, rfl, rfl⟩ <;> rcases lastForm h3 with ⟨hb, rfl, rfl⟩ | ⟨hb, z, rfl, rfl⟩
    all_goals first
      | exact ⟨[f, t], rfl, by simp [Dsc.size, Dsc.pw, firstD, dsc0, setT_more, hb, hf]⟩
      | exact ⟨[f, t, _], rfl, by simp [Dsc.size, Dsc.pw, firstD, dsc0, setT_more, hb, hf]⟩
      | exact ⟨[f, t, _, _], rfl, by simp [Dsc.size, Dsc.pw, firstD, dsc0, setT_more, hb, hf]⟩
      | exact ⟨[f, t, _, _, _], rfl, by simp [Dsc.size, Dsc.pw, firstD, dsc0, setT_more, hb, hf]⟩
      | exact ⟨[f, t, _, _, _, _], rfl, by simp [Dsc.size, Dsc.pw, firstD, dsc0, setT_more, hb, hf]⟩
theorem parse_fits {b : List UInt8} {d : Dsc} {r : List UInt8} (h : parseS b = some (d, r)) : d.Fits := by
  rcases parse_cases h with ⟨f, hf, rfl, rfl⟩ | ⟨f, t, l, l1, l2, d1, d2, hf, rfl, h1, h2, h3⟩
  · exact ⟨by simp [firstD]; omega, by simp [firstD, dsc0], by simp [firstD, dsc0], by simp [firstD, dsc0], by simp [firstD, dsc0]⟩
  · have k1 : d1.part < 256 ∧ d1.pic < 65536 ∧ d1.tl0 < 256 ∧ d1.tid < 256 ∧ d1.key < 256 := by
      rcases picForm h1 with ⟨_, rfl, rfl⟩ | ⟨_, p, hp, rfl, rfl⟩ | ⟨_, p, q, hp, rfl, rfl⟩
      · simp [firstD, dsc0]; omega
      · simp [firstD, dsc0]; omega
      · have := p.toNat_lt
        have := q.toNat_lt
        simp [firstD, dsc0]; omega
    have k2 : d2.part < 256 ∧ d2.pic < 65536 ∧ d2.tl0 < 256 ∧ d2.tid < 256 ∧ d2.key < 256 := by
      rcases tl0Form h2 with ⟨_, rfl, rfl⟩ | ⟨_, x, rfl, rfl⟩
      · exact k1
      · have := x.toNat_lt
        exact ⟨k1.1, k1.2.1, by simpa using this, k1.2.2.2⟩
    rcases lastForm h3 with ⟨hb, rfl, rfl⟩ | ⟨hb, z, rfl, rfl⟩
    · exact ⟨k2.1, k2.2.1, k2.2.2.1, k2.2.2.2.1, k2.2.2.2.2⟩
    · have := z.toNat_lt
      obtain ⟨a1, a2, a3, a4, a5⟩ := k2
      unfold setKey setTid
      cases bitN t.toNat 32 <;> cases bitN t.toNat 16 <;> exact ⟨by simpa using a1, by simpa using a2, by simpa using a3, by first | (simpa using a4) | (simp; omega), by first | (simpa using a5) | (simp; omega)⟩

theorem pic_append {t : Nat} {d d1 : Dsc} {l l1 : List UInt8} (m : List UInt8) (h : stPic t d l = some (d1, l1)) : stPic t d (l ++ m) = some (d1, l1 ++ m) := by
  rcases picForm h with ⟨hb, rfl, rfl⟩ | ⟨hb, p, hp, rfl, rfl⟩ | ⟨hb, p, q, hp, rfl, rfl⟩
  · simp [stPic, hb]
  · simp [stPic, hb, takePicS, hp]
  · simp [stPic, hb, takePicS, show ¬ p.toNat < 128 by omega]
theorem tl0_append {t : Nat} {d d1 : Dsc} {l l1 : List UInt8} (m : List UInt8) (h : stTl0 t d l = some (d1, l1)) : stTl0 t d (l ++ m) = some (d1, l1 ++ m) := by
  rcases tl0Form h with ⟨hb, rfl, rfl⟩ | ⟨hb, p, rfl, rfl⟩
  · simp [stTl0, hb]
  · simp [stTl0, hb]
theorem last_append {t : Nat} {d d1 : Dsc} {l l1 : List UInt8} (m : List UInt8) (h : stLast t d l = some (d1, l1)) : stLast t d (l ++ m) = some (d1, l1 ++ m) := by
  rcases lastForm h with ⟨hb, rfl, rfl⟩ | ⟨hb, p, rfl, rfl⟩
  · simp [stLast, hb]
  · simp [stLast, hb]
theorem parse_append {b r : List UInt8} {d : Dsc} (m : List UInt8) (h : parseS b = some (d, r)) : parseS (b ++ m) = some (d, r ++ m) := by
  rcases parse_cases h with ⟨f, hf, rfl, rfl⟩ | ⟨f, t, l, l1, l2, d1, d2, hf, rfl, h1, h2, h3⟩
  · simp [parseS, hf]
  · exact parse_of hf (pic_append m h1) (tl0_append m h2) (last_append m h3)

theorem toNat_of {x : Nat} (h : x < 256) : (UInt8.ofNat x).toNat = x := by rw [UInt8.toNat_ofNat']; omega
theorem b1_facts (d : Dsc) (hp : d.part ≤ 7) : d.b1 < 256 ∧ firstD d.b1 = { dsc0 with more := d.more, lone := d.lone, start := d.start, part := d.part } ∧ (d.more = true → 128 ≤ d.b1) ∧ (d.more = false → d.b1 < 128) := by
  obtain ⟨more, lone, start, part, hasPic, wide, pic, hasTl0, tl0, hasTid, tid, sync, hasKey, key⟩ := d
  dsimp only at hp
  unfold Dsc.b1 one
  dsimp only
  cases more <;> cases lone <;> cases start <;> refine ⟨?_, ?_, ?_, ?_⟩ <;> simp [firstD, dsc0, bitN] <;> omega
theorem b2_facts (d : Dsc) : d.b2 < 256 ∧ bitN d.b2 128 = d.hasPic ∧ bitN d.b2 64 = d.hasTl0 ∧ bitN d.b2 32 = d.hasTid ∧ bitN d.b2 16 = d.hasKey := by
  have : ∀ a b c e : Bool, (one a 128 + one b 64 + one c 32 + one e 16) < 256 ∧ bitN (one a 128 + one b 64 + one c 32 + one e 16) 128 = a ∧ bitN (one a 128 + one b 64 + one c 32 + one e 16) 64 = b ∧ bitN (one a 128 + one b 64 + one c 32 + one e 16) 32 = c ∧ bitN (one a 128 + one b 64 + one c 32 + one e 16) 16 = e := by decide
  exact this _ _ _ _
theorem key_byte (tid key : Nat) (sync : Bool) (ht : tid ≤ 3) (hk : key ≤ 31) : 64 * tid + one sync 32 + key < 256 ∧ (64 * tid + one sync 32 + key) / 64 = tid ∧ bitN (64 * tid + one sync 32 + key) 32 = sync ∧ (64 * tid + one sync 32 + key) % 32 = key := by
  unfold one bitN
  cases sync <;> refine ⟨?_, ?_, ?_, ?_⟩ <;> simp <;> omega

/-- What is right is parsed as it was. -/
theorem parse_enc (d : Dsc) (h : d.Right) : parseS d.enc = some (d, []) := by
  obtain ⟨r1, r2, r3, r4, r5, r6, r7, r8, r9, r10, r11⟩ := h
  obtain ⟨f1, f2, f3, f4⟩ := b1_facts d r1
  obtain ⟨g1, g2, g3, g4, g5⟩ := b2_facts d
  have n1 := toNat_of f1
  have n2 := toNat_of g1
  unfold Dsc.enc
  cases hm : d.more with
  | false =>
    obtain ⟨p1, p2, p3, p4⟩ := r2 hm
    have q3 := r3 p1
    have q6 := r6 p2
    have q7 := r7 p3
    have q8 := r8 p4
    have hlt := f4 hm
    simp only [parseS, n1, if_pos hlt, f2, Option.some.injEq, Prod.mk.injEq]
    obtain ⟨more, lone, start, part, hasPic, wide, pic, hasTl0, tl0, hasTid, tid, sync, hasKey, key⟩ := d
    simp only [dsc0, Dsc.mk.injEq] at *
    simp_all
  | true =>
    have hge := f3 hm
    simp only [if_true, List.append_assoc]
    have e1 : stPic d.b2 (firstD d.b1) (d.bp ++ (d.bt ++ d.bl)) = some ({ firstD d.b1 with hasPic := d.hasPic, wide := d.wide, pic := d.pic }, d.bt ++ d.bl) := by
      unfold stPic Dsc.bp
      rw [g2]
      cases hp : d.hasPic with
      | false =>
        have q := r3 hp
        rw [q.1, q.2, f2]
        simp [dsc0]
      | true =>
        simp only [if_true, picB]
        cases hw : d.wide with
        | false =>
          have q := r5 hw
          have e : (UInt8.ofNat (d.pic % 128)).toNat = d.pic := by rw [toNat_of (by omega)]; omega
          simp [takePicS, e, show d.pic < 128 by omega]
        | true =>
          have e1 : (UInt8.ofNat (128 + d.pic / 256 % 128)).toNat = 128 + d.pic / 256 % 128 := toNat_of (by omega)
          have e2 : (UInt8.ofNat d.pic).toNat = d.pic % 256 := UInt8.toNat_ofNat' ..
          simp only [if_true, List.cons_append, List.nil_append, takePicS, e1, e2, show ¬ 128 + d.pic / 256 % 128 < 128 by omega, if_false, Option.map_some, Option.some.injEq, Prod.mk.injEq, Dsc.mk.injEq, and_true, true_and]
          omega
    have e2 : stTl0 d.b2 { firstD d.b1 with hasPic := d.hasPic, wide := d.wide, pic := d.pic } (d.bt ++ d.bl) = some ({ firstD d.b1 with hasPic := d.hasPic, wide := d.wide, pic := d.pic, hasTl0 := d.hasTl0, tl0 := d.tl0 }, d.bl) := by
      unfold stTl0 Dsc.bt
      rw [g3]
      cases hp : d.hasTl0 with
      | false =>
        have q := r6 hp
        rw [q, f2]
        simp [dsc0]
      | true => simp [toNat_of r11]
    have e3 : stLast d.b2 { firstD d.b1 with hasPic := d.hasPic, wide := d.wide, pic := d.pic, hasTl0 := d.hasTl0, tl0 := d.tl0 } d.bl = some (d, []) := by
      unfold stLast Dsc.bl
      rw [g4, g5]
      obtain ⟨z1, z2, z3, z4⟩ := key_byte d.tid d.key d.sync r9 r10
      have z5 := toNat_of z1
      obtain ⟨more, lone, start, part, hasPic, wide, pic, hasTl0, tl0, hasTid, tid, sync, hasKey, key⟩ := d
      dsimp only at *
      rw [f2]
      subst hm
      cases hasTid <;> cases hasKey
      · have q7 := r7 rfl
        have q8 := r8 rfl
        simp [dsc0, q7, q8]
      · have q7 := r7 rfl
        simp only [Bool.or_true, if_true]
        rw [z5]
        unfold setKey setTid
        rw [g4, g5]
        simp only [z4]
        simp [dsc0, q7]
      · have q8 := r8 rfl
        simp only [Bool.or_false, if_true]
        rw [z5]
        unfold setKey setTid
        rw [g4, g5]
        simp only [z2, z3]
        simp [dsc0, q8]
      · simp only [Bool.or_self, if_true]
        rw [z5]
        unfold setKey setTid
        rw [g4, g5]
        simp only [z2, z3, z4]
        simp [dsc0]
    refine parse_of (by rw [n1]; exact hge) ?_ ?_ ?_ (d1 := { firstD d.b1 with hasPic := d.hasPic, wide := d.wide, pic := d.pic }) (l1 := d.bt ++ d.bl) (d2 := { firstD d.b1 with hasPic := d.hasPic, wide := d.wide, pic := d.pic, hasTl0 := d.hasTl0, tl0 := d.tl0 }) (l2 := d.bl)
    · rw [n1, n2]; exact e1
    · rw [n2]; exact e2
    · rw [n2]; exact e3
theorem enc_length (d : Dsc) (h : d.Right) : d.enc.length = d.size := by
  obtain ⟨r1, r2, r3, r4, r5, r6, r7, r8, r9, r10, r11⟩ := h
  unfold Dsc.enc Dsc.size
  cases hm : d.more with
  | false => simp
  | true =>
    simp only [if_true, List.length_cons, List.length_append, Dsc.bp, Dsc.bt, Dsc.bl, Dsc.pw, picB]
    cases hp : d.hasPic <;> cases hw : d.wide <;> cases ht : d.hasTl0 <;> cases hi : d.hasTid <;> cases hk : d.hasKey <;> simp
    all_goals (have := r3 hp; simp [hw] at this)
/-- Cut anywhere it ends too early. -/
theorem parse_cut (d : Dsc) (h : d.Right) (k : Nat) (hk : k < d.enc.length) : parseS (d.enc.take k) = none := by
  cases hp : parseS (d.enc.take k) with
  | none => rfl
  | some x =>
    obtain ⟨d', r'⟩ := x
    have h1 := parse_append (d.enc.drop k) hp
    rw [List.take_append_drop, parse_enc d h] at h1
    injection h1 with h1
    injection h1 with _ h2
    have := congrArg List.length h2
    simp at this
    omega
end Go.Proofs.Ytliiodjcpkabmaa
