/-
  What is told about media, as plain values: reports, messages, their bytes, and how bytes are parsed. Nothing here names the program.
-/
import Derived.Test.YtcjmiidnhbmclaaDoorOctP
namespace Go.Proofs.YtcjmiidnhbmclaaDoor
open Go.RowKit

/-- A report. -/
structure Rp where
  ssrc : Nat
  part : Nat
  lost : Nat
  high : Nat
  jit : Nat
  last : Nat
  delay : Nat
def Rp.Fits (r : Rp) : Prop := r.ssrc < 4294967296 ∧ r.part < 256 ∧ r.lost < 4294967296 ∧ r.high < 4294967296 ∧ r.jit < 4294967296 ∧ r.last < 4294967296 ∧ r.delay < 4294967296
def Rp.cells (r : Rp) : List Value := [.int .u32 (r.ssrc : Int), .int .u8 (r.part : Int), .int .u32 (r.lost : Int), .int .u32 (r.high : Int), .int .u32 (r.jit : Int), .int .u32 (r.last : Int), .int .u32 (r.delay : Int)]
def Rp.enc (r : Rp) : List UInt8 := bytesN r.ssrc 4 ++ ([UInt8.ofNat r.part] ++ (bytesN r.lost 3 ++ (bytesN r.high 4 ++ (bytesN r.jit 4 ++ (bytesN r.last 4 ++ bytesN r.delay 4)))))
theorem Rp.enc_length (r : Rp) : r.enc.length = 24 := by simp [Rp.enc, bytesN_length]
def repC (l : List Rp) : List Value := l.flatMap Rp.cells
def repE (l : List Rp) : List UInt8 := l.flatMap Rp.enc
theorem repE_length (l : List Rp) : (repE l).length = 24 * l.length := by induction l <;> simp_all [repE, Rp.enc_length]; omega
theorem repE_take (l : List Rp) (k : Nat) (r : Rp) (h : l[k]? = some r) : repE (l.take (k + 1)) = repE (l.take k) ++ r.enc := by
  rw [List.take_add_one, h]; simp [repE]
theorem repC_length (l : List Rp) : (repC l).length = l.length * 7 := by induction l <;> simp_all [repC, Rp.cells]; omega
theorem repC_get (l : List Rp) (k : Nat) (r : Rp) (h : l[k]? = some r) : ∀ j, j < 7 → (repC l)[k * 7 + j]? = r.cells[j]? := by
  induction l generalizing k with
  | nil => simp at h
  | cons q l ih =>
    intro j hj
    have hq : q.cells.length = 7 := rfl
    cases k with
    | zero =>
      simp at h
      subst h
      rw [Nat.zero_mul, Nat.zero_add]
      show (q.cells ++ repC l)[j]? = _
      rw [List.getElem?_append_left (by omega)]
    | succ k =>
      show (q.cells ++ repC l)[(k + 1) * 7 + j]? = _
      rw [List.getElem?_append_right (by omega), hq, show (k + 1) * 7 + j - 7 = k * 7 + j by omega]
      exact ih k (by simpa using h) j hj

/-- A message. -/
structure Ms where
  kind : Int
  ssrc : Nat
  media : Nat
  clock : Nat
  time : Nat
  packets : Nat
  bytes : Nat
  reps : List Rp
  who : List Nat
  pairs : List (Nat × Nat)
  asks : List (Nat × Nat)
  typ : Nat
structure Ms.Fits (m : Ms) : Prop where
  kind : -9223372036854775808 ≤ m.kind ∧ m.kind < 9223372036854775808
  ssrc : m.ssrc < 4294967296
  media : m.media < 4294967296
  clock : m.clock < 18446744073709551616
  time : m.time < 4294967296
  packets : m.packets < 4294967296
  bytes : m.bytes < 4294967296
  reps : ∀ r ∈ m.reps, r.Fits
  who : ∀ x ∈ m.who, x < 4294967296
  pairs : ∀ p ∈ m.pairs, p.1 < 65536 ∧ p.2 < 65536
  asks : ∀ p ∈ m.asks, p.1 < 4294967296 ∧ p.2 < 256
  typ : m.typ < 256
/-- Few things in it. -/
def Ms.Few (m : Ms) : Prop := m.reps.length ≤ 64 ∧ m.who.length ≤ 64 ∧ m.pairs.length ≤ 64 ∧ m.asks.length ≤ 64
def whoE (l : List Nat) : List UInt8 := l.flatMap fun x => bytesN x 4
def pairE (l : List (Nat × Nat)) : List UInt8 := l.flatMap fun p => bytesN p.1 2 ++ bytesN p.2 2
def askE (l : List (Nat × Nat)) : List UInt8 := l.flatMap fun p => bytesN p.1 4 ++ [UInt8.ofNat p.2, 0, 0, 0]
theorem whoE_length (l : List Nat) : (whoE l).length = 4 * l.length := by induction l <;> simp_all [whoE, bytesN_length]; omega
theorem pairE_length (l : List (Nat × Nat)) : (pairE l).length = 4 * l.length := by induction l <;> simp_all [pairE, bytesN_length]; omega
theorem askE_length (l : List (Nat × Nat)) : (askE l).length = 8 * l.length := by induction l <;> simp_all [askE, bytesN_length]; omega
theorem whoE_take (l : List Nat) (k x : Nat) (h : l[k]? = some x) : whoE (l.take (k + 1)) = whoE (l.take k) ++ bytesN x 4 := by rw [List.take_add_one, h]; simp [whoE]
theorem pairE_take (l : List (Nat × Nat)) (k : Nat) (p : Nat × Nat) (h : l[k]? = some p) : pairE (l.take (k + 1)) = pairE (l.take k) ++ (bytesN p.1 2 ++ bytesN p.2 2) := by rw [List.take_add_one, h]; simp [pairE]
theorem askE_take (l : List (Nat × Nat)) (k : Nat) (p : Nat × Nat) (h : l[k]? = some p) : askE (l.take (k + 1)) = askE (l.take k) ++ (bytesN p.1 4 ++ [UInt8.ofNat p.2, 0, 0, 0]) := by rw [List.take_add_one, h]; simp [askE]
/-- Its body's bytes. -/
def Ms.body (m : Ms) : List UInt8 :=
  if m.kind = 0 then bytesN m.ssrc 4 ++ (bytesN m.clock 8 ++ (bytesN m.time 4 ++ (bytesN m.packets 4 ++ (bytesN m.bytes 4 ++ repE m.reps))))
  else if m.kind = 1 then bytesN m.ssrc 4 ++ repE m.reps
  else if m.kind = 2 then whoE m.who
  else if m.kind = 3 then bytesN m.ssrc 4 ++ (bytesN m.media 4 ++ pairE m.pairs)
  else if m.kind = 4 then bytesN m.ssrc 4 ++ bytesN m.media 4
  else if m.kind = 5 then bytesN m.ssrc 4 ++ (bytesN m.media 4 ++ askE m.asks)
  else []
def Ms.num (m : Ms) : Nat := if m.kind = 0 then 200 else if m.kind = 1 then 201 else if m.kind = 2 then 203 else if m.kind = 3 then 205 else if m.kind = 4 then 206 else if m.kind = 5 then 206 else 0
def Ms.cnt (m : Ms) : Nat := if m.kind = 0 then m.reps.length else if m.kind = 1 then m.reps.length else if m.kind = 2 then m.who.length else if m.kind = 5 then 4 else 1
def Ms.good (m : Ms) : Bool := decide (m.num ≠ 0 ∧ m.cnt ≤ 31 ∧ ¬ (m.kind = 3 ∧ m.pairs.length = 0) ∧ ¬ (m.kind = 5 ∧ m.asks.length = 0))
/-- Its bytes. -/
def Ms.enc (m : Ms) : List UInt8 := [UInt8.ofNat (128 + m.cnt), UInt8.ofNat m.num] ++ (bytesN (m.body.length / 4) 2 ++ m.body)
/-- What putting it tells: the bytes, and the error. -/
def Ms.told (m : Ms) : List UInt8 × Int := if m.good = true then (m.enc, 0) else ([], 1)
/-- Numbers of four bytes as cells; asks as cells. -/
def u32s (l : List Nat) : List Value := l.map fun (x : Nat) => .int .u32 (x : Int)
theorem u32s_length (l : List Nat) : (u32s l).length = l.length := by simp [u32s]
theorem u32s_get (l : List Nat) (j x : Nat) (h : l[j]? = some x) : (u32s l)[j]? = some (.int .u32 (x : Int)) := by simp [u32s, h]
def askC (l : List (Nat × Nat)) : List Value := l.flatMap fun p => [.int .u32 (p.1 : Int), .int .u8 (p.2 : Int)]
def dpC (l : List (Nat × Nat)) : List Value := l.flatMap fun p => [.int .i64 (p.1 : Int), .int .i64 (p.2 : Int)]
theorem two_get {α : Type} (f g : α → Value) (l : List α) (k : Nat) (p : α) (h : l[k]? = some p) : (l.flatMap fun q => [f q, g q])[k * 2]? = some (f p) ∧ (l.flatMap fun q => [f q, g q])[k * 2 + 1]? = some (g p) := by
  induction l generalizing k with
  | nil => simp at h
  | cons q l ih =>
    cases k with
    | zero => simp at h; subst h; simp
    | succ k =>
      have h' := ih k (by simpa using h)
      have e : (k + 1) * 2 = k * 2 + 1 + 1 := by omega
      simpa [e] using h'
theorem two_length {α : Type} (f g : α → Value) (l : List α) : (l.flatMap fun q => [f q, g q]).length = l.length * 2 := by induction l <;> simp_all; omega

/-- Where a message's rows lie. -/
structure Sl where
  rA : Option Addr
  rc : Nat
  wA : Option Addr
  wc : Nat
  pA : Option Addr
  pc : Nat
  aA : Option Addr
  ac : Nat
/-- A message's cells, as the document has it. -/
def Ms.cells (m : Ms) (s : Sl) : List Value :=
  [.int .i64 m.kind, .int .u32 (m.ssrc : Int), .int .u32 (m.media : Int), .int .u64 (m.clock : Int), .int .u32 (m.time : Int), .int .u32 (m.packets : Int), .int .u32 (m.bytes : Int),
   .slice s.rA m.reps.length s.rc, .slice s.wA m.who.length s.wc, .slice s.pA m.pairs.length s.pc, .slice s.aA m.asks.length s.ac, .int .u8 (m.typ : Int)]
/-- Its rows. -/
structure MsAt (w : World) (B : Nat) (m : Ms) (s : Sl) : Prop where
  reps : Row w B 7 s.rA m.reps.length (repC m.reps)
  who : Row w B 1 s.wA m.who.length (u32s m.who)
  pairs : Row w B 2 s.pA m.pairs.length (dpC m.pairs)
  asks : Row w B 2 s.aA m.asks.length (askC m.asks)
theorem MsAt.below {w w' : World} {B b : Nat} {m : Ms} {s : Sl} (h : MsAt w B m s) (hb : Below b w w') (hB : B ≤ b) : MsAt w' B m s :=
  ⟨h.reps.below hb hB, h.who.below hb hB, h.pairs.below hb hB, h.asks.below hb hB⟩
theorem MsAt.more {w : World} {B B' : Nat} {m : Ms} {s : Sl} (h : MsAt w B m s) (hB : B ≤ B') : MsAt w B' m s := ⟨h.reps.more hB, h.who.more hB, h.pairs.more hB, h.asks.more hB⟩

theorem Ms.enc_length (m : Ms) (h : m.Few) : m.enc.length ≤ 1700 := by
  obtain ⟨h1, h2, h3, h4⟩ := h
  unfold Ms.enc Ms.body
  simp only [List.length_append, bytesN_length, List.length_cons, List.length_nil]
  repeat' split
  all_goals (try simp only [List.length_append, bytesN_length, repE_length, whoE_length, pairE_length, askE_length, List.length_nil]); omega
def encs (l : List Ms) : List UInt8 := l.flatMap Ms.enc
theorem encs_take (l : List Ms) (k : Nat) (m : Ms) (h : l[k]? = some m) : encs (l.take (k + 1)) = encs (l.take k) ++ m.enc := by rw [List.take_add_one, h]; simp [encs]
/-- What putting messages tells: the bytes, and the error. -/
def putL (l : List Ms) : List UInt8 × Int := if l.all Ms.good = true then (if 1500 < (encs l).length then ([], 13) else (encs l, 0)) else ([], 1)
theorem putL_bad (l : List Ms) (k : Nat) (m : Ms) (h : l[k]? = some m) (hb : m.good = false) : putL l = ([], 1) := by
  unfold putL
  rw [if_neg]
  intro ha
  have := List.all_eq_true.1 ha m (List.mem_of_getElem? h)
  rw [hb] at this
  cases this
theorem putL_big (l : List Ms) (h : ∀ m ∈ l, m.good = true) (hb : 1500 < (encs l).length) : putL l = ([], 13) := by
  unfold putL; rw [if_pos (List.all_eq_true.2 h), if_pos hb]
theorem putL_ok (l : List Ms) (h : ∀ m ∈ l, m.good = true) (hb : ¬ 1500 < (encs l).length) : putL l = (encs l, 0) := by
  unfold putL; rw [if_pos (List.all_eq_true.2 h), if_neg hb]

/-- Messages in memory: each one's cells, and its rows. -/
def msC (l : List (Ms × Sl)) : List Value := l.flatMap fun x => x.1.cells x.2
theorem msC_length (l : List (Ms × Sl)) : (msC l).length = l.length * 12 := by induction l <;> simp_all [msC, Ms.cells]; omega
theorem msC_append (a b : List (Ms × Sl)) : msC (a ++ b) = msC a ++ msC b := by simp [msC]
theorem msC_get (l : List (Ms × Sl)) (k : Nat) (x : Ms × Sl) (h : l[k]? = some x) : ∀ j, j < 12 → (msC l)[k * 12 + j]? = (x.1.cells x.2)[j]? := by
  induction l generalizing k with
  | nil => simp at h
  | cons q l ih =>
    intro j hj
    have hq : (q.1.cells q.2).length = 12 := rfl
    cases k with
    | zero =>
      simp at h
      subst h
      rw [Nat.zero_mul, Nat.zero_add]
      show (q.1.cells q.2 ++ msC l)[j]? = _
      rw [List.getElem?_append_left (by omega)]
    | succ k =>
      show (q.1.cells q.2 ++ msC l)[(k + 1) * 12 + j]? = _
      rw [List.getElem?_append_right (by omega), hq, show (k + 1) * 12 + j - 12 = k * 12 + j by omega]
      exact ih k (by simpa using h) j hj
structure MsRow (w : World) (B : Nat) (A : Option Addr) (l : List (Ms × Sl)) : Prop where
  row : Row w B 12 A l.length (msC l)
  each : ∀ x ∈ l, MsAt w B x.1 x.2
theorem MsRow.below {w w' : World} {B b : Nat} {A : Option Addr} {l : List (Ms × Sl)} (h : MsRow w B A l) (hb : Below b w w') (hB : B ≤ b) : MsRow w' B A l :=
  ⟨h.row.below hb hB, fun x hx => (h.each x hx).below hb hB⟩
theorem MsRow.more {w : World} {B B' : Nat} {A : Option Addr} {l : List (Ms × Sl)} (h : MsRow w B A l) (hB : B ≤ B') : MsRow w B' A l := ⟨h.row.more hB, fun x hx => (h.each x hx).more hB⟩
theorem MsRow.at {w : World} {B : Nat} {A : Option Addr} {l : List (Ms × Sl)} (h : MsRow w B A l) (k : Nat) (x : Ms × Sl) (hx : l[k]? = some x) :
    ∃ g o, A = some ⟨g, o, none⟩ ∧ g < B ∧ (∀ j u, (x.1.cells x.2)[j]? = some u → w.cell? ⟨g, o + k * 12 + j, none⟩ = some u) ∧ MsAt w B x.1 x.2 := by
  have hk := (List.getElem?_eq_some_iff.1 hx).1
  obtain ⟨g, o, hA, hg, hc⟩ := h.row.2 (by omega)
  refine ⟨g, o, hA, hg, fun j u hu => ?_, h.each x (List.mem_of_getElem? hx)⟩
  have hj : j < 12 := (List.getElem?_eq_some_iff.1 hu).1
  rw [Nat.add_assoc]
  exact hc _ _ ((msC_get l k x hx j hj).trans hu)
end Go.Proofs.YtcjmiidnhbmclaaDoor
