/-
  Contracts of package rtcp's isWrong, count, bytes.
-/
import Derived.Test.YtcjmiidnhbmclaaDoorRcD
namespace Go.Proofs.YtcjmiidnhbmclaaDoor
open Go.RowKit
set_option maxRecDepth 100000

/-- What the package's table holds. -/
def formC : List Value := [.int .u8 200, .int .u8 0, .int .u8 201, .int .u8 0, .int .u8 203, .int .u8 0, .int .u8 205, .int .u8 1, .int .u8 206, .int .u8 1, .int .u8 206, .int .u8 4]
structure Forms (w : World) : Prop where
  pos : 0 < w.heap.size
  cells : ∀ j u, formC[j]? = some u → w.cell? ⟨0, j, none⟩ = some u
theorem Forms.below {w w' : World} {b : Nat} (h : Forms w) (hb : Below b w w') (h0 : 0 < b) : Forms w' :=
  ⟨Nat.lt_of_lt_of_le h.pos hb.size, fun j u hu => (hb.cell (p := ⟨0, j, none⟩) (by simpa using h0)).trans (h.cells j u hu)⟩
theorem Forms.next {w w' : World} (h : Forms w) (hb : Below w.heap.size w w') : Forms w' := h.below hb h.pos

theorem ret_boolR {a b : Bool} (h : a = b) : Ending.returned (.bool a) = .returned (.bool b) := by rw [h]
theorem good_num (m : Ms) (h : m.good = true) : ∃ k : Nat, m.kind = k ∧ k < 6 := by
  unfold Ms.good at h
  simp only [decide_eq_true_eq] at h
  have := h.1
  unfold Ms.num at this
  repeat' split at this
  all_goals first | exact absurd rfl this | (rename_i hh; exact ⟨m.kind.toNat, by omega, by omega⟩)

set_option maxHeartbeats 1600000 in
theorem isWrong_any (m : Ms) (s : Sl) (w : World) : Calls Tryd.prog 22 #[.agg (m.cells s).toArray] w fun e w' => e = .returned (.bool (!m.good)) ∧ Below w.heap.size w w' := by
  obtain ⟨kind, x1, x2, x3, x4, x5, x6, reps, who, pairs, asks, x11⟩ := m
  have HG : Hid (Ms.good ⟨kind, x1, x2, x3, x4, x5, x6, reps, who, pairs, asks, x11⟩ = decide ((kind = 0 ∧ reps.length ≤ 31) ∨ (kind = 1 ∧ reps.length ≤ 31) ∨ (kind = 2 ∧ who.length ≤ 31) ∨ (kind = 3 ∧ pairs.length ≠ 0) ∨ kind = 4 ∨ (kind = 5 ∧ asks.length ≠ 0))) := Lib.hid (by
    unfold Ms.good Ms.num Ms.cnt
    dsimp only
    apply decide_eq_decide.2
    repeat' split
    all_goals omega)
  show Calls Tryd.prog 22 #[.agg #[.int .i64 kind, .int .u32 (x1 : Int), .int .u32 (x2 : Int), .int .u64 (x3 : Int), .int .u32 (x4 : Int), .int .u32 (x5 : Int), .int .u32 (x6 : Int), .slice s.rA reps.length s.rc, .slice s.wA who.length s.wc, .slice s.pA pairs.length s.pc, .slice s.aA asks.length s.ac, .int .u8 (x11 : Int)]] w _
  have HB := Lib.hid ((Below.refl w.heap.size w).alloc (Nat.le_refl _) (.cells #[.int .i64 kind, .int .u32 (x1 : Int), .int .u32 (x2 : Int), .int .u64 (x3 : Int), .int .u32 (x4 : Int), .int .u32 (x5 : Int), .int .u32 (x6 : Int), .slice s.rA reps.length s.rc, .slice s.wA who.length s.wc, .slice s.pA pairs.length s.pc, .slice s.aA asks.length s.ac, .int .u8 (x11 : Int)] 59))
  by_cases h0 : kind = 0
  · subst h0
    have HR : Hid (∀ q : Bool, q = decide (31 < (reps.length : Int)) → q = !Ms.good ⟨0, x1, x2, x3, x4, x5, x6, reps, who, pairs, asks, x11⟩) := Lib.hid (fun q hq => by rw [hq, HG.out, Bool.eq_iff_iff]; simp; omega)
    clear HG
    go_enter Tryd.func22, Tryd.ntmps22
    go_wp2
    go_ret
    exact ⟨ret_boolR (HR.out _ rfl), HB.out⟩
  by_cases h1 : kind = 1
  · subst h1
    have HR : Hid (∀ q : Bool, q = decide (31 < (reps.length : Int)) → q = !Ms.good ⟨1, x1, x2, x3, x4, x5, x6, reps, who, pairs, asks, x11⟩) := Lib.hid (fun q hq => by rw [hq, HG.out, Bool.eq_iff_iff]; simp; omega)
    clear HG
    go_enter Tryd.func22, Tryd.ntmps22
    go_wp2
    go_ret
    exact ⟨ret_boolR (HR.out _ rfl), HB.out⟩
  by_cases h2 : kind = 2
  · subst h2
    have HR : Hid (∀ q : Bool, q = decide (31 < (who.length : Int)) → q = !Ms.good ⟨2, x1, x2, x3, x4, x5, x6, reps, who, pairs, asks, x11⟩) := Lib.hid (fun q hq => by rw [hq, HG.out, Bool.eq_iff_iff]; simp; omega)
    clear HG
    go_enter Tryd.func22, Tryd.ntmps22
    go_wp2
    go_ret
    exact ⟨ret_boolR (HR.out _ rfl), HB.out⟩
  by_cases h3 : kind = 3
  · subst h3
    have HR : Hid (∀ q : Bool, q = ((pairs.length : Int) == 0) → q = !Ms.good ⟨3, x1, x2, x3, x4, x5, x6, reps, who, pairs, asks, x11⟩) := Lib.hid (fun q hq => by rw [hq, HG.out, Bool.eq_iff_iff]; simp)
    clear HG
    go_enter Tryd.func22, Tryd.ntmps22
    go_wp2
    go_ret
    exact ⟨ret_boolR (HR.out _ rfl), HB.out⟩
  by_cases h4 : kind = 4
  · subst h4
    have HR : Hid (false = !Ms.good ⟨4, x1, x2, x3, x4, x5, x6, reps, who, pairs, asks, x11⟩) := Lib.hid (by rw [HG.out, Bool.eq_iff_iff]; simp)
    clear HG
    go_enter Tryd.func22, Tryd.ntmps22
    go_wp2
    go_ret
    exact ⟨ret_boolR HR.out, HB.out⟩
  by_cases h5 : kind = 5
  · subst h5
    have HR : Hid (∀ q : Bool, q = ((asks.length : Int) == 0) → q = !Ms.good ⟨5, x1, x2, x3, x4, x5, x6, reps, who, pairs, asks, x11⟩) := Lib.hid (fun q hq => by rw [hq, HG.out, Bool.eq_iff_iff]; simp)
    clear HG
    go_enter Tryd.func22, Tryd.ntmps22
    go_wp2
    go_ret
    exact ⟨ret_boolR (HR.out _ rfl), HB.out⟩
  have HR : Hid (true = !Ms.good ⟨kind, x1, x2, x3, x4, x5, x6, reps, who, pairs, asks, x11⟩) := Lib.hid (by rw [HG.out, Bool.eq_iff_iff]; simp; omega)
  clear HG
  go_enter Tryd.func22, Tryd.ntmps22
  go_wp2
  go_ret
  exact ⟨ret_boolR HR.out, HB.out⟩

set_option maxHeartbeats 1600000 in
theorem count_any (m : Ms) (s : Sl) (w : World) (hg : m.good = true) (hw : Forms w) : Calls Tryd.prog 33 #[.agg (m.cells s).toArray] w fun e w' => e = .returned (.int .i64 (m.cnt : Int)) ∧ Below w.heap.size w w' := by
  obtain ⟨k, hk, hk6⟩ := good_num m hg
  obtain ⟨kind, x1, x2, x3, x4, x5, x6, reps, who, pairs, asks, x11⟩ := m
  dsimp only at hk
  subst hk
  obtain ⟨cn, hcn⟩ : ∃ cn, Ms.cnt ⟨(k : Int), x1, x2, x3, x4, x5, x6, reps, who, pairs, asks, x11⟩ = cn := ⟨_, rfl⟩
  rw [hcn]
  unfold Ms.cnt at hcn
  dsimp only at hcn
  show Calls Tryd.prog 33 #[.agg #[.int .i64 (k : Int), .int .u32 (x1 : Int), .int .u32 (x2 : Int), .int .u64 (x3 : Int), .int .u32 (x4 : Int), .int .u32 (x5 : Int), .int .u32 (x6 : Int), .slice s.rA reps.length s.rc, .slice s.wA who.length s.wc, .slice s.pA pairs.length s.pc, .slice s.aA asks.length s.ac, .int .u8 (x11 : Int)]] w _
  have HB := Lib.hid ((Below.refl w.heap.size w).alloc (Nat.le_refl _) (.cells #[.int .i64 (k : Int), .int .u32 (x1 : Int), .int .u32 (x2 : Int), .int .u64 (x3 : Int), .int .u32 (x4 : Int), .int .u32 (x5 : Int), .int .u32 (x6 : Int), .slice s.rA reps.length s.rc, .slice s.wA who.length s.wc, .slice s.pA pairs.length s.pc, .slice s.aA asks.length s.ac, .int .u8 (x11 : Int)] 59))
  have c3 : w.cell? ⟨0, 7, none⟩ = some (.int .u8 1) := hw.cells 7 _ rfl
  have c4 : w.cell? ⟨0, 9, none⟩ = some (.int .u8 1) := hw.cells 9 _ rfl
  have c5 : w.cell? ⟨0, 11, none⟩ = some (.int .u8 4) := hw.cells 11 _ rfl
  have hp := hw.pos
  clear hg hw
  match k, hk6 with
  | 0, _ =>
    simp at hcn; subst hcn
    go_enter Tryd.func33, Tryd.ntmps33
    go_wp2
    go_ret
    exact ⟨rfl, HB.out⟩
  | 1, _ =>
    simp at hcn; subst hcn
    go_enter Tryd.func33, Tryd.ntmps33
    go_wp2
    go_ret
    exact ⟨rfl, HB.out⟩
  | 2, _ =>
    simp at hcn; subst hcn
    go_enter Tryd.func33, Tryd.ntmps33
    go_wp2
    go_ret
    exact ⟨rfl, HB.out⟩
  | 3, _ =>
    simp at hcn; subst hcn
    go_enter Tryd.func33, Tryd.ntmps33
    go_wp2
    go_ret
    exact ⟨rfl, HB.out⟩
  | 4, _ =>
    simp at hcn; subst hcn
    go_enter Tryd.func33, Tryd.ntmps33
    go_wp2
    go_ret
    exact ⟨rfl, HB.out⟩
  | 5, _ =>
    simp at hcn; subst hcn
    go_enter Tryd.func33, Tryd.ntmps33
    go_wp2
    go_ret
    exact ⟨rfl, HB.out⟩

set_option maxHeartbeats 1600000 in
theorem bytes_msg (m : Ms) (s : Sl) (w : World) (hg : m.good = true) (hF : Forms w) (h : CmAt w w.heap.size m s) (hf : m.Fits) (hw : m.Few) : Calls Tryd.prog 23 #[.agg (m.cells s).toArray] w (Byt w m.enc) := by
  obtain ⟨k, hk, hk6⟩ := good_num m hg
  have hc31 : m.cnt ≤ 31 := by unfold Ms.good at hg; simp only [decide_eq_true_eq] at hg; exact hg.2.1
  obtain ⟨nm, hnm, hn256⟩ : ∃ nm, m.num = nm ∧ nm < 256 := ⟨_, rfl, by unfold Ms.num; (repeat' split) <;> omega⟩
  have hform : formC[k * 2]? = some (.int .u8 (nm : Int)) := by
    rw [← hnm]
    unfold Ms.num
    match k, hk6, hk with
    | 0, _, hk => simp [hk, formC]
    | 1, _, hk => simp [hk, formC]
    | 2, _, hk => simp [hk, formC]
    | 3, _, hk => simp [hk, formC]
    | 4, _, hk => simp [hk, formC]
    | 5, _, hk => simp [hk, formC]
  have CBODY : ∀ w', Below w.heap.size w w' → Calls Tryd.prog 31 #[.agg (m.cells s).toArray] w' (Byt w' m.body) := fun w' b => by
    have h' : CmAt w' w'.heap.size m s := (h.below b (Nat.le_refl _)).more b.size
    match k, hk6, hk with
    | 0, _, hk => exact body0_any m s w' hk h' hf hw
    | 1, _, hk => exact body1_any m s w' hk h' hf hw
    | 2, _, hk => exact body2_any m s w' hk h' hf hw
    | 3, _, hk => exact body3_any m s w' hk h' hf hw
    | 4, _, hk => exact body4_any m s w' hk h' hf hw
    | 5, _, hk => exact body5_any m s w' hk h' hf hw
  have CCNT := fun w' (b : Below w.heap.size w w') => count_any m s w' hg (hF.next b)
  have henc : m.enc = putS [(128 + m.cnt, 1), (nm, 1), (m.body.length / 4, 2)] ++ m.body := by
    unfold Ms.enc
    rw [hnm]
    simp [putS, putOne, sizeB, bytesN]
  have hlen := m.enc_length hw
  have hbl : m.body.length ≤ 1700 := by
    have : m.enc.length = 4 + m.body.length := by simp [Ms.enc, bytesN_length]; omega
    omega
  rw [henc]
  clear henc hlen hnm hg h hf hw
  generalize m.cnt = cn at hc31 CCNT ⊢
  generalize m.body = bd at CBODY hbl ⊢
  obtain ⟨hd, hhd⟩ : ∃ hd, putS [(128 + cn, 1), (nm, 1), (bd.length / 4, 2)] = hd := ⟨_, rfl⟩
  rw [hhd]
  have hps4 : hd.length ≤ 4 := by rw [← hhd]; simp [putS, putOne, sizeB, bytesN]
  obtain ⟨kind, x1, x2, x3, x4, x5, x6, reps, who, pairs, asks, x11⟩ := m
  dsimp only at hk
  subst hk
  have CB2 := Lib.hid (show ∀ w', Below w.heap.size w w' → Calls Tryd.prog 31 #[.agg #[.int .i64 (k : Int), .int .u32 (x1 : Int), .int .u32 (x2 : Int), .int .u64 (x3 : Int), .int .u32 (x4 : Int), .int .u32 (x5 : Int), .int .u32 (x6 : Int), .slice s.rA reps.length s.rc, .slice s.wA who.length s.wc, .slice s.pA pairs.length s.pc, .slice s.aA asks.length s.ac, .int .u8 (x11 : Int)]] w' (Byt w' bd) from CBODY)
  show Calls Tryd.prog 23 #[.agg #[.int .i64 (k : Int), .int .u32 (x1 : Int), .int .u32 (x2 : Int), .int .u64 (x3 : Int), .int .u32 (x4 : Int), .int .u32 (x5 : Int), .int .u32 (x6 : Int), .slice s.rA reps.length s.rc, .slice s.wA who.length s.wc, .slice s.pA pairs.length s.pc, .slice s.aA asks.length s.ac, .int .u8 (x11 : Int)]] w _
  have CC2 : ∀ w', Below w.heap.size w w' → Calls Tryd.prog 33 #[.agg #[.int .i64 (k : Int), .int .u32 (x1 : Int), .int .u32 (x2 : Int), .int .u64 (x3 : Int), .int .u32 (x4 : Int), .int .u32 (x5 : Int), .int .u32 (x6 : Int), .slice s.rA reps.length s.rc, .slice s.wA who.length s.wc, .slice s.pA pairs.length s.pc, .slice s.aA asks.length s.ac, .int .u8 (x11 : Int)]] w' fun e w'' => e = .returned (.int .i64 (cn : Int)) ∧ Below w'.heap.size w' w'' := CCNT
  have b0 := (Below.refl w.heap.size w).alloc (Nat.le_refl _) (.cells #[.int .i64 (k : Int), .int .u32 (x1 : Int), .int .u32 (x2 : Int), .int .u64 (x3 : Int), .int .u32 (x4 : Int), .int .u32 (x5 : Int), .int .u32 (x6 : Int), .slice s.rA reps.length s.rc, .slice s.wA who.length s.wc, .slice s.pA pairs.length s.pc, .slice s.aA asks.length s.ac, .int .u8 (x11 : Int)] 59)
  have hw := Whole.new w 59 #[.int .i64 (k : Int), .int .u32 (x1 : Int), .int .u32 (x2 : Int), .int .u64 (x3 : Int), .int .u32 (x4 : Int), .int .u32 (x5 : Int), .int .u32 (x6 : Int), .slice s.rA reps.length s.rc, .slice s.wA who.length s.wc, .slice s.pA pairs.length s.pc, .slice s.aA asks.length s.ac, .int .u8 (x11 : Int)]
  clear CBODY CCNT
  go_enter Tryd.func23, Tryd.ntmps23
  go_wp2_with fail
  refine (CB2.out _ b0).mono ?_
  rintro e w1 ⟨A1, c1, rfl, o1, b1⟩
  have hw1 := hw.below b1 hw.lt
  have B1 := bnextA b0 b1
  obtain ⟨bx, hbx⟩ : ∃ bx, w.heap.size = bx := ⟨_, rfl⟩
  have KEEP := Lib.hid (fun w' (b : Below w1.heap.size w1 w') => show w'.cell? ⟨bx, 0, none⟩ = some (.int .i64 (k : Int)) ∧ w'.cell? ⟨bx, 1, none⟩ = some (.int .u32 (x1 : Int)) ∧ w'.cell? ⟨bx, 2, none⟩ = some (.int .u32 (x2 : Int)) ∧ w'.cell? ⟨bx, 3, none⟩ = some (.int .u64 (x3 : Int)) ∧ w'.cell? ⟨bx, 4, none⟩ = some (.int .u32 (x4 : Int)) ∧ w'.cell? ⟨bx, 5, none⟩ = some (.int .u32 (x5 : Int)) ∧ w'.cell? ⟨bx, 6, none⟩ = some (.int .u32 (x6 : Int)) ∧ w'.cell? ⟨bx, 7, none⟩ = some (.slice s.rA reps.length s.rc) ∧ w'.cell? ⟨bx, 8, none⟩ = some (.slice s.wA who.length s.wc) ∧ w'.cell? ⟨bx, 9, none⟩ = some (.slice s.pA pairs.length s.pc) ∧ w'.cell? ⟨bx, 10, none⟩ = some (.slice s.aA asks.length s.ac) ∧ w'.cell? ⟨bx, 11, none⟩ = some (.int .u8 (x11 : Int)) ∧ w'.cell? ⟨0, k * 2, none⟩ = some (.int .u8 (nm : Int)) ∧ Below w1.heap.size w1 w' from by
    have h := hw1.below b hw1.lt
    rw [hbx] at h
    exact ⟨h.cell 0, h.cell 1, h.cell 2, h.cell 3, h.cell 4, h.cell 5, h.cell 6, h.cell 7, h.cell 8, h.cell 9, h.cell 10, h.cell 11, ((hF.next B1).next b).cells _ _ hform, b⟩)
  have C1 := Lib.hid (fun w' (b : Below w1.heap.size w1 w') => (CC2 w' (bnextA B1 b)).mono fun e w'' hh => show e = .returned (.int .i64 (cn : Int)) ∧ Below w1.heap.size w1 w'' from ⟨hh.1, bnextA b hh.2⟩)
  have e1 : IntKind.u64.wrap (IntKind.i64.wrap (128 + (cn : Int))) = ((128 + cn : Nat) : Int) := by rw [IntWalk.i64_in _ (by omega), IntWalk.u64_in _ (by omega)]; omega
  have e2 : IntKind.u64.wrap (nm : Int) = (nm : Int) := IntWalk.u64_in _ (by omega)
  have e3 : IntKind.u64.wrap (IntKind.i64.wrap ((bd.length : Int) / 4)) = ((bd.length / 4 : Nat) : Int) := by rw [IntWalk.i64_in _ (by omega), IntWalk.u64_in _ (by omega)]; omega
  have HP := Lib.hid (fun w2 (b : Below w1.heap.size w1 w2) => (put_fresh w2 #[.int .u64 (IntKind.u64.wrap (IntKind.i64.wrap (128 + (cn : Int)))), .int .i64 1, .int .u64 (IntKind.u64.wrap (nm : Int)), .int .i64 1, .int .u64 (IntKind.u64.wrap (IntKind.i64.wrap ((bd.length : Int) / 4))), .int .i64 2] 90 [(128 + cn, 1), (nm, 1), (bd.length / 4, 2)] _ 3 (by rw [e1, e2, e3]; rfl) rfl (by omega) (by simp; omega) hhd).mono fun e w3 hh => show ∃ A c, e = .returned (.slice A hd.length c) ∧ w3.ownsRow w2.heap.size 5 1 (.slice A hd.length c) hd.length (u8s hd) ∧ Below w2.heap.size w2 w3 ∧ Below w1.heap.size w1 w3 from by
    obtain ⟨A, c, h1, h2, h3⟩ := hh
    exact ⟨A, c, h1, h2, h3, bnextA b h3⟩)
  clear e1 e2 e3 hhd
  have HO1 := Lib.hid (oown_base o1 b0.size)
  have HB1 := Lib.hid B1
  obtain ⟨k0, k1, k2, k3, k4, k5, k6, k7, k8, k9, k10, k11, k12, _⟩ := KEEP.out _ (Below.refl _ _)
  have hi1 : (0 : Int) ≤ (k : Int) := by omega
  have hi2 : (k : Int) < 6 := by omega
  clear hw hw1 b0 b1 B1 o1 CC2 CB2 hF hform
  go_wp2_with fail
  clear hbx
  go_region_held3 (fun w' => w'.cell? ⟨bx, 0, none⟩ = some (.int .i64 (k : Int)) ∧ w'.cell? ⟨bx, 1, none⟩ = some (.int .u32 (x1 : Int)) ∧ w'.cell? ⟨bx, 2, none⟩ = some (.int .u32 (x2 : Int)) ∧ w'.cell? ⟨bx, 3, none⟩ = some (.int .u64 (x3 : Int)) ∧ w'.cell? ⟨bx, 4, none⟩ = some (.int .u32 (x4 : Int)) ∧ w'.cell? ⟨bx, 5, none⟩ = some (.int .u32 (x5 : Int)) ∧ w'.cell? ⟨bx, 6, none⟩ = some (.int .u32 (x6 : Int)) ∧ w'.cell? ⟨bx, 7, none⟩ = some (.slice s.rA reps.length s.rc) ∧ w'.cell? ⟨bx, 8, none⟩ = some (.slice s.wA who.length s.wc) ∧ w'.cell? ⟨bx, 9, none⟩ = some (.slice s.pA pairs.length s.pc) ∧ w'.cell? ⟨bx, 10, none⟩ = some (.slice s.aA asks.length s.ac) ∧ w'.cell? ⟨bx, 11, none⟩ = some (.int .u8 (x11 : Int)) ∧ w'.cell? ⟨0, k * 2, none⟩ = some (.int .u8 (nm : Int)) ∧ Below w1.heap.size w1 w')
    (first | exact KEEP.out _ (Below.refl _ _).drew | exact KEEP.out _ b9 | exact KEEP.out _ b8 | exact KEEP.out _ (b8.alloc b8.size _) | go_keep)
    (first
      | (go_at_call 33; refine (C1.out _ ?_).mono ?_; (exact (‹_ ∧ _ ∧ _ ∧ _ ∧ _ ∧ _ ∧ _ ∧ _ ∧ _ ∧ _ ∧ _ ∧ _ ∧ _ ∧ Below _ _ _›).2.2.2.2.2.2.2.2.2.2.2.2.2); rintro e w8 ⟨rfl, b8⟩)
      | (go_at_call 32; refine (HP.out _ b8).mono ?_; rintro e w9 ⟨A9, c9, rfl, o9, s9, b9⟩))
  have own1 := HO1.out
  have own9 : w9.ownsRow w.heap.size 5 1 (.slice A9 hd.length c9) hd.length (u8s hd) := oown_base o9 (Nat.le_trans HB1.out.size b8.size)
  have r1 := ((Row.of_own own1).below b9 (Nat.le_refl _)).more b9.size
  have B9 := bnextA HB1.out b9
  clear o9 own1 s9 b8 b9 KEEP HP C1 HO1 HB1 k0 k1 k2 k3 k4 k5 k6 k7 k8 k9 k10 k11 k12 hi1 hi2 hc31 hn256
  go_wp2_with (at_builtin; go_loud (refine wpl_append _ rfl (.tmp 26) (.tmp 27) 25 rfl w.heap.size 5 (.int .u8 0) 1 1 Tryd.underlying25 info_u8 rfl (by decide) _ _ _ rfl own9 _ _ _ _ _ rfl r1 (u8s_one _) ?c1 ?c2 ?c3 ?_))
  case c1 => unfold maxLen; omega
  case c2 => omega
  case c3 => exact B9.size
  intro v3 w3 own3 g3 _
  have HFF : Hid (Byt w (hd ++ bd) (.returned v3) w3) := Lib.hid (by
    rw [← u8s_append, ← List.length_append] at own3
    obtain ⟨A5, c5, rfl⟩ := oown_form own3
    exact ⟨A5, c5, rfl, own3, B9.grown g3 B9.size (fun q hq => (own9.lt q hq).1)⟩)
  clear own3 g3 own9 B9 r1
  go_wp2
  go_ret
  exact HFF.out
end Go.Proofs.YtcjmiidnhbmclaaDoor
