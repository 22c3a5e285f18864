/-
  Contracts of the document's answers of layer 9: numbers, reports.
-/
import Derived.Test.YtcjmiidnhbmclaaDoorProg
import Derived.Test.YtcjmiidnhbmclaaDoorRtL
import Derived.Test.YtcjmiidnhbmclaaDoorOctN
import Derived.Test.YtcjmiidnhbmclaaDoorQueL
import Derived.Deep.DeepCutAuto
import Derived.RegionTactic
import Derived.StillTailTactics
import Derived.Deep.RegionHeld3
import Derived.Deep.CutBlock
namespace Go.Proofs.YtcjmiidnhbmclaaDoor
set_option maxRecDepth 100000
set_option linter.unusedSimpArgs false
open Go.RowKit

theorem u64_nat (x : Nat) (h : x < 18446744073709551616) : IntKind.u64.wrap (x : Int) = (x : Int) := by
  simp only [IntKind.wrap, IntKind.bits, IntKind.signed]; simp; omega
theorem conv_one (w : World) (b : Nat) (hb : b < 256) : (convert 25 9 (.slice (some ⟨w.heap.size, 0, none⟩) 1 1)).run Tryd.prog (w.alloc (.cells #[.int .u8 (b : Int)] 5)) = .ok (.string (str [UInt8.ofNat b])) (w.alloc (.cells #[.int .u8 (b : Int)] 5)) := by
  have := run_text_one (P := Tryd.prog) w 25 5 9 Tryd.underlying25 Tryd.underlying5 Tryd.underlying9 (b : Int) (by omega) (by omega)
  rwa [Int.toNat_natCast] at this
theorem refnum_as (x : Nat) (n : Nat) (w : World) (hx : x < 18446744073709551616) (h1 : 1 ≤ n) (h8 : n ≤ 8) :
    Calls Tryd.prog 35 #[.int .u64 x, .int .i64 n] w fun e w' => e = .returned (.string (str (bytesN x n))) ∧ Below w.heap.size w w' := by
  have := refnum_any x n w hx
  rw [putOne_yes x h1 h8] at this
  exact this
theorem four_any (x : Nat) (w : World) (hx : x < 4294967296) : Calls Tryd.prog 34 #[.int .u32 x] w fun e w' => e = .returned (.string (str (bytesN x 4))) ∧ Below w.heap.size w w' := by
  go_enter Tryd.func34, Tryd.ntmps34
  go_wp2_with fail
  refine (refnum_as x 4 w (by omega) (by decide) (by decide)).mono ?_
  rintro e w1 ⟨rfl, b1⟩
  go_wp2
  go_ret
  exact ⟨rfl, b1⟩

theorem repC_at {w : World} {B : Nat} {A : Option Addr} {l : List Rp} (h : Row w B 7 A l.length (repC l)) (k : Nat) (r : Rp) (hp : l[k]? = some r) :
    ∃ g o, A = some ⟨g, o, none⟩ ∧ g < B ∧ ∀ j u, r.cells[j]? = some u → w.cell? ⟨g, o + k * 7 + j, none⟩ = some u := by
  have hk := (List.getElem?_eq_some_iff.1 hp).1
  obtain ⟨g, o, hA, hg, hc⟩ := h.2 (by omega)
  refine ⟨g, o, hA, hg, fun j u hu => ?_⟩
  have hj : j < 7 := (List.getElem?_eq_some_iff.1 hu).1
  rw [Nat.add_assoc]
  exact hc _ _ ((repC_get l k r hp j hj).trans hu)

/-- What holds in S2 holds in S. -/
theorem wpAnyH_more {P : Program} {md : Region.Mode} {ops : Array Oper} {Q : Exit → Act → World → Prop} {S S2 : World → Prop} (hs : ∀ w, S2 w → S w) : ∀ {fuel : Nat} {listed : Array Bool} {a : Act} {w : World}, wpAnyH P md ops Q S2 fuel listed a w → wpAnyH P md ops Q S fuel listed a w
  | 0, _, _, _, h => h
  | _ + 1, _, _, _, h => ⟨h.1, fun i hi => wpOp_mono (fun _ w' h' => ⟨hs w' h'.1, wpAnyH_more hs h'.2⟩) (h.2 i hi)⟩
theorem conv_at (b r : Nat) (hr : r < 256) (w' : World) (hw : Whole w' b 5 #[.int .u8 (r : Int)]) : (convert 25 9 (.slice (some ⟨b, 0, none⟩) 1 1)).run Tryd.prog w' = .ok (.string (str [UInt8.ofNat r])) w' := by
  refine run_text (P := Tryd.prog) _ 25 5 9 Tryd.underlying25 Tryd.underlying5 Tryd.underlying9 w'.heap.size _ 1 1 [UInt8.ofNat r] ⟨rfl, fun _ => ⟨b, 0, rfl, hw.lt, fun j u hu => ?_⟩⟩
  match j, hu with
  | 0, hu =>
    simp [u8s] at hu
    subst hu
    rw [hw.cell 0]
    simp
    omega
/-- The report's cells are as they were. -/
def RepBase (wo : World) (gp r0 r1 r2 r3 r4 r5 r6 : Nat) (w' : World) : Prop :=
  w'.cell? ⟨gp, 0, none⟩ = some (.int .u32 (r0 : Int)) ∧ w'.cell? ⟨gp, 1, none⟩ = some (.int .u8 (r1 : Int)) ∧ w'.cell? ⟨gp, 2, none⟩ = some (.int .u32 (r2 : Int)) ∧ w'.cell? ⟨gp, 3, none⟩ = some (.int .u32 (r3 : Int)) ∧ w'.cell? ⟨gp, 4, none⟩ = some (.int .u32 (r4 : Int)) ∧ w'.cell? ⟨gp, 5, none⟩ = some (.int .u32 (r5 : Int)) ∧ w'.cell? ⟨gp, 6, none⟩ = some (.int .u32 (r6 : Int)) ∧ Below wo.heap.size wo w'

set_option maxRecDepth 100000 in
set_option maxHeartbeats 6400000 in
theorem reports_any (A : Option Addr) (c n : Nat) (l : List Rp) (w : World) (h : Row w w.heap.size 7 A n (repC l)) (hn : l.length = n) (hf : ∀ r ∈ l, r.Fits) (hl : n ≤ 64) :
    Calls Tryd.prog 36 #[.slice A n c] w fun e w' => e = .returned (.string (str (repE l))) ∧ Below w.heap.size w w' := by
  have H := Lib.hid h
  have HF := Lib.hid hf
  have HN := Lib.hid hn
  clear h hf hn
  go_enter Tryd.func36, Tryd.ntmps36
  go_wp2
  go_loopw [3, 4] (fun s i wr => ∃ (k : Nat) (d : List UInt8), k ≤ n ∧ i = .int .i64 k ∧ s = .string (str d) ∧ d.length = 24 * k ∧ Hid (d = repE (l.take k)) ∧ Below w.heap.size w wr) (fun _ i _ => n - (intOf i).toNat)
  case atStart => exact ⟨0, [], Nat.zero_le _, rfl, rfl, rfl, Lib.hid rfl, Below.refl _ _⟩
  case round =>
    obtain ⟨k, d, hk, rfl, rfl, hd, HD, hb⟩ := hrel
    by_cases hlt : k < n
    · obtain ⟨r, hr⟩ : ∃ r, l[k]? = some r := ⟨l[k]'(by rw [HN.out]; exact hlt), by simp⟩
      obtain ⟨g, o, hA, hg, hcs⟩ := repC_at (by rw [HN.out]; exact H.out.below hb (Nat.le_refl _)) k r hr
      subst hA
      have HD' : Hid (d ++ r.enc = repE (l.take (k + 1))) := Lib.hid (by rw [repE_take l k r hr, HD.out])
      obtain ⟨f0, f1, f2, f3, f4, f5, f6⟩ := HF.out r (List.mem_of_getElem? hr)
      obtain ⟨r0, r1, r2, r3, r4, r5, r6⟩ := r
      dsimp only at f0 f1 f2 f3 f4 f5 f6
      have c0 : wr.cell? ⟨g, o + k * 7, none⟩ = some (.int .u32 (r0 : Int)) := hcs 0 _ rfl
      have c1 : wr.cell? ⟨g, o + k * 7 + 1, none⟩ = some (.int .u8 (r1 : Int)) := hcs 1 _ rfl
      have c2 : wr.cell? ⟨g, o + k * 7 + 2, none⟩ = some (.int .u32 (r2 : Int)) := hcs 2 _ rfl
      have c3 : wr.cell? ⟨g, o + k * 7 + 3, none⟩ = some (.int .u32 (r3 : Int)) := hcs 3 _ rfl
      have c4 : wr.cell? ⟨g, o + k * 7 + 4, none⟩ = some (.int .u32 (r4 : Int)) := hcs 4 _ rfl
      have c5 : wr.cell? ⟨g, o + k * 7 + 5, none⟩ = some (.int .u32 (r5 : Int)) := hcs 5 _ rfl
      have c6 : wr.cell? ⟨g, o + k * 7 + 6, none⟩ = some (.int .u32 (r6 : Int)) := hcs 6 _ rfl
      have hi1 : (0 : Int) ≤ (k : Int) := by omega
      have hi2 : (k : Int) < (n : Int) := by omega
      have hsz := hb.size
      have HB := Lib.hid hb
      clear hb hcs hr HD
      go_wp2_with fail
      obtain ⟨gp, hgp⟩ : ∃ gp, gp = wr.heap.size := ⟨_, rfl⟩
      obtain ⟨wo, hwo⟩ : ∃ wo, wo = wr.alloc (.cells #[.int .u32 (r0 : Int), .int .u8 (r1 : Int), .int .u32 (r2 : Int), .int .u32 (r3 : Int), .int .u32 (r4 : Int), .int .u32 (r5 : Int), .int .u32 (r6 : Int)] 61) := ⟨_, rfl⟩
      rw [← hgp, ← hwo]
      have hW : Whole wo gp 61 #[.int .u32 (r0 : Int), .int .u8 (r1 : Int), .int .u32 (r2 : Int), .int .u32 (r3 : Int), .int .u32 (r4 : Int), .int .u32 (r5 : Int), .int .u32 (r6 : Int)] := by rw [hwo, hgp]; exact Whole.new _ _ _
      have HBO : Hid (Below w.heap.size w wo) := Lib.hid (by rw [hwo]; exact HB.out.alloc hsz _)
      clear hwo hgp c0 c1 c2 c3 c4 c5 c6 HB hsz
      have KEEP := Lib.hid (fun w' (b : Below wo.heap.size wo w') => show RepBase wo gp r0 r1 r2 r3 r4 r5 r6 w' from by
        have h := hW.below b hW.lt
        exact ⟨h.cell 0, h.cell 1, h.cell 2, h.cell 3, h.cell 4, h.cell 5, h.cell 6, b⟩)
      obtain ⟨x0, hx0⟩ : ∃ x, bytesN r0 4 = x := ⟨_, rfl⟩
      have l0 : x0.length = 4 := by rw [← hx0]; exact bytesN_length _ _
      have D0 := Lib.hid (fun w' (b : Below wo.heap.size wo w') => show Calls Tryd.prog 34 #[.int .u32 (r0 : Int)] w' (fun e w'' => e = .returned (.string (str x0)) ∧ Below wo.heap.size wo w'' ∧ Below w'.heap.size w' w'') from by rw [← hx0]; exact (four_any r0 w' f0).mono fun e w'' hh => ⟨hh.1, bnext b hh.2, hh.2⟩)
      obtain ⟨x2, hx2⟩ : ∃ x, bytesN r2 3 = x := ⟨_, rfl⟩
      have l2 : x2.length = 3 := by rw [← hx2]; exact bytesN_length _ _
      have D2 := Lib.hid (fun w' (b : Below wo.heap.size wo w') => show Calls Tryd.prog 35 #[.int .u64 (IntKind.u64.wrap (r2 : Int)), .int .i64 3] w' (fun e w'' => e = .returned (.string (str x2)) ∧ Below wo.heap.size wo w'' ∧ Below w'.heap.size w' w'') from by rw [← hx2, u64_nat r2 (by omega)]; exact (refnum_as r2 3 w' (by omega) (by decide) (by decide)).mono fun e w'' hh => ⟨hh.1, bnext b hh.2, hh.2⟩)
      obtain ⟨x3, hx3⟩ : ∃ x, bytesN r3 4 = x := ⟨_, rfl⟩
      have l3 : x3.length = 4 := by rw [← hx3]; exact bytesN_length _ _
      have D3 := Lib.hid (fun w' (b : Below wo.heap.size wo w') => show Calls Tryd.prog 34 #[.int .u32 (r3 : Int)] w' (fun e w'' => e = .returned (.string (str x3)) ∧ Below wo.heap.size wo w'' ∧ Below w'.heap.size w' w'') from by rw [← hx3]; exact (four_any r3 w' f3).mono fun e w'' hh => ⟨hh.1, bnext b hh.2, hh.2⟩)
      obtain ⟨x4, hx4⟩ : ∃ x, bytesN r4 4 = x := ⟨_, rfl⟩
      have l4 : x4.length = 4 := by rw [← hx4]; exact bytesN_length _ _
      have D4 := Lib.hid (fun w' (b : Below wo.heap.size wo w') => show Calls Tryd.prog 34 #[.int .u32 (r4 : Int)] w' (fun e w'' => e = .returned (.string (str x4)) ∧ Below wo.heap.size wo w'' ∧ Below w'.heap.size w' w'') from by rw [← hx4]; exact (four_any r4 w' f4).mono fun e w'' hh => ⟨hh.1, bnext b hh.2, hh.2⟩)
      obtain ⟨x5, hx5⟩ : ∃ x, bytesN r5 4 = x := ⟨_, rfl⟩
      have l5 : x5.length = 4 := by rw [← hx5]; exact bytesN_length _ _
      have D5 := Lib.hid (fun w' (b : Below wo.heap.size wo w') => show Calls Tryd.prog 34 #[.int .u32 (r5 : Int)] w' (fun e w'' => e = .returned (.string (str x5)) ∧ Below wo.heap.size wo w'' ∧ Below w'.heap.size w' w'') from by rw [← hx5]; exact (four_any r5 w' f5).mono fun e w'' hh => ⟨hh.1, bnext b hh.2, hh.2⟩)
      obtain ⟨x6, hx6⟩ : ∃ x, bytesN r6 4 = x := ⟨_, rfl⟩
      have l6 : x6.length = 4 := by rw [← hx6]; exact bytesN_length _ _
      have D6 := Lib.hid (fun w' (b : Below wo.heap.size wo w') => show Calls Tryd.prog 34 #[.int .u32 (r6 : Int)] w' (fun e w'' => e = .returned (.string (str x6)) ∧ Below wo.heap.size wo w'' ∧ Below w'.heap.size w' w'') from by rw [← hx6]; exact (four_any r6 w' f6).mono fun e w'' hh => ⟨hh.1, bnext b hh.2, hh.2⟩)
      obtain ⟨x1, hx1⟩ : ∃ x, [UInt8.ofNat r1] = x := ⟨_, rfl⟩
      have l1 : x1.length = 1 := by rw [← hx1]; rfl
      obtain ⟨y1, hy1⟩ : ∃ y, x0 ++ x1 = y := ⟨_, rfl⟩
      have m1 : y1.length ≤ 24 := by rw [← hy1, List.length_append]; omega
      have a1 : ∀ wx, (Op.stringOp .add (str x0) (str x1)).run Tryd.prog wx = .ok (.string (str y1)) wx := by rw [← hy1]; exact fun wx => run_str_add wx x0 x1 (by omega)
      obtain ⟨y2, hy2⟩ : ∃ y, y1 ++ x2 = y := ⟨_, rfl⟩
      have m2 : y2.length ≤ 32 := by rw [← hy2, List.length_append]; omega
      have a2 : ∀ wx, (Op.stringOp .add (str y1) (str x2)).run Tryd.prog wx = .ok (.string (str y2)) wx := by rw [← hy2]; exact fun wx => run_str_add wx y1 x2 (by omega)
      obtain ⟨y3, hy3⟩ : ∃ y, y2 ++ x3 = y := ⟨_, rfl⟩
      have m3 : y3.length ≤ 36 := by rw [← hy3, List.length_append]; omega
      have a3 : ∀ wx, (Op.stringOp .add (str y2) (str x3)).run Tryd.prog wx = .ok (.string (str y3)) wx := by rw [← hy3]; exact fun wx => run_str_add wx y2 x3 (by omega)
      obtain ⟨y4, hy4⟩ : ∃ y, y3 ++ x4 = y := ⟨_, rfl⟩
      have m4 : y4.length ≤ 40 := by rw [← hy4, List.length_append]; omega
      have a4 : ∀ wx, (Op.stringOp .add (str y3) (str x4)).run Tryd.prog wx = .ok (.string (str y4)) wx := by rw [← hy4]; exact fun wx => run_str_add wx y3 x4 (by omega)
      obtain ⟨y5, hy5⟩ : ∃ y, y4 ++ x5 = y := ⟨_, rfl⟩
      have m5 : y5.length ≤ 44 := by rw [← hy5, List.length_append]; omega
      have a5 : ∀ wx, (Op.stringOp .add (str y4) (str x5)).run Tryd.prog wx = .ok (.string (str y5)) wx := by rw [← hy5]; exact fun wx => run_str_add wx y4 x5 (by omega)
      obtain ⟨y6, hy6⟩ : ∃ y, y5 ++ x6 = y := ⟨_, rfl⟩
      have m6 : y6.length ≤ 48 := by rw [← hy6, List.length_append]; omega
      have a6 : ∀ wx, (Op.stringOp .add (str y5) (str x6)).run Tryd.prog wx = .ok (.string (str y6)) wx := by rw [← hy6]; exact fun wx => run_str_add wx y5 x6 (by omega)
      obtain ⟨z, hz⟩ : ∃ z, d ++ y6 = z := ⟨_, rfl⟩
      have a7 : ∀ wx, (Op.stringOp .add (str d) (str y6)).run Tryd.prog wx = .ok (.string (str z)) wx := by rw [← hz]; exact fun wx => run_str_add wx d y6 (by omega)
      have HZ : Hid (z = repE (l.take (k + 1)) ∧ z.length = 24 * (k + 1)) := Lib.hid (by
        have e : z = d ++ Rp.enc ⟨r0, r1, r2, r3, r4, r5, r6⟩ := by
          rw [← hz, ← hy6, ← hy5, ← hy4, ← hy3, ← hy2, ← hy1, ← hx0, ← hx1, ← hx2, ← hx3, ← hx4, ← hx5, ← hx6]
          simp [Rp.enc]
        refine ⟨by rw [e, HD'.out], ?_⟩
        rw [e, List.length_append, Rp.enc_length, hd]
        omega)
      have conv_whole : ∀ (b : Nat) (w' : World), Whole w' b 5 #[.int .u8 (r1 : Int)] → (convert 25 9 (.slice (some ⟨b, 0, none⟩) 1 1)).run Tryd.prog w' = .ok (.string (str x1)) w' := by
        intro b w' hw
        rw [← hx1]
        exact conv_at b r1 f1 w' hw
      clear hW hx0 hx1 hx2 hx3 hx4 hx5 hx6 hy1 hy2 hy3 hy4 hy5 hy6 hz HD' l0 l1 l2 l3 l4 l5 l6 m1 m2 m3 m4 m5 m6
      have b0 : Below wo.heap.size wo wo.drew := (Below.refl _ _).drew
      refine wp_region_held_drew (S := RepBase wo gp r0 r1 r2 r3 r4 r5 r6) (by kernel_rfl) (KEEP.out _ b0) (fun hHeld0 => ?_)
      refine wpAnyH_take (i := 0) (v := ?_) rfl (by kernel_rfl) (by kernel_rfl) (by kernel_rfl) (fun _ _ _ h => h) (Or.inl ⟨by kernel_rfl, ?_⟩) (by assumption) ?_
      rotate_left 1
      · (intro w hSw; obtain ⟨q0, q1, q2, q3, q4, q5, q6, _⟩ := hSw; go_simp; try (with_reducible rfl))
      (try simp only [Act.put, List.getElem_toArray, List.getElem_cons_succ, List.getElem_cons_zero, List.setIfInBounds_toArray, List.set_cons_zero, List.set_cons_succ])
      refine wpAnyH_take (i := 1) (v := ?_) rfl (by kernel_rfl) (by kernel_rfl) (by kernel_rfl) (fun _ _ _ h => h) (Or.inl ⟨by kernel_rfl, ?_⟩) (by assumption) ?_
      rotate_left 1
      · (intro w hSw; obtain ⟨q0, q1, q2, q3, q4, q5, q6, _⟩ := hSw; go_simp; try (with_reducible rfl))
      (try simp only [Act.put, List.getElem_toArray, List.getElem_cons_succ, List.getElem_cons_zero, List.setIfInBounds_toArray, List.set_cons_zero, List.set_cons_succ])
      refine wpAnyH_take (i := 2) (v := ?_) rfl (by kernel_rfl) (by kernel_rfl) (by kernel_rfl) (fun _ _ _ h => h) (Or.inl ⟨by kernel_rfl, ?_⟩) (by assumption) ?_
      rotate_left 1
      · (intro w hSw; obtain ⟨q0, q1, q2, q3, q4, q5, q6, _⟩ := hSw; go_simp; try (with_reducible rfl))
      (try simp only [Act.put, List.getElem_toArray, List.getElem_cons_succ, List.getElem_cons_zero, List.setIfInBounds_toArray, List.set_cons_zero, List.set_cons_succ])
      refine wpAnyH_take (i := 4) (v := ?_) rfl (by kernel_rfl) (by kernel_rfl) (by kernel_rfl) (fun _ _ _ h => h) (Or.inl ⟨by kernel_rfl, ?_⟩) (by assumption) ?_
      rotate_left 1
      · (intro w hSw; obtain ⟨q0, q1, q2, q3, q4, q5, q6, _⟩ := hSw; go_simp; try (with_reducible rfl))
      (try simp only [Act.put, List.getElem_toArray, List.getElem_cons_succ, List.getElem_cons_zero, List.setIfInBounds_toArray, List.set_cons_zero, List.set_cons_succ])
      refine wpAnyH_take (i := 5) (v := ?_) rfl (by kernel_rfl) (by kernel_rfl) (by kernel_rfl) (fun _ _ _ h => h) (Or.inl ⟨by kernel_rfl, ?_⟩) (by assumption) ?_
      rotate_left 1
      · (intro w hSw; obtain ⟨q0, q1, q2, q3, q4, q5, q6, _⟩ := hSw; go_simp; try (with_reducible rfl))
      (try simp only [Act.put, List.getElem_toArray, List.getElem_cons_succ, List.getElem_cons_zero, List.setIfInBounds_toArray, List.set_cons_zero, List.set_cons_succ])
      refine wpAnyH_take (i := 9) (v := ?_) rfl (by kernel_rfl) (by kernel_rfl) (by kernel_rfl) (fun _ _ _ h => h) (Or.inl ⟨by kernel_rfl, ?_⟩) (by assumption) ?_
      rotate_left 1
      · (intro w hSw; obtain ⟨q0, q1, q2, q3, q4, q5, q6, _⟩ := hSw; go_simp; try (with_reducible rfl))
      (try simp only [Act.put, List.getElem_toArray, List.getElem_cons_succ, List.getElem_cons_zero, List.setIfInBounds_toArray, List.set_cons_zero, List.set_cons_succ])
      refine wpAnyH_take (i := 10) (v := ?_) rfl (by kernel_rfl) (by kernel_rfl) (by kernel_rfl) (fun _ _ _ h => h) (Or.inl ⟨by kernel_rfl, ?_⟩) (by assumption) ?_
      rotate_left 1
      · (intro w hSw; obtain ⟨q0, q1, q2, q3, q4, q5, q6, _⟩ := hSw; go_simp; try (with_reducible rfl))
      (try simp only [Act.put, List.getElem_toArray, List.getElem_cons_succ, List.getElem_cons_zero, List.setIfInBounds_toArray, List.set_cons_zero, List.set_cons_succ])
      refine wpAnyH_take (i := 11) (v := ?_) rfl (by kernel_rfl) (by kernel_rfl) (by kernel_rfl) (fun _ _ _ h => h) (Or.inl ⟨by kernel_rfl, ?_⟩) (by assumption) ?_
      rotate_left 1
      · (intro w hSw; obtain ⟨q0, q1, q2, q3, q4, q5, q6, _⟩ := hSw; go_simp; try (with_reducible rfl))
      (try simp only [Act.put, List.getElem_toArray, List.getElem_cons_succ, List.getElem_cons_zero, List.setIfInBounds_toArray, List.set_cons_zero, List.set_cons_succ])
      refine wpAnyH_take (i := 14) (v := ?_) rfl (by kernel_rfl) (by kernel_rfl) (by kernel_rfl) (fun _ _ _ h => h) (Or.inl ⟨by kernel_rfl, ?_⟩) (by assumption) ?_
      rotate_left 1
      · (intro w hSw; obtain ⟨q0, q1, q2, q3, q4, q5, q6, _⟩ := hSw; go_simp; try (with_reducible rfl))
      (try simp only [Act.put, List.getElem_toArray, List.getElem_cons_succ, List.getElem_cons_zero, List.setIfInBounds_toArray, List.set_cons_zero, List.set_cons_succ])
      refine wpAnyH_take (i := 15) (v := ?_) rfl (by kernel_rfl) (by kernel_rfl) (by kernel_rfl) (fun _ _ _ h => h) (Or.inl ⟨by kernel_rfl, ?_⟩) (by assumption) ?_
      rotate_left 1
      · (intro w hSw; obtain ⟨q0, q1, q2, q3, q4, q5, q6, _⟩ := hSw; go_simp; try (with_reducible rfl))
      (try simp only [Act.put, List.getElem_toArray, List.getElem_cons_succ, List.getElem_cons_zero, List.setIfInBounds_toArray, List.set_cons_zero, List.set_cons_succ])
      refine wpAnyH_take (i := 18) (v := ?_) rfl (by kernel_rfl) (by kernel_rfl) (by kernel_rfl) (fun _ _ _ h => h) (Or.inl ⟨by kernel_rfl, ?_⟩) (by assumption) ?_
      rotate_left 1
      · (intro w hSw; obtain ⟨q0, q1, q2, q3, q4, q5, q6, _⟩ := hSw; go_simp; try (with_reducible rfl))
      (try simp only [Act.put, List.getElem_toArray, List.getElem_cons_succ, List.getElem_cons_zero, List.setIfInBounds_toArray, List.set_cons_zero, List.set_cons_succ])
      refine wpAnyH_take (i := 19) (v := ?_) rfl (by kernel_rfl) (by kernel_rfl) (by kernel_rfl) (fun _ _ _ h => h) (Or.inl ⟨by kernel_rfl, ?_⟩) (by assumption) ?_
      rotate_left 1
      · (intro w hSw; obtain ⟨q0, q1, q2, q3, q4, q5, q6, _⟩ := hSw; go_simp; try (with_reducible rfl))
      (try simp only [Act.put, List.getElem_toArray, List.getElem_cons_succ, List.getElem_cons_zero, List.setIfInBounds_toArray, List.set_cons_zero, List.set_cons_succ])
      refine wpAnyH_take (i := 22) (v := ?_) rfl (by kernel_rfl) (by kernel_rfl) (by kernel_rfl) (fun _ _ _ h => h) (Or.inl ⟨by kernel_rfl, ?_⟩) (by assumption) ?_
      rotate_left 1
      · (intro w hSw; obtain ⟨q0, q1, q2, q3, q4, q5, q6, _⟩ := hSw; go_simp; try (with_reducible rfl))
      (try simp only [Act.put, List.getElem_toArray, List.getElem_cons_succ, List.getElem_cons_zero, List.setIfInBounds_toArray, List.set_cons_zero, List.set_cons_succ])
      refine wpAnyH_take (i := 23) (v := ?_) rfl (by kernel_rfl) (by kernel_rfl) (by kernel_rfl) (fun _ _ _ h => h) (Or.inl ⟨by kernel_rfl, ?_⟩) (by assumption) ?_
      rotate_left 1
      · (intro w hSw; obtain ⟨q0, q1, q2, q3, q4, q5, q6, _⟩ := hSw; go_simp; try (with_reducible rfl))
      (try simp only [Act.put, List.getElem_toArray, List.getElem_cons_succ, List.getElem_cons_zero, List.setIfInBounds_toArray, List.set_cons_zero, List.set_cons_succ])
      refine wpAnyH_take (i := 26) (v := ?_) rfl (by kernel_rfl) (by kernel_rfl) (by kernel_rfl) (fun _ _ _ h => h) (Or.inl ⟨by kernel_rfl, ?_⟩) (by assumption) ?_
      rotate_left 1
      · (intro w hSw; obtain ⟨q0, q1, q2, q3, q4, q5, q6, _⟩ := hSw; go_simp; try (with_reducible rfl))
      (try simp only [Act.put, List.getElem_toArray, List.getElem_cons_succ, List.getElem_cons_zero, List.setIfInBounds_toArray, List.set_cons_zero, List.set_cons_succ])
      refine wpAnyH_take (i := 27) (v := ?_) rfl (by kernel_rfl) (by kernel_rfl) (by kernel_rfl) (fun _ _ _ h => h) (Or.inl ⟨by kernel_rfl, ?_⟩) (by assumption) ?_
      rotate_left 1
      · (intro w hSw; obtain ⟨q0, q1, q2, q3, q4, q5, q6, _⟩ := hSw; go_simp; try (with_reducible rfl))
      (try simp only [Act.put, List.getElem_toArray, List.getElem_cons_succ, List.getElem_cons_zero, List.setIfInBounds_toArray, List.set_cons_zero, List.set_cons_succ])
      refine wpAnyH_ready (rs := [3, 6]) (by kernel_rfl) (by simp) ?_
      refine AllReadyH.cons rfl (fun K hK => ?_) ?_
      · go_simp
        go_wp2_with (go_at_call 34; refine (D0.out _ ?_).mono ?_; (exact b0); rintro e v1 ⟨rfl, b1, c1⟩)
        refine hK.out _ _ (KEEP.out _ b1) (fun hHeld1 => ?_)
        clear hK K
        (try simp only [Act.put, List.getElem_toArray, List.getElem_cons_succ, List.getElem_cons_zero, List.setIfInBounds_toArray, List.set_cons_zero, List.set_cons_succ])
        refine wpAnyH_ready (rs := [6, 12]) (by kernel_rfl) (by simp) ?_
        refine AllReadyH.cons rfl (fun K hK => ?_) ?_
        · go_simp
          have b2 := b1.alloc b1.size (.cells #[.int .u8 (r1 : Int)] 5)
          have hp2 : Whole (v1.alloc (.cells #[.int .u8 (r1 : Int)] 5)) v1.heap.size 5 #[.int .u8 (r1 : Int)] := Whole.new v1 _ _
          refine hK.out _ _ (KEEP.out _ b2) (fun _ => ?_)
          clear hK K
          (try simp only [Act.put, List.getElem_toArray, List.getElem_cons_succ, List.getElem_cons_zero, List.setIfInBounds_toArray, List.set_cons_zero, List.set_cons_succ])
          have hcv := conv_whole v1.heap.size
          refine wpAnyH_more (S2 := fun w' => RepBase wo gp r0 r1 r2 r3 r4 r5 r6 w' ∧ Whole w' v1.heap.size 5 #[.int .u8 (r1 : Int)]) (fun _ h => h.1) ?_
          have hHeld2 : (fun w' => RepBase wo gp r0 r1 r2 r3 r4 r5 r6 w' ∧ Whole w' v1.heap.size 5 #[.int .u8 (r1 : Int)]) (v1.alloc (.cells #[.int .u8 (r1 : Int)] 5)) := ⟨KEEP.out _ b2, hp2⟩
          refine wpAnyH_take (i := 7) (v := ?_) rfl (by kernel_rfl) (by kernel_rfl) (by kernel_rfl) (fun _ _ _ h => h) (Or.inl ⟨by kernel_rfl, ?_⟩) (by assumption) ?_
          rotate_left 1
          · (intro w hSw; obtain ⟨⟨q0, q1, q2, q3, q4, q5, q6, _⟩, qW⟩ := hSw; have qc := hcv w qW; go_simp; try (with_reducible rfl))
          (try simp only [Act.put, List.getElem_toArray, List.getElem_cons_succ, List.getElem_cons_zero, List.setIfInBounds_toArray, List.set_cons_zero, List.set_cons_succ])
          refine wpAnyH_take (i := 8) (v := ?_) rfl (by kernel_rfl) (by kernel_rfl) (by kernel_rfl) (fun _ _ _ h => h) (Or.inl ⟨by kernel_rfl, ?_⟩) (by assumption) ?_
          rotate_left 1
          · (intro w hSw; obtain ⟨⟨q0, q1, q2, q3, q4, q5, q6, _⟩, qW⟩ := hSw; go_simp; try (with_reducible rfl))
          (try simp only [Act.put, List.getElem_toArray, List.getElem_cons_succ, List.getElem_cons_zero, List.setIfInBounds_toArray, List.set_cons_zero, List.set_cons_succ])
          refine wpAnyH_ready (rs := [12]) (by kernel_rfl) (by simp) ?_
          refine AllReadyH.cons rfl (fun K hK => ?_) ?_
          · go_simp
            go_wp2_with (go_at_call 35; refine (D2.out _ ?_).mono ?_; (exact b2); rintro e v3 ⟨rfl, b3, c3⟩)
            have hp3 := hp2.below c3 hp2.lt
            refine hK.out _ _ ⟨KEEP.out _ b3, hp3⟩ (fun hHeld3 => ?_)
            clear hK K
            (try simp only [Act.put, List.getElem_toArray, List.getElem_cons_succ, List.getElem_cons_zero, List.setIfInBounds_toArray, List.set_cons_zero, List.set_cons_succ])
            refine wpAnyH_take (i := 13) (v := ?_) rfl (by kernel_rfl) (by kernel_rfl) (by kernel_rfl) (fun _ _ _ h => h) (Or.inl ⟨by kernel_rfl, ?_⟩) (by assumption) ?_
            rotate_left 1
            · (intro w hSw; obtain ⟨⟨q0, q1, q2, q3, q4, q5, q6, _⟩, qW⟩ := hSw; go_simp; try (with_reducible rfl))
            (try simp only [Act.put, List.getElem_toArray, List.getElem_cons_succ, List.getElem_cons_zero, List.setIfInBounds_toArray, List.set_cons_zero, List.set_cons_succ])
            refine wpAnyH_ready (rs := [16]) (by kernel_rfl) (by simp) ?_
            refine AllReadyH.cons rfl (fun K hK => ?_) ?_
            · go_simp
              go_wp2_with (go_at_call 34; refine (D3.out _ ?_).mono ?_; (exact b3); rintro e v4 ⟨rfl, b4, c4⟩)
              have hp4 := hp3.below c4 hp3.lt
              refine hK.out _ _ ⟨KEEP.out _ b4, hp4⟩ (fun hHeld4 => ?_)
              clear hK K
              (try simp only [Act.put, List.getElem_toArray, List.getElem_cons_succ, List.getElem_cons_zero, List.setIfInBounds_toArray, List.set_cons_zero, List.set_cons_succ])
              refine wpAnyH_take (i := 17) (v := ?_) rfl (by kernel_rfl) (by kernel_rfl) (by kernel_rfl) (fun _ _ _ h => h) (Or.inl ⟨by kernel_rfl, ?_⟩) (by assumption) ?_
              rotate_left 1
              · (intro w hSw; obtain ⟨⟨q0, q1, q2, q3, q4, q5, q6, _⟩, qW⟩ := hSw; go_simp; try (with_reducible rfl))
              (try simp only [Act.put, List.getElem_toArray, List.getElem_cons_succ, List.getElem_cons_zero, List.setIfInBounds_toArray, List.set_cons_zero, List.set_cons_succ])
              refine wpAnyH_ready (rs := [20]) (by kernel_rfl) (by simp) ?_
              refine AllReadyH.cons rfl (fun K hK => ?_) ?_
              · go_simp
                go_wp2_with (go_at_call 34; refine (D4.out _ ?_).mono ?_; (exact b4); rintro e v5 ⟨rfl, b5, c5⟩)
                have hp5 := hp4.below c5 hp4.lt
                refine hK.out _ _ ⟨KEEP.out _ b5, hp5⟩ (fun hHeld5 => ?_)
                clear hK K
                (try simp only [Act.put, List.getElem_toArray, List.getElem_cons_succ, List.getElem_cons_zero, List.setIfInBounds_toArray, List.set_cons_zero, List.set_cons_succ])
                refine wpAnyH_take (i := 21) (v := ?_) rfl (by kernel_rfl) (by kernel_rfl) (by kernel_rfl) (fun _ _ _ h => h) (Or.inl ⟨by kernel_rfl, ?_⟩) (by assumption) ?_
                rotate_left 1
                · (intro w hSw; obtain ⟨⟨q0, q1, q2, q3, q4, q5, q6, _⟩, qW⟩ := hSw; go_simp; try (with_reducible rfl))
                (try simp only [Act.put, List.getElem_toArray, List.getElem_cons_succ, List.getElem_cons_zero, List.setIfInBounds_toArray, List.set_cons_zero, List.set_cons_succ])
                refine wpAnyH_ready (rs := [24]) (by kernel_rfl) (by simp) ?_
                refine AllReadyH.cons rfl (fun K hK => ?_) ?_
                · go_simp
                  go_wp2_with (go_at_call 34; refine (D5.out _ ?_).mono ?_; (exact b5); rintro e v6 ⟨rfl, b6, c6⟩)
                  have hp6 := hp5.below c6 hp5.lt
                  refine hK.out _ _ ⟨KEEP.out _ b6, hp6⟩ (fun hHeld6 => ?_)
                  clear hK K
                  (try simp only [Act.put, List.getElem_toArray, List.getElem_cons_succ, List.getElem_cons_zero, List.setIfInBounds_toArray, List.set_cons_zero, List.set_cons_succ])
                  refine wpAnyH_take (i := 25) (v := ?_) rfl (by kernel_rfl) (by kernel_rfl) (by kernel_rfl) (fun _ _ _ h => h) (Or.inl ⟨by kernel_rfl, ?_⟩) (by assumption) ?_
                  rotate_left 1
                  · (intro w hSw; obtain ⟨⟨q0, q1, q2, q3, q4, q5, q6, _⟩, qW⟩ := hSw; go_simp; try (with_reducible rfl))
                  (try simp only [Act.put, List.getElem_toArray, List.getElem_cons_succ, List.getElem_cons_zero, List.setIfInBounds_toArray, List.set_cons_zero, List.set_cons_succ])
                  refine wpAnyH_ready (rs := [28]) (by kernel_rfl) (by simp) ?_
                  refine AllReadyH.cons rfl (fun K hK => ?_) ?_
                  · go_simp
                    go_wp2_with (go_at_call 34; refine (D6.out _ ?_).mono ?_; (exact b6); rintro e v7 ⟨rfl, b7, c7⟩)
                    have hp7 := hp6.below c7 hp6.lt
                    refine hK.out _ _ ⟨KEEP.out _ b7, hp7⟩ (fun hHeld7 => ?_)
                    clear hK K
                    (try simp only [Act.put, List.getElem_toArray, List.getElem_cons_succ, List.getElem_cons_zero, List.setIfInBounds_toArray, List.set_cons_zero, List.set_cons_succ])
                    refine wpAnyH_take (i := 29) (v := ?_) rfl (by kernel_rfl) (by kernel_rfl) (by kernel_rfl) (fun _ _ _ h => h) (Or.inl ⟨by kernel_rfl, ?_⟩) (by assumption) ?_
                    rotate_left 1
                    · (intro w hSw; obtain ⟨⟨q0, q1, q2, q3, q4, q5, q6, _⟩, qW⟩ := hSw; go_simp; try (with_reducible rfl))
                    (try simp only [Act.put, List.getElem_toArray, List.getElem_cons_succ, List.getElem_cons_zero, List.setIfInBounds_toArray, List.set_cons_zero, List.set_cons_succ])
                    refine wpAnyH_take (i := 30) (v := ?_) rfl (by kernel_rfl) (by kernel_rfl) (by kernel_rfl) (fun _ _ _ h => h) (Or.inl ⟨by kernel_rfl, ?_⟩) (by assumption) ?_
                    rotate_left 1
                    · (intro w hSw; obtain ⟨⟨q0, q1, q2, q3, q4, q5, q6, _⟩, qW⟩ := hSw; go_simp; try (with_reducible rfl))
                    (try simp only [Act.put, List.getElem_toArray, List.getElem_cons_succ, List.getElem_cons_zero, List.setIfInBounds_toArray, List.set_cons_zero, List.set_cons_succ])
                    refine wpAnyH_take (i := 31) (v := ?_) rfl (by kernel_rfl) (by kernel_rfl) (by kernel_rfl) (fun _ _ _ h => h) (Or.inl ⟨by kernel_rfl, ?_⟩) (by assumption) ?_
                    rotate_left 1
                    · (intro w hSw; obtain ⟨⟨q0, q1, q2, q3, q4, q5, q6, _⟩, qW⟩ := hSw; go_simp; try (with_reducible rfl))
                    (try simp only [Act.put, List.getElem_toArray, List.getElem_cons_succ, List.getElem_cons_zero, List.setIfInBounds_toArray, List.set_cons_zero, List.set_cons_succ])
                    refine wpAnyH_done (by kernel_rfl) ?_ _
                    go_wp2
                    go_roundw
                    case rel => exact ⟨k + 1, z, by omega, by go_num, rfl, HZ.out.2, Lib.hid HZ.out.1, bnext HBO.out b7⟩
                    case measure => simp [intOf]; omega
                  exact AllReadyH.nil
                exact AllReadyH.nil
              exact AllReadyH.nil
            exact AllReadyH.nil
          exact AllReadyH.nil
        refine AllReadyH.cons rfl (fun K hK => ?_) ?_
        · go_simp
          go_wp2_with (go_at_call 35; refine (D2.out _ ?_).mono ?_; (exact b1); rintro e v2 ⟨rfl, b2, c2⟩)
          refine hK.out _ _ (KEEP.out _ b2) (fun hHeld2 => ?_)
          clear hK K
          (try simp only [Act.put, List.getElem_toArray, List.getElem_cons_succ, List.getElem_cons_zero, List.setIfInBounds_toArray, List.set_cons_zero, List.set_cons_succ])
          refine wpAnyH_ready (rs := [6, 16]) (by kernel_rfl) (by simp) ?_
          refine AllReadyH.cons rfl (fun K hK => ?_) ?_
          · go_simp
            have b3 := b2.alloc b2.size (.cells #[.int .u8 (r1 : Int)] 5)
            have hp3 : Whole (v2.alloc (.cells #[.int .u8 (r1 : Int)] 5)) v2.heap.size 5 #[.int .u8 (r1 : Int)] := Whole.new v2 _ _
            refine hK.out _ _ (KEEP.out _ b3) (fun _ => ?_)
            clear hK K
            (try simp only [Act.put, List.getElem_toArray, List.getElem_cons_succ, List.getElem_cons_zero, List.setIfInBounds_toArray, List.set_cons_zero, List.set_cons_succ])
            have hcv := conv_whole v2.heap.size
            refine wpAnyH_more (S2 := fun w' => RepBase wo gp r0 r1 r2 r3 r4 r5 r6 w' ∧ Whole w' v2.heap.size 5 #[.int .u8 (r1 : Int)]) (fun _ h => h.1) ?_
            have hHeld3 : (fun w' => RepBase wo gp r0 r1 r2 r3 r4 r5 r6 w' ∧ Whole w' v2.heap.size 5 #[.int .u8 (r1 : Int)]) (v2.alloc (.cells #[.int .u8 (r1 : Int)] 5)) := ⟨KEEP.out _ b3, hp3⟩
            refine wpAnyH_take (i := 7) (v := ?_) rfl (by kernel_rfl) (by kernel_rfl) (by kernel_rfl) (fun _ _ _ h => h) (Or.inl ⟨by kernel_rfl, ?_⟩) (by assumption) ?_
            rotate_left 1
            · (intro w hSw; obtain ⟨⟨q0, q1, q2, q3, q4, q5, q6, _⟩, qW⟩ := hSw; have qc := hcv w qW; go_simp; try (with_reducible rfl))
            (try simp only [Act.put, List.getElem_toArray, List.getElem_cons_succ, List.getElem_cons_zero, List.setIfInBounds_toArray, List.set_cons_zero, List.set_cons_succ])
            refine wpAnyH_take (i := 8) (v := ?_) rfl (by kernel_rfl) (by kernel_rfl) (by kernel_rfl) (fun _ _ _ h => h) (Or.inl ⟨by kernel_rfl, ?_⟩) (by assumption) ?_
            rotate_left 1
            · (intro w hSw; obtain ⟨⟨q0, q1, q2, q3, q4, q5, q6, _⟩, qW⟩ := hSw; go_simp; try (with_reducible rfl))
            (try simp only [Act.put, List.getElem_toArray, List.getElem_cons_succ, List.getElem_cons_zero, List.setIfInBounds_toArray, List.set_cons_zero, List.set_cons_succ])
            refine wpAnyH_take (i := 13) (v := ?_) rfl (by kernel_rfl) (by kernel_rfl) (by kernel_rfl) (fun _ _ _ h => h) (Or.inl ⟨by kernel_rfl, ?_⟩) (by assumption) ?_
            rotate_left 1
            · (intro w hSw; obtain ⟨⟨q0, q1, q2, q3, q4, q5, q6, _⟩, qW⟩ := hSw; go_simp; try (with_reducible rfl))
            (try simp only [Act.put, List.getElem_toArray, List.getElem_cons_succ, List.getElem_cons_zero, List.setIfInBounds_toArray, List.set_cons_zero, List.set_cons_succ])
            refine wpAnyH_ready (rs := [16]) (by kernel_rfl) (by simp) ?_
            refine AllReadyH.cons rfl (fun K hK => ?_) ?_
            · go_simp
              go_wp2_with (go_at_call 34; refine (D3.out _ ?_).mono ?_; (exact b3); rintro e v4 ⟨rfl, b4, c4⟩)
              have hp4 := hp3.below c4 hp3.lt
              refine hK.out _ _ ⟨KEEP.out _ b4, hp4⟩ (fun hHeld4 => ?_)
              clear hK K
              (try simp only [Act.put, List.getElem_toArray, List.getElem_cons_succ, List.getElem_cons_zero, List.setIfInBounds_toArray, List.set_cons_zero, List.set_cons_succ])
              refine wpAnyH_take (i := 17) (v := ?_) rfl (by kernel_rfl) (by kernel_rfl) (by kernel_rfl) (fun _ _ _ h => h) (Or.inl ⟨by kernel_rfl, ?_⟩) (by assumption) ?_
              rotate_left 1
              · (intro w hSw; obtain ⟨⟨q0, q1, q2, q3, q4, q5, q6, _⟩, qW⟩ := hSw; go_simp; try (with_reducible rfl))
              (try simp only [Act.put, List.getElem_toArray, List.getElem_cons_succ, List.getElem_cons_zero, List.setIfInBounds_toArray, List.set_cons_zero, List.set_cons_succ])
              refine wpAnyH_ready (rs := [20]) (by kernel_rfl) (by simp) ?_
              refine AllReadyH.cons rfl (fun K hK => ?_) ?_
              · go_simp
                go_wp2_with (go_at_call 34; refine (D4.out _ ?_).mono ?_; (exact b4); rintro e v5 ⟨rfl, b5, c5⟩)
                have hp5 := hp4.below c5 hp4.lt
                refine hK.out _ _ ⟨KEEP.out _ b5, hp5⟩ (fun hHeld5 => ?_)
                clear hK K
                (try simp only [Act.put, List.getElem_toArray, List.getElem_cons_succ, List.getElem_cons_zero, List.setIfInBounds_toArray, List.set_cons_zero, List.set_cons_succ])
                refine wpAnyH_take (i := 21) (v := ?_) rfl (by kernel_rfl) (by kernel_rfl) (by kernel_rfl) (fun _ _ _ h => h) (Or.inl ⟨by kernel_rfl, ?_⟩) (by assumption) ?_
                rotate_left 1
                · (intro w hSw; obtain ⟨⟨q0, q1, q2, q3, q4, q5, q6, _⟩, qW⟩ := hSw; go_simp; try (with_reducible rfl))
                (try simp only [Act.put, List.getElem_toArray, List.getElem_cons_succ, List.getElem_cons_zero, List.setIfInBounds_toArray, List.set_cons_zero, List.set_cons_succ])
                refine wpAnyH_ready (rs := [24]) (by kernel_rfl) (by simp) ?_
                refine AllReadyH.cons rfl (fun K hK => ?_) ?_
                · go_simp
                  go_wp2_with (go_at_call 34; refine (D5.out _ ?_).mono ?_; (exact b5); rintro e v6 ⟨rfl, b6, c6⟩)
                  have hp6 := hp5.below c6 hp5.lt
                  refine hK.out _ _ ⟨KEEP.out _ b6, hp6⟩ (fun hHeld6 => ?_)
                  clear hK K
                  (try simp only [Act.put, List.getElem_toArray, List.getElem_cons_succ, List.getElem_cons_zero, List.setIfInBounds_toArray, List.set_cons_zero, List.set_cons_succ])
                  refine wpAnyH_take (i := 25) (v := ?_) rfl (by kernel_rfl) (by kernel_rfl) (by kernel_rfl) (fun _ _ _ h => h) (Or.inl ⟨by kernel_rfl, ?_⟩) (by assumption) ?_
                  rotate_left 1
                  · (intro w hSw; obtain ⟨⟨q0, q1, q2, q3, q4, q5, q6, _⟩, qW⟩ := hSw; go_simp; try (with_reducible rfl))
                  (try simp only [Act.put, List.getElem_toArray, List.getElem_cons_succ, List.getElem_cons_zero, List.setIfInBounds_toArray, List.set_cons_zero, List.set_cons_succ])
                  refine wpAnyH_ready (rs := [28]) (by kernel_rfl) (by simp) ?_
                  refine AllReadyH.cons rfl (fun K hK => ?_) ?_
                  · go_simp
                    go_wp2_with (go_at_call 34; refine (D6.out _ ?_).mono ?_; (exact b6); rintro e v7 ⟨rfl, b7, c7⟩)
                    have hp7 := hp6.below c7 hp6.lt
                    refine hK.out _ _ ⟨KEEP.out _ b7, hp7⟩ (fun hHeld7 => ?_)
                    clear hK K
                    (try simp only [Act.put, List.getElem_toArray, List.getElem_cons_succ, List.getElem_cons_zero, List.setIfInBounds_toArray, List.set_cons_zero, List.set_cons_succ])
                    refine wpAnyH_take (i := 29) (v := ?_) rfl (by kernel_rfl) (by kernel_rfl) (by kernel_rfl) (fun _ _ _ h => h) (Or.inl ⟨by kernel_rfl, ?_⟩) (by assumption) ?_
                    rotate_left 1
                    · (intro w hSw; obtain ⟨⟨q0, q1, q2, q3, q4, q5, q6, _⟩, qW⟩ := hSw; go_simp; try (with_reducible rfl))
                    (try simp only [Act.put, List.getElem_toArray, List.getElem_cons_succ, List.getElem_cons_zero, List.setIfInBounds_toArray, List.set_cons_zero, List.set_cons_succ])
                    refine wpAnyH_take (i := 30) (v := ?_) rfl (by kernel_rfl) (by kernel_rfl) (by kernel_rfl) (fun _ _ _ h => h) (Or.inl ⟨by kernel_rfl, ?_⟩) (by assumption) ?_
                    rotate_left 1
                    · (intro w hSw; obtain ⟨⟨q0, q1, q2, q3, q4, q5, q6, _⟩, qW⟩ := hSw; go_simp; try (with_reducible rfl))
                    (try simp only [Act.put, List.getElem_toArray, List.getElem_cons_succ, List.getElem_cons_zero, List.setIfInBounds_toArray, List.set_cons_zero, List.set_cons_succ])
                    refine wpAnyH_take (i := 31) (v := ?_) rfl (by kernel_rfl) (by kernel_rfl) (by kernel_rfl) (fun _ _ _ h => h) (Or.inl ⟨by kernel_rfl, ?_⟩) (by assumption) ?_
                    rotate_left 1
                    · (intro w hSw; obtain ⟨⟨q0, q1, q2, q3, q4, q5, q6, _⟩, qW⟩ := hSw; go_simp; try (with_reducible rfl))
                    (try simp only [Act.put, List.getElem_toArray, List.getElem_cons_succ, List.getElem_cons_zero, List.setIfInBounds_toArray, List.set_cons_zero, List.set_cons_succ])
                    refine wpAnyH_done (by kernel_rfl) ?_ _
                    go_wp2
                    go_roundw
                    case rel => exact ⟨k + 1, z, by omega, by go_num, rfl, HZ.out.2, Lib.hid HZ.out.1, bnext HBO.out b7⟩
                    case measure => simp [intOf]; omega
                  exact AllReadyH.nil
                exact AllReadyH.nil
              exact AllReadyH.nil
            exact AllReadyH.nil
          refine AllReadyH.cons rfl (fun K hK => ?_) ?_
          · go_simp
            go_wp2_with (go_at_call 34; refine (D3.out _ ?_).mono ?_; (exact b2); rintro e v3 ⟨rfl, b3, c3⟩)
            refine hK.out _ _ (KEEP.out _ b3) (fun hHeld3 => ?_)
            clear hK K
            (try simp only [Act.put, List.getElem_toArray, List.getElem_cons_succ, List.getElem_cons_zero, List.setIfInBounds_toArray, List.set_cons_zero, List.set_cons_succ])
            refine wpAnyH_ready (rs := [6, 20]) (by kernel_rfl) (by simp) ?_
            refine AllReadyH.cons rfl (fun K hK => ?_) ?_
            · go_simp
              have b4 := b3.alloc b3.size (.cells #[.int .u8 (r1 : Int)] 5)
              have hp4 : Whole (v3.alloc (.cells #[.int .u8 (r1 : Int)] 5)) v3.heap.size 5 #[.int .u8 (r1 : Int)] := Whole.new v3 _ _
              refine hK.out _ _ (KEEP.out _ b4) (fun _ => ?_)
              clear hK K
              (try simp only [Act.put, List.getElem_toArray, List.getElem_cons_succ, List.getElem_cons_zero, List.setIfInBounds_toArray, List.set_cons_zero, List.set_cons_succ])
              have hcv := conv_whole v3.heap.size
              refine wpAnyH_more (S2 := fun w' => RepBase wo gp r0 r1 r2 r3 r4 r5 r6 w' ∧ Whole w' v3.heap.size 5 #[.int .u8 (r1 : Int)]) (fun _ h => h.1) ?_
              have hHeld4 : (fun w' => RepBase wo gp r0 r1 r2 r3 r4 r5 r6 w' ∧ Whole w' v3.heap.size 5 #[.int .u8 (r1 : Int)]) (v3.alloc (.cells #[.int .u8 (r1 : Int)] 5)) := ⟨KEEP.out _ b4, hp4⟩
              refine wpAnyH_take (i := 7) (v := ?_) rfl (by kernel_rfl) (by kernel_rfl) (by kernel_rfl) (fun _ _ _ h => h) (Or.inl ⟨by kernel_rfl, ?_⟩) (by assumption) ?_
              rotate_left 1
              · (intro w hSw; obtain ⟨⟨q0, q1, q2, q3, q4, q5, q6, _⟩, qW⟩ := hSw; have qc := hcv w qW; go_simp; try (with_reducible rfl))
              (try simp only [Act.put, List.getElem_toArray, List.getElem_cons_succ, List.getElem_cons_zero, List.setIfInBounds_toArray, List.set_cons_zero, List.set_cons_succ])
              refine wpAnyH_take (i := 8) (v := ?_) rfl (by kernel_rfl) (by kernel_rfl) (by kernel_rfl) (fun _ _ _ h => h) (Or.inl ⟨by kernel_rfl, ?_⟩) (by assumption) ?_
              rotate_left 1
              · (intro w hSw; obtain ⟨⟨q0, q1, q2, q3, q4, q5, q6, _⟩, qW⟩ := hSw; go_simp; try (with_reducible rfl))
              (try simp only [Act.put, List.getElem_toArray, List.getElem_cons_succ, List.getElem_cons_zero, List.setIfInBounds_toArray, List.set_cons_zero, List.set_cons_succ])
              refine wpAnyH_take (i := 13) (v := ?_) rfl (by kernel_rfl) (by kernel_rfl) (by kernel_rfl) (fun _ _ _ h => h) (Or.inl ⟨by kernel_rfl, ?_⟩) (by assumption) ?_
              rotate_left 1
              · (intro w hSw; obtain ⟨⟨q0, q1, q2, q3, q4, q5, q6, _⟩, qW⟩ := hSw; go_simp; try (with_reducible rfl))
              (try simp only [Act.put, List.getElem_toArray, List.getElem_cons_succ, List.getElem_cons_zero, List.setIfInBounds_toArray, List.set_cons_zero, List.set_cons_succ])
              refine wpAnyH_take (i := 17) (v := ?_) rfl (by kernel_rfl) (by kernel_rfl) (by kernel_rfl) (fun _ _ _ h => h) (Or.inl ⟨by kernel_rfl, ?_⟩) (by assumption) ?_
              rotate_left 1
              · (intro w hSw; obtain ⟨⟨q0, q1, q2, q3, q4, q5, q6, _⟩, qW⟩ := hSw; go_simp; try (with_reducible rfl))
              (try simp only [Act.put, List.getElem_toArray, List.getElem_cons_succ, List.getElem_cons_zero, List.setIfInBounds_toArray, List.set_cons_zero, List.set_cons_succ])
              refine wpAnyH_ready (rs := [20]) (by kernel_rfl) (by simp) ?_
              refine AllReadyH.cons rfl (fun K hK => ?_) ?_
              · go_simp
                go_wp2_with (go_at_call 34; refine (D4.out _ ?_).mono ?_; (exact b4); rintro e v5 ⟨rfl, b5, c5⟩)
                have hp5 := hp4.below c5 hp4.lt
                refine hK.out _ _ ⟨KEEP.out _ b5, hp5⟩ (fun hHeld5 => ?_)
                clear hK K
                (try simp only [Act.put, List.getElem_toArray, List.getElem_cons_succ, List.getElem_cons_zero, List.setIfInBounds_toArray, List.set_cons_zero, List.set_cons_succ])
                refine wpAnyH_take (i := 21) (v := ?_) rfl (by kernel_rfl) (by kernel_rfl) (by kernel_rfl) (fun _ _ _ h => h) (Or.inl ⟨by kernel_rfl, ?_⟩) (by assumption) ?_
                rotate_left 1
                · (intro w hSw; obtain ⟨⟨q0, q1, q2, q3, q4, q5, q6, _⟩, qW⟩ := hSw; go_simp; try (with_reducible rfl))
                (try simp only [Act.put, List.getElem_toArray, List.getElem_cons_succ, List.getElem_cons_zero, List.setIfInBounds_toArray, List.set_cons_zero, List.set_cons_succ])
                refine wpAnyH_ready (rs := [24]) (by kernel_rfl) (by simp) ?_
                refine AllReadyH.cons rfl (fun K hK => ?_) ?_
                · go_simp
                  go_wp2_with (go_at_call 34; refine (D5.out _ ?_).mono ?_; (exact b5); rintro e v6 ⟨rfl, b6, c6⟩)
                  have hp6 := hp5.below c6 hp5.lt
                  refine hK.out _ _ ⟨KEEP.out _ b6, hp6⟩ (fun hHeld6 => ?_)
                  clear hK K
                  (try simp only [Act.put, List.getElem_toArray, List.getElem_cons_succ, List.getElem_cons_zero, List.setIfInBounds_toArray, List.set_cons_zero, List.set_cons_succ])
                  refine wpAnyH_take (i := 25) (v := ?_) rfl (by kernel_rfl) (by kernel_rfl) (by kernel_rfl) (fun _ _ _ h => h) (Or.inl ⟨by kernel_rfl, ?_⟩) (by assumption) ?_
                  rotate_left 1
                  · (intro w hSw; obtain ⟨⟨q0, q1, q2, q3, q4, q5, q6, _⟩, qW⟩ := hSw; go_simp; try (with_reducible rfl))
                  (try simp only [Act.put, List.getElem_toArray, List.getElem_cons_succ, List.getElem_cons_zero, List.setIfInBounds_toArray, List.set_cons_zero, List.set_cons_succ])
                  refine wpAnyH_ready (rs := [28]) (by kernel_rfl) (by simp) ?_
                  refine AllReadyH.cons rfl (fun K hK => ?_) ?_
                  · go_simp
                    go_wp2_with (go_at_call 34; refine (D6.out _ ?_).mono ?_; (exact b6); rintro e v7 ⟨rfl, b7, c7⟩)
                    have hp7 := hp6.below c7 hp6.lt
                    refine hK.out _ _ ⟨KEEP.out _ b7, hp7⟩ (fun hHeld7 => ?_)
                    clear hK K
                    (try simp only [Act.put, List.getElem_toArray, List.getElem_cons_succ, List.getElem_cons_zero, List.setIfInBounds_toArray, List.set_cons_zero, List.set_cons_succ])
                    refine wpAnyH_take (i := 29) (v := ?_) rfl (by kernel_rfl) (by kernel_rfl) (by kernel_rfl) (fun _ _ _ h => h) (Or.inl ⟨by kernel_rfl, ?_⟩) (by assumption) ?_
                    rotate_left 1
                    · (intro w hSw; obtain ⟨⟨q0, q1, q2, q3, q4, q5, q6, _⟩, qW⟩ := hSw; go_simp; try (with_reducible rfl))
                    (try simp only [Act.put, List.getElem_toArray, List.getElem_cons_succ, List.getElem_cons_zero, List.setIfInBounds_toArray, List.set_cons_zero, List.set_cons_succ])
                    refine wpAnyH_take (i := 30) (v := ?_) rfl (by kernel_rfl) (by kernel_rfl) (by kernel_rfl) (fun _ _ _ h => h) (Or.inl ⟨by kernel_rfl, ?_⟩) (by assumption) ?_
                    rotate_left 1
                    · (intro w hSw; obtain ⟨⟨q0, q1, q2, q3, q4, q5, q6, _⟩, qW⟩ := hSw; go_simp; try (with_reducible rfl))
                    (try simp only [Act.put, List.getElem_toArray, List.getElem_cons_succ, List.getElem_cons_zero, List.setIfInBounds_toArray, List.set_cons_zero, List.set_cons_succ])
                    refine wpAnyH_take (i := 31) (v := ?_) rfl (by kernel_rfl) (by kernel_rfl) (by kernel_rfl) (fun _ _ _ h => h) (Or.inl ⟨by kernel_rfl, ?_⟩) (by assumption) ?_
                    rotate_left 1
                    · (intro w hSw; obtain ⟨⟨q0, q1, q2, q3, q4, q5, q6, _⟩, qW⟩ := hSw; go_simp; try (with_reducible rfl))
                    (try simp only [Act.put, List.getElem_toArray, List.getElem_cons_succ, List.getElem_cons_zero, List.setIfInBounds_toArray, List.set_cons_zero, List.set_cons_succ])
                    refine wpAnyH_done (by kernel_rfl) ?_ _
                    go_wp2
                    go_roundw
                    case rel => exact ⟨k + 1, z, by omega, by go_num, rfl, HZ.out.2, Lib.hid HZ.out.1, bnext HBO.out b7⟩
                    case measure => simp [intOf]; omega
                  exact AllReadyH.nil
                exact AllReadyH.nil
              exact AllReadyH.nil
            refine AllReadyH.cons rfl (fun K hK => ?_) ?_
            · go_simp
              go_wp2_with (go_at_call 34; refine (D4.out _ ?_).mono ?_; (exact b3); rintro e v4 ⟨rfl, b4, c4⟩)
              refine hK.out _ _ (KEEP.out _ b4) (fun hHeld4 => ?_)
              clear hK K
              (try simp only [Act.put, List.getElem_toArray, List.getElem_cons_succ, List.getElem_cons_zero, List.setIfInBounds_toArray, List.set_cons_zero, List.set_cons_succ])
              refine wpAnyH_ready (rs := [6, 24]) (by kernel_rfl) (by simp) ?_
              refine AllReadyH.cons rfl (fun K hK => ?_) ?_
              · go_simp
                have b5 := b4.alloc b4.size (.cells #[.int .u8 (r1 : Int)] 5)
                have hp5 : Whole (v4.alloc (.cells #[.int .u8 (r1 : Int)] 5)) v4.heap.size 5 #[.int .u8 (r1 : Int)] := Whole.new v4 _ _
                refine hK.out _ _ (KEEP.out _ b5) (fun _ => ?_)
                clear hK K
                (try simp only [Act.put, List.getElem_toArray, List.getElem_cons_succ, List.getElem_cons_zero, List.setIfInBounds_toArray, List.set_cons_zero, List.set_cons_succ])
                have hcv := conv_whole v4.heap.size
                refine wpAnyH_more (S2 := fun w' => RepBase wo gp r0 r1 r2 r3 r4 r5 r6 w' ∧ Whole w' v4.heap.size 5 #[.int .u8 (r1 : Int)]) (fun _ h => h.1) ?_
                have hHeld5 : (fun w' => RepBase wo gp r0 r1 r2 r3 r4 r5 r6 w' ∧ Whole w' v4.heap.size 5 #[.int .u8 (r1 : Int)]) (v4.alloc (.cells #[.int .u8 (r1 : Int)] 5)) := ⟨KEEP.out _ b5, hp5⟩
                refine wpAnyH_take (i := 7) (v := ?_) rfl (by kernel_rfl) (by kernel_rfl) (by kernel_rfl) (fun _ _ _ h => h) (Or.inl ⟨by kernel_rfl, ?_⟩) (by assumption) ?_
                rotate_left 1
                · (intro w hSw; obtain ⟨⟨q0, q1, q2, q3, q4, q5, q6, _⟩, qW⟩ := hSw; have qc := hcv w qW; go_simp; try (with_reducible rfl))
                (try simp only [Act.put, List.getElem_toArray, List.getElem_cons_succ, List.getElem_cons_zero, List.setIfInBounds_toArray, List.set_cons_zero, List.set_cons_succ])
                refine wpAnyH_take (i := 8) (v := ?_) rfl (by kernel_rfl) (by kernel_rfl) (by kernel_rfl) (fun _ _ _ h => h) (Or.inl ⟨by kernel_rfl, ?_⟩) (by assumption) ?_
                rotate_left 1
                · (intro w hSw; obtain ⟨⟨q0, q1, q2, q3, q4, q5, q6, _⟩, qW⟩ := hSw; go_simp; try (with_reducible rfl))
                (try simp only [Act.put, List.getElem_toArray, List.getElem_cons_succ, List.getElem_cons_zero, List.setIfInBounds_toArray, List.set_cons_zero, List.set_cons_succ])
                refine wpAnyH_take (i := 13) (v := ?_) rfl (by kernel_rfl) (by kernel_rfl) (by kernel_rfl) (fun _ _ _ h => h) (Or.inl ⟨by kernel_rfl, ?_⟩) (by assumption) ?_
                rotate_left 1
                · (intro w hSw; obtain ⟨⟨q0, q1, q2, q3, q4, q5, q6, _⟩, qW⟩ := hSw; go_simp; try (with_reducible rfl))
                (try simp only [Act.put, List.getElem_toArray, List.getElem_cons_succ, List.getElem_cons_zero, List.setIfInBounds_toArray, List.set_cons_zero, List.set_cons_succ])
                refine wpAnyH_take (i := 17) (v := ?_) rfl (by kernel_rfl) (by kernel_rfl) (by kernel_rfl) (fun _ _ _ h => h) (Or.inl ⟨by kernel_rfl, ?_⟩) (by assumption) ?_
                rotate_left 1
                · (intro w hSw; obtain ⟨⟨q0, q1, q2, q3, q4, q5, q6, _⟩, qW⟩ := hSw; go_simp; try (with_reducible rfl))
                (try simp only [Act.put, List.getElem_toArray, List.getElem_cons_succ, List.getElem_cons_zero, List.setIfInBounds_toArray, List.set_cons_zero, List.set_cons_succ])
                refine wpAnyH_take (i := 21) (v := ?_) rfl (by kernel_rfl) (by kernel_rfl) (by kernel_rfl) (fun _ _ _ h => h) (Or.inl ⟨by kernel_rfl, ?_⟩) (by assumption) ?_
                rotate_left 1
                · (intro w hSw; obtain ⟨⟨q0, q1, q2, q3, q4, q5, q6, _⟩, qW⟩ := hSw; go_simp; try (with_reducible rfl))
                (try simp only [Act.put, List.getElem_toArray, List.getElem_cons_succ, List.getElem_cons_zero, List.setIfInBounds_toArray, List.set_cons_zero, List.set_cons_succ])
                refine wpAnyH_ready (rs := [24]) (by kernel_rfl) (by simp) ?_
                refine AllReadyH.cons rfl (fun K hK => ?_) ?_
                · go_simp
                  go_wp2_with (go_at_call 34; refine (D5.out _ ?_).mono ?_; (exact b5); rintro e v6 ⟨rfl, b6, c6⟩)
                  have hp6 := hp5.below c6 hp5.lt
                  refine hK.out _ _ ⟨KEEP.out _ b6, hp6⟩ (fun hHeld6 => ?_)
                  clear hK K
                  (try simp only [Act.put, List.getElem_toArray, List.getElem_cons_succ, List.getElem_cons_zero, List.setIfInBounds_toArray, List.set_cons_zero, List.set_cons_succ])
                  refine wpAnyH_take (i := 25) (v := ?_) rfl (by kernel_rfl) (by kernel_rfl) (by kernel_rfl) (fun _ _ _ h => h) (Or.inl ⟨by kernel_rfl, ?_⟩) (by assumption) ?_
                  rotate_left 1
                  · (intro w hSw; obtain ⟨⟨q0, q1, q2, q3, q4, q5, q6, _⟩, qW⟩ := hSw; go_simp; try (with_reducible rfl))
                  (try simp only [Act.put, List.getElem_toArray, List.getElem_cons_succ, List.getElem_cons_zero, List.setIfInBounds_toArray, List.set_cons_zero, List.set_cons_succ])
                  refine wpAnyH_ready (rs := [28]) (by kernel_rfl) (by simp) ?_
                  refine AllReadyH.cons rfl (fun K hK => ?_) ?_
                  · go_simp
                    go_wp2_with (go_at_call 34; refine (D6.out _ ?_).mono ?_; (exact b6); rintro e v7 ⟨rfl, b7, c7⟩)
                    have hp7 := hp6.below c7 hp6.lt
                    refine hK.out _ _ ⟨KEEP.out _ b7, hp7⟩ (fun hHeld7 => ?_)
                    clear hK K
                    (try simp only [Act.put, List.getElem_toArray, List.getElem_cons_succ, List.getElem_cons_zero, List.setIfInBounds_toArray, List.set_cons_zero, List.set_cons_succ])
                    refine wpAnyH_take (i := 29) (v := ?_) rfl (by kernel_rfl) (by kernel_rfl) (by kernel_rfl) (fun _ _ _ h => h) (Or.inl ⟨by kernel_rfl, ?_⟩) (by assumption) ?_
                    rotate_left 1
                    · (intro w hSw; obtain ⟨⟨q0, q1, q2, q3, q4, q5, q6, _⟩, qW⟩ := hSw; go_simp; try (with_reducible rfl))
                    (try simp only [Act.put, List.getElem_toArray, List.getElem_cons_succ, List.getElem_cons_zero, List.setIfInBounds_toArray, List.set_cons_zero, List.set_cons_succ])
                    refine wpAnyH_take (i := 30) (v := ?_) rfl (by kernel_rfl) (by kernel_rfl) (by kernel_rfl) (fun _ _ _ h => h) (Or.inl ⟨by kernel_rfl, ?_⟩) (by assumption) ?_
                    rotate_left 1
                    · (intro w hSw; obtain ⟨⟨q0, q1, q2, q3, q4, q5, q6, _⟩, qW⟩ := hSw; go_simp; try (with_reducible rfl))
                    (try simp only [Act.put, List.getElem_toArray, List.getElem_cons_succ, List.getElem_cons_zero, List.setIfInBounds_toArray, List.set_cons_zero, List.set_cons_succ])
                    refine wpAnyH_take (i := 31) (v := ?_) rfl (by kernel_rfl) (by kernel_rfl) (by kernel_rfl) (fun _ _ _ h => h) (Or.inl ⟨by kernel_rfl, ?_⟩) (by assumption) ?_
                    rotate_left 1
                    · (intro w hSw; obtain ⟨⟨q0, q1, q2, q3, q4, q5, q6, _⟩, qW⟩ := hSw; go_simp; try (with_reducible rfl))
                    (try simp only [Act.put, List.getElem_toArray, List.getElem_cons_succ, List.getElem_cons_zero, List.setIfInBounds_toArray, List.set_cons_zero, List.set_cons_succ])
                    refine wpAnyH_done (by kernel_rfl) ?_ _
                    go_wp2
                    go_roundw
                    case rel => exact ⟨k + 1, z, by omega, by go_num, rfl, HZ.out.2, Lib.hid HZ.out.1, bnext HBO.out b7⟩
                    case measure => simp [intOf]; omega
                  exact AllReadyH.nil
                exact AllReadyH.nil
              refine AllReadyH.cons rfl (fun K hK => ?_) ?_
              · go_simp
                go_wp2_with (go_at_call 34; refine (D5.out _ ?_).mono ?_; (exact b4); rintro e v5 ⟨rfl, b5, c5⟩)
                refine hK.out _ _ (KEEP.out _ b5) (fun hHeld5 => ?_)
                clear hK K
                (try simp only [Act.put, List.getElem_toArray, List.getElem_cons_succ, List.getElem_cons_zero, List.setIfInBounds_toArray, List.set_cons_zero, List.set_cons_succ])
                refine wpAnyH_ready (rs := [6, 28]) (by kernel_rfl) (by simp) ?_
                refine AllReadyH.cons rfl (fun K hK => ?_) ?_
                · go_simp
                  have b6 := b5.alloc b5.size (.cells #[.int .u8 (r1 : Int)] 5)
                  have hp6 : Whole (v5.alloc (.cells #[.int .u8 (r1 : Int)] 5)) v5.heap.size 5 #[.int .u8 (r1 : Int)] := Whole.new v5 _ _
                  refine hK.out _ _ (KEEP.out _ b6) (fun _ => ?_)
                  clear hK K
                  (try simp only [Act.put, List.getElem_toArray, List.getElem_cons_succ, List.getElem_cons_zero, List.setIfInBounds_toArray, List.set_cons_zero, List.set_cons_succ])
                  have hcv := conv_whole v5.heap.size
                  refine wpAnyH_more (S2 := fun w' => RepBase wo gp r0 r1 r2 r3 r4 r5 r6 w' ∧ Whole w' v5.heap.size 5 #[.int .u8 (r1 : Int)]) (fun _ h => h.1) ?_
                  have hHeld6 : (fun w' => RepBase wo gp r0 r1 r2 r3 r4 r5 r6 w' ∧ Whole w' v5.heap.size 5 #[.int .u8 (r1 : Int)]) (v5.alloc (.cells #[.int .u8 (r1 : Int)] 5)) := ⟨KEEP.out _ b6, hp6⟩
                  refine wpAnyH_take (i := 7) (v := ?_) rfl (by kernel_rfl) (by kernel_rfl) (by kernel_rfl) (fun _ _ _ h => h) (Or.inl ⟨by kernel_rfl, ?_⟩) (by assumption) ?_
                  rotate_left 1
                  · (intro w hSw; obtain ⟨⟨q0, q1, q2, q3, q4, q5, q6, _⟩, qW⟩ := hSw; have qc := hcv w qW; go_simp; try (with_reducible rfl))
                  (try simp only [Act.put, List.getElem_toArray, List.getElem_cons_succ, List.getElem_cons_zero, List.setIfInBounds_toArray, List.set_cons_zero, List.set_cons_succ])
                  refine wpAnyH_take (i := 8) (v := ?_) rfl (by kernel_rfl) (by kernel_rfl) (by kernel_rfl) (fun _ _ _ h => h) (Or.inl ⟨by kernel_rfl, ?_⟩) (by assumption) ?_
                  rotate_left 1
                  · (intro w hSw; obtain ⟨⟨q0, q1, q2, q3, q4, q5, q6, _⟩, qW⟩ := hSw; go_simp; try (with_reducible rfl))
                  (try simp only [Act.put, List.getElem_toArray, List.getElem_cons_succ, List.getElem_cons_zero, List.setIfInBounds_toArray, List.set_cons_zero, List.set_cons_succ])
                  refine wpAnyH_take (i := 13) (v := ?_) rfl (by kernel_rfl) (by kernel_rfl) (by kernel_rfl) (fun _ _ _ h => h) (Or.inl ⟨by kernel_rfl, ?_⟩) (by assumption) ?_
                  rotate_left 1
                  · (intro w hSw; obtain ⟨⟨q0, q1, q2, q3, q4, q5, q6, _⟩, qW⟩ := hSw; go_simp; try (with_reducible rfl))
                  (try simp only [Act.put, List.getElem_toArray, List.getElem_cons_succ, List.getElem_cons_zero, List.setIfInBounds_toArray, List.set_cons_zero, List.set_cons_succ])
                  refine wpAnyH_take (i := 17) (v := ?_) rfl (by kernel_rfl) (by kernel_rfl) (by kernel_rfl) (fun _ _ _ h => h) (Or.inl ⟨by kernel_rfl, ?_⟩) (by assumption) ?_
                  rotate_left 1
                  · (intro w hSw; obtain ⟨⟨q0, q1, q2, q3, q4, q5, q6, _⟩, qW⟩ := hSw; go_simp; try (with_reducible rfl))
                  (try simp only [Act.put, List.getElem_toArray, List.getElem_cons_succ, List.getElem_cons_zero, List.setIfInBounds_toArray, List.set_cons_zero, List.set_cons_succ])
                  refine wpAnyH_take (i := 21) (v := ?_) rfl (by kernel_rfl) (by kernel_rfl) (by kernel_rfl) (fun _ _ _ h => h) (Or.inl ⟨by kernel_rfl, ?_⟩) (by assumption) ?_
                  rotate_left 1
                  · (intro w hSw; obtain ⟨⟨q0, q1, q2, q3, q4, q5, q6, _⟩, qW⟩ := hSw; go_simp; try (with_reducible rfl))
                  (try simp only [Act.put, List.getElem_toArray, List.getElem_cons_succ, List.getElem_cons_zero, List.setIfInBounds_toArray, List.set_cons_zero, List.set_cons_succ])
                  refine wpAnyH_take (i := 25) (v := ?_) rfl (by kernel_rfl) (by kernel_rfl) (by kernel_rfl) (fun _ _ _ h => h) (Or.inl ⟨by kernel_rfl, ?_⟩) (by assumption) ?_
                  rotate_left 1
                  · (intro w hSw; obtain ⟨⟨q0, q1, q2, q3, q4, q5, q6, _⟩, qW⟩ := hSw; go_simp; try (with_reducible rfl))
                  (try simp only [Act.put, List.getElem_toArray, List.getElem_cons_succ, List.getElem_cons_zero, List.setIfInBounds_toArray, List.set_cons_zero, List.set_cons_succ])
                  refine wpAnyH_ready (rs := [28]) (by kernel_rfl) (by simp) ?_
                  refine AllReadyH.cons rfl (fun K hK => ?_) ?_
                  · go_simp
                    go_wp2_with (go_at_call 34; refine (D6.out _ ?_).mono ?_; (exact b6); rintro e v7 ⟨rfl, b7, c7⟩)
                    have hp7 := hp6.below c7 hp6.lt
                    refine hK.out _ _ ⟨KEEP.out _ b7, hp7⟩ (fun hHeld7 => ?_)
                    clear hK K
                    (try simp only [Act.put, List.getElem_toArray, List.getElem_cons_succ, List.getElem_cons_zero, List.setIfInBounds_toArray, List.set_cons_zero, List.set_cons_succ])
                    refine wpAnyH_take (i := 29) (v := ?_) rfl (by kernel_rfl) (by kernel_rfl) (by kernel_rfl) (fun _ _ _ h => h) (Or.inl ⟨by kernel_rfl, ?_⟩) (by assumption) ?_
                    rotate_left 1
                    · (intro w hSw; obtain ⟨⟨q0, q1, q2, q3, q4, q5, q6, _⟩, qW⟩ := hSw; go_simp; try (with_reducible rfl))
                    (try simp only [Act.put, List.getElem_toArray, List.getElem_cons_succ, List.getElem_cons_zero, List.setIfInBounds_toArray, List.set_cons_zero, List.set_cons_succ])
                    refine wpAnyH_take (i := 30) (v := ?_) rfl (by kernel_rfl) (by kernel_rfl) (by kernel_rfl) (fun _ _ _ h => h) (Or.inl ⟨by kernel_rfl, ?_⟩) (by assumption) ?_
                    rotate_left 1
                    · (intro w hSw; obtain ⟨⟨q0, q1, q2, q3, q4, q5, q6, _⟩, qW⟩ := hSw; go_simp; try (with_reducible rfl))
                    (try simp only [Act.put, List.getElem_toArray, List.getElem_cons_succ, List.getElem_cons_zero, List.setIfInBounds_toArray, List.set_cons_zero, List.set_cons_succ])
                    refine wpAnyH_take (i := 31) (v := ?_) rfl (by kernel_rfl) (by kernel_rfl) (by kernel_rfl) (fun _ _ _ h => h) (Or.inl ⟨by kernel_rfl, ?_⟩) (by assumption) ?_
                    rotate_left 1
                    · (intro w hSw; obtain ⟨⟨q0, q1, q2, q3, q4, q5, q6, _⟩, qW⟩ := hSw; go_simp; try (with_reducible rfl))
                    (try simp only [Act.put, List.getElem_toArray, List.getElem_cons_succ, List.getElem_cons_zero, List.setIfInBounds_toArray, List.set_cons_zero, List.set_cons_succ])
                    refine wpAnyH_done (by kernel_rfl) ?_ _
                    go_wp2
                    go_roundw
                    case rel => exact ⟨k + 1, z, by omega, by go_num, rfl, HZ.out.2, Lib.hid HZ.out.1, bnext HBO.out b7⟩
                    case measure => simp [intOf]; omega
                  exact AllReadyH.nil
                refine AllReadyH.cons rfl (fun K hK => ?_) ?_
                · go_simp
                  go_wp2_with (go_at_call 34; refine (D6.out _ ?_).mono ?_; (exact b5); rintro e v6 ⟨rfl, b6, c6⟩)
                  refine hK.out _ _ (KEEP.out _ b6) (fun hHeld6 => ?_)
                  clear hK K
                  (try simp only [Act.put, List.getElem_toArray, List.getElem_cons_succ, List.getElem_cons_zero, List.setIfInBounds_toArray, List.set_cons_zero, List.set_cons_succ])
                  refine wpAnyH_ready (rs := [6]) (by kernel_rfl) (by simp) ?_
                  refine AllReadyH.cons rfl (fun K hK => ?_) ?_
                  · go_simp
                    have b7 := b6.alloc b6.size (.cells #[.int .u8 (r1 : Int)] 5)
                    have hp7 : Whole (v6.alloc (.cells #[.int .u8 (r1 : Int)] 5)) v6.heap.size 5 #[.int .u8 (r1 : Int)] := Whole.new v6 _ _
                    refine hK.out _ _ (KEEP.out _ b7) (fun _ => ?_)
                    clear hK K
                    (try simp only [Act.put, List.getElem_toArray, List.getElem_cons_succ, List.getElem_cons_zero, List.setIfInBounds_toArray, List.set_cons_zero, List.set_cons_succ])
                    have hcv := conv_whole v6.heap.size
                    refine wpAnyH_more (S2 := fun w' => RepBase wo gp r0 r1 r2 r3 r4 r5 r6 w' ∧ Whole w' v6.heap.size 5 #[.int .u8 (r1 : Int)]) (fun _ h => h.1) ?_
                    have hHeld7 : (fun w' => RepBase wo gp r0 r1 r2 r3 r4 r5 r6 w' ∧ Whole w' v6.heap.size 5 #[.int .u8 (r1 : Int)]) (v6.alloc (.cells #[.int .u8 (r1 : Int)] 5)) := ⟨KEEP.out _ b7, hp7⟩
                    refine wpAnyH_take (i := 7) (v := ?_) rfl (by kernel_rfl) (by kernel_rfl) (by kernel_rfl) (fun _ _ _ h => h) (Or.inl ⟨by kernel_rfl, ?_⟩) (by assumption) ?_
                    rotate_left 1
                    · (intro w hSw; obtain ⟨⟨q0, q1, q2, q3, q4, q5, q6, _⟩, qW⟩ := hSw; have qc := hcv w qW; go_simp; try (with_reducible rfl))
                    (try simp only [Act.put, List.getElem_toArray, List.getElem_cons_succ, List.getElem_cons_zero, List.setIfInBounds_toArray, List.set_cons_zero, List.set_cons_succ])
                    refine wpAnyH_take (i := 8) (v := ?_) rfl (by kernel_rfl) (by kernel_rfl) (by kernel_rfl) (fun _ _ _ h => h) (Or.inl ⟨by kernel_rfl, ?_⟩) (by assumption) ?_
                    rotate_left 1
                    · (intro w hSw; obtain ⟨⟨q0, q1, q2, q3, q4, q5, q6, _⟩, qW⟩ := hSw; go_simp; try (with_reducible rfl))
                    (try simp only [Act.put, List.getElem_toArray, List.getElem_cons_succ, List.getElem_cons_zero, List.setIfInBounds_toArray, List.set_cons_zero, List.set_cons_succ])
                    refine wpAnyH_take (i := 13) (v := ?_) rfl (by kernel_rfl) (by kernel_rfl) (by kernel_rfl) (fun _ _ _ h => h) (Or.inl ⟨by kernel_rfl, ?_⟩) (by assumption) ?_
                    rotate_left 1
                    · (intro w hSw; obtain ⟨⟨q0, q1, q2, q3, q4, q5, q6, _⟩, qW⟩ := hSw; go_simp; try (with_reducible rfl))
                    (try simp only [Act.put, List.getElem_toArray, List.getElem_cons_succ, List.getElem_cons_zero, List.setIfInBounds_toArray, List.set_cons_zero, List.set_cons_succ])
                    refine wpAnyH_take (i := 17) (v := ?_) rfl (by kernel_rfl) (by kernel_rfl) (by kernel_rfl) (fun _ _ _ h => h) (Or.inl ⟨by kernel_rfl, ?_⟩) (by assumption) ?_
                    rotate_left 1
                    · (intro w hSw; obtain ⟨⟨q0, q1, q2, q3, q4, q5, q6, _⟩, qW⟩ := hSw; go_simp; try (with_reducible rfl))
                    (try simp only [Act.put, List.getElem_toArray, List.getElem_cons_succ, List.getElem_cons_zero, List.setIfInBounds_toArray, List.set_cons_zero, List.set_cons_succ])
                    refine wpAnyH_take (i := 21) (v := ?_) rfl (by kernel_rfl) (by kernel_rfl) (by kernel_rfl) (fun _ _ _ h => h) (Or.inl ⟨by kernel_rfl, ?_⟩) (by assumption) ?_
                    rotate_left 1
                    · (intro w hSw; obtain ⟨⟨q0, q1, q2, q3, q4, q5, q6, _⟩, qW⟩ := hSw; go_simp; try (with_reducible rfl))
                    (try simp only [Act.put, List.getElem_toArray, List.getElem_cons_succ, List.getElem_cons_zero, List.setIfInBounds_toArray, List.set_cons_zero, List.set_cons_succ])
                    refine wpAnyH_take (i := 25) (v := ?_) rfl (by kernel_rfl) (by kernel_rfl) (by kernel_rfl) (fun _ _ _ h => h) (Or.inl ⟨by kernel_rfl, ?_⟩) (by assumption) ?_
                    rotate_left 1
                    · (intro w hSw; obtain ⟨⟨q0, q1, q2, q3, q4, q5, q6, _⟩, qW⟩ := hSw; go_simp; try (with_reducible rfl))
                    (try simp only [Act.put, List.getElem_toArray, List.getElem_cons_succ, List.getElem_cons_zero, List.setIfInBounds_toArray, List.set_cons_zero, List.set_cons_succ])
                    refine wpAnyH_take (i := 29) (v := ?_) rfl (by kernel_rfl) (by kernel_rfl) (by kernel_rfl) (fun _ _ _ h => h) (Or.inl ⟨by kernel_rfl, ?_⟩) (by assumption) ?_
                    rotate_left 1
                    · (intro w hSw; obtain ⟨⟨q0, q1, q2, q3, q4, q5, q6, _⟩, qW⟩ := hSw; go_simp; try (with_reducible rfl))
                    (try simp only [Act.put, List.getElem_toArray, List.getElem_cons_succ, List.getElem_cons_zero, List.setIfInBounds_toArray, List.set_cons_zero, List.set_cons_succ])
                    refine wpAnyH_take (i := 30) (v := ?_) rfl (by kernel_rfl) (by kernel_rfl) (by kernel_rfl) (fun _ _ _ h => h) (Or.inl ⟨by kernel_rfl, ?_⟩) (by assumption) ?_
                    rotate_left 1
                    · (intro w hSw; obtain ⟨⟨q0, q1, q2, q3, q4, q5, q6, _⟩, qW⟩ := hSw; go_simp; try (with_reducible rfl))
                    (try simp only [Act.put, List.getElem_toArray, List.getElem_cons_succ, List.getElem_cons_zero, List.setIfInBounds_toArray, List.set_cons_zero, List.set_cons_succ])
                    refine wpAnyH_take (i := 31) (v := ?_) rfl (by kernel_rfl) (by kernel_rfl) (by kernel_rfl) (fun _ _ _ h => h) (Or.inl ⟨by kernel_rfl, ?_⟩) (by assumption) ?_
                    rotate_left 1
                    · (intro w hSw; obtain ⟨⟨q0, q1, q2, q3, q4, q5, q6, _⟩, qW⟩ := hSw; go_simp; try (with_reducible rfl))
                    (try simp only [Act.put, List.getElem_toArray, List.getElem_cons_succ, List.getElem_cons_zero, List.setIfInBounds_toArray, List.set_cons_zero, List.set_cons_succ])
                    refine wpAnyH_done (by kernel_rfl) ?_ _
                    go_wp2
                    go_roundw
                    case rel => exact ⟨k + 1, z, by omega, by go_num, rfl, HZ.out.2, Lib.hid HZ.out.1, bnext HBO.out b7⟩
                    case measure => simp [intOf]; omega
                  exact AllReadyH.nil
                exact AllReadyH.nil
              exact AllReadyH.nil
            exact AllReadyH.nil
          exact AllReadyH.nil
        exact AllReadyH.nil
      refine AllReadyH.cons rfl (fun K hK => ?_) ?_
      · go_simp
        have b1 := b0.alloc b0.size (.cells #[.int .u8 (r1 : Int)] 5)
        have hp1 : Whole (wo.drew.alloc (.cells #[.int .u8 (r1 : Int)] 5)) wo.heap.size 5 #[.int .u8 (r1 : Int)] := Whole.new wo.drew _ _
        refine hK.out _ _ (KEEP.out _ b1) (fun _ => ?_)
        clear hK K
        (try simp only [Act.put, List.getElem_toArray, List.getElem_cons_succ, List.getElem_cons_zero, List.setIfInBounds_toArray, List.set_cons_zero, List.set_cons_succ])
        have hcv := conv_whole wo.heap.size
        refine wpAnyH_more (S2 := fun w' => RepBase wo gp r0 r1 r2 r3 r4 r5 r6 w' ∧ Whole w' wo.heap.size 5 #[.int .u8 (r1 : Int)]) (fun _ h => h.1) ?_
        have hHeld1 : (fun w' => RepBase wo gp r0 r1 r2 r3 r4 r5 r6 w' ∧ Whole w' wo.heap.size 5 #[.int .u8 (r1 : Int)]) (wo.drew.alloc (.cells #[.int .u8 (r1 : Int)] 5)) := ⟨KEEP.out _ b1, hp1⟩
        refine wpAnyH_take (i := 7) (v := ?_) rfl (by kernel_rfl) (by kernel_rfl) (by kernel_rfl) (fun _ _ _ h => h) (Or.inl ⟨by kernel_rfl, ?_⟩) (by assumption) ?_
        rotate_left 1
        · (intro w hSw; obtain ⟨⟨q0, q1, q2, q3, q4, q5, q6, _⟩, qW⟩ := hSw; have qc := hcv w qW; go_simp; try (with_reducible rfl))
        (try simp only [Act.put, List.getElem_toArray, List.getElem_cons_succ, List.getElem_cons_zero, List.setIfInBounds_toArray, List.set_cons_zero, List.set_cons_succ])
        refine wpAnyH_ready (rs := [3]) (by kernel_rfl) (by simp) ?_
        refine AllReadyH.cons rfl (fun K hK => ?_) ?_
        · go_simp
          go_wp2_with (go_at_call 34; refine (D0.out _ ?_).mono ?_; (exact b1); rintro e v2 ⟨rfl, b2, c2⟩)
          have hp2 := hp1.below c2 hp1.lt
          refine hK.out _ _ ⟨KEEP.out _ b2, hp2⟩ (fun hHeld2 => ?_)
          clear hK K
          (try simp only [Act.put, List.getElem_toArray, List.getElem_cons_succ, List.getElem_cons_zero, List.setIfInBounds_toArray, List.set_cons_zero, List.set_cons_succ])
          refine wpAnyH_take (i := 8) (v := ?_) rfl (by kernel_rfl) (by kernel_rfl) (by kernel_rfl) (fun _ _ _ h => h) (Or.inl ⟨by kernel_rfl, ?_⟩) (by assumption) ?_
          rotate_left 1
          · (intro w hSw; obtain ⟨⟨q0, q1, q2, q3, q4, q5, q6, _⟩, qW⟩ := hSw; go_simp; try (with_reducible rfl))
          (try simp only [Act.put, List.getElem_toArray, List.getElem_cons_succ, List.getElem_cons_zero, List.setIfInBounds_toArray, List.set_cons_zero, List.set_cons_succ])
          refine wpAnyH_ready (rs := [12]) (by kernel_rfl) (by simp) ?_
          refine AllReadyH.cons rfl (fun K hK => ?_) ?_
          · go_simp
            go_wp2_with (go_at_call 35; refine (D2.out _ ?_).mono ?_; (exact b2); rintro e v3 ⟨rfl, b3, c3⟩)
            have hp3 := hp2.below c3 hp2.lt
            refine hK.out _ _ ⟨KEEP.out _ b3, hp3⟩ (fun hHeld3 => ?_)
            clear hK K
            (try simp only [Act.put, List.getElem_toArray, List.getElem_cons_succ, List.getElem_cons_zero, List.setIfInBounds_toArray, List.set_cons_zero, List.set_cons_succ])
            refine wpAnyH_take (i := 13) (v := ?_) rfl (by kernel_rfl) (by kernel_rfl) (by kernel_rfl) (fun _ _ _ h => h) (Or.inl ⟨by kernel_rfl, ?_⟩) (by assumption) ?_
            rotate_left 1
            · (intro w hSw; obtain ⟨⟨q0, q1, q2, q3, q4, q5, q6, _⟩, qW⟩ := hSw; go_simp; try (with_reducible rfl))
            (try simp only [Act.put, List.getElem_toArray, List.getElem_cons_succ, List.getElem_cons_zero, List.setIfInBounds_toArray, List.set_cons_zero, List.set_cons_succ])
            refine wpAnyH_ready (rs := [16]) (by kernel_rfl) (by simp) ?_
            refine AllReadyH.cons rfl (fun K hK => ?_) ?_
            · go_simp
              go_wp2_with (go_at_call 34; refine (D3.out _ ?_).mono ?_; (exact b3); rintro e v4 ⟨rfl, b4, c4⟩)
              have hp4 := hp3.below c4 hp3.lt
              refine hK.out _ _ ⟨KEEP.out _ b4, hp4⟩ (fun hHeld4 => ?_)
              clear hK K
              (try simp only [Act.put, List.getElem_toArray, List.getElem_cons_succ, List.getElem_cons_zero, List.setIfInBounds_toArray, List.set_cons_zero, List.set_cons_succ])
              refine wpAnyH_take (i := 17) (v := ?_) rfl (by kernel_rfl) (by kernel_rfl) (by kernel_rfl) (fun _ _ _ h => h) (Or.inl ⟨by kernel_rfl, ?_⟩) (by assumption) ?_
              rotate_left 1
              · (intro w hSw; obtain ⟨⟨q0, q1, q2, q3, q4, q5, q6, _⟩, qW⟩ := hSw; go_simp; try (with_reducible rfl))
              (try simp only [Act.put, List.getElem_toArray, List.getElem_cons_succ, List.getElem_cons_zero, List.setIfInBounds_toArray, List.set_cons_zero, List.set_cons_succ])
              refine wpAnyH_ready (rs := [20]) (by kernel_rfl) (by simp) ?_
              refine AllReadyH.cons rfl (fun K hK => ?_) ?_
              · go_simp
                go_wp2_with (go_at_call 34; refine (D4.out _ ?_).mono ?_; (exact b4); rintro e v5 ⟨rfl, b5, c5⟩)
                have hp5 := hp4.below c5 hp4.lt
                refine hK.out _ _ ⟨KEEP.out _ b5, hp5⟩ (fun hHeld5 => ?_)
                clear hK K
                (try simp only [Act.put, List.getElem_toArray, List.getElem_cons_succ, List.getElem_cons_zero, List.setIfInBounds_toArray, List.set_cons_zero, List.set_cons_succ])
                refine wpAnyH_take (i := 21) (v := ?_) rfl (by kernel_rfl) (by kernel_rfl) (by kernel_rfl) (fun _ _ _ h => h) (Or.inl ⟨by kernel_rfl, ?_⟩) (by assumption) ?_
                rotate_left 1
                · (intro w hSw; obtain ⟨⟨q0, q1, q2, q3, q4, q5, q6, _⟩, qW⟩ := hSw; go_simp; try (with_reducible rfl))
                (try simp only [Act.put, List.getElem_toArray, List.getElem_cons_succ, List.getElem_cons_zero, List.setIfInBounds_toArray, List.set_cons_zero, List.set_cons_succ])
                refine wpAnyH_ready (rs := [24]) (by kernel_rfl) (by simp) ?_
                refine AllReadyH.cons rfl (fun K hK => ?_) ?_
                · go_simp
                  go_wp2_with (go_at_call 34; refine (D5.out _ ?_).mono ?_; (exact b5); rintro e v6 ⟨rfl, b6, c6⟩)
                  have hp6 := hp5.below c6 hp5.lt
                  refine hK.out _ _ ⟨KEEP.out _ b6, hp6⟩ (fun hHeld6 => ?_)
                  clear hK K
                  (try simp only [Act.put, List.getElem_toArray, List.getElem_cons_succ, List.getElem_cons_zero, List.setIfInBounds_toArray, List.set_cons_zero, List.set_cons_succ])
                  refine wpAnyH_take (i := 25) (v := ?_) rfl (by kernel_rfl) (by kernel_rfl) (by kernel_rfl) (fun _ _ _ h => h) (Or.inl ⟨by kernel_rfl, ?_⟩) (by assumption) ?_
                  rotate_left 1
                  · (intro w hSw; obtain ⟨⟨q0, q1, q2, q3, q4, q5, q6, _⟩, qW⟩ := hSw; go_simp; try (with_reducible rfl))
                  (try simp only [Act.put, List.getElem_toArray, List.getElem_cons_succ, List.getElem_cons_zero, List.setIfInBounds_toArray, List.set_cons_zero, List.set_cons_succ])
                  refine wpAnyH_ready (rs := [28]) (by kernel_rfl) (by simp) ?_
                  refine AllReadyH.cons rfl (fun K hK => ?_) ?_
                  · go_simp
                    go_wp2_with (go_at_call 34; refine (D6.out _ ?_).mono ?_; (exact b6); rintro e v7 ⟨rfl, b7, c7⟩)
                    have hp7 := hp6.below c7 hp6.lt
                    refine hK.out _ _ ⟨KEEP.out _ b7, hp7⟩ (fun hHeld7 => ?_)
                    clear hK K
                    (try simp only [Act.put, List.getElem_toArray, List.getElem_cons_succ, List.getElem_cons_zero, List.setIfInBounds_toArray, List.set_cons_zero, List.set_cons_succ])
                    refine wpAnyH_take (i := 29) (v := ?_) rfl (by kernel_rfl) (by kernel_rfl) (by kernel_rfl) (fun _ _ _ h => h) (Or.inl ⟨by kernel_rfl, ?_⟩) (by assumption) ?_
                    rotate_left 1
                    · (intro w hSw; obtain ⟨⟨q0, q1, q2, q3, q4, q5, q6, _⟩, qW⟩ := hSw; go_simp; try (with_reducible rfl))
                    (try simp only [Act.put, List.getElem_toArray, List.getElem_cons_succ, List.getElem_cons_zero, List.setIfInBounds_toArray, List.set_cons_zero, List.set_cons_succ])
                    refine wpAnyH_take (i := 30) (v := ?_) rfl (by kernel_rfl) (by kernel_rfl) (by kernel_rfl) (fun _ _ _ h => h) (Or.inl ⟨by kernel_rfl, ?_⟩) (by assumption) ?_
                    rotate_left 1
                    · (intro w hSw; obtain ⟨⟨q0, q1, q2, q3, q4, q5, q6, _⟩, qW⟩ := hSw; go_simp; try (with_reducible rfl))
                    (try simp only [Act.put, List.getElem_toArray, List.getElem_cons_succ, List.getElem_cons_zero, List.setIfInBounds_toArray, List.set_cons_zero, List.set_cons_succ])
                    refine wpAnyH_take (i := 31) (v := ?_) rfl (by kernel_rfl) (by kernel_rfl) (by kernel_rfl) (fun _ _ _ h => h) (Or.inl ⟨by kernel_rfl, ?_⟩) (by assumption) ?_
                    rotate_left 1
                    · (intro w hSw; obtain ⟨⟨q0, q1, q2, q3, q4, q5, q6, _⟩, qW⟩ := hSw; go_simp; try (with_reducible rfl))
                    (try simp only [Act.put, List.getElem_toArray, List.getElem_cons_succ, List.getElem_cons_zero, List.setIfInBounds_toArray, List.set_cons_zero, List.set_cons_succ])
                    refine wpAnyH_done (by kernel_rfl) ?_ _
                    go_wp2
                    go_roundw
                    case rel => exact ⟨k + 1, z, by omega, by go_num, rfl, HZ.out.2, Lib.hid HZ.out.1, bnext HBO.out b7⟩
                    case measure => simp [intOf]; omega
                  exact AllReadyH.nil
                exact AllReadyH.nil
              exact AllReadyH.nil
            exact AllReadyH.nil
          exact AllReadyH.nil
        exact AllReadyH.nil
      exact AllReadyH.nil
    · obtain rfl : k = n := by omega
      have e : d = repE l := by
        have h := HD.out
        rwa [List.take_of_length_le (by rw [HN.out]; exact Nat.le_refl _)] at h
      subst e
      clear HD
      go_wp2
      go_ret
      exact ⟨rfl, hb⟩
end Go.Proofs.YtcjmiidnhbmclaaDoor
