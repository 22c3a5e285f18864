/-
  The contract of the document's put of one message, of one kind (layer 9).
-/
import Derived.Test.YtmbhibkiadgcbaaDoorRtP
namespace Go.Proofs.YtmbhibkiadgcbaaDoor
set_option maxRecDepth 100000
set_option linter.unusedSimpArgs false
open Go.RowKit

set_option maxRecDepth 1000000 in
set_option maxHeartbeats 6400000 in
theorem refput_1 (m : Ms) (s : Sl) (w : World) (h : MsAt w w.heap.size m s) (hf : m.Fits) (hw : m.Few) (hk : m.kind = 1) :
    Calls Tryd.prog 24 #[.agg (m.cells s).toArray] w (PutTold m w) := by
  obtain ⟨kind, ssrc, media, clock, time, packets, bytes, reps, who, pairs, asks, typ⟩ := m
  obtain ⟨rA, rc, wA, wc, pA, pc, aA, ac⟩ := s
  obtain ⟨fr, fw, fp, fa⟩ := hw
  dsimp only at fr fw fp fa hk
  subst hk
  have f1 : ssrc < 4294967296 := hf.ssrc
  have f2 : media < 4294967296 := hf.media
  have f3 : clock < 18446744073709551616 := hf.clock
  have f4 : time < 4294967296 := hf.time
  have f5 : packets < 4294967296 := hf.packets
  have f6 : bytes < 4294967296 := hf.bytes
  have HFR : Hid (∀ r ∈ reps, r.Fits) := Lib.hid hf.reps
  have HFW : Hid (∀ x ∈ who, x < 4294967296) := Lib.hid hf.who
  have HFP : Hid (∀ p ∈ pairs, p.1 < 65536 ∧ p.2 < 65536) := Lib.hid hf.pairs
  have HFA : Hid (∀ p ∈ asks, p.1 < 4294967296 ∧ p.2 < 256) := Lib.hid hf.asks
  have h7 : Row w w.heap.size 7 rA reps.length (repC reps) := h.reps
  have h8 : Row w w.heap.size 1 wA who.length (u32s who) := h.who
  have h9 : Row w w.heap.size 2 pA pairs.length (dpC pairs) := h.pairs
  have h10 : Row w w.heap.size 2 aA asks.length (askC asks) := h.asks
  unfold Ms.cells
  dsimp only
  obtain ⟨nr, hnr⟩ : ∃ n, reps.length = n := ⟨_, rfl⟩
  obtain ⟨nw, hnw⟩ : ∃ n, who.length = n := ⟨_, rfl⟩
  obtain ⟨np, hnp⟩ : ∃ n, pairs.length = n := ⟨_, rfl⟩
  obtain ⟨na, hna⟩ : ∃ n, asks.length = n := ⟨_, rfl⟩
  rw [hnr] at fr h7 ⊢
  rw [hnw] at fw h8 ⊢
  rw [hnp] at fp h9 ⊢
  rw [hna] at fa h10 ⊢
  have H7 := Lib.hid h7
  have H8 := Lib.hid h8
  have H9 := Lib.hid h9
  have H10 := Lib.hid h10
  have HNR := Lib.hid hnr
  have HNW := Lib.hid hnw
  have HNP := Lib.hid hnp
  have HNA := Lib.hid hna
  clear h hf h7 h8 h9 h10 hnr hnw hnp hna
  go_enter Tryd.func24, Tryd.ntmps24
  go_wp2_with fail
  obtain ⟨gp, hgp⟩ : ∃ gp, gp = w.heap.size := ⟨_, rfl⟩
  obtain ⟨wo, hwo⟩ : ∃ wo, wo = w.alloc (.cells #[.int .i64 1, .int .u32 (ssrc : Int), .int .u32 (media : Int), .int .u64 (clock : Int), .int .u32 (time : Int), .int .u32 (packets : Int), .int .u32 (bytes : Int), .slice rA nr rc, .slice wA nw wc, .slice pA np pc, .slice aA na ac, .int .u8 (typ : Int)] 50) := ⟨_, rfl⟩
  rw [← hgp, ← hwo]
  have hW : Whole wo gp 50 #[.int .i64 1, .int .u32 (ssrc : Int), .int .u32 (media : Int), .int .u64 (clock : Int), .int .u32 (time : Int), .int .u32 (packets : Int), .int .u32 (bytes : Int), .slice rA nr rc, .slice wA nw wc, .slice pA np pc, .slice aA na ac, .int .u8 (typ : Int)] := by rw [hwo, hgp]; exact Whole.new _ _ _
  have HBO : Hid (Below w.heap.size w wo) := Lib.hid (by rw [hwo]; exact (Below.refl _ _).alloc (Nat.le_refl _) _)
  have HHB : Hid (∀ w', Below wo.heap.size wo w' → Below w.heap.size w w') := Lib.hid (fun w' b => bnext HBO.out b)
  clear hwo hgp
  have KEEP := Lib.hid (fun w' (b : Below wo.heap.size wo w') => show MsBase wo gp (.int .i64 1) (.int .u32 (ssrc : Int)) (.int .u32 (media : Int)) (.int .u64 (clock : Int)) (.int .u32 (time : Int)) (.int .u32 (packets : Int)) (.int .u32 (bytes : Int)) (.slice rA nr rc) (.slice wA nw wc) (.slice pA np pc) (.slice aA na ac) (.int .u8 (typ : Int)) w' from by
    have h := hW.below b hW.lt
    exact ⟨h.cell 0, h.cell 1, h.cell 2, h.cell 3, h.cell 4, h.cell 5, h.cell 6, h.cell 7, h.cell 8, h.cell 9, h.cell 10, h.cell 11, b⟩)
  obtain ⟨x1, hx1⟩ : ∃ x, bytesN ssrc 4 = x := ⟨_, rfl⟩
  have l1 : x1.length = 4 := by rw [← hx1]; exact bytesN_length _ _
  have D1 := Lib.hid (fun w' (b : Below wo.heap.size wo w') => show Calls Tryd.prog 34 #[.int .u32 (ssrc : Int)] w' (fun e w'' => e = .returned (.string (str x1)) ∧ Below wo.heap.size wo w'' ∧ Below w'.heap.size w' w'') from by
    rw [← hx1]
    exact (four_any ssrc w' f1).mono fun e w'' hh => ⟨hh.1, bnext b hh.2, hh.2⟩)
  obtain ⟨x7, hx7⟩ : ∃ x, repE reps = x := ⟨_, rfl⟩
  have l7 : x7.length = 24 * nr := by rw [← hx7]; rw [repE_length, HNR.out]
  have D7 := Lib.hid (fun w' (b : Below wo.heap.size wo w') => show Calls Tryd.prog 36 #[.slice rA nr rc] w' (fun e w'' => e = .returned (.string (str x7)) ∧ Below wo.heap.size wo w'' ∧ Below w'.heap.size w' w'') from by
    rw [← hx7]
    exact (reports_any rA rc nr reps w' ((H7.out.below (HHB.out _ b) (Nat.le_refl _)).more (HHB.out _ b).size) HNR.out HFR.out fr).mono fun e w'' hh => ⟨hh.1, bnext b hh.2, hh.2⟩)
  obtain ⟨y1, hy1⟩ : ∃ y, x1 ++ x7 = y := ⟨_, rfl⟩
  have m1 : y1.length ≤ 1540 := by rw [← hy1, List.length_append]; omega
  have a1 : ∀ wx, (Op.stringOp .add (str x1) (str x7)).run Tryd.prog wx = .ok (.string (str y1)) wx := by rw [← hy1]; exact fun wx => run_str_add wx x1 x7 (by omega)
  have HBD : Hid (y1 = bytesN ssrc 4 ++ repE reps ∧ y1.length = 4 + 24 * nr) := Lib.hid (by
    rw [← hy1, ← hx1, ← hx7]
    simp [bytesN_length, repE_length, HNR.out])
  clear hW
  clear hx1 hx7 hy1 l1 l7 m1
  have b0 : Below wo.heap.size wo wo.drew := (Below.refl _ _).drew
  refine wp_region_held_drew (S := MsBase wo gp (.int .i64 1) (.int .u32 (ssrc : Int)) (.int .u32 (media : Int)) (.int .u64 (clock : Int)) (.int .u32 (time : Int)) (.int .u32 (packets : Int)) (.int .u32 (bytes : Int)) (.slice rA nr rc) (.slice wA nw wc) (.slice pA np pc) (.slice aA na ac) (.int .u8 (typ : Int))) (by kernel_rfl) (KEEP.out _ b0) (fun hHeld0 => ?_)
  refine wpAnyH_take (i := 0) (v := ?_) rfl (by kernel_rfl) (by kernel_rfl) (by kernel_rfl) (fun _ _ _ h => h) (Or.inl ⟨by kernel_rfl, ?_⟩) (by assumption) ?_
  rotate_left 1
  · (intro w hSw; obtain ⟨q0, q1, q2, q3, q4, q5, q6, q7, q8, q9, q10, q11, _⟩ := hSw; go_simp; try (with_reducible rfl))
  (try simp only [Act.put, List.getElem_toArray, List.getElem_cons_succ, List.getElem_cons_zero, List.setIfInBounds_toArray, List.set_cons_zero, List.set_cons_succ])
  refine wpAnyH_take (i := 1) (v := ?_) rfl (by kernel_rfl) (by kernel_rfl) (by kernel_rfl) (fun _ _ _ h => h) (Or.inl ⟨by kernel_rfl, ?_⟩) (by assumption) ?_
  rotate_left 1
  · (intro w hSw; obtain ⟨q0, q1, q2, q3, q4, q5, q6, q7, q8, q9, q10, q11, _⟩ := hSw; go_simp; try (with_reducible rfl))
  (try simp only [Act.put, List.getElem_toArray, List.getElem_cons_succ, List.getElem_cons_zero, List.setIfInBounds_toArray, List.set_cons_zero, List.set_cons_succ])
  refine wpAnyH_take (i := 3) (v := ?_) rfl (by kernel_rfl) (by kernel_rfl) (by kernel_rfl) (fun _ _ _ h => h) (Or.inl ⟨by kernel_rfl, ?_⟩) (by assumption) ?_
  rotate_left 1
  · (intro w hSw; obtain ⟨q0, q1, q2, q3, q4, q5, q6, q7, q8, q9, q10, q11, _⟩ := hSw; go_simp; try (with_reducible rfl))
  (try simp only [Act.put, List.getElem_toArray, List.getElem_cons_succ, List.getElem_cons_zero, List.setIfInBounds_toArray, List.set_cons_zero, List.set_cons_succ])
  refine wpAnyH_take (i := 4) (v := ?_) rfl (by kernel_rfl) (by kernel_rfl) (by kernel_rfl) (fun _ _ _ h => h) (Or.inl ⟨by kernel_rfl, ?_⟩) (by assumption) ?_
  rotate_left 1
  · (intro w hSw; obtain ⟨q0, q1, q2, q3, q4, q5, q6, q7, q8, q9, q10, q11, _⟩ := hSw; go_simp; try (with_reducible rfl))
  (try simp only [Act.put, List.getElem_toArray, List.getElem_cons_succ, List.getElem_cons_zero, List.setIfInBounds_toArray, List.set_cons_zero, List.set_cons_succ])
  refine wpAnyH_ready (rs := [2]) (by kernel_rfl) (by simp) ?_
  refine AllReadyH.cons rfl (fun K hK => ?_) ?_
  · go_simp
    go_wp2_with (go_at_call 34; refine (D1.out _ ?_).mono ?_; (exact b0); rintro e v1 ⟨rfl, b1, c1⟩)
    refine hK.out _ _ (KEEP.out _ b1) (fun hHeld1 => ?_)
    clear hK K
    (try simp only [Act.put, List.getElem_toArray, List.getElem_cons_succ, List.getElem_cons_zero, List.setIfInBounds_toArray, List.set_cons_zero, List.set_cons_succ])
    refine wpAnyH_ready (rs := [5]) (by kernel_rfl) (by simp) ?_
    refine AllReadyH.cons rfl (fun K hK => ?_) ?_
    · go_simp
      go_wp2_with (go_at_call 36; refine (D7.out _ ?_).mono ?_; (exact b1); rintro e v2 ⟨rfl, b2, c2⟩)
      refine hK.out _ _ (KEEP.out _ b2) (fun hHeld2 => ?_)
      clear hK K
      (try simp only [Act.put, List.getElem_toArray, List.getElem_cons_succ, List.getElem_cons_zero, List.setIfInBounds_toArray, List.set_cons_zero, List.set_cons_succ])
      refine wpAnyH_take (i := 6) (v := ?_) rfl (by kernel_rfl) (by kernel_rfl) (by kernel_rfl) (fun _ _ _ h => h) (Or.inl ⟨by kernel_rfl, ?_⟩) (by assumption) ?_
      rotate_left 1
      · (intro w hSw; obtain ⟨q0, q1, q2, q3, q4, q5, q6, q7, q8, q9, q10, q11, _⟩ := hSw; go_simp; try (with_reducible rfl))
      (try simp only [Act.put, List.getElem_toArray, List.getElem_cons_succ, List.getElem_cons_zero, List.setIfInBounds_toArray, List.set_cons_zero, List.set_cons_succ])
      refine wpAnyH_take (i := 7) (v := ?_) rfl (by kernel_rfl) (by kernel_rfl) (by kernel_rfl) (fun _ _ _ h => h) (Or.inl ⟨by kernel_rfl, ?_⟩) (by assumption) ?_
      rotate_left 1
      · (intro w hSw; obtain ⟨q0, q1, q2, q3, q4, q5, q6, q7, q8, q9, q10, q11, _⟩ := hSw; go_simp; try (with_reducible rfl))
      (try simp only [Act.put, List.getElem_toArray, List.getElem_cons_succ, List.getElem_cons_zero, List.setIfInBounds_toArray, List.set_cons_zero, List.set_cons_succ])
      refine wpAnyH_done (by kernel_rfl) ?_ _
      have HBX := Lib.hid b2
      obtain ⟨k0, k1, k2, k3, k4, k5, k6, k7, k8, k9, k10, k11, _⟩ := KEEP.out _ b2
      have hL : y1.length = 4 + 24 * nr := HBD.out.2
      obtain ⟨L, hLL⟩ : ∃ L, 4 + 24 * nr = L := ⟨_, rfl⟩
      rw [hLL] at hL
      have hL2 : L ≤ 1600 := by omega
      have HL := Lib.hid hLL
      clear hLL
      (try clear hHeld0 hHeld1 hHeld2)
      (try clear b0 b1 b2)
      (try clear c1 c2)
      by_cases hc31 : 31 < nr
      · have HT : Hid (PutTold ⟨1, ssrc, media, clock, time, packets, bytes, reps, who, pairs, asks, typ⟩ w (.returned (.tuple #[.string ⟨#[]⟩, .int .i64 1])) v2) := Lib.hid ⟨by rw [told_bad _ (by simp [Ms.good, Ms.num, Ms.cnt, HNR.out, HNW.out, HNP.out, HNA.out]; try omega)]; rfl, HHB.out _ HBX.out⟩
        go_wp2
        go_ret2
        exact HT.out
      · go_wp2_with fail
        obtain ⟨wo, hwo⟩ : ∃ wo, wo = v2 := ⟨_, rfl⟩
        rw [← hwo] at k0 k1 k2 k3 k4 k5 k6 k7 k8 k9 k10 k11 ⊢
        have HBZ : Hid (∀ w', Below wo.heap.size wo w' → Below w.heap.size w w') := Lib.hid (by rw [hwo]; exact fun w' b => bnext (HHB.out _ HBX.out) b)
        have HHB := HBZ
        clear hwo k0 k1 k2 k3 k4 k5 k6 k7 k8 k9 k10 k11 KEEP
        have e0 : ∃ c0 : Nat, IntKind.u8.wrap (IntKind.i64.wrap (128 + (nr : Int))) = (c0 : Int) ∧ c0 = 128 + nr ∧ c0 < 256 := ⟨128 + nr, u8_i64 _ (by omega), rfl, by omega⟩
        obtain ⟨c0, hw0, hc0, lc0⟩ := e0
        obtain ⟨c1, hw1, hc1, lc1⟩ : ∃ c1 : Nat, IntKind.u8.wrap 201 = (c1 : Int) ∧ c1 = 201 ∧ c1 < 256 := ⟨201, by decide, rfl, by decide⟩
        obtain ⟨xh, hxh⟩ : ∃ x, [UInt8.ofNat c0, UInt8.ofNat c1] = x := ⟨_, rfl⟩
        obtain ⟨xl, hxl⟩ : ∃ x, bytesN (L / 4) 2 = x := ⟨_, rfl⟩
        obtain ⟨z1, hz1⟩ : ∃ x, xh ++ xl = x := ⟨_, rfl⟩
        obtain ⟨z2, hz2⟩ : ∃ x, z1 ++ y1 = x := ⟨_, rfl⟩
        have lxh : xh.length = 2 := by rw [← hxh]; rfl
        have lxl : xl.length = 2 := by rw [← hxl]; exact bytesN_length _ _
        have lz1 : z1.length = 4 := by rw [← hz1, List.length_append, lxh, lxl]
        have a1 : ∀ wx, (Op.stringOp .add (str xh) (str xl)).run Tryd.prog wx = .ok (.string (str z1)) wx := by rw [← hz1]; exact fun wx => run_str_add wx xh xl (by omega)
        have a2 : ∀ wx, (Op.stringOp .add (str z1) (str y1)).run Tryd.prog wx = .ok (.string (str z2)) wx := by rw [← hz2]; exact fun wx => run_str_add wx z1 y1 (by omega)
        have conv_whole : ∀ (b : Nat) (w' : World), Whole w' b 5 #[.int .u8 (c0 : Int), .int .u8 (c1 : Int)] → (convert 25 9 (.slice (some ⟨b, 0, none⟩) 2 2)).run Tryd.prog w' = .ok (.string (str xh)) w' := by
          intro b w' hw
          rw [← hxh]
          exact conv_two b c0 c1 lc0 lc1 w' hw
        have DL := Lib.hid (fun w' (b : Below wo.heap.size wo w') => show Calls Tryd.prog 35 #[.int .u64 (IntKind.u64.wrap (IntKind.i64.wrap ((L : Int) / 4))), .int .i64 2] w' (fun e w'' => e = .returned (.string (str xl)) ∧ Below wo.heap.size wo w'' ∧ Below w'.heap.size w' w'') from by
          rw [← hxl, IntWalk.i64_in _ (by omega), show (L : Int) / 4 = ((L / 4 : Nat) : Int) by omega, u64_nat _ (by omega)]
          exact (refnum_as (L / 4) 2 w' (by omega) (by decide) (by decide)).mono fun e w'' hh => ⟨hh.1, bnext b hh.2, hh.2⟩)
        have HT : Hid (∀ w', Below wo.heap.size wo w' → PutTold ⟨1, ssrc, media, clock, time, packets, bytes, reps, who, pairs, asks, typ⟩ w (.returned (.tuple #[.string (str z2), .int .i64 0])) w') := Lib.hid (fun w' b => ⟨by
          rw [told_good _ (by simp [Ms.good, Ms.num, Ms.cnt, HNR.out, HNW.out, HNP.out, HNA.out]; try omega)]
          rw [← hz2, ← hz1, ← hxh, ← hxl, hc0, hc1, ← hL, HBD.out.1]
          simp [Ms.enc, Ms.cnt, Ms.num, Ms.body, HNR.out, HNW.out], HHB.out _ b⟩)
        have b0 : Below wo.heap.size wo wo.drew := (Below.refl _ _).drew
        clear hxh hxl hz1 hz2 lxh lxl lz1 hc0 hc1 HBD HBX HBO HBZ HL
        refine wp_region_held_drew (S := (fun w' => Below wo.heap.size wo w')) (by kernel_rfl) b0 (fun hHeld0 => ?_)
        refine wpAnyH_take (i := 0) (v := ?_) rfl (by kernel_rfl) (by kernel_rfl) (by kernel_rfl) (fun _ _ _ h => h) (Or.inl ⟨by kernel_rfl, ?_⟩) (by assumption) ?_
        rotate_left 1
        · (intro w hSw; obtain _qq := hSw; go_simp; try (with_reducible rfl))
        (try simp only [Act.put, List.getElem_toArray, List.getElem_cons_succ, List.getElem_cons_zero, List.setIfInBounds_toArray, List.set_cons_zero, List.set_cons_succ])
        refine wpAnyH_take (i := 1) (v := ?_) rfl (by kernel_rfl) (by kernel_rfl) (by kernel_rfl) (fun _ _ _ h => h) (Or.inl ⟨by kernel_rfl, ?_⟩) (by assumption) ?_
        rotate_left 1
        · (intro w hSw; obtain _qq := hSw; go_simp; try (with_reducible rfl))
        (try simp only [Act.put, List.getElem_toArray, List.getElem_cons_succ, List.getElem_cons_zero, List.setIfInBounds_toArray, List.set_cons_zero, List.set_cons_succ])
        refine wpAnyH_take (i := 2) (v := ?_) rfl (by kernel_rfl) (by kernel_rfl) (by kernel_rfl) (fun _ _ _ h => h) (Or.inl ⟨by kernel_rfl, ?_⟩) (by assumption) ?_
        rotate_left 1
        · (intro w hSw; obtain _qq := hSw; go_simp; try (with_reducible rfl))
        (try simp only [Act.put, List.getElem_toArray, List.getElem_cons_succ, List.getElem_cons_zero, List.setIfInBounds_toArray, List.set_cons_zero, List.set_cons_succ])
        refine wpAnyH_take (i := 3) (v := ?_) rfl (by kernel_rfl) (by kernel_rfl) (by kernel_rfl) (fun _ _ _ h => h) (Or.inl ⟨by kernel_rfl, ?_⟩) (by assumption) ?_
        rotate_left 1
        · (intro w hSw; obtain _qq := hSw; go_simp; try (with_reducible rfl))
        (try simp only [Act.put, List.getElem_toArray, List.getElem_cons_succ, List.getElem_cons_zero, List.setIfInBounds_toArray, List.set_cons_zero, List.set_cons_succ])
        refine wpAnyH_take (i := 4) (v := ?_) rfl (by kernel_rfl) (by kernel_rfl) (by kernel_rfl) (fun _ _ _ h => h) (Or.inl ⟨by kernel_rfl, ?_⟩) (by assumption) ?_
        rotate_left 1
        · (intro w hSw; obtain _qq := hSw; go_simp; try (with_reducible rfl))
        (try simp only [Act.put, List.getElem_toArray, List.getElem_cons_succ, List.getElem_cons_zero, List.setIfInBounds_toArray, List.set_cons_zero, List.set_cons_succ])
        refine wpAnyH_take (i := 7) (v := ?_) rfl (by kernel_rfl) (by kernel_rfl) (by kernel_rfl) (fun _ _ _ h => h) (Or.inl ⟨by kernel_rfl, ?_⟩) (by assumption) ?_
        rotate_left 1
        · (intro w hSw; obtain _qq := hSw; go_simp; try (with_reducible rfl))
        (try simp only [Act.put, List.getElem_toArray, List.getElem_cons_succ, List.getElem_cons_zero, List.setIfInBounds_toArray, List.set_cons_zero, List.set_cons_succ])
        refine wpAnyH_take (i := 8) (v := ?_) rfl (by kernel_rfl) (by kernel_rfl) (by kernel_rfl) (fun _ _ _ h => h) (Or.inl ⟨by kernel_rfl, ?_⟩) (by assumption) ?_
        rotate_left 1
        · (intro w hSw; obtain _qq := hSw; go_simp; try (with_reducible rfl))
        (try simp only [Act.put, List.getElem_toArray, List.getElem_cons_succ, List.getElem_cons_zero, List.setIfInBounds_toArray, List.set_cons_zero, List.set_cons_succ])
        refine wpAnyH_take (i := 9) (v := ?_) rfl (by kernel_rfl) (by kernel_rfl) (by kernel_rfl) (fun _ _ _ h => h) (Or.inl ⟨by kernel_rfl, ?_⟩) (by assumption) ?_
        rotate_left 1
        · (intro w hSw; obtain _qq := hSw; go_simp; try (with_reducible rfl))
        (try simp only [Act.put, List.getElem_toArray, List.getElem_cons_succ, List.getElem_cons_zero, List.setIfInBounds_toArray, List.set_cons_zero, List.set_cons_succ])
        refine wpAnyH_take (i := 10) (v := ?_) rfl (by kernel_rfl) (by kernel_rfl) (by kernel_rfl) (fun _ _ _ h => h) (Or.inl ⟨by kernel_rfl, ?_⟩) (by assumption) ?_
        rotate_left 1
        · (intro w hSw; obtain _qq := hSw; go_simp; try (with_reducible rfl))
        (try simp only [Act.put, List.getElem_toArray, List.getElem_cons_succ, List.getElem_cons_zero, List.setIfInBounds_toArray, List.set_cons_zero, List.set_cons_succ])
        refine wpAnyH_take (i := 13) (v := ?_) rfl (by kernel_rfl) (by kernel_rfl) (by kernel_rfl) (fun _ _ _ h => h) (Or.inl ⟨by kernel_rfl, ?_⟩) (by assumption) ?_
        rotate_left 1
        · (intro w hSw; obtain _qq := hSw; go_simp; try (with_reducible rfl))
        (try simp only [Act.put, List.getElem_toArray, List.getElem_cons_succ, List.getElem_cons_zero, List.setIfInBounds_toArray, List.set_cons_zero, List.set_cons_succ])
        refine wpAnyH_ready (rs := [5, 11]) (by kernel_rfl) (by simp) ?_
        refine AllReadyH.cons rfl (fun K hK => ?_) ?_
        · go_simp
          have b21 := b0.alloc b0.size (.cells #[.int .u8 (c0 : Int), .int .u8 (c1 : Int)] 5)
          have hp21 : Whole (wo.drew.alloc (.cells #[.int .u8 (c0 : Int), .int .u8 (c1 : Int)] 5)) wo.heap.size 5 #[.int .u8 (c0 : Int), .int .u8 (c1 : Int)] := Whole.new wo.drew _ _
          refine hK.out _ _ b21 (fun _ => ?_)
          clear hK K
          (try simp only [Act.put, List.getElem_toArray, List.getElem_cons_succ, List.getElem_cons_zero, List.setIfInBounds_toArray, List.set_cons_zero, List.set_cons_succ])
          have hcv := conv_whole wo.heap.size
          refine wpAnyH_more (S2 := fun w' => Below wo.heap.size wo w' ∧ Whole w' wo.heap.size 5 #[.int .u8 (c0 : Int), .int .u8 (c1 : Int)]) (fun _ h => h.1) ?_
          have hHeld21 : (fun w' => Below wo.heap.size wo w' ∧ Whole w' wo.heap.size 5 #[.int .u8 (c0 : Int), .int .u8 (c1 : Int)]) (wo.drew.alloc (.cells #[.int .u8 (c0 : Int), .int .u8 (c1 : Int)] 5)) := ⟨b21, hp21⟩
          refine wpAnyH_take (i := 6) (v := ?_) rfl (by kernel_rfl) (by kernel_rfl) (by kernel_rfl) (fun _ _ _ h => h) (Or.inl ⟨by kernel_rfl, ?_⟩) (by assumption) ?_
          rotate_left 1
          · (intro w hSw; obtain ⟨_, qW⟩ := hSw; have qc := hcv w qW; go_simp; try (with_reducible rfl))
          (try simp only [Act.put, List.getElem_toArray, List.getElem_cons_succ, List.getElem_cons_zero, List.setIfInBounds_toArray, List.set_cons_zero, List.set_cons_succ])
          refine wpAnyH_ready (rs := [11]) (by kernel_rfl) (by simp) ?_
          refine AllReadyH.cons rfl (fun K hK => ?_) ?_
          · go_simp
            go_wp2_with (go_at_call 35; refine (DL.out _ ?_).mono ?_; (exact b21); rintro e v22 ⟨rfl, b22, c22⟩)
            have hp22 := hp21.below c22 hp21.lt
            refine hK.out _ _ ⟨b22, hp22⟩ (fun hHeld22 => ?_)
            clear hK K
            (try simp only [Act.put, List.getElem_toArray, List.getElem_cons_succ, List.getElem_cons_zero, List.setIfInBounds_toArray, List.set_cons_zero, List.set_cons_succ])
            refine wpAnyH_take (i := 12) (v := ?_) rfl (by kernel_rfl) (by kernel_rfl) (by kernel_rfl) (fun _ _ _ h => h) (Or.inl ⟨by kernel_rfl, ?_⟩) (by assumption) ?_
            rotate_left 1
            · (intro w hSw; obtain ⟨_, qW⟩ := hSw; go_simp; try (with_reducible rfl))
            (try simp only [Act.put, List.getElem_toArray, List.getElem_cons_succ, List.getElem_cons_zero, List.setIfInBounds_toArray, List.set_cons_zero, List.set_cons_succ])
            refine wpAnyH_take (i := 14) (v := ?_) rfl (by kernel_rfl) (by kernel_rfl) (by kernel_rfl) (fun _ _ _ h => h) (Or.inl ⟨by kernel_rfl, ?_⟩) (by assumption) ?_
            rotate_left 1
            · (intro w hSw; obtain ⟨_, qW⟩ := hSw; go_simp; try (with_reducible rfl))
            (try simp only [Act.put, List.getElem_toArray, List.getElem_cons_succ, List.getElem_cons_zero, List.setIfInBounds_toArray, List.set_cons_zero, List.set_cons_succ])
            refine wpAnyH_take (i := 15) (v := ?_) rfl (by kernel_rfl) (by kernel_rfl) (by kernel_rfl) (fun _ _ _ h => h) (Or.inl ⟨by kernel_rfl, ?_⟩) (by assumption) ?_
            rotate_left 1
            · (intro w hSw; obtain ⟨_, qW⟩ := hSw; go_simp; try (with_reducible rfl))
            (try simp only [Act.put, List.getElem_toArray, List.getElem_cons_succ, List.getElem_cons_zero, List.setIfInBounds_toArray, List.set_cons_zero, List.set_cons_succ])
            refine wpAnyH_take (i := 16) (v := ?_) rfl (by kernel_rfl) (by kernel_rfl) (by kernel_rfl) (fun _ _ _ h => h) (Or.inl ⟨by kernel_rfl, ?_⟩) (by assumption) ?_
            rotate_left 1
            · (intro w hSw; obtain ⟨_, qW⟩ := hSw; go_simp; try (with_reducible rfl))
            (try simp only [Act.put, List.getElem_toArray, List.getElem_cons_succ, List.getElem_cons_zero, List.setIfInBounds_toArray, List.set_cons_zero, List.set_cons_succ])
            refine wpAnyH_done (by kernel_rfl) ?_ _
            go_wp2
            go_ret2
            exact HT.out _ b22
          exact AllReadyH.nil
        refine AllReadyH.cons rfl (fun K hK => ?_) ?_
        · go_simp
          go_wp2_with (go_at_call 35; refine (DL.out _ ?_).mono ?_; (exact b0); rintro e v21 ⟨rfl, b21, c21⟩)
          refine hK.out _ _ b21 (fun hHeld21 => ?_)
          clear hK K
          (try simp only [Act.put, List.getElem_toArray, List.getElem_cons_succ, List.getElem_cons_zero, List.setIfInBounds_toArray, List.set_cons_zero, List.set_cons_succ])
          refine wpAnyH_ready (rs := [5]) (by kernel_rfl) (by simp) ?_
          refine AllReadyH.cons rfl (fun K hK => ?_) ?_
          · go_simp
            have b22 := b21.alloc b21.size (.cells #[.int .u8 (c0 : Int), .int .u8 (c1 : Int)] 5)
            have hp22 : Whole (v21.alloc (.cells #[.int .u8 (c0 : Int), .int .u8 (c1 : Int)] 5)) v21.heap.size 5 #[.int .u8 (c0 : Int), .int .u8 (c1 : Int)] := Whole.new v21 _ _
            refine hK.out _ _ b22 (fun _ => ?_)
            clear hK K
            (try simp only [Act.put, List.getElem_toArray, List.getElem_cons_succ, List.getElem_cons_zero, List.setIfInBounds_toArray, List.set_cons_zero, List.set_cons_succ])
            have hcv := conv_whole v21.heap.size
            refine wpAnyH_more (S2 := fun w' => Below wo.heap.size wo w' ∧ Whole w' v21.heap.size 5 #[.int .u8 (c0 : Int), .int .u8 (c1 : Int)]) (fun _ h => h.1) ?_
            have hHeld22 : (fun w' => Below wo.heap.size wo w' ∧ Whole w' v21.heap.size 5 #[.int .u8 (c0 : Int), .int .u8 (c1 : Int)]) (v21.alloc (.cells #[.int .u8 (c0 : Int), .int .u8 (c1 : Int)] 5)) := ⟨b22, hp22⟩
            refine wpAnyH_take (i := 6) (v := ?_) rfl (by kernel_rfl) (by kernel_rfl) (by kernel_rfl) (fun _ _ _ h => h) (Or.inl ⟨by kernel_rfl, ?_⟩) (by assumption) ?_
            rotate_left 1
            · (intro w hSw; obtain ⟨_, qW⟩ := hSw; have qc := hcv w qW; go_simp; try (with_reducible rfl))
            (try simp only [Act.put, List.getElem_toArray, List.getElem_cons_succ, List.getElem_cons_zero, List.setIfInBounds_toArray, List.set_cons_zero, List.set_cons_succ])
            refine wpAnyH_take (i := 12) (v := ?_) rfl (by kernel_rfl) (by kernel_rfl) (by kernel_rfl) (fun _ _ _ h => h) (Or.inl ⟨by kernel_rfl, ?_⟩) (by assumption) ?_
            rotate_left 1
            · (intro w hSw; obtain ⟨_, qW⟩ := hSw; go_simp; try (with_reducible rfl))
            (try simp only [Act.put, List.getElem_toArray, List.getElem_cons_succ, List.getElem_cons_zero, List.setIfInBounds_toArray, List.set_cons_zero, List.set_cons_succ])
            refine wpAnyH_take (i := 14) (v := ?_) rfl (by kernel_rfl) (by kernel_rfl) (by kernel_rfl) (fun _ _ _ h => h) (Or.inl ⟨by kernel_rfl, ?_⟩) (by assumption) ?_
            rotate_left 1
            · (intro w hSw; obtain ⟨_, qW⟩ := hSw; go_simp; try (with_reducible rfl))
            (try simp only [Act.put, List.getElem_toArray, List.getElem_cons_succ, List.getElem_cons_zero, List.setIfInBounds_toArray, List.set_cons_zero, List.set_cons_succ])
            refine wpAnyH_take (i := 15) (v := ?_) rfl (by kernel_rfl) (by kernel_rfl) (by kernel_rfl) (fun _ _ _ h => h) (Or.inl ⟨by kernel_rfl, ?_⟩) (by assumption) ?_
            rotate_left 1
            · (intro w hSw; obtain ⟨_, qW⟩ := hSw; go_simp; try (with_reducible rfl))
            (try simp only [Act.put, List.getElem_toArray, List.getElem_cons_succ, List.getElem_cons_zero, List.setIfInBounds_toArray, List.set_cons_zero, List.set_cons_succ])
            refine wpAnyH_take (i := 16) (v := ?_) rfl (by kernel_rfl) (by kernel_rfl) (by kernel_rfl) (fun _ _ _ h => h) (Or.inl ⟨by kernel_rfl, ?_⟩) (by assumption) ?_
            rotate_left 1
            · (intro w hSw; obtain ⟨_, qW⟩ := hSw; go_simp; try (with_reducible rfl))
            (try simp only [Act.put, List.getElem_toArray, List.getElem_cons_succ, List.getElem_cons_zero, List.setIfInBounds_toArray, List.set_cons_zero, List.set_cons_succ])
            refine wpAnyH_done (by kernel_rfl) ?_ _
            go_wp2
            go_ret2
            exact HT.out _ b22
          exact AllReadyH.nil
        exact AllReadyH.nil
    exact AllReadyH.nil
  exact AllReadyH.nil
end Go.Proofs.YtmbhibkiadgcbaaDoor
