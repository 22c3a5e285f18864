/-
  Proved: RecvPlays returns true for every row of packets: what each one is, its number, what was lost, and what misses, are the document's. Conditions: none.
-/
import Derived.Test.YtphhhfgenhbmlaaRvD
import Derived.Test.YtphhhfgenhbmlaaRvO
import Derived.Test.YtphhhfgenhbmlaaRvU
import Derived.Test.YtphhhfgenhbmlaaHang
import Derived.Test.YtphhhfgenhbmlaaLift
import Derived.Deep.CutBlock
namespace Go.Proofs.Ytphhhfgenhbmlaa.VPlays
open Go.ChangeShapes Go.WideShapes Go.ChangeAt Go.RowKit
set_option linter.unusedSimpArgs false

theorem rest_is (z : Int) : (z % 65536 != (wrap64 (z.tmod 65536 + 65536)).tmod 65536) = false := by
  have h : (wrap64 (z.tmod 65536 + 65536)).tmod 65536 = z % 65536 := by
    rcases Int.lt_or_le (z.tmod 65536) 0 with h | h
    · obtain ⟨g1, g2⟩ := rest_low z 65536 (by decide) h
      rw [IntWalk.wrap64_in _ (by omega), rest_high _ 65536 (by decide) (by have := Int.tmod_nonneg 65536 (show (0 : Int) ≤ z.tmod 65536 + 65536 by omega); omega), g2]
      omega
    · have g := rest_high z 65536 (by decide) h
      rw [g, IntWalk.wrap64_in _ (by omega), rest_high _ 65536 (by decide) (by have := Int.tmod_nonneg 65536 (show (0 : Int) ≤ z % 65536 + 65536 by omega); omega)]
      omega
  rw [h]
  simp
/-- A row is kept where its block is not written. -/
theorem row_far {w : World} {B z n : Nat} {A : Option Addr} {xs : List Value} (h : Row w B z A n xs) {p : Addr} (hp : ∀ a, A = some a → a.block ≠ p.block) (u : Value) : Row (w.setCell p u) B z A n xs := by
  refine ⟨h.1, fun h0 => ?_⟩
  obtain ⟨g, o, hA, hg, hc⟩ := h.2 h0
  exact ⟨g, o, hA, hg, fun j v hj => (World.cell?_of_block (a := ⟨g, o + j, none⟩) (Below.heap_setCell w p u g (hp _ hA))).trans (hc j v hj)⟩
theorem row_five {w : World} {B z n r : Nat} {A : Option Addr} {xs : List Value} (h : Row w B z A n xs) (hp : ∀ a, A = some a → a.block ≠ r) (u0 u1 u2 u3 u4 : Value) :
    Row (((((w.setCell ⟨r, 0, none⟩ u0).setCell ⟨r, 1, none⟩ u1).setCell ⟨r, 2, none⟩ u2).setCell ⟨r, 3, none⟩ u3).setCell ⟨r, 4, none⟩ u4) B z A n xs :=
  row_far (p := ⟨r, 4, none⟩) (row_far (p := ⟨r, 3, none⟩) (row_far (p := ⟨r, 2, none⟩) (row_far (p := ⟨r, 1, none⟩) (row_far (p := ⟨r, 0, none⟩) h hp u0) hp u1) hp u2) hp u3) hp u4
/-- A step of the document's. -/
theorem step_any (t : Trk) (L : List Int) (m : Nat) (A : Option Addr) (c : Nat) (s : Int) (ht : t.Fit) (hR : RepO t L) (hm : L.length = m) (hcl : m ≤ 4095) (h0 : 0 ≤ s) (h1 : s < 65536) :
    ∃ L', Rep (t.take (t.num s)) L' ∧ L'.length ≤ m + 1 ∧ ∀ w, Row w w.heap.size 1 A m (i64r L) → Calls Try.prog 11 #[.agg #[.slice A m c], .int .u16 s] w (DocTake A L' (t.num s) (t.kind (t.num s)) w) := by
  rcases hR with ⟨rfl, rfl⟩ | hR
  · obtain rfl : 0 = m := hm
    exact ⟨[s], Rep.first s, by simp, fun w _ => docTake_none s A c h0 h1 w⟩
  · refine ⟨if t.kind (t.num s) = 0 ∨ t.kind (t.num s) = 1 then L ++ [t.num s] else L, ?_, by split <;> simp [hm], fun w hr => docTake_some t L m A c s _ _ ht hR hm hcl h0 h1 rfl rfl w hr⟩
    have hk := hR.kind (t.num s)
    unfold kindL at hk
    by_cases c1 : t.high < t.num s
    · rw [if_pos c1] at hk
      rw [if_pos (.inl hk)]
      exact hR.add_new _ c1
    · rw [if_neg c1] at hk
      by_cases c2 : t.num s < t.high - 63
      · rw [if_pos c2] at hk
        rw [if_neg (by omega), Trk.again_old t _ (.inl hk)]
        exact hR
      · rw [if_neg c2] at hk
        by_cases c3 : t.num s ∈ L
        · rw [if_pos c3] at hk
          rw [if_neg (by omega), Trk.again_old t _ (.inr hk)]
          exact hR
        · rw [if_neg c3] at hk
          rw [if_pos (.inr hk)]
          exact hR.add_late _ c1 c2 c3
def St (t : Trk) (L : List Int) (k m gw : Nat) (A : Option Addr) (w : World) : Prop :=
  t.Ok (k * 65536) ∧ RepO t L ∧ L.length = m ∧ m ≤ k ∧ Row w w.heap.size 1 A m (i64r L) ∧ ∀ a, A = some a → gw < a.block ∧ a.block < w.heap.size

set_option maxRecDepth 100000 in
set_option maxHeartbeats 6400000 in
theorem walk (w : World) (A : Option Addr) (c : Nat) (l : List Nat) (hl : l.length ≤ maxLen) (hr : Row w w.heap.size 1 A l.length (n16 l)) (hx : ∀ x ∈ l, x < 65536) :
    Calls Try.prog 3 #[.slice A l.length c] w fun e w' => e = .returned (.bool true) ∧ Below w.heap.size w w' := by
  unfold maxLen at hl
  obtain ⟨n, hn⟩ : ∃ n, l.length = n := ⟨_, rfl⟩
  rw [hn] at hl hr ⊢
  have CA := Lib.hid (awake_any w)
  by_cases h1 : 150 < n
  · clear hr hn hx
    go_enter Try.func3, Try.ntmps3
    go_wp2_with fail
    refine CA.out.mono ?_
    rintro e w1 ⟨rfl, b1⟩
    go_wp2
    go_ret
    exact ⟨rfl, b1⟩
  have H := Lib.hid hr
  have HN := Lib.hid hn
  have HX := Lib.hid hx
  clear hr hn hx
  go_enter Try.func3, Try.ntmps3
  go_wp2_with fail
  refine CA.out.mono ?_
  rintro e w1 ⟨rfl, b1⟩
  have HW := Lib.hid ((Whole.new w1 26 #[.bool false, .int .i64 0, .int .i64 0, .int .i64 0, .int .u64 0]).alloc (.cells #[.slice none 0 0] 29))
  have HV := Lib.hid (Whole.new2 w1 (.cells #[.bool false, .int .i64 0, .int .i64 0, .int .i64 0, .int .u64 0] 26) 29 #[.slice none 0 0])
  have HB := Lib.hid ((b1.alloc b1.size (.cells #[.bool false, .int .i64 0, .int .i64 0, .int .i64 0, .int .u64 0] 26)).alloc (by have := b1.size; simp; omega) (.cells #[.slice none 0 0] 29))
  obtain ⟨gt, hgt⟩ : ∃ g, g = w1.heap.size := ⟨_, rfl⟩
  have hg := b1.size
  rw [← hgt] at hg HW HV
  clear b1 CA
  go_wp2_with fail
  rw [← hgt]
  obtain ⟨gw, hgw'⟩ : ∃ g, g = gt + 1 := ⟨_, rfl⟩
  rw [← hgw'] at HV ⊢
  have hgtw : gt < gw := by omega
  clear hgw'
  go_loopw [6] (fun i wr => ∃ (k m c' : Nat) (t : Trk) (L : List Int) (A' : Option Addr), k ≤ n ∧ i = .int .i64 (k : Int) ∧ Hid (St t L k m gw A' wr) ∧ Hid (Whole wr gt 26 t.cells) ∧ Hid (Whole wr gw 29 #[.slice A' m c']) ∧ Below w.heap.size w wr) (fun i _ => n - (intOf i).toNat)
  case atStart => exact ⟨0, 0, 0, Trk.zero, [], none, Nat.zero_le _, rfl, Lib.hid ⟨Trk.Ok.zero, .inl ⟨rfl, rfl⟩, rfl, Nat.le_refl _, Row.nil, fun a ha => by cases ha⟩, HW, HV, HB.out⟩
  case round =>
    clear HW HB HV hgt
    obtain ⟨k, m, c', t, L, A', hk, rfl, HT, HW, HV, hb⟩ := hrel
    obtain ⟨wo, rfl⟩ : ∃ wo : World, wo = wr := ⟨_, rfl⟩
    have HB := Lib.hid hb
    have hsz := hb.size
    clear hb
    by_cases hlt : k < n
    · obtain ⟨x, hx⟩ : ∃ x, l[k]? = some x := ⟨l[k]'(by rw [HN.out]; exact hlt), by simp⟩
      have hx6 := HX.out x (List.mem_of_getElem? hx)
      obtain ⟨g, o, rfl, hg0, hcell⟩ := H.out.2 (by omega)
      have ROW := Lib.hid (fun w' (b' : Below w.heap.size w w') => show w'.cell? ⟨g, o + k, none⟩ = some (.int .u16 (x : Int)) from (b'.cell (p := ⟨g, o + k, none⟩) hg0).trans (hcell k _ (n16_get _ _ _ hx)))
      clear hcell hx
      obtain ⟨ht, hR, hLm, hmk, hLr, hLA⟩ := HT.out
      have hnb := Trk.num_bd ht (x : Int) (by omega) (by omega)
      have hOK := ht.take (t.num x) hnb.1 hnb.2
      obtain ⟨L', hR', hL', hdoc⟩ := step_any t L m A' c' (x : Int) (ht.more (by omega)) hR hLm (by omega) (by omega) (by omega)
      obtain ⟨y, hy⟩ : ∃ y, t.num (x : Int) = y := ⟨_, rfl⟩
      have htk : Tk t (x : Int) (t.take y) y (t.kind y) := ⟨hy, rfl, rfl⟩
      rw [hy] at hOK hR' hdoc hnb
      have hFt : t.Fit := ht.more (by omega)
      obtain ⟨u, hu⟩ : ∃ u, t.take y = u := ⟨_, rfl⟩
      obtain ⟨kd, hkk⟩ : ∃ kd, t.kind y = kd := ⟨_, rfl⟩
      obtain ⟨m', hm'⟩ : ∃ m', L'.length = m' := ⟨_, rfl⟩
      rw [hu, hkk] at htk
      rw [hu] at hOK hR'
      rw [hkk] at hdoc
      rw [hm'] at hL'
      have hFu : u.Fit := hOK.more (by omega)
      have g0 := hFu.base0
      have g1 := hFu.base1
      have g2 := hFu.high0
      have g3 := hFu.high1
      have hug := hR'.got
      rw [hm'] at hug
      have huo := hR'.on
      have hLr6 := Lib.hid hLr
      have HLT := Lib.hid hLA
      have HDOC : Hid (∀ w', Below wo.heap.size wo w' → Calls Try.prog 11 #[.agg #[.slice A' m c'], .int .u16 (x : Int)] w' fun e w'' => ∃ A2 c2, e = .returned (.tuple #[.agg #[.slice A2 m' c2], .int .i64 y, .int .i64 kd]) ∧ Row w'' w''.heap.size 1 A2 m' (i64r L') ∧ (∀ a, A2 = some a → A' = some a ∨ (w'.heap.size ≤ a.block ∧ a.block < w''.heap.size)) ∧ Below w'.heap.size w' w'') := Lib.hid (fun w' b' => by
        have := hdoc w' ((hLr.below b' (Nat.le_refl _)).more b'.size)
        unfold DocTake at this
        rw [hm'] at this
        exact this)
      have HT2 := Lib.hid (And.intro hOK (And.intro hR' hm'))
      have HFU := Lib.hid hFu
      have CL := fun w => lost_any u hFu w
      have CM := fun w => missing_any u hFu w
      have hms := show u.missing = u.miss from by unfold Trk.missing; rw [if_pos huo]
      obtain ⟨ms, hmm⟩ : ∃ ms, u.miss = ms := ⟨_, rfl⟩
      obtain ⟨Lo, hLo⟩ : ∃ Lo, u.lost = Lo := ⟨_, rfl⟩
      rw [hms, hmm] at CM
      rw [hLo] at CL
      have HLo := Lib.hid hLo
      have HMM := Lib.hid hmm
      have HML := Lib.hid (show ms.length ≤ 64 from by rw [← hmm]; exact Trk.miss_length _)
      clear hy ht hOK hu hkk HT hR hLm hLr hLA hR' hm' hFu hms hmm hLo hdoc
      obtain ⟨on, base, high, got, seen⟩ := t
      have C := fun w => tk_lit _ _ _ _ _ _ _ _ _ htk hFt (by omega) (by omega) w
      clear htk hFt
      obtain ⟨uon, ubase, uhigh, ugot, useen⟩ := u
      dsimp only at huo hug g0 g1 g2 g3
      subst huo hug
      simp only [Trk.cells] at C CL CM HW
      have C := Lib.hid C
      have CL := Lib.hid CL
      have CM := Lib.hid CM
      have hi1 : (0 : Int) ≤ (k : Int) := by omega
      have hi2 : (k : Int) < (n : Int) := by omega
      have hR1 := Lib.hid (fun w' (b' : Below wo.heap.size wo w') => ROW.out w' (HB.out.trans (b'.mono hsz)))
      have HB1 := Lib.hid (fun w' (b' : Below wo.heap.size wo w') => HB.out.trans (b'.mono hsz))
      have K6 := Lib.hid (fun w' (b' : Below wo.heap.size wo w') => show (fun w' => w'.cell? ⟨gt, 0, none⟩ = some (.bool on) ∧ w'.cell? ⟨gt, 1, none⟩ = some (.int .i64 base) ∧ w'.cell? ⟨gt, 2, none⟩ = some (.int .i64 high) ∧ w'.cell? ⟨gt, 3, none⟩ = some (.int .i64 got) ∧ w'.cell? ⟨gt, 4, none⟩ = some (.int .u64 (seen : Int)) ∧ w'.cell? ⟨g, o + k, none⟩ = some (.int .u16 (x : Int))) w' from ⟨(HW.out.below b' HW.out.lt).cell 0, (HW.out.below b' HW.out.lt).cell 1, (HW.out.below b' HW.out.lt).cell 2, (HW.out.below b' HW.out.lt).cell 3, (HW.out.below b' HW.out.lt).cell 4, hR1.out _ b'⟩)
      have hgw := HW.out.lt
      go_upto_region 11 with fail
      go_cut [7, 8, 9] (fun s6 s7 s8 wx => ∃ gq : Nat, s6 = .pointer (some ⟨gq, 0, none⟩) ∧ wo.heap.size ≤ gq ∧ s7 = .int .i64 y ∧ s8 = .int .i64 kd ∧ Whole wx gq 26 #[.bool true, .int .i64 ubase, .int .i64 uhigh, .int .i64 (m' : Int), .int .u64 (useen : Int)] ∧ Below wo.heap.size wo wx)
      case first =>
        refine wp_region_X (S := fun w' => w'.cell? ⟨gt, 0, none⟩ = some (.bool on) ∧ w'.cell? ⟨gt, 1, none⟩ = some (.int .i64 base) ∧ w'.cell? ⟨gt, 2, none⟩ = some (.int .i64 high) ∧ w'.cell? ⟨gt, 3, none⟩ = some (.int .i64 got) ∧ w'.cell? ⟨gt, 4, none⟩ = some (.int .u64 (seen : Int)) ∧ w'.cell? ⟨g, o + k, none⟩ = some (.int .u16 (x : Int))) [] (by kernel_rfl) (K6.out _ (Below.refl _ _).drew) (fun hHeld0 => ?_)
        refine wpAnyX_take (i := 0) [] (v := ?_) rfl (by kernel_rfl) (by kernel_rfl) (by kernel_rfl) (by kernel_rfl) (fun _ _ _ h => h) (Or.inl ⟨by kernel_rfl, ?_⟩) (by assumption) ?_
        rotate_left 1
        · (intro w hSw; obtain ⟨q0, q1, q2, q3, q4, q5⟩ := hSw; go_simp; try (with_reducible rfl))
        (try simp only [Act.put, List.getElem_toArray, List.getElem_cons_succ, List.getElem_cons_zero, List.setIfInBounds_toArray, List.set_cons_zero, List.set_cons_succ])
        refine wpAnyX_take (i := 1) [] (v := ?_) rfl (by kernel_rfl) (by kernel_rfl) (by kernel_rfl) (by kernel_rfl) (fun _ _ _ h => h) (Or.inl ⟨by kernel_rfl, ?_⟩) (by assumption) ?_
        rotate_left 1
        · (intro w hSw; obtain ⟨q0, q1, q2, q3, q4, q5⟩ := hSw; go_simp; try (with_reducible rfl))
        (try simp only [Act.put, List.getElem_toArray, List.getElem_cons_succ, List.getElem_cons_zero, List.setIfInBounds_toArray, List.set_cons_zero, List.set_cons_succ])
        refine wpAnyX_take (i := 2) [] (v := ?_) rfl (by kernel_rfl) (by kernel_rfl) (by kernel_rfl) (by kernel_rfl) (fun _ _ _ h => h) (Or.inl ⟨by kernel_rfl, ?_⟩) (by assumption) ?_
        rotate_left 1
        · (intro w hSw; obtain ⟨q0, q1, q2, q3, q4, q5⟩ := hSw; go_simp; try (with_reducible rfl))
        (try simp only [Act.put, List.getElem_toArray, List.getElem_cons_succ, List.getElem_cons_zero, List.setIfInBounds_toArray, List.set_cons_zero, List.set_cons_succ])
        refine wpAnyX_take (i := 3) [] (v := ?_) rfl (by kernel_rfl) (by kernel_rfl) (by kernel_rfl) (by kernel_rfl) (fun _ _ _ h => h) (Or.inl ⟨by kernel_rfl, ?_⟩) (by assumption) ?_
        rotate_left 1
        · (intro w hSw; obtain ⟨q0, q1, q2, q3, q4, q5⟩ := hSw; go_simp; try (with_reducible rfl))
        (try simp only [Act.put, List.getElem_toArray, List.getElem_cons_succ, List.getElem_cons_zero, List.setIfInBounds_toArray, List.set_cons_zero, List.set_cons_succ])
        refine wpAnyX_take (i := 4) [] (v := ?_) rfl (by kernel_rfl) (by kernel_rfl) (by kernel_rfl) (by kernel_rfl) (fun _ _ _ h => h) (Or.inl ⟨by kernel_rfl, ?_⟩) (by assumption) ?_
        rotate_left 1
        · (intro w hSw; obtain ⟨q0, q1, q2, q3, q4, q5⟩ := hSw; go_simp; try (with_reducible rfl))
        (try simp only [Act.put, List.getElem_toArray, List.getElem_cons_succ, List.getElem_cons_zero, List.setIfInBounds_toArray, List.set_cons_zero, List.set_cons_succ])
        refine wpAnyX_two 5 10 (by kernel_rfl) rfl rfl (fun K hK => ?_) (fun K hK => ?_)
        · go_simp
          go_wp2_with (refine (C.out wo.drew).mono ?_; rintro e w3 ⟨rfl, b3⟩)
          have B3 := (Below.refl wo.heap.size wo).drew.trans b3
          refine hK.out _ _ (.inr (K6.out _ B3)) ?_
          have hHeld1 := K6.out _ B3
          clear hK K
          (try simp only [Act.put, List.getElem_toArray, List.getElem_cons_succ, List.getElem_cons_zero, List.setIfInBounds_toArray, List.set_cons_zero, List.set_cons_succ])
          refine wpAnyX_take (i := 6) [] (v := ?_) rfl (by kernel_rfl) (by kernel_rfl) (by kernel_rfl) (by kernel_rfl) (fun _ _ _ h => h) (Or.inl ⟨by kernel_rfl, ?_⟩) (by assumption) ?_
          rotate_left 1
          · (intro w hSw; obtain ⟨q0, q1, q2, q3, q4, q5⟩ := hSw; go_simp; try (with_reducible rfl))
          (try simp only [Act.put, List.getElem_toArray, List.getElem_cons_succ, List.getElem_cons_zero, List.setIfInBounds_toArray, List.set_cons_zero, List.set_cons_succ])
          refine wpAnyX_take (i := 7) [] (v := ?_) rfl (by kernel_rfl) (by kernel_rfl) (by kernel_rfl) (by kernel_rfl) (fun _ _ _ h => h) (Or.inl ⟨by kernel_rfl, ?_⟩) (by assumption) ?_
          rotate_left 1
          · (intro w hSw; obtain ⟨q0, q1, q2, q3, q4, q5⟩ := hSw; go_simp; try (with_reducible rfl))
          (try simp only [Act.put, List.getElem_toArray, List.getElem_cons_succ, List.getElem_cons_zero, List.setIfInBounds_toArray, List.set_cons_zero, List.set_cons_succ])
          refine wpAnyX_take (i := 8) [] (v := ?_) rfl (by kernel_rfl) (by kernel_rfl) (by kernel_rfl) (by kernel_rfl) (fun _ _ _ h => h) (Or.inl ⟨by kernel_rfl, ?_⟩) (by assumption) ?_
          rotate_left 1
          · (intro w hSw; obtain ⟨q0, q1, q2, q3, q4, q5⟩ := hSw; go_simp; try (with_reducible rfl))
          (try simp only [Act.put, List.getElem_toArray, List.getElem_cons_succ, List.getElem_cons_zero, List.setIfInBounds_toArray, List.set_cons_zero, List.set_cons_succ])
          refine wpAnyX_take (i := 9) [] (v := ?_) rfl (by kernel_rfl) (by kernel_rfl) (by kernel_rfl) (by kernel_rfl) (fun _ _ _ h => h) (Or.inl ⟨by kernel_rfl, ?_⟩) (by assumption) ?_
          rotate_left 1
          · (intro w hSw; obtain ⟨q0, q1, q2, q3, q4, q5⟩ := hSw; go_simp; try (with_reducible rfl))
          (try simp only [Act.put, List.getElem_toArray, List.getElem_cons_succ, List.getElem_cons_zero, List.setIfInBounds_toArray, List.set_cons_zero, List.set_cons_succ])
          refine wpAnyX_one 10 (by kernel_rfl) rfl (fun K hK => ?_)
          go_simp
          have B4 := B3.alloc B3.size (.cells #[.bool false, .int .i64 0, .int .i64 0, .int .i64 0, .int .u64 0] 26)
          refine hK.out _ _ (.inr (K6.out _ B4)) ?_
          have hHeld2 := K6.out _ B4
          clear hK K
          (try simp only [Act.put, List.getElem_toArray, List.getElem_cons_succ, List.getElem_cons_zero, List.setIfInBounds_toArray, List.set_cons_zero, List.set_cons_succ])
          refine wpAnyX_one 11 (by kernel_rfl) rfl (fun K hK => ?_)
          have hq := Whole.new w3 26 #[.bool false, .int .i64 0, .int .i64 0, .int .i64 0, .int .u64 0]
          have hq0 := hq.cell 0
          have hq1 := hq.cell 1
          have hq2 := hq.cell 2
          have hq3 := hq.cell 3
          have hq4 := hq.cell 4
          have hf0 := hq.free 0
          have hf1 := hq.free 1
          have hf2 := hq.free 2
          have hf3 := hq.free 3
          have hf4 := hq.free 4
          go_simp
          have B5 := B3.alloc B3.size (.cells #[.bool true, .int .i64 ubase, .int .i64 uhigh, .int .i64 (m' : Int), .int .u64 (useen : Int)] 26)
          refine hK.out _ _ (.inr (K6.out _ B5)) ?_
          have hHeld3 := K6.out _ B5
          clear hK K
          (try simp only [Act.put, List.getElem_toArray, List.getElem_cons_succ, List.getElem_cons_zero, List.setIfInBounds_toArray, List.set_cons_zero, List.set_cons_succ])
          refine wpAnyX_take (i := 12) [] (v := ?_) rfl (by kernel_rfl) (by kernel_rfl) (by kernel_rfl) (by kernel_rfl) (fun _ _ _ h => h) (Or.inl ⟨by kernel_rfl, ?_⟩) (by assumption) ?_
          rotate_left 1
          · (intro w hSw; obtain ⟨q0, q1, q2, q3, q4, q5⟩ := hSw; go_simp; try (with_reducible rfl))
          (try simp only [Act.put, List.getElem_toArray, List.getElem_cons_succ, List.getElem_cons_zero, List.setIfInBounds_toArray, List.set_cons_zero, List.set_cons_succ])
          refine wpAnyX_take (i := 13) [] (v := ?_) rfl (by kernel_rfl) (by kernel_rfl) (by kernel_rfl) (by kernel_rfl) (fun _ _ _ h => h) (Or.inl ⟨by kernel_rfl, ?_⟩) (by assumption) ?_
          rotate_left 1
          · (intro w hSw; obtain ⟨q0, q1, q2, q3, q4, q5⟩ := hSw; go_simp; try (with_reducible rfl))
          (try simp only [Act.put, List.getElem_toArray, List.getElem_cons_succ, List.getElem_cons_zero, List.setIfInBounds_toArray, List.set_cons_zero, List.set_cons_succ])
          refine wpAnyX_done (by kernel_rfl) ?_ _
          go_wp2_with fail
          go_meet
          exact ⟨_, rfl, by have := b3.size; simpa using this, rfl, rfl, Whole.new _ _ _, B5⟩
        · go_simp
          have B3 := (Below.refl wo.heap.size wo).drew.alloc (Nat.le_refl _) (.cells #[.bool false, .int .i64 0, .int .i64 0, .int .i64 0, .int .u64 0] 26)
          refine hK.out _ _ (.inr (K6.out _ B3)) ?_
          have hHeld1 := K6.out _ B3
          clear hK K
          (try simp only [Act.put, List.getElem_toArray, List.getElem_cons_succ, List.getElem_cons_zero, List.setIfInBounds_toArray, List.set_cons_zero, List.set_cons_succ])
          refine wpAnyX_one 5 (by kernel_rfl) rfl (fun K hK => ?_)
          go_simp
          go_wp2_with (refine (C.out _).mono ?_; rintro e w3 ⟨rfl, b3⟩)
          have B4 := B3.trans (b3.mono (by simp))
          have hq : Whole w3 wo.heap.size 26 #[.bool false, .int .i64 0, .int .i64 0, .int .i64 0, .int .u64 0] := (Whole.new wo.drew 26 #[.bool false, .int .i64 0, .int .i64 0, .int .i64 0, .int .u64 0]).below b3 (by simp)
          have hq0 := hq.cell 0
          have hq1 := hq.cell 1
          have hq2 := hq.cell 2
          have hq3 := hq.cell 3
          have hq4 := hq.cell 4
          have hf0 := hq.free 0
          have hf1 := hq.free 1
          have hf2 := hq.free 2
          have hf3 := hq.free 3
          have hf4 := hq.free 4
          refine hK.out _ _ (.inr (K6.out _ B4)) ?_
          have hHeld2 := K6.out _ B4
          clear hK K
          (try simp only [Act.put, List.getElem_toArray, List.getElem_cons_succ, List.getElem_cons_zero, List.setIfInBounds_toArray, List.set_cons_zero, List.set_cons_succ])
          refine wpAnyX_take (i := 6) [] (v := ?_) rfl (by kernel_rfl) (by kernel_rfl) (by kernel_rfl) (by kernel_rfl) (fun _ _ _ h => h) (Or.inl ⟨by kernel_rfl, ?_⟩) (by assumption) ?_
          rotate_left 1
          · (intro w hSw; obtain ⟨q0, q1, q2, q3, q4, q5⟩ := hSw; go_simp; try (with_reducible rfl))
          (try simp only [Act.put, List.getElem_toArray, List.getElem_cons_succ, List.getElem_cons_zero, List.setIfInBounds_toArray, List.set_cons_zero, List.set_cons_succ])
          refine wpAnyX_take (i := 7) [] (v := ?_) rfl (by kernel_rfl) (by kernel_rfl) (by kernel_rfl) (by kernel_rfl) (fun _ _ _ h => h) (Or.inl ⟨by kernel_rfl, ?_⟩) (by assumption) ?_
          rotate_left 1
          · (intro w hSw; obtain ⟨q0, q1, q2, q3, q4, q5⟩ := hSw; go_simp; try (with_reducible rfl))
          (try simp only [Act.put, List.getElem_toArray, List.getElem_cons_succ, List.getElem_cons_zero, List.setIfInBounds_toArray, List.set_cons_zero, List.set_cons_succ])
          refine wpAnyX_take (i := 8) [] (v := ?_) rfl (by kernel_rfl) (by kernel_rfl) (by kernel_rfl) (by kernel_rfl) (fun _ _ _ h => h) (Or.inl ⟨by kernel_rfl, ?_⟩) (by assumption) ?_
          rotate_left 1
          · (intro w hSw; obtain ⟨q0, q1, q2, q3, q4, q5⟩ := hSw; go_simp; try (with_reducible rfl))
          (try simp only [Act.put, List.getElem_toArray, List.getElem_cons_succ, List.getElem_cons_zero, List.setIfInBounds_toArray, List.set_cons_zero, List.set_cons_succ])
          refine wpAnyX_take (i := 9) [] (v := ?_) rfl (by kernel_rfl) (by kernel_rfl) (by kernel_rfl) (by kernel_rfl) (fun _ _ _ h => h) (Or.inl ⟨by kernel_rfl, ?_⟩) (by assumption) ?_
          rotate_left 1
          · (intro w hSw; obtain ⟨q0, q1, q2, q3, q4, q5⟩ := hSw; go_simp; try (with_reducible rfl))
          (try simp only [Act.put, List.getElem_toArray, List.getElem_cons_succ, List.getElem_cons_zero, List.setIfInBounds_toArray, List.set_cons_zero, List.set_cons_succ])
          refine wpAnyX_one 11 (by kernel_rfl) rfl (fun K hK => ?_)
          go_simp
          have B5 := five B4 (Nat.le_refl _) (.bool true) (.int .i64 ubase) (.int .i64 uhigh) (.int .i64 (m' : Int)) (.int .u64 (useen : Int))
          refine hK.out _ _ (.inr (K6.out _ B5)) ?_
          have hHeld3 := K6.out _ B5
          clear hK K
          (try simp only [Act.put, List.getElem_toArray, List.getElem_cons_succ, List.getElem_cons_zero, List.setIfInBounds_toArray, List.set_cons_zero, List.set_cons_succ])
          refine wpAnyX_take (i := 12) [] (v := ?_) rfl (by kernel_rfl) (by kernel_rfl) (by kernel_rfl) (by kernel_rfl) (fun _ _ _ h => h) (Or.inl ⟨by kernel_rfl, ?_⟩) (by assumption) ?_
          rotate_left 1
          · (intro w hSw; obtain ⟨q0, q1, q2, q3, q4, q5⟩ := hSw; go_simp; try (with_reducible rfl))
          (try simp only [Act.put, List.getElem_toArray, List.getElem_cons_succ, List.getElem_cons_zero, List.setIfInBounds_toArray, List.set_cons_zero, List.set_cons_succ])
          refine wpAnyX_take (i := 13) [] (v := ?_) rfl (by kernel_rfl) (by kernel_rfl) (by kernel_rfl) (by kernel_rfl) (fun _ _ _ h => h) (Or.inl ⟨by kernel_rfl, ?_⟩) (by assumption) ?_
          rotate_left 1
          · (intro w hSw; obtain ⟨q0, q1, q2, q3, q4, q5⟩ := hSw; go_simp; try (with_reducible rfl))
          (try simp only [Act.put, List.getElem_toArray, List.getElem_cons_succ, List.getElem_cons_zero, List.setIfInBounds_toArray, List.set_cons_zero, List.set_cons_succ])
          refine wpAnyX_done (by kernel_rfl) ?_ _
          go_wp2_with fail
          go_meet
          exact ⟨_, rfl, Nat.le_refl _, rfl, rfl, hq.five _ _ _ _ _, B5⟩
      case rest =>
        clear K6
        obtain ⟨gu, rfl, hgu, rfl, rfl, hwu, bq⟩ := hcut
        have W2 := HW.out.below bq HW.out.lt
        have V2 := HV.out.below bq HV.out.lt
        have HB2 := Lib.hid (HB1.out _ bq)
        have hsz2 := HB2.out.size
        have hgul := hwu.lt
        have hgtl := HW.out.lt
        have hgwl := HV.out.lt
        have hne : gu ≠ gt := by omega
        have hne1 : gu ≠ gw := by omega
        have hgtl2 := W2.lt
        have hgwl2 := V2.lt
        have HW2 := Lib.hid W2
        have HV2 := Lib.hid V2
        have HU2 := Lib.hid hwu
        have HLT2 := Lib.hid (fun a ha => show gw < a.block ∧ a.block < wc.heap.size from ⟨(HLT.out a ha).1, Nat.lt_of_lt_of_le (HLT.out a ha).2 bq.size⟩)
        have HD2 := Lib.hid (fun w' (b' : Below wc.heap.size wc w') => HDOC.out w' (bq.trans (b'.mono bq.size)))
        clear W2 V2 hwu HW HV bq hR1 HB1 HB hgw C HLT HDOC hgtl hgwl
        have hR2 := Lib.hid (fun w' (b' : Below wc.heap.size wc w') => ROW.out w' (HB2.out.trans (b'.mono hsz2)))
        obtain ⟨wp, rfl⟩ : ∃ wp : World, wp = wo := ⟨_, rfl⟩
        obtain ⟨wo, rfl⟩ : ∃ wo : World, wo = wc := ⟨_, rfl⟩
        have HLT := HLT2
        clear HLT2
        have K6 := Lib.hid (fun w' (b' : Below wo.heap.size wo w') => show (fun w' => w'.cell? ⟨gw, 0, none⟩ = some (.slice A' m c') ∧ w'.cell? ⟨g, o + k, none⟩ = some (.int .u16 (x : Int))) w' from ⟨(HV2.out.below b' HV2.out.lt).cell 0, hR2.out _ b'⟩)
        have hgw := HV2.out.lt
        go_upto_region 12 with fail
        go_cut [10, 11, 12] (fun s6 s7 s8 wx => ∃ (gq : Nat) (A2 : Option Addr) (c2 : Nat), s6 = .pointer (some ⟨gq, 0, none⟩) ∧ wo.heap.size ≤ gq ∧ s7 = .int .i64 y ∧ s8 = .int .i64 kd ∧ Whole wx gq 29 #[.slice A2 m' c2] ∧ Row wx wx.heap.size 1 A2 m' (i64r L') ∧ (∀ a, A2 = some a → gw < a.block ∧ a.block < wx.heap.size) ∧ Below wo.heap.size wo wx)
        case first =>
          refine wp_region_X (S := fun w' => w'.cell? ⟨gw, 0, none⟩ = some (.slice A' m c') ∧ w'.cell? ⟨g, o + k, none⟩ = some (.int .u16 (x : Int))) [] (by kernel_rfl) (K6.out _ (Below.refl _ _).drew) (fun hHeld0 => ?_)
          refine wpAnyX_take (i := 0) [] (v := ?_) rfl (by kernel_rfl) (by kernel_rfl) (by kernel_rfl) (by kernel_rfl) (fun _ _ _ h => h) (Or.inl ⟨by kernel_rfl, ?_⟩) (by assumption) ?_
          rotate_left 1
          · (intro w hSw; obtain ⟨q0, q1⟩ := hSw; go_simp; try (with_reducible rfl))
          (try simp only [Act.put, List.getElem_toArray, List.getElem_cons_succ, List.getElem_cons_zero, List.setIfInBounds_toArray, List.set_cons_zero, List.set_cons_succ])
          refine wpAnyX_take (i := 1) [] (v := ?_) rfl (by kernel_rfl) (by kernel_rfl) (by kernel_rfl) (by kernel_rfl) (fun _ _ _ h => h) (Or.inl ⟨by kernel_rfl, ?_⟩) (by assumption) ?_
          rotate_left 1
          · (intro w hSw; obtain ⟨q0, q1⟩ := hSw; go_simp; try (with_reducible rfl))
          (try simp only [Act.put, List.getElem_toArray, List.getElem_cons_succ, List.getElem_cons_zero, List.setIfInBounds_toArray, List.set_cons_zero, List.set_cons_succ])
          refine wpAnyX_take (i := 2) [] (v := ?_) rfl (by kernel_rfl) (by kernel_rfl) (by kernel_rfl) (by kernel_rfl) (fun _ _ _ h => h) (Or.inl ⟨by kernel_rfl, ?_⟩) (by assumption) ?_
          rotate_left 1
          · (intro w hSw; obtain ⟨q0, q1⟩ := hSw; go_simp; try (with_reducible rfl))
          (try simp only [Act.put, List.getElem_toArray, List.getElem_cons_succ, List.getElem_cons_zero, List.setIfInBounds_toArray, List.set_cons_zero, List.set_cons_succ])
          refine wpAnyX_take (i := 3) [] (v := ?_) rfl (by kernel_rfl) (by kernel_rfl) (by kernel_rfl) (by kernel_rfl) (fun _ _ _ h => h) (Or.inl ⟨by kernel_rfl, ?_⟩) (by assumption) ?_
          rotate_left 1
          · (intro w hSw; obtain ⟨q0, q1⟩ := hSw; go_simp; try (with_reducible rfl))
          (try simp only [Act.put, List.getElem_toArray, List.getElem_cons_succ, List.getElem_cons_zero, List.setIfInBounds_toArray, List.set_cons_zero, List.set_cons_succ])
          refine wpAnyX_take (i := 4) [] (v := ?_) rfl (by kernel_rfl) (by kernel_rfl) (by kernel_rfl) (by kernel_rfl) (fun _ _ _ h => h) (Or.inl ⟨by kernel_rfl, ?_⟩) (by assumption) ?_
          rotate_left 1
          · (intro w hSw; obtain ⟨q0, q1⟩ := hSw; go_simp; try (with_reducible rfl))
          (try simp only [Act.put, List.getElem_toArray, List.getElem_cons_succ, List.getElem_cons_zero, List.setIfInBounds_toArray, List.set_cons_zero, List.set_cons_succ])
          refine wpAnyX_two 5 10 (by kernel_rfl) rfl rfl (fun K hK => ?_) (fun K hK => ?_)
          · go_simp
            go_wp2_with (refine (HD2.out wo.drew (Below.refl _ _).drew).mono ?_; rintro e w3 ⟨A2, c2, rfl, hrow, hblk, b3⟩)
            have B3 := (Below.refl wo.heap.size wo).drew.trans b3
            have hlt3 : ∀ a, A2 = some a → gw < a.block ∧ a.block < w3.heap.size := fun a ha => by
              rcases hblk a ha with h | ⟨h, h'⟩
              · have := HLT.out a h; have := B3.size; omega
              · refine ⟨?_, h'⟩; have h2 : wo.heap.size ≤ a.block := h; omega
            refine hK.out _ _ (.inr (K6.out _ B3)) ?_
            have hHeld1 := K6.out _ B3
            clear hK K
            (try simp only [Act.put, List.getElem_toArray, List.getElem_cons_succ, List.getElem_cons_zero, List.setIfInBounds_toArray, List.set_cons_zero, List.set_cons_succ])
            refine wpAnyX_take (i := 6) [] (v := ?_) rfl (by kernel_rfl) (by kernel_rfl) (by kernel_rfl) (by kernel_rfl) (fun _ _ _ h => h) (Or.inl ⟨by kernel_rfl, ?_⟩) (by assumption) ?_
            rotate_left 1
            · (intro w hSw; obtain ⟨q0, q1⟩ := hSw; go_simp; try (with_reducible rfl))
            (try simp only [Act.put, List.getElem_toArray, List.getElem_cons_succ, List.getElem_cons_zero, List.setIfInBounds_toArray, List.set_cons_zero, List.set_cons_succ])
            refine wpAnyX_take (i := 7) [] (v := ?_) rfl (by kernel_rfl) (by kernel_rfl) (by kernel_rfl) (by kernel_rfl) (fun _ _ _ h => h) (Or.inl ⟨by kernel_rfl, ?_⟩) (by assumption) ?_
            rotate_left 1
            · (intro w hSw; obtain ⟨q0, q1⟩ := hSw; go_simp; try (with_reducible rfl))
            (try simp only [Act.put, List.getElem_toArray, List.getElem_cons_succ, List.getElem_cons_zero, List.setIfInBounds_toArray, List.set_cons_zero, List.set_cons_succ])
            refine wpAnyX_take (i := 8) [] (v := ?_) rfl (by kernel_rfl) (by kernel_rfl) (by kernel_rfl) (by kernel_rfl) (fun _ _ _ h => h) (Or.inl ⟨by kernel_rfl, ?_⟩) (by assumption) ?_
            rotate_left 1
            · (intro w hSw; obtain ⟨q0, q1⟩ := hSw; go_simp; try (with_reducible rfl))
            (try simp only [Act.put, List.getElem_toArray, List.getElem_cons_succ, List.getElem_cons_zero, List.setIfInBounds_toArray, List.set_cons_zero, List.set_cons_succ])
            refine wpAnyX_take (i := 9) [] (v := ?_) rfl (by kernel_rfl) (by kernel_rfl) (by kernel_rfl) (by kernel_rfl) (fun _ _ _ h => h) (Or.inl ⟨by kernel_rfl, ?_⟩) (by assumption) ?_
            rotate_left 1
            · (intro w hSw; obtain ⟨q0, q1⟩ := hSw; go_simp; try (with_reducible rfl))
            (try simp only [Act.put, List.getElem_toArray, List.getElem_cons_succ, List.getElem_cons_zero, List.setIfInBounds_toArray, List.set_cons_zero, List.set_cons_succ])
            refine wpAnyX_one 10 (by kernel_rfl) rfl (fun K hK => ?_)
            go_simp
            have B4 := B3.alloc B3.size (.cells #[.slice none 0 0] 29)
            refine hK.out _ _ (.inr (K6.out _ B4)) ?_
            have hHeld2 := K6.out _ B4
            clear hK K
            (try simp only [Act.put, List.getElem_toArray, List.getElem_cons_succ, List.getElem_cons_zero, List.setIfInBounds_toArray, List.set_cons_zero, List.set_cons_succ])
            refine wpAnyX_one 11 (by kernel_rfl) rfl (fun K hK => ?_)
            have hq := Whole.new w3 29 #[.slice none 0 0]
            have hq0 := hq.cell 0
            have hf0 := hq.free 0
            go_simp
            have B5 := B3.alloc B3.size (.cells #[.slice A2 m' c2] 29)
            refine hK.out _ _ (.inr (K6.out _ B5)) ?_
            have hHeld3 := K6.out _ B5
            clear hK K
            (try simp only [Act.put, List.getElem_toArray, List.getElem_cons_succ, List.getElem_cons_zero, List.setIfInBounds_toArray, List.set_cons_zero, List.set_cons_succ])
            refine wpAnyX_take (i := 12) [] (v := ?_) rfl (by kernel_rfl) (by kernel_rfl) (by kernel_rfl) (by kernel_rfl) (fun _ _ _ h => h) (Or.inl ⟨by kernel_rfl, ?_⟩) (by assumption) ?_
            rotate_left 1
            · (intro w hSw; obtain ⟨q0, q1⟩ := hSw; go_simp; try (with_reducible rfl))
            (try simp only [Act.put, List.getElem_toArray, List.getElem_cons_succ, List.getElem_cons_zero, List.setIfInBounds_toArray, List.set_cons_zero, List.set_cons_succ])
            refine wpAnyX_take (i := 13) [] (v := ?_) rfl (by kernel_rfl) (by kernel_rfl) (by kernel_rfl) (by kernel_rfl) (fun _ _ _ h => h) (Or.inl ⟨by kernel_rfl, ?_⟩) (by assumption) ?_
            rotate_left 1
            · (intro w hSw; obtain ⟨q0, q1⟩ := hSw; go_simp; try (with_reducible rfl))
            (try simp only [Act.put, List.getElem_toArray, List.getElem_cons_succ, List.getElem_cons_zero, List.setIfInBounds_toArray, List.set_cons_zero, List.set_cons_succ])
            refine wpAnyX_done (by kernel_rfl) ?_ _
            go_wp2_with fail
            go_meet
            exact ⟨_, A2, c2, rfl, by have := b3.size; simpa using this, rfl, rfl, Whole.new _ _ _, (hrow.alloc (Nat.le_refl _) _).more (by simp), fun a ha => ⟨(hlt3 a ha).1, by have := (hlt3 a ha).2; simp; omega⟩, B5⟩
          · go_simp
            have B3 := (Below.refl wo.heap.size wo).drew.alloc (Nat.le_refl _) (.cells #[.slice none 0 0] 29)
            refine hK.out _ _ (.inr (K6.out _ B3)) ?_
            have hHeld1 := K6.out _ B3
            clear hK K
            (try simp only [Act.put, List.getElem_toArray, List.getElem_cons_succ, List.getElem_cons_zero, List.setIfInBounds_toArray, List.set_cons_zero, List.set_cons_succ])
            refine wpAnyX_one 5 (by kernel_rfl) rfl (fun K hK => ?_)
            go_simp
            go_wp2_with (refine (HD2.out _ B3).mono ?_; rintro e w3 ⟨A2, c2, rfl, hrow, hblk, b3⟩)
            have B4 := B3.trans (b3.mono (by simp))
            have hlt3 : ∀ a, A2 = some a → gw < a.block ∧ a.block < w3.heap.size ∧ a.block ≠ wo.heap.size := fun a ha => by
              rcases hblk a ha with h | ⟨h, h'⟩
              · have := HLT.out a h; have := B4.size; omega
              · refine ⟨?_, h', ?_⟩ <;> (simp at h; have h2 : wo.heap.size + 1 ≤ a.block := h; omega)
            have hq : Whole w3 wo.heap.size 29 #[.slice none 0 0] := (Whole.new wo.drew 29 #[.slice none 0 0]).below b3 (by simp)
            have hq0 := hq.cell 0
            have hf0 := hq.free 0
            refine hK.out _ _ (.inr (K6.out _ B4)) ?_
            have hHeld2 := K6.out _ B4
            clear hK K
            (try simp only [Act.put, List.getElem_toArray, List.getElem_cons_succ, List.getElem_cons_zero, List.setIfInBounds_toArray, List.set_cons_zero, List.set_cons_succ])
            refine wpAnyX_take (i := 6) [] (v := ?_) rfl (by kernel_rfl) (by kernel_rfl) (by kernel_rfl) (by kernel_rfl) (fun _ _ _ h => h) (Or.inl ⟨by kernel_rfl, ?_⟩) (by assumption) ?_
            rotate_left 1
            · (intro w hSw; obtain ⟨q0, q1⟩ := hSw; go_simp; try (with_reducible rfl))
            (try simp only [Act.put, List.getElem_toArray, List.getElem_cons_succ, List.getElem_cons_zero, List.setIfInBounds_toArray, List.set_cons_zero, List.set_cons_succ])
            refine wpAnyX_take (i := 7) [] (v := ?_) rfl (by kernel_rfl) (by kernel_rfl) (by kernel_rfl) (by kernel_rfl) (fun _ _ _ h => h) (Or.inl ⟨by kernel_rfl, ?_⟩) (by assumption) ?_
            rotate_left 1
            · (intro w hSw; obtain ⟨q0, q1⟩ := hSw; go_simp; try (with_reducible rfl))
            (try simp only [Act.put, List.getElem_toArray, List.getElem_cons_succ, List.getElem_cons_zero, List.setIfInBounds_toArray, List.set_cons_zero, List.set_cons_succ])
            refine wpAnyX_take (i := 8) [] (v := ?_) rfl (by kernel_rfl) (by kernel_rfl) (by kernel_rfl) (by kernel_rfl) (fun _ _ _ h => h) (Or.inl ⟨by kernel_rfl, ?_⟩) (by assumption) ?_
            rotate_left 1
            · (intro w hSw; obtain ⟨q0, q1⟩ := hSw; go_simp; try (with_reducible rfl))
            (try simp only [Act.put, List.getElem_toArray, List.getElem_cons_succ, List.getElem_cons_zero, List.setIfInBounds_toArray, List.set_cons_zero, List.set_cons_succ])
            refine wpAnyX_take (i := 9) [] (v := ?_) rfl (by kernel_rfl) (by kernel_rfl) (by kernel_rfl) (by kernel_rfl) (fun _ _ _ h => h) (Or.inl ⟨by kernel_rfl, ?_⟩) (by assumption) ?_
            rotate_left 1
            · (intro w hSw; obtain ⟨q0, q1⟩ := hSw; go_simp; try (with_reducible rfl))
            (try simp only [Act.put, List.getElem_toArray, List.getElem_cons_succ, List.getElem_cons_zero, List.setIfInBounds_toArray, List.set_cons_zero, List.set_cons_succ])
            refine wpAnyX_one 11 (by kernel_rfl) rfl (fun K hK => ?_)
            go_simp
            have B5 := B4.setCell (p := ⟨wo.heap.size, 0, none⟩) (Nat.le_refl _) (.slice A2 m' c2)
            refine hK.out _ _ (.inr (K6.out _ B5)) ?_
            have hHeld3 := K6.out _ B5
            clear hK K
            (try simp only [Act.put, List.getElem_toArray, List.getElem_cons_succ, List.getElem_cons_zero, List.setIfInBounds_toArray, List.set_cons_zero, List.set_cons_succ])
            refine wpAnyX_take (i := 12) [] (v := ?_) rfl (by kernel_rfl) (by kernel_rfl) (by kernel_rfl) (by kernel_rfl) (fun _ _ _ h => h) (Or.inl ⟨by kernel_rfl, ?_⟩) (by assumption) ?_
            rotate_left 1
            · (intro w hSw; obtain ⟨q0, q1⟩ := hSw; go_simp; try (with_reducible rfl))
            (try simp only [Act.put, List.getElem_toArray, List.getElem_cons_succ, List.getElem_cons_zero, List.setIfInBounds_toArray, List.set_cons_zero, List.set_cons_succ])
            refine wpAnyX_take (i := 13) [] (v := ?_) rfl (by kernel_rfl) (by kernel_rfl) (by kernel_rfl) (by kernel_rfl) (fun _ _ _ h => h) (Or.inl ⟨by kernel_rfl, ?_⟩) (by assumption) ?_
            rotate_left 1
            · (intro w hSw; obtain ⟨q0, q1⟩ := hSw; go_simp; try (with_reducible rfl))
            (try simp only [Act.put, List.getElem_toArray, List.getElem_cons_succ, List.getElem_cons_zero, List.setIfInBounds_toArray, List.set_cons_zero, List.set_cons_succ])
            refine wpAnyX_done (by kernel_rfl) ?_ _
            go_wp2_with fail
            go_meet
            exact ⟨_, A2, c2, rfl, Nat.le_refl _, rfl, rfl, hq.set 0 _, by simpa using row_far hrow (p := ⟨wo.heap.size, 0, none⟩) (fun a ha => (hlt3 a ha).2.2) (.slice A2 m' c2), fun a ha => ⟨(hlt3 a ha).1, by simpa using (hlt3 a ha).2.1⟩, B5⟩
        case rest =>
          clear K6
          obtain ⟨gv, A2, c2, rfl, hgv, rfl, rfl, hwv, hrow, hblk, bq⟩ := hcut
          have W3 := HW2.out.below bq HW2.out.lt
          have V3 := HV2.out.below bq HV2.out.lt
          have U3 := HU2.out.below bq HU2.out.lt
          have HB3 := Lib.hid (HB2.out.trans (bq.mono hsz2))
          have hsz3 := HB3.out.size
          have hgul3 := U3.lt
          have hgtl3 := W3.lt
          have hgwl3 := V3.lt
          have hgvl3 := hwv.lt
          have hnv0 : gv ≠ gt := by omega
          have hnv1 : gv ≠ gw := by omega
          have hnv2 : gv ≠ gu := by omega
          have HROW := Lib.hid hrow
          have HBLK := Lib.hid hblk
          have k0 := W3.cell 0
          have k1 := W3.cell 1
          have k2 := W3.cell 2
          have k3 := W3.cell 3
          have k4 := W3.cell 4
          have f0 := W3.free 0
          have f1 := W3.free 1
          have f2 := W3.free 2
          have f3 := W3.free 3
          have f4 := W3.free 4
          have u0 := U3.cell 0
          have u1 := U3.cell 1
          have u2 := U3.cell 2
          have u3 := U3.cell 3
          have u4 := U3.cell 4
          have v0 := V3.cell 0
          have y0 := V3.free 0
          have z0 := hwv.cell 0
          have HW3 := Lib.hid W3
          have HV3 := Lib.hid V3
          have HVV := Lib.hid hwv
          clear hrow hblk W3 U3 V3 hwv bq hR2 HD2 HLT HW2 HV2 HU2 HB2 ROW hgw
          have W5 := (HW3.out.five (.bool true) (.int .i64 ubase) (.int .i64 uhigh) (.int .i64 (m' : Int)) (.int .u64 (useen : Int))).far (p := ⟨gw, 0, none⟩) (show gt ≠ gw by omega) (.slice A2 m' c2)
          have V5 : Whole _ gw 29 #[.slice A2 m' c2] := (HV3.out.five_far (show gw ≠ gt by omega) (.bool true) (.int .i64 ubase) (.int .i64 uhigh) (.int .i64 (m' : Int)) (.int .u64 (useen : Int))).set 0 (.slice A2 m' c2)
          have R5 := row_far (p := ⟨gw, 0, none⟩) (row_five (r := gt) HROW.out (fun a ha => by have := (HBLK.out a ha).1; omega) (.bool true) (.int .i64 ubase) (.int .i64 uhigh) (.int .i64 (m' : Int)) (.int .u64 (useen : Int))) (fun a ha => by have := (HBLK.out a ha).1; show a.block ≠ gw; omega) (.slice A2 m' c2)
          have B5 := (five HB3.out hg (.bool true) (.int .i64 ubase) (.int .i64 uhigh) (.int .i64 (m' : Int)) (.int .u64 (useen : Int))).setCell (p := ⟨gw, 0, none⟩) (show w.heap.size ≤ gw by omega) (.slice A2 m' c2)
          have hs5 : ((((((wc.setCell ⟨gt, 0, none⟩ (.bool true)).setCell ⟨gt, 1, none⟩ (.int .i64 ubase)).setCell ⟨gt, 2, none⟩ (.int .i64 uhigh)).setCell ⟨gt, 3, none⟩ (.int .i64 (m' : Int))).setCell ⟨gt, 4, none⟩ (.int .u64 (useen : Int))).setCell ⟨gw, 0, none⟩ (.slice A2 m' c2)).heap.size = wc.heap.size := by simp
          go_upto_region 15 with fail
          obtain ⟨w5, hw5⟩ : ∃ w5, w5 = ((((((wc.setCell ⟨gt, 0, none⟩ (.bool true)).setCell ⟨gt, 1, none⟩ (.int .i64 ubase)).setCell ⟨gt, 2, none⟩ (.int .i64 uhigh)).setCell ⟨gt, 3, none⟩ (.int .i64 (m' : Int))).setCell ⟨gt, 4, none⟩ (.int .u64 (useen : Int))).setCell ⟨gw, 0, none⟩ (.slice A2 m' c2)) := ⟨_, rfl⟩
          rw [← hw5] at W5 V5 R5 B5 hs5 ⊢
          rw [← hs5] at R5
          have HBL5 := Lib.hid (fun (a : Addr) (ha : A2 = some a) => show gw < a.block ∧ a.block < w5.heap.size from by rw [hs5]; exact HBLK.out a ha)
          have HW5 := Lib.hid W5
          have HV5 := Lib.hid V5
          have HR5 := Lib.hid R5
          have HB5 := Lib.hid B5
          clear hw5 hs5 W5 V5 R5 B5 k0 k1 k2 k3 k4 f0 f1 f2 f3 f4 u0 u1 u2 u3 u4 v0 y0 z0 HW3 HV3 HVV HROW HBLK HB3 hnv0 hnv1 hnv2 hgul3 hgtl3 hgwl3 hgv hgvl3 hne hne1 hgtl2 hgwl2 hgul hsz3 hsz2
          have hgl5 := HW5.out.lt
          have hgw5 := HV5.out.lt
          have hm96 : m' ≤ 4096 := by omega
          have CRL := Lib.hid (fun w' (b' : Below w5.heap.size w5 w') => show Calls Try.prog 13 #[.agg #[.slice A2 m' c2]] w' fun e w'' => e = .returned (.int .i64 Lo) ∧ Below w'.heap.size w' w'' from by have := refLost_any _ L' m' A2 c2 HFU.out HT2.out.2.1 HT2.out.2.2 hm96 w5.heap.size w' (HR5.out.below b' (Nat.le_refl _)) b'.size; rw [HLo.out] at this; exact this)
          have CRH := Lib.hid (fun w' (b' : Below w5.heap.size w5 w') => refHigh_any L' m' A2 c2 uhigh HT2.out.2.1.high_mem HT2.out.2.1.high_ge HT2.out.2.2 hm96 w5.heap.size w' (HR5.out.below b' (Nat.le_refl _)) b'.size)
          have CRB := Lib.hid (fun w' (b' : Below w5.heap.size w5 w') => refBase_any L' m' A2 c2 ubase HT2.out.2.1.base_mem HT2.out.2.1.base_le HT2.out.2.2 hm96 w5.heap.size w' (HR5.out.below b' (Nat.le_refl _)) b'.size)
          have CRM := Lib.hid (fun w' (b' : Below w5.heap.size w5 w') => show Calls Try.prog 17 #[.agg #[.slice A2 m' c2]] w' (NewI64 ms w') from by have := refMissing_any _ L' m' A2 c2 HFU.out HT2.out.2.1 HT2.out.2.2 hm96 w5.heap.size w' (HR5.out.below b' (Nat.le_refl _)) b'.size; rw [HMM.out] at this; exact this)
          have KS := Lib.hid (fun w' (b' : Below w5.heap.size w5 w') => show (fun w' => w'.cell? ⟨gt, 0, none⟩ = some (.bool true) ∧ w'.cell? ⟨gt, 1, none⟩ = some (.int .i64 ubase) ∧ w'.cell? ⟨gt, 2, none⟩ = some (.int .i64 uhigh) ∧ w'.cell? ⟨gt, 3, none⟩ = some (.int .i64 (m' : Int)) ∧ w'.cell? ⟨gt, 4, none⟩ = some (.int .u64 (useen : Int)) ∧ w'.cell? ⟨gw, 0, none⟩ = some (.slice A2 m' c2)) w' from ⟨(HW5.out.below b' HW5.out.lt).cell 0, (HW5.out.below b' HW5.out.lt).cell 1, (HW5.out.below b' HW5.out.lt).cell 2, (HW5.out.below b' HW5.out.lt).cell 3, (HW5.out.below b' HW5.out.lt).cell 4, (HV5.out.below b' HV5.out.lt).cell 0⟩)
          obtain ⟨q0, q1, q2, q3, q4, q5⟩ := KS.out w5 (Below.refl _ _)
          go_region_held3 (fun w' => w'.cell? ⟨gt, 0, none⟩ = some (.bool true) ∧ w'.cell? ⟨gt, 1, none⟩ = some (.int .i64 ubase) ∧ w'.cell? ⟨gt, 2, none⟩ = some (.int .i64 uhigh) ∧ w'.cell? ⟨gt, 3, none⟩ = some (.int .i64 (m' : Int)) ∧ w'.cell? ⟨gt, 4, none⟩ = some (.int .u64 (useen : Int)) ∧ w'.cell? ⟨gw, 0, none⟩ = some (.slice A2 m' c2))
            (first | exact KS.out _ B9 | exact KS.out _ B8 | exact KS.out _ B7 | exact KS.out _ B6 | exact KS.out _ (Below.refl _ _).drew)
            (first | (go_at_call 12; refine (CL.out _).mono ?_; rintro e w6 ⟨rfl, b6⟩; have B6 := (Below.refl w5.heap.size w5).drew.trans b6) | (go_at_call 13; refine (CRL.out _ B6).mono ?_; rintro e w7 ⟨rfl, b7⟩; have B7 := B6.trans (b7.mono B6.size)) | (go_at_call 14; refine (CRH.out _ B7).mono ?_; rintro e w8 ⟨rfl, b8⟩; have B8 := B7.trans (b8.mono B7.size)) | (go_at_call 15; refine (CRB.out _ B8).mono ?_; rintro e w9 ⟨rfl, b9⟩; have B9 := B8.trans (b9.mono B8.size)))
          have HW9 := Lib.hid (HW5.out.below B9 HW5.out.lt)
          have HV9 := Lib.hid (HV5.out.below B9 HV5.out.lt)
          have HB9 := Lib.hid B9
          clear q0 q1 q2 q3 q4 q5 b6 b7 b8 b9 B6 B7 B8 B9 KS CL CRL CRH CRB hgl5 hgw5
          have k0 := HW9.out.cell 0
          have k1 := HW9.out.cell 1
          have k2 := HW9.out.cell 2
          have k3 := HW9.out.cell 3
          have k4 := HW9.out.cell 4
          go_wp2_with fail
          refine (CM.out _).mono ?_
          rintro e wa ⟨A7, c7, rfl, hown, ba⟩
          obtain ⟨N, hN⟩ : ∃ N, ms.length = N := ⟨_, rfl⟩
          rw [hN] at hown ⊢
          have HR7 := Lib.hid (Row.of_own hown)
          have HN7 := Lib.hid hN
          have HNL := HML.out
          rw [hN] at HNL
          have HWa := Lib.hid (HW9.out.below ba HW9.out.lt)
          have HVa := Lib.hid (HV9.out.below ba HV9.out.lt)
          have HBa := Lib.hid (HB9.out.trans (ba.mono HB9.out.size))
          clear k0 k1 k2 k3 k4 hown hN ba HW9 HV9 HB9 CM
          have v0 := HVa.out.cell 0
          go_wp2_with fail
          refine (CRM.out _ HBa.out).mono ?_
          rintro e wb ⟨A8, c8, rfl, hown, bb⟩
          rw [HN7.out] at hown ⊢
          have HR8 := Lib.hid (Row.of_own hown)
          have HR7 := Lib.hid ((HR7.out.below bb (Nat.le_refl _)).more bb.size)
          have HWb := Lib.hid (HWa.out.below bb HWa.out.lt)
          have HVb := Lib.hid (HVa.out.below bb HVa.out.lt)
          have HBb := Lib.hid (HBa.out.trans (bb.mono HBa.out.size))
          clear v0 hown bb HWa HVa HBa CRM
          go_wp2_with fail
          go_loopw [15] (fun i wx => ∃ j : Nat, j ≤ N ∧ i = .int .i64 (j : Int) ∧ Hid (∃ q, wx = wb.drewN q)) (fun i _ => N - (intOf i).toNat)
          case atStart => exact ⟨0, Nat.zero_le _, rfl, Lib.hid ⟨0, rfl⟩⟩
          case round =>
            obtain ⟨j, hj, rfl, HWW⟩ := hrel
            by_cases hjn : j < N
            · obtain ⟨z, hz⟩ : ∃ z, ms[j]? = some z := ⟨ms[j]'(by rw [HN7.out]; exact hjn), by simp⟩
              obtain ⟨g7, o7, rfl, hg7, hc7⟩ := HR7.out.2 (by omega)
              obtain ⟨g8, o8, rfl, hg8, hc8⟩ := HR8.out.2 (by omega)
              have d1 : wr.cell? ⟨g7, o7 + j, none⟩ = some (.int .u16 (z % 65536)) := by obtain ⟨q, rfl⟩ := HWW.out; exact hc7 j _ (lows_get _ _ _ hz)
              have d2 : wr.cell? ⟨g8, o8 + j, none⟩ = some (.int .i64 z) := by obtain ⟨q, rfl⟩ := HWW.out; exact hc8 j _ (i64r_get _ _ _ hz)
              have hj1 : (0 : Int) ≤ (j : Int) := by omega
              have hj2 : (j : Int) < (N : Int) := by omega
              have hcmp := rest_is z
              clear hc7 hc8 hg7 hg8 hz
              go_wp2_with fail
              go_quiet (fail)
              go_wp2
              go_roundw
              case rel => exact ⟨j + 1, by omega, by go_num, Lib.hid (by obtain ⟨q, rfl⟩ := HWW.out; exact ⟨_, World.drewN_drewN _ _ _⟩)⟩
              case measure => simp [intOf]; omega
            · obtain rfl : j = N := by omega
              have HBx := Lib.hid (show Below w.heap.size w wr from by obtain ⟨q, rfl⟩ := HWW.out; exact bdrewN (HB5.out.trans (HBb.out.mono HB5.out.size)) q)
              have HST : Hid (St ⟨true, ubase, uhigh, m', useen⟩ L' (k + 1) m' gw A2 wr) := Lib.hid (by
                obtain ⟨q, rfl⟩ := HWW.out
                exact ⟨HT2.out.1.more (by omega), .inr HT2.out.2.1, HT2.out.2.2, by omega, (HR5.out.below HBb.out (Nat.le_refl _)).more HBb.out.size, fun a ha => ⟨(HBL5.out a ha).1, Nat.lt_of_lt_of_le (HBL5.out a ha).2 HBb.out.size⟩⟩)
              have HWx : Hid (Whole wr gt 26 #[.bool true, .int .i64 ubase, .int .i64 uhigh, .int .i64 (m' : Int), .int .u64 (useen : Int)]) := Lib.hid (by obtain ⟨q, rfl⟩ := HWW.out; exact HWb.out)
              have HVx : Hid (Whole wr gw 29 #[.slice A2 m' c2]) := Lib.hid (by obtain ⟨q, rfl⟩ := HWW.out; exact HVb.out)
              clear HWW HB5 HBb HR5 HBL5 HWb HVb
              go_wp2
              go_roundw
              case rel => exact ⟨k + 1, m', c2, _, L', A2, by omega, by go_num, HST, HWx, HVx, HBx.out⟩
              case measure => simp [intOf]; omega
    · obtain rfl : k = n := by omega
      go_wp2
      go_ret
      exact ⟨rfl, HB.out⟩

set_option maxRecDepth 100000 in
theorem lifted (os : Os) (started : os.Started) (H : Type) (enc : TypeId × Value → H) :
    ReturnsInHanded {} Try.checked os 3 .any (Rows.recvPlaysSpec.pre6 enc Try.prog Try.f3 Rows.recvPlaysRow.domain false) (Rows.recvPlaysSpec.post enc Try.prog Try.f3 false true false false) := by
  refine returnsInHanded_of_change (C := Try.checked) own started (by kernel_rfl) Try.func3
    (ChangeSpec.witness6 (enc := enc) (C := Try.checked) false ⟨#[], #[.slice none 0 0], []⟩ 8 (by kernel_rfl) (by kernel_rfl) (by kernel_rfl) (by kernel_rfl)) ?_
  intro W base args ds gs before hval0 hW _ _
  have hval : ∀ (j : Nat) t v, Try.f3.params[j]? = some t → args[j]? = some v → Value.okWide Try.prog W .any base t v := hval0
  have hW' := hW
  obtain ⟨p, q, hA0, hV, _, _, _⟩ := hW
  have hA : DataW.TrodAll enc Try.prog W 0 (fun _ => true) true Try.f3.params.toList args.toList ds p := hA0
  rw [Try.params3] at hA hval
  obtain ⟨v0, vs0, d0, ds0, p0, q0, hargs, rfl, _, h0, r0⟩ := trodAll_cons hA
  obtain ⟨rfl, rfl, _⟩ := trodAll_nil r0
  obtain rfl : args = #[v0] := by cases args; simp_all
  obtain ⟨rfl, _⟩ := trodVars_none hV
  refine law_post (s := Rows.recvPlaysSpec) rfl rfl (by rw [Try.params3]; intro t ht; simp at ht; rcases ht with rfl <;> exact ⟨by kernel_rfl, of_decide_eq_true (by kernel_rfl)⟩) rfl hW' ?_
  obtain ⟨A0, c0, l0, rfl, hl0, hr0, hx0⟩ := open_u16s (hval 0 22 v0 rfl rfl) h0
  exact walk W A0 c0 l0 hl0 hr0 hx0

theorem over : Rows.recvPlaysRow.holds Try.pinned (OpenSpec.ofChange Rows.recvPlaysSpec) :=
  OpenClaim.holds_of_wide 3 Try.f3 rfl rfl rfl rfl rfl rfl rfl ⟨rfl, rfl, rfl, rfl, rfl⟩ rfl rfl rfl rfl rfl (by kernel_rfl) Try.func3 (by kernel_rfl)
    (of_decide_eq_true (by kernel_rfl)) (by unfold Func.isWrapper; first | (rw [if_pos (by decide +kernel)]; kernel_rfl) | (rw [if_neg (by decide +kernel)]; exact ⟨rfl, rfl⟩))
    (fun os started H enc _ => lifted os started H enc)

/-- The statement. -/
theorem recvPlays_holds : Rows.RecvPlaysSaid := over

end Go.Proofs.Ytphhhfgenhbmlaa.VPlays
