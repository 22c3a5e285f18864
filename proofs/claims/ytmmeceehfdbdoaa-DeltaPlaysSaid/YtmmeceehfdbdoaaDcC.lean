/-
  Contracts of package delta: SSRCs (mayBe, hasAny), and slices.Clone of its rows.
-/
import Derived.Test.YtmmeceehfdbdoaaDcB
import Derived.Lib.SliceRun
namespace Go.Proofs.Ytmmeceehfdbdoaa
open Go.RowKit
open Dl
set_option linter.unusedSimpArgs false
set_option linter.unusedVariables false
set_option maxRecDepth 100000
theorem ix_any {α : Type} {f : α → Bool} {l : List α} : decide (0 ≤ ixS f l) = l.any f := by
  cases h : l.any f with
  | true => exact decide_eq_true (ixS_low.mp h)
  | false => exact decide_eq_false (fun h2 => by rw [ixS_low.mpr h2] at h; cases h)

set_option maxHeartbeats 3200000 in
theorem dindex (v : Int) (A : Option Addr) (c : Nat) (l : List Int) (w : World) (hr : Row w w.heap.size 1 A l.length (n32 l)) (hl : l.length ≤ 4096) :
    Calls Try.prog 95 #[.slice A l.length c, .int .u32 v] w fun e w' => e = .returned (.int .i64 (ixS (fun x => decide (x = v)) l)) ∧ Below w.heap.size w w' := by
  obtain ⟨n, hn⟩ : ∃ n, l.length = n := ⟨_, rfl⟩
  have HN := Lib.hid hn
  rw [hn] at hl hr ⊢
  have HR := Lib.hid hr
  clear hr hn
  go_enter Try.func95, Try.ntmps95
  go_wp2_with fail
  go_loopw [8] (fun i wr => ∃ k : Nat, k ≤ n ∧ i = .int .i64 (k : Int) ∧ Hid (∀ (j : Nat) (x : Int), j < k → l[j]? = some x → (fun x => decide (x = v)) x = false) ∧ Below w.heap.size w wr) (fun i _ => n - (intOf i).toNat)
  case atStart => exact ⟨0, Nat.zero_le _, rfl, Lib.hid (fun j x h => by omega), Below.refl _ _⟩
  case round =>
    obtain ⟨k, hk, rfl, HNO, hb⟩ := hrel
    by_cases hlt : k < n
    · obtain ⟨y, hy⟩ : ∃ y, l[k]? = some y := ⟨_, List.getElem?_eq_getElem (by rw [HN.out]; exact hlt)⟩
      obtain ⟨g, o, rfl, hg, hc⟩ := HR.out.2 (by omega)
      have c0 := (hb.cell (p := ⟨g, o + k, none⟩) hg).trans (hc _ _ (n32_get hy))
      have i0 : (0 : Int) ≤ (k : Int) := by omega
      have i1 : (k : Int) < (n : Int) := by omega
      have lg : g < wr.heap.size := by have := hb.size; omega
      have HY := Lib.hid hy
      have HB := Lib.hid hb
      have HNO2 := Lib.hid (fun (hq : (fun x => decide (x = v)) y = false) => show ∀ (j : Nat) (x : Int), j < k + 1 → l[j]? = some x → (fun x => decide (x = v)) x = false from fun j x hj hx => by
          rcases Nat.lt_or_ge j k with h | h
          · exact HNO.out j x h hx
          · obtain rfl : j = k := by omega
            rw [HY.out] at hx
            injection hx with hx
            rw [← hx]
            exact hq)
      have HX := Lib.hid (fun (hq : (fun x => decide (x = v)) y = true) => show ixS (fun x => decide (x = v)) l = k from ixS_at HNO.out HY.out hq)
      clear hc hy hb HY HNO
      by_cases hs : v = y
      · subst hs
        have HX2 := Lib.hid (HX.out (by simp))
        clear HX HNO2 HR HN
        go_wp2_with fail
        go_ret
        exact ⟨by rw [HX2.out]; rfl, HB.out⟩
      · have HNO3 := Lib.hid (HNO2.out (by simp; exact fun h => hs h.symm))
        clear HX HNO2
        go_wp2_with fail
        go_roundw
        case rel => exact ⟨k + 1, by omega, by go_num, HNO3, HB.out⟩
        case measure => simp [intOf]; omega
    · obtain rfl : k = n := by omega
      have HX := Lib.hid (show ixS (fun x => decide (x = v)) l = -1 from ixS_no (fun j x hx => HNO.out j x (by have := (List.getElem?_eq_some_iff.1 hx).1; rw [HN.out] at this; exact this) hx))
      have HB := Lib.hid hb
      clear HNO HR HN hb
      go_wp2_with fail
      go_ret
      exact ⟨by rw [HX.out]; rfl, HB.out⟩

set_option maxHeartbeats 3200000 in
theorem dixU (N : FuncId) (u : Value) (f : Int → Bool) (A : Option Addr) (c : Nat) (l : List Int) (w : World) (hN : Ent N) (hr : Row w w.heap.size 1 A l.length (n32 l)) (hl : l.length ≤ 4096)
    (hF : ∀ x ∈ l, ∀ wx : World, Below w.heap.size w wx → Calls Try.prog N #[.int .u32 x, u] wx fun e w' => e = .returned (.bool (f x)) ∧ Below wx.heap.size wx w') :
    Calls Try.prog 96 #[.slice A l.length c, .func (.func N) #[] #[u]] w fun e w' => e = .returned (.int .i64 (ixS f l)) ∧ Below w.heap.size w w' := by
  obtain ⟨n, hn⟩ : ∃ n, l.length = n := ⟨_, rfl⟩
  have HN := Lib.hid hn
  rw [hn] at hl hr ⊢
  have HR := Lib.hid hr
  have HF := Lib.hid hF
  unfold Ent at hN
  clear hF
  clear hr hn
  go_enter Try.func96, Try.ntmps96
  go_wp2_with fail
  go_loopw [8] (fun i wr => ∃ k : Nat, k ≤ n ∧ i = .int .i64 (k : Int) ∧ Hid (∀ (j : Nat) (x : Int), j < k → l[j]? = some x → f x = false) ∧ Below w.heap.size w wr) (fun i _ => n - (intOf i).toNat)
  case atStart => exact ⟨0, Nat.zero_le _, rfl, Lib.hid (fun j x h => by omega), Below.refl _ _⟩
  case round =>
    obtain ⟨k, hk, rfl, HNO, hb⟩ := hrel
    by_cases hlt : k < n
    · obtain ⟨y, hy⟩ : ∃ y, l[k]? = some y := ⟨_, List.getElem?_eq_getElem (by rw [HN.out]; exact hlt)⟩
      obtain ⟨g, o, rfl, hg, hc⟩ := HR.out.2 (by omega)
      have c0 := (hb.cell (p := ⟨g, o + k, none⟩) hg).trans (hc _ _ (n32_get hy))
      have i0 : (0 : Int) ≤ (k : Int) := by omega
      have i1 : (k : Int) < (n : Int) := by omega
      have lg : g < wr.heap.size := by have := hb.size; omega
      have CF := HF.out y (List.mem_of_getElem? hy) wr hb
      obtain ⟨bb, hbb⟩ : ∃ z, f y = z := ⟨_, rfl⟩
      rw [hbb] at CF
      replace CF := Lib.hid CF
      have HBB := Lib.hid hbb
      clear hbb
      have HY := Lib.hid hy
      have HB := Lib.hid hb
      have HNO2 := Lib.hid (fun (hq : f y = false) => show ∀ (j : Nat) (x : Int), j < k + 1 → l[j]? = some x → f x = false from fun j x hj hx => by
          rcases Nat.lt_or_ge j k with h | h
          · exact HNO.out j x h hx
          · obtain rfl : j = k := by omega
            rw [HY.out] at hx
            injection hx with hx
            rw [← hx]
            exact hq)
      have HX := Lib.hid (fun (hq : f y = true) => show ixS f l = k from ixS_at HNO.out HY.out hq)
      clear hc hy hb HY HNO
      cases bb with
      | true =>
        have HX2 := Lib.hid (HX.out HBB.out)
        clear HX HNO2 HR HN HF
        go_wp2_with fail
        refine CF.out.mono ?_
        rintro e w2 ⟨rfl, b2⟩
        have HB2 := Lib.hid (HB.out.trans (b2.mono HB.out.size))
        clear b2 CF HB
        go_wp2_with fail
        go_ret
        exact ⟨by rw [HX2.out]; rfl, HB2.out⟩
      | false =>
        have HNO3 := Lib.hid (HNO2.out HBB.out)
        clear HX HNO2
        go_wp2_with fail
        refine CF.out.mono ?_
        rintro e w2 ⟨rfl, b2⟩
        have HB2 := Lib.hid (HB.out.trans (b2.mono HB.out.size))
        clear b2 CF HB
        go_wp2_with fail
        go_roundw
        case rel => exact ⟨k + 1, by omega, by go_num, HNO3, HB2.out⟩
        case measure => simp [intOf]; omega
    · obtain rfl : k = n := by omega
      have HX := Lib.hid (show ixS f l = -1 from ixS_no (fun j x hx => HNO.out j x (by have := (List.getElem?_eq_some_iff.1 hx).1; rw [HN.out] at this; exact this) hx))
      have HB := Lib.hid hb
      clear HNO HR HN hb
      go_wp2_with fail
      go_ret
      exact ⟨by rw [HX.out]; rfl, HB.out⟩
theorem contains_is (l : List Int) (v : Int) : l.contains v = l.any (fun x => decide (x = v)) := by
  rw [List.contains_eq_any_beq]
  congr 1
  funext x
  by_cases h : x = v
  · subst h; simp
  · simp [h, Ne.symm h]

theorem dcontains (v : Int) (A : Option Addr) (c : Nat) (l : List Int) (w : World) (hr : Row w w.heap.size 1 A l.length (n32 l)) (hl : l.length ≤ 4096) : Calls Try.prog 84 #[.slice A l.length c, .int .u32 v] w fun e w' => e = .returned (.bool (l.contains v)) ∧ Below w.heap.size w w' := by
  have C := Lib.hid (dindex v A c l w hr hl)
  obtain ⟨n, hn⟩ : ∃ n, l.length = n := ⟨_, rfl⟩
  rw [hn] at C ⊢
  rw [contains_is, ← ix_any]
  obtain ⟨r, hrr⟩ : ∃ r, ixS (fun x => decide (x = v)) l = r := ⟨_, rfl⟩
  rw [hrr] at C ⊢
  clear hn hrr hr hl
  by_cases h0 : 0 ≤ r
  all_goals
    go_enter Try.func84, Try.ntmps84
    go_wp2_with fail
    refine C.out.mono ?_
    rintro e w2 ⟨rfl, b2⟩
    have HB2 := Lib.hid b2
    clear b2 C
    go_wp2_with fail
    go_ret
    exact ⟨ret_bool (by simp [h0]), HB2.out⟩

theorem cl_has1 (x : Int) (q : Nat) (Q : Option Addr) (qc : Nat) (l : List Int) (wx : World) (h0 : wx.cell? ⟨q, 0, none⟩ = some (.slice Q l.length qc)) (hl : q < wx.heap.size) (hr : Row wx wx.heap.size 1 Q l.length (n32 l)) (hll : l.length ≤ 4096) :
    Calls Try.prog 90 #[.int .u32 x, .pointer (some ⟨q, 0, none⟩)] wx fun e w' => e = .returned (.bool (l.contains x)) ∧ Below wx.heap.size wx w' := by
  have C := Lib.hid (dcontains x Q qc l wx hr hll)
  obtain ⟨n, hn⟩ : ∃ n, l.length = n := ⟨_, rfl⟩
  rw [hn] at C h0
  clear hn hr
  obtain ⟨b, hb⟩ : ∃ b, l.contains x = b := ⟨_, rfl⟩
  rw [hb] at C ⊢
  clear hb
  go_enter Try.func90, Try.ntmps90
  go_wp2_with fail
  refine C.out.mono ?_
  rintro e w2 ⟨rfl, b2⟩
  have HB2 := Lib.hid b2
  clear b2 C
  go_wp2_with fail
  go_ret
  exact ⟨rfl, HB2.out⟩

theorem dhasU (N : FuncId) (u : Value) (f : Int → Bool) (A : Option Addr) (c : Nat) (l : List Int) (w : World) (hN : Ent N) (hr : Row w w.heap.size 1 A l.length (n32 l)) (hl : l.length ≤ 4096) (hF : ∀ x ∈ l, ∀ wx : World, Below w.heap.size w wx → Calls Try.prog N #[.int .u32 x, u] wx fun e w' => e = .returned (.bool (f x)) ∧ Below wx.heap.size wx w') : Calls Try.prog 89 #[.slice A l.length c, .func (.func N) #[] #[u]] w fun e w' => e = .returned (.bool (l.any f)) ∧ Below w.heap.size w w' := by
  have C := Lib.hid (dixU N u f A c l w hN hr hl hF)
  obtain ⟨n, hn⟩ : ∃ n, l.length = n := ⟨_, rfl⟩
  rw [hn] at C ⊢
  rw [← ix_any]
  obtain ⟨r, hrr⟩ : ∃ r, ixS f l = r := ⟨_, rfl⟩
  rw [hrr] at C ⊢
  clear hn hrr hN hr hl hF
  by_cases h0 : 0 ≤ r
  all_goals
    go_enter Try.func89, Try.ntmps89
    go_wp2_with fail
    refine C.out.mono ?_
    rintro e w2 ⟨rfl, b2⟩
    have HB2 := Lib.hid b2
    clear b2 C
    go_wp2_with fail
    go_ret
    exact ⟨ret_bool (by simp [h0]), HB2.out⟩

theorem dhasT (N : FuncId) (u : Value) (f : Tm → Bool) (A : Option Addr) (c : Nat) (l : List Tm) (w : World) (hN : Ent N) (hr : Row w w.heap.size 4 A l.length (tmC l)) (hl : l.length ≤ 4096) (hF : ∀ x ∈ l, ∀ wx : World, Below w.heap.size w wx → Calls Try.prog N #[.agg (tmV x).toArray, u] wx fun e w' => e = .returned (.bool (f x)) ∧ Below wx.heap.size wx w') : Calls Try.prog 87 #[.slice A l.length c, .func (.func N) #[] #[u]] w fun e w' => e = .returned (.bool (l.any f)) ∧ Below w.heap.size w w' := by
  have C := Lib.hid (dixT N u f A c l w hN hr hl hF)
  obtain ⟨n, hn⟩ : ∃ n, l.length = n := ⟨_, rfl⟩
  rw [hn] at C ⊢
  rw [← ix_any]
  obtain ⟨r, hrr⟩ : ∃ r, ixS f l = r := ⟨_, rfl⟩
  rw [hrr] at C ⊢
  clear hn hrr hN hr hl hF
  by_cases h0 : 0 ≤ r
  all_goals
    go_enter Try.func87, Try.ntmps87
    go_wp2_with fail
    refine C.out.mono ?_
    rintro e w2 ⟨rfl, b2⟩
    have HB2 := Lib.hid b2
    clear b2 C
    go_wp2_with fail
    go_ret
    exact ⟨ret_bool (by simp [h0]), HB2.out⟩

theorem cl_has (x : Tm) (q : Nat) (Q : Option Addr) (qc : Nat) (l : List Int) (wx : World) (h0 : wx.cell? ⟨q, 0, none⟩ = some (.slice Q l.length qc)) (hl : q < wx.heap.size) (hr : Row wx wx.heap.size 1 Q l.length (n32 l)) (hll : l.length ≤ 4096)
    (hx : Row wx wx.heap.size 1 x.A x.t.ss.length (n32 x.t.ss)) (hxl : x.t.ss.length ≤ 4096) :
    Calls Try.prog 88 #[.agg (tmV x).toArray, .pointer (some ⟨q, 0, none⟩)] wx fun e w' => e = .returned (.bool (x.t.ss.any fun y => l.contains y)) ∧ Below wx.heap.size wx w' := by
  obtain ⟨⟨xi, xo, xf, xs⟩, xA, xc⟩ := x
  dsimp only at hx hxl ⊢
  obtain ⟨n5, hn5⟩ : ∃ z, xs.length = z := ⟨_, rfl⟩
  rw [show (tmV ⟨⟨xi, xo, xf, xs⟩, xA, xc⟩).toArray = #[.int .i64 xi, .int .i64 xo, .int .i64 xf, .slice xA n5 xc] from by rw [← hn5]; rfl]
  obtain ⟨w1, hw1⟩ : ∃ z, z = wx.alloc (.cells #[.int .i64 xi, .int .i64 xo, .int .i64 xf, .slice xA n5 xc] 72) := ⟨_, rfl⟩
  have b1 : Below wx.heap.size wx w1 := by rw [hw1]; exact (Below.refl _ _).alloc (Nat.le_refl _) _
  have hT : Whole w1 wx.heap.size 72 #[.int .i64 xi, .int .i64 xo, .int .i64 xf, .slice xA n5 xc] := by rw [hw1]; exact Whole.new wx _ _
  have C := Lib.hid (dhasU 90 (.pointer (some ⟨q, 0, none⟩)) (fun y => l.contains y) xA xc xs w1 (enters Try.func90 (by kernel_rfl) (by kernel_rfl)) ((hx.below b1 (Nat.le_refl _)).more b1.size) hxl
    (fun y _ wy hb => by
      have hb2 := b1.trans (hb.mono b1.size)
      exact cl_has1 y q Q qc l wy ((hb2.cell (p := ⟨q, 0, none⟩) hl).trans h0) (by have := hb2.size; omega) ((hr.below hb2 (Nat.le_refl _)).more hb2.size) hll))
  have s3 := (hT.cell 3).trans rfl
  have lT := hT.lt
  have HB1 := Lib.hid b1
  rw [hn5] at C
  obtain ⟨b, hb⟩ : ∃ b, (xs.any fun y => l.contains y) = b := ⟨_, rfl⟩
  rw [hb] at C ⊢
  clear hn5 hr hx hT b1 hb h0
  go_enter Try.func88, Try.ntmps88
  go_upto_region 1 with fail
  rw [← hw1]
  clear hw1
  go_wp2_with fail
  refine C.out.mono ?_
  rintro e w2 ⟨rfl, b2⟩
  have HB2 := Lib.hid (HB1.out.trans (b2.mono HB1.out.size))
  clear b2 C HB1
  go_wp2_with fail
  go_ret
  exact ⟨rfl, HB2.out⟩
theorem dhasAny (s : Sm) (g : Nat) (Q : Option Addr) (qc : Nat) (l : List Int) (w : World) (h : Rd w g s) (hr : Row w w.heap.size 1 Q l.length (n32 l)) (hl : l.length ≤ 4096) :
    Calls Try.prog 66 #[.pointer (some ⟨g, 0, none⟩), .slice Q l.length qc] w fun e w' => e = .returned (.bool (takenM s.T l)) ∧ Below w.heap.size w w' := by
  obtain ⟨n5, hn5⟩ : ∃ z, l.length = z := ⟨_, rfl⟩
  rw [hn5]
  obtain ⟨w1, hw1⟩ : ∃ z, z = w.alloc (.cells #[.slice Q n5 qc] 43) := ⟨_, rfl⟩
  have b1 : Below w.heap.size w w1 := by rw [hw1]; exact (Below.refl _ _).alloc (Nat.le_refl _) _
  have h1 := h.next b1
  have hq : Whole w1 w.heap.size 43 #[.slice Q n5 qc] := by rw [hw1]; exact Whole.new w _ _
  have C := Lib.hid (dhasT 88 (.pointer (some ⟨w.heap.size, 0, none⟩)) (fun x => x.t.ss.any fun y => l.contains y) s.B s.b s.T w1 (enters Try.func88 (by kernel_rfl) (by kernel_rfl)) h1.rt.1 (by have := h.small.2.1; omega)
    (fun x hx wy hb => by
      obtain ⟨hx1, hx2⟩ := h1.rt.2 x hx
      have hb2 := b1.trans (hb.mono b1.size)
      exact cl_has x w.heap.size Q qc l wy (by rw [hn5]; exact (hq.below hb hq.lt).cell 0) (by have := hb.size; have := hq.lt; omega) ((hr.below hb2 (Nat.le_refl _)).more hb2.size) hl ((hx1.below hb (Nat.le_refl _)).more hb.size) hx2))
  have c5 := h1.at'.cell 5
  unfold smA at c5
  replace c5 := c5.trans rfl
  have lg := h.at'.lt
  have lg1 := h1.at'.lt
  have HB1 := Lib.hid b1
  obtain ⟨n, hn⟩ : ∃ n, s.T.length = n := ⟨_, rfl⟩
  rw [hn] at C c5
  rw [show takenM s.T l = s.T.any (fun x => x.t.ss.any fun y => l.contains y) from rfl]
  obtain ⟨b, hb⟩ : ∃ b, s.T.any (fun x => x.t.ss.any fun y => l.contains y) = b := ⟨_, rfl⟩
  rw [hb] at C ⊢
  clear h h1 hq b1 hn hb hr hn5
  go_enter Try.func66, Try.ntmps66
  go_upto_region 1 with fail
  rw [← hw1]
  clear hw1
  go_wp2_with fail
  refine C.out.mono ?_
  rintro e w2 ⟨rfl, b2⟩
  have HB2 := Lib.hid (HB1.out.trans (b2.mono HB1.out.size))
  clear b2 C HB1
  go_wp2_with fail
  go_ret
  exact ⟨rfl, HB2.out⟩
set_option maxHeartbeats 3200000 in
theorem dmayBe (A : Option Addr) (c : Nat) (l : List Int) (w : World) (hr : Row w w.heap.size 1 A l.length (n32 l)) (hl : l.length ≤ 4096) (hlc : l.length ≤ c) (hu : ∀ x ∈ l, 0 ≤ x) :
    Calls Try.prog 64 #[.slice A l.length c] w fun e w' => e = .returned (.bool (mayL l)) ∧ Below w.heap.size w w' := by
  obtain ⟨n, hn⟩ : ∃ n, l.length = n := ⟨_, rfl⟩
  have HN := Lib.hid hn
  rw [hn] at hl hr hlc ⊢
  have HR := Lib.hid hr
  have CW := dwithin (n : Int) 1 3 w
  clear hr hn
  by_cases hw : 1 ≤ (n : Int) ∧ (n : Int) ≤ 3
  · rw [decide_eq_true hw] at CW
    replace CW := Lib.hid CW
    obtain ⟨hw0, hw3⟩ := hw
    go_enter Try.func64, Try.ntmps64
    go_wp2_with fail
    refine CW.out.mono ?_
    rintro e w1 ⟨rfl, b1⟩
    have HB1 := Lib.hid b1
    clear b1 CW
    go_wp2_with fail
    go_loopw [11] (fun i wr => ∃ k : Nat, k ≤ n ∧ i = .int .i64 (k : Int) ∧ Hid (Upto l k) ∧ Below w.heap.size w wr) (fun i _ => n - (intOf i).toNat)
    case atStart => exact ⟨0, Nat.zero_le _, rfl, Lib.hid (Upto.nil l), HB1.out⟩
    case round =>
      obtain ⟨k, hk, rfl, HU, hb⟩ := hrel
      have HB := Lib.hid hb
      by_cases hlt : k < n
      · obtain ⟨x, hx⟩ : ∃ x, l[k]? = some x := ⟨_, List.getElem?_eq_getElem (by rw [HN.out]; exact hlt)⟩
        obtain ⟨g, o, rfl, hg, hc⟩ := HR.out.2 (by omega)
        have c0 := (hb.cell (p := ⟨g, o + k, none⟩) hg).trans (hc _ _ (n32_get hx))
        have lg : g < wr.heap.size := by have := hb.size; omega
        have CC := Lib.hid (dcontains x (some ⟨g, o, none⟩) c (l.take k) wr (by
          have h2 := ((HR.out.below hb (Nat.le_refl _)).more hb.size).take (k := k) (by omega)
          rw [List.length_take, HN.out, Nat.min_eq_left hk]
          unfold n32 at h2 ⊢
          rw [List.map_take]; exact h2) (by rw [List.length_take]; omega))
        rw [List.length_take, HN.out, Nat.min_eq_left hk] at CC
        have HX := Lib.hid hx
        have hx0 := hu x (List.mem_of_getElem? hx)
        have i0 : (0 : Int) ≤ (k : Int) := by omega
        have i1 : (k : Int) < (n : Int) := by omega
        have i2 : (k : Int) ≤ (c : Int) := by omega
        clear hx hc hb
        by_cases hz : x = 0
        · have HF := Lib.hid (mayL_bad HX.out (by omega))
          subst hz
          clear CC
          go_wp2_with fail
          go_ret
          exact ⟨by rw [HF.out]; rfl, HB.out⟩
        by_cases hz2 : 2147483648 ≤ x
        · have HF := Lib.hid (mayL_bad HX.out (by omega))
          clear CC
          go_wp2_with fail
          go_ret
          exact ⟨by rw [HF.out]; rfl, HB.out⟩
        generalize hbb : (l.take k).contains x = bb at CC
        have HBB := Lib.hid hbb
        clear hbb
        cases bb with
        | true =>
          have HF := Lib.hid (show mayL l = false from by
            have := List.contains_iff_mem.mp HBB.out
            obtain ⟨m, hm, e⟩ := List.mem_iff_getElem.mp this
            rw [List.length_take] at hm
            exact mayL_two (m := m) (by omega) HX.out (by rw [← e]; simp))
          go_wp2_with fail
          refine CC.out.mono ?_
          rintro e w2 ⟨rfl, b2⟩
          have HB2 := Lib.hid (HB.out.trans (b2.mono HB.out.size))
          clear b2 CC
          go_wp2_with fail
          go_ret
          exact ⟨by rw [HF.out]; rfl, HB2.out⟩
        | false =>
          have HU2 := Lib.hid (fun h1 => HU.out.next (x := x) HX.out h1 (fun m y hm hy e => by
            subst e
            have : y ∈ l.take k := by
              refine List.mem_of_getElem? (i := m) ?_
              rw [List.getElem?_take, if_pos hm]; exact hy
            have := List.contains_iff_mem.mpr this
            rw [HBB.out] at this
            cases this))
          go_wp2_with fail
          refine CC.out.mono ?_
          rintro e w2 ⟨rfl, b2⟩
          have HB2 := Lib.hid (HB.out.trans (b2.mono HB.out.size))
          clear b2 CC
          go_wp2_with fail
          go_roundw
          case rel => exact ⟨k + 1, by omega, by go_num, Lib.hid (HU2.out (by omega)), HB2.out⟩
          case measure => simp [intOf]; omega
      · obtain rfl : k = n := by omega
        have HF := Lib.hid (show mayL l = true from by
          rw [mayL_all (by rw [HN.out]; exact HU.out)]
          rw [HN.out]
          exact decide_eq_true (by omega))
        clear hb
        go_wp2_with fail
        go_ret
        exact ⟨by rw [HF.out]; rfl, HB.out⟩
  · rw [decide_eq_false hw] at CW
    replace CW := Lib.hid CW
    have HF := Lib.hid (show mayL l = false from by
      unfold mayL
      rw [HN.out, decide_eq_false (by omega)]
      rfl)
    go_enter Try.func64, Try.ntmps64
    go_wp2_with fail
    refine CW.out.mono ?_
    rintro e w1 ⟨rfl, b1⟩
    have HB1 := Lib.hid b1
    clear b1 CW
    go_wp2_with fail
    go_ret
    exact ⟨by rw [HF.out]; rfl, HB1.out⟩

/-- slices.Clone: the same, in memory of the call's own. -/
theorem dcloneP (A : Option Addr) (c n : Nat) (xs : List Value) (w : World) (hr : Row w w.heap.size 3 A n xs) (hn : n ≤ 4096) (h1 : ∀ u ∈ xs, u.oneCell' = true) :
    Calls Try.prog 38 #[.slice A n c] w fun e w' => ∃ A' c', e = .returned (.slice A' n c') ∧ w'.ownsRow w.heap.size 71 3 (.slice A' n c') n xs ∧ Below w.heap.size w w' := by
  rcases A with _ | a
  · have h0 : n = 0 := by
      rcases Nat.eq_zero_or_pos n with h | h
      · exact h
      · obtain ⟨_, _, e, _⟩ := hr.2 h; cases e
    subst h0
    have hx : xs = [] := List.eq_nil_of_length_eq_zero (by simpa using hr.1)
    subst hx
    have HB := Lib.hid (Below.refl w.heap.size w)
    have hnil : ∀ w, (binOp .eql 27 (.slice none 0 c) (.slice none 0 0)).run Try.prog w = .ok (.bool true) w := fun w => Lib.run_eql_slice_nil (P := Try.prog) w 27 71 none 0 c 0 0 Try.underlying27
    go_enter Try.func38, Try.ntmps38
    go_wp2_with fail
    go_ret
    exact ⟨none, 0, rfl, World.ownsRow_nil _ _ _ _, HB.out⟩
  · have HR := Lib.hid (hr.alloc (Nat.le_refl _) (.cells #[] 71))
    have HO := Lib.hid (World.ownsRow_made (base := w.heap.size) (e := 71) (size := 3) w #[] 0 (Nat.le_refl _) (by decide) (by simp))
    have HB := Lib.hid ((Below.refl w.heap.size w).alloc (Nat.le_refl _) (.cells #[] 71))
    have H1 := Lib.hid h1
    clear hr h1
    have hnil : ∀ w, (binOp .eql 27 (.slice (some a) n c) (.slice none 0 0)).run Try.prog w = .ok (.bool false) w := fun w => Lib.run_eql_slice_nil (P := Try.prog) w 27 71 (some a) n c 0 0 Try.underlying27
    go_enter Try.func38, Try.ntmps38
    go_wp2_with (at_builtin; refine wpl_append _ rfl (.tmp 5) (.tmp 6) 27 rfl w.heap.size 71 (Value.agg #[.int .i64 0, .int .i64 0, .int .i64 0]) 3 24 Try.underlying27 info_insP rfl (by decide) _ 0 [] rfl HO.out w.heap.size (some a) n c xs rfl HR.out H1.out ?c1 ?c2 ?c3 ?_)
    case c1 => unfold maxLen; omega
    case c2 => omega
    case c3 => simp
    intro v' w' hown hg hat
    obtain ⟨A', c', rfl⟩ := own_form hown
    have HB2 := Lib.hid (show Below w.heap.size w w' from HB.out.grown hg (by simp) (fun q hq => by injection hq with hq; subst hq; exact Nat.le_refl _))
    have HO2 := Lib.hid hown
    clear hown hg hat
    go_wp2_with fail
    go_ret
    exact ⟨A', c', rfl, HO2.out, HB2.out⟩

/-- slices.Clone: the same, in memory of the call's own. -/
theorem dcloneT (A : Option Addr) (c n : Nat) (xs : List Value) (w : World) (hr : Row w w.heap.size 4 A n xs) (hn : n ≤ 4096) (h1 : ∀ u ∈ xs, u.oneCell' = true) :
    Calls Try.prog 36 #[.slice A n c] w fun e w' => ∃ A' c', e = .returned (.slice A' n c') ∧ w'.ownsRow w.heap.size 72 4 (.slice A' n c') n xs ∧ Below w.heap.size w w' := by
  rcases A with _ | a
  · have h0 : n = 0 := by
      rcases Nat.eq_zero_or_pos n with h | h
      · exact h
      · obtain ⟨_, _, e, _⟩ := hr.2 h; cases e
    subst h0
    have hx : xs = [] := List.eq_nil_of_length_eq_zero (by simpa using hr.1)
    subst hx
    have HB := Lib.hid (Below.refl w.heap.size w)
    have hnil : ∀ w, (binOp .eql 28 (.slice none 0 c) (.slice none 0 0)).run Try.prog w = .ok (.bool true) w := fun w => Lib.run_eql_slice_nil (P := Try.prog) w 28 72 none 0 c 0 0 Try.underlying28
    go_enter Try.func36, Try.ntmps36
    go_wp2_with fail
    go_ret
    exact ⟨none, 0, rfl, World.ownsRow_nil _ _ _ _, HB.out⟩
  · have HR := Lib.hid (hr.alloc (Nat.le_refl _) (.cells #[] 72))
    have HO := Lib.hid (World.ownsRow_made (base := w.heap.size) (e := 72) (size := 4) w #[] 0 (Nat.le_refl _) (by decide) (by simp))
    have HB := Lib.hid ((Below.refl w.heap.size w).alloc (Nat.le_refl _) (.cells #[] 72))
    have H1 := Lib.hid h1
    clear hr h1
    have hnil : ∀ w, (binOp .eql 28 (.slice (some a) n c) (.slice none 0 0)).run Try.prog w = .ok (.bool false) w := fun w => Lib.run_eql_slice_nil (P := Try.prog) w 28 72 (some a) n c 0 0 Try.underlying28
    go_enter Try.func36, Try.ntmps36
    go_wp2_with (at_builtin; refine wpl_append _ rfl (.tmp 5) (.tmp 6) 28 rfl w.heap.size 72 (Value.agg #[.int .i64 0, .int .i64 0, .int .i64 0, .slice none 0 0]) 4 48 Try.underlying28 info_insT rfl (by decide) _ 0 [] rfl HO.out w.heap.size (some a) n c xs rfl HR.out H1.out ?c1 ?c2 ?c3 ?_)
    case c1 => unfold maxLen; omega
    case c2 => omega
    case c3 => simp
    intro v' w' hown hg hat
    obtain ⟨A', c', rfl⟩ := own_form hown
    have HB2 := Lib.hid (show Below w.heap.size w w' from HB.out.grown hg (by simp) (fun q hq => by injection hq with hq; subst hq; exact Nat.le_refl _))
    have HO2 := Lib.hid hown
    clear hown hg hat
    go_wp2_with fail
    go_ret
    exact ⟨A', c', rfl, HO2.out, HB2.out⟩

/-- slices.Clone: the same, in memory of the call's own. -/
theorem dcloneB (A : Option Addr) (c n : Nat) (xs : List Value) (w : World) (hr : Row w w.heap.size 5 A n xs) (hn : n ≤ 4096) (h1 : ∀ u ∈ xs, u.oneCell' = true) :
    Calls Try.prog 31 #[.slice A n c] w fun e w' => ∃ A' c', e = .returned (.slice A' n c') ∧ w'.ownsRow w.heap.size 55 5 (.slice A' n c') n xs ∧ Below w.heap.size w w' := by
  rcases A with _ | a
  · have h0 : n = 0 := by
      rcases Nat.eq_zero_or_pos n with h | h
      · exact h
      · obtain ⟨_, _, e, _⟩ := hr.2 h; cases e
    subst h0
    have hx : xs = [] := List.eq_nil_of_length_eq_zero (by simpa using hr.1)
    subst hx
    have HB := Lib.hid (Below.refl w.heap.size w)
    have hnil : ∀ w, (binOp .eql 29 (.slice none 0 c) (.slice none 0 0)).run Try.prog w = .ok (.bool true) w := fun w => Lib.run_eql_slice_nil (P := Try.prog) w 29 55 none 0 c 0 0 Try.underlying29
    go_enter Try.func31, Try.ntmps31
    go_wp2_with fail
    go_ret
    exact ⟨none, 0, rfl, World.ownsRow_nil _ _ _ _, HB.out⟩
  · have HR := Lib.hid (hr.alloc (Nat.le_refl _) (.cells #[] 55))
    have HO := Lib.hid (World.ownsRow_made (base := w.heap.size) (e := 55) (size := 5) w #[] 0 (Nat.le_refl _) (by decide) (by simp))
    have HB := Lib.hid ((Below.refl w.heap.size w).alloc (Nat.le_refl _) (.cells #[] 55))
    have H1 := Lib.hid h1
    clear hr h1
    have hnil : ∀ w, (binOp .eql 29 (.slice (some a) n c) (.slice none 0 0)).run Try.prog w = .ok (.bool false) w := fun w => Lib.run_eql_slice_nil (P := Try.prog) w 29 55 (some a) n c 0 0 Try.underlying29
    go_enter Try.func31, Try.ntmps31
    go_wp2_with (at_builtin; refine wpl_append _ rfl (.tmp 5) (.tmp 6) 29 rfl w.heap.size 55 (Value.agg #[.int .i64 0, .int .i64 0, .int .i64 0, .int .i64 0, .bool false]) 5 40 Try.underlying29 info_insB rfl (by decide) _ 0 [] rfl HO.out w.heap.size (some a) n c xs rfl HR.out H1.out ?c1 ?c2 ?c3 ?_)
    case c1 => unfold maxLen; omega
    case c2 => omega
    case c3 => simp
    intro v' w' hown hg hat
    obtain ⟨A', c', rfl⟩ := own_form hown
    have HB2 := Lib.hid (show Below w.heap.size w w' from HB.out.grown hg (by simp) (fun q hq => by injection hq with hq; subst hq; exact Nat.le_refl _))
    have HO2 := Lib.hid hown
    clear hown hg hat
    go_wp2_with fail
    go_ret
    exact ⟨A', c', rfl, HO2.out, HB2.out⟩
theorem info_clU : (Try.prog.info? 64).map (fun i => (i.zero, i.size, i.bytes)) = some (some (Value.int .u32 0), 1, 4) := by kernel_rfl

/-- slices.Clone: the same, in memory of the call's own. -/
theorem dcloneU (A : Option Addr) (c n : Nat) (xs : List Value) (w : World) (hr : Row w w.heap.size 1 A n xs) (hn : n ≤ 4096) (h1 : ∀ u ∈ xs, u.oneCell' = true) :
    Calls Try.prog 37 #[.slice A n c] w fun e w' => ∃ A' c', e = .returned (.slice A' n c') ∧ w'.ownsRow w.heap.size 64 1 (.slice A' n c') n xs ∧ Below w.heap.size w w' := by
  rcases A with _ | a
  · have h0 : n = 0 := by
      rcases Nat.eq_zero_or_pos n with h | h
      · exact h
      · obtain ⟨_, _, e, _⟩ := hr.2 h; cases e
    subst h0
    have hx : xs = [] := List.eq_nil_of_length_eq_zero (by simpa using hr.1)
    subst hx
    have HB := Lib.hid (Below.refl w.heap.size w)
    have hnil : ∀ w, (binOp .eql 43 (.slice none 0 c) (.slice none 0 0)).run Try.prog w = .ok (.bool true) w := fun w => Lib.run_eql_slice_nil (P := Try.prog) w 43 64 none 0 c 0 0 Try.underlying43
    go_enter Try.func37, Try.ntmps37
    go_wp2_with fail
    go_ret
    exact ⟨none, 0, rfl, World.ownsRow_nil _ _ _ _, HB.out⟩
  · have HR := Lib.hid (hr.alloc (Nat.le_refl _) (.cells #[] 64))
    have HO := Lib.hid (World.ownsRow_made (base := w.heap.size) (e := 64) (size := 1) w #[] 0 (Nat.le_refl _) (by decide) (by simp))
    have HB := Lib.hid ((Below.refl w.heap.size w).alloc (Nat.le_refl _) (.cells #[] 64))
    have H1 := Lib.hid h1
    clear hr h1
    have hnil : ∀ w, (binOp .eql 43 (.slice (some a) n c) (.slice none 0 0)).run Try.prog w = .ok (.bool false) w := fun w => Lib.run_eql_slice_nil (P := Try.prog) w 43 64 (some a) n c 0 0 Try.underlying43
    go_enter Try.func37, Try.ntmps37
    go_wp2_with (at_builtin; refine wpl_append _ rfl (.tmp 5) (.tmp 6) 43 rfl w.heap.size 64 (Value.int .u32 0) 1 4 Try.underlying43 info_clU rfl (by decide) _ 0 [] rfl HO.out w.heap.size (some a) n c xs rfl HR.out H1.out ?c1 ?c2 ?c3 ?_)
    case c1 => unfold maxLen; omega
    case c2 => omega
    case c3 => simp
    intro v' w' hown hg hat
    obtain ⟨A', c', rfl⟩ := own_form hown
    have HB2 := Lib.hid (show Below w.heap.size w w' from HB.out.grown hg (by simp) (fun q hq => by injection hq with hq; subst hq; exact Nat.le_refl _))
    have HO2 := Lib.hid hown
    clear hown hg hat
    go_wp2_with fail
    go_ret
    exact ⟨A', c', rfl, HO2.out, HB2.out⟩
end Go.Proofs.Ytmmeceehfdbdoaa
