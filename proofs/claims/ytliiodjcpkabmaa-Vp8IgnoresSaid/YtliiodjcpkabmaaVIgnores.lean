/-
  Proved: Vp8Ignores returns true for every slice of bytes and every byte: bits that say nothing play no part in what Parse tells. Conditions: none.
-/
import Derived.Test.YtliiodjcpkabmaaVpT
import Derived.Test.YtliiodjcpkabmaaVpO
import Derived.Test.YtliiodjcpkabmaaVpV
import Derived.Laws.OwnMore
namespace Go.Proofs.Ytliiodjcpkabmaa.VIgnores
open Go.ChangeShapes Go.WideShapes Go.ChangeAt Go.RowKit

theorem make_noughts (n : Nat) (h2 : n ≤ 4096) (w : World) : ∃ cs : Array Value, cs.size = n ∧
    (Instr.makeSlice 22 (.int .i64 n) (.int .i64 n)).run Try.prog w = .ok (.slice (some ⟨w.heap.size, 0, none⟩) n n) (w.alloc (.cells cs 5)) := by
  obtain ⟨i, hi0, hi1, hi2, hi3⟩ := info_parts info_u8
  have h := run_make (P := Try.prog) w 22 5 i (.int .u8 0) Try.underlying22 hi0 hi1 .i64 .i64 n n (by omega) (Int.le_refl _) (by rw [hi3]; omega) (by omega)
  rw [Int.toNat_natCast, hi2, Nat.mul_one] at h
  exact ⟨_, by rw [size_madeCells], h⟩

theorem open_u8 {H : Type} {enc : TypeId × Value → H} {W : World} {r : Reach} {b0 : Nat} {v : Value} {d : DataW H} {p : List MemPlace} (hok : Value.okWide Try.prog W r b0 5 v) (h : DataW.Trod enc Try.prog W 0 (fun _ => true) true 5 v d p) : ∃ x : UInt8, v = .int .u8 (x.toNat : Int) := by
  obtain ⟨a, rfl, _, _, w⟩ := open_int Try.underlying5 hok h
  have := wf_u8 w
  exact ⟨UInt8.ofNat a.toNat, by rw [toNat_of (by omega)]; congr 1; omega⟩
theorem xor_eq (f x : UInt8) (m : Nat) (hm : m < 256) : bits .xor .u8 (f.toNat : Int) (bits .and .u8 (x.toNat : Int) (m : Int)) = ((f.toNat ^^^ (x.toNat &&& m) : Nat) : Int) := by
  have hf := f.toNat_lt
  have hx := x.toNat_lt
  rw [u8_and_nat _ _ hx hm, u8_xor_nat _ _ hf (and_lt' m hx)]

/-- What Parse tells: the descriptor, how many bytes it has, the error. -/
def pT (b : List UInt8) : Dsc × Int × Int :=
  match parseS b with
  | none => (dsc0, 0, 10)
  | some (d, r) => (d, (b.length : Int) - r.length, 0)
theorem told_eq {b : List UInt8} {w w' : World} {e : Ending} (h : ParseTold b w e w') : e = .returned (.tuple #[.agg (pT b).1.cells, .int .i64 (pT b).2.1, .int .i64 (pT b).2.2]) ∧ Below w.heap.size w w' := by
  obtain ⟨h1, h2⟩ := h
  refine ⟨?_, h2⟩
  unfold pT
  rcases h1 with ⟨hp, rfl⟩ | ⟨d, r, hp, rfl⟩ <;> rw [hp]

set_option maxRecDepth 100000 in
set_option maxHeartbeats 3200000 in
theorem walk (w : World) (A : Option Addr) (c : Nat) (l : List UInt8) (hl : l.length ≤ maxLen) (hr : Row w w.heap.size 1 A l.length (u8s l)) (x : UInt8) :
    Calls Try.prog 7 #[.slice A l.length c, .int .u8 (x.toNat : Int)] w fun e w' => e = .returned (.bool true) ∧ Below w.heap.size w w' := by
  unfold maxLen at hl
  by_cases h3 : 300 < l.length
  · have h3' : (300 : Int) < (l.length : Int) := by omega
    clear h3 hr
    go_enter Try.func7, Try.ntmps7
    go_wp2_with fail
    refine (awake_any w).mono ?_
    rintro e w1 ⟨rfl, b1⟩
    go_wp2
    go_ret
    exact ⟨rfl, b1⟩
  have h3' : ¬ (300 : Int) < (l.length : Int) := by omega
  by_cases h2 : l.length < 2
  · have h2' : (l.length : Int) < 2 := by omega
    clear h3 hr h2
    go_enter Try.func7, Try.ntmps7
    go_wp2_with fail
    refine (awake_any w).mono ?_
    rintro e w1 ⟨rfl, b1⟩
    go_wp2
    go_ret
    exact ⟨rfl, b1⟩
  have h2' : ¬ (l.length : Int) < 2 := by omega
  obtain ⟨f, t, l', rfl⟩ : ∃ f t l', l = f :: t :: l' := by
    match l, h2 with
    | f :: t :: l', _ => exact ⟨f, t, l', rfl⟩
    | [], h => simp at h
    | [_], h => simp at h
  have hp : parseS (UInt8.ofNat (f.toNat ^^^ (x.toNat &&& 72)) :: (if 128 ≤ f.toNat then UInt8.ofNat (t.toNat ^^^ (x.toNat &&& 15)) else t) :: l') = parseS (f :: t :: l') := by
    rw [parse_same]
    by_cases h : f.toNat < 128
    · simp only [parseS, if_pos h, Option.map_some]
    · simp only [if_neg h, Option.map_id']
  have HP := Lib.hid hp
  obtain ⟨n, hn⟩ : ∃ n, n = (f :: t :: l').length := ⟨_, rfl⟩
  rw [← hn] at hr hl h3' h2' h3 h2 ⊢
  have HN := Lib.hid hn
  have HR := Lib.hid hr
  have hx := x.toNat_lt
  have hf := f.toNat_lt
  have ht := t.toNat_lt
  have X1 : bits .xor .u8 (f.toNat : Int) (bits .and .u8 (x.toNat : Int) 72) = _ := xor_eq f x 72 (by decide)
  have X2 : bits .xor .u8 (t.toNat : Int) (bits .and .u8 (x.toNat : Int) 15) = _ := xor_eq t x 15 (by decide)
  have L1 : f.toNat ^^^ (x.toNat &&& 72) < 256 := xor_lt hf (and_lt' 72 hx)
  have L2 : t.toNat ^^^ (x.toNat &&& 15) < 256 := xor_lt ht (and_lt' 15 hx)
  generalize f.toNat ^^^ (x.toNat &&& 72) = f1 at *
  generalize t.toNat ^^^ (x.toNat &&& 15) = t1 at *
  have h15 := u8_and15 (x.toNat : Int) (by omega) (by omega)
  rw [h15] at X2
  have HX1 := Lib.hid X1
  have HX2 := Lib.hid X2
  clear hn hr hp X1 X2 h15
  go_enter Try.func7, Try.ntmps7
  go_wp2_with fail
  refine (awake_any w).mono ?_
  rintro e w1 ⟨rfl, b1⟩
  have HR1 := Lib.hid ((HR.out.below b1 (Nat.le_refl _)).more b1.size)
  have HB1 := Lib.hid b1
  clear b1 HR
  have HGA := HR1
  obtain ⟨cs, hcs, hmk⟩ := make_noughts n (by omega) w1
  have hown0 := World.ownsRow_lit (base := w1.heap.size) (e := 5) (size := 1) w1 cs n (Nat.le_refl _) (by unfold maxLen; omega) (by omega)
  have hcp := copy_eq (P := Try.prog) (c := c) (w1.alloc (.cells cs 5)) 22 3 5 Try.underlying22 (by kernel_rfl) hown0 0 (HR1.out.alloc (Nat.le_refl _) _) (by omega) (by omega) (u8s_one _) n
  rw [Nat.sub_zero] at hcp
  have hl0 : (u8s (f :: t :: l')).length = n := by rw [u8s_length, HN.out]
  have hown1 := own_cells (u8s (f :: t :: l')) 0 hown0 (by omega)
  have hx0 : (List.take 0 cs.toList ++ u8s (f :: t :: l') ++ List.drop (0 + (u8s (f :: t :: l')).length) cs.toList) = u8s (f :: t :: l') := by
    rw [hl0, List.drop_of_length_le (by simp; omega)]
    simp
  rw [hx0] at hown1
  have HOWN := Lib.hid hown1.1
  have HB2 := Lib.hid ((HB1.out.alloc HB1.out.size (.cells cs 5)).grown hown1.2 (by have := HB1.out.size; simp; omega) (fun k hk => by injection hk with hk; have := HB1.out.size; omega))
  obtain ⟨wY, hwY⟩ : ∃ wY, wY = (w1.alloc (.cells cs 5)).setCells w1.heap.size 0 (u8s (f :: t :: l')) := ⟨_, rfl⟩
  rw [← hwY] at HOWN HB2 hcp
  have HRY := Lib.hid (show Row wY wY.heap.size 1 A n (u8s (f :: t :: l')) from by
    have := hown1.2
    rw [← hwY] at this
    exact (((HR1.out.alloc (Nat.le_refl _) (.cells cs 5)).grown this (by simp) (fun k hk => by injection hk with hk; omega))).more (by have := this.size; simp at this; omega))
  obtain ⟨g, hg⟩ : ∃ g, g = w1.heap.size := ⟨_, rfl⟩
  rw [← hg] at HOWN hmk hcp
  have hgw : w.heap.size ≤ g := by have := HB1.out.size; omega
  have HGW := Lib.hid hgw
  clear hown0 hown1 hx0 hl0 HB1 HR1 hwY hgw
  have HG := Lib.hid hg
  clear hg
  obtain ⟨gA, oA, hA, hgA, hcA⟩ := HRY.out.2 (by omega)
  have a0 : wY.cell? ⟨gA, oA, none⟩ = some (.int .u8 (f.toNat : Int)) := hcA 0 _ rfl
  have q0 : wY.cell? ⟨g, 0, none⟩ = some (.int .u8 (f.toNat : Int)) := HOWN.out.cellAt 0 (by omega)
  have q1 : wY.cell? ⟨g, 1, none⟩ = some (.int .u8 (t.toNat : Int)) := HOWN.out.cellAt 1 (by omega)
  have m0 := HOWN.out.frozenAt 0
  have m1 := HOWN.out.frozenAt 1
  have hst := HOWN.out.stored 0 (.int .u8 (f1 : Int))
  have hs0 : (u8s (f :: t :: l')).set 0 (.int .u8 (f1 : Int)) = u8s (UInt8.ofNat f1 :: t :: l') := by simp [u8s]; omega
  rw [hs0] at hst
  have HO1 := Lib.hid hst.1
  have HB3 := Lib.hid (HB2.out.grown hst.2 HB2.out.size (fun k hk => by injection hk with hk; have := HGW.out; omega))
  have hgne : gA ≠ g := by
    intro e
    subst e
    have := HGA.out
    rw [hA] at this
    have := this.2 (by omega)
    obtain ⟨g1, o1, e1, h1, _⟩ := this
    injection e1 with e1
    injection e1 with e1
    have := HG.out
    omega
  have HRW := Lib.hid (show Row (wY.setCell ⟨g, 0, none⟩ (.int .u8 (f1 : Int))) (wY.setCell ⟨g, 0, none⟩ (.int .u8 (f1 : Int))).heap.size 1 A n (u8s (f :: t :: l')) from ⟨HRY.out.1, fun _ => ⟨gA, oA, hA, by simpa using hgA, fun j u hu => by
    rw [World.cell?_setCell_other wY ⟨g, 0, none⟩ ⟨gA, oA + j, none⟩ _ (fun e => hgne (by injection e with e; exact e.symm))]
    exact hcA j u hu⟩⟩)
  obtain ⟨c0, hc0⟩ : ∃ c0, c0 = UInt8.ofNat f1 :: (if 128 ≤ f.toNat then UInt8.ofNat t1 else t) :: l' := ⟨_, rfl⟩
  rw [← hc0] at HP
  have HC0 := Lib.hid hc0
  subst hA
  have HS := Lib.hid hst
  have HNE := Lib.hid hgne
  have HCA := Lib.hid hcA
  have hgA' : gA < wY.heap.size := hgA
  clear hc0 hst hs0 hcA hgA
  have x1 := HX1.out
  go_upto_if 41 with fail
  go_cut [] (fun wx => wx.ownsRow g 5 1 (.slice (some ⟨g, 0, none⟩) n n) n (u8s c0) ∧ Below w.heap.size w wx ∧ Row wx wx.heap.size 1 (some ⟨gA, oA, none⟩) n (u8s (f :: t :: l')))
  case first =>
    by_cases hb : 128 ≤ f.toNat
    · have hb' : (128 : Int) ≤ (f.toNat : Int) := by omega
      have hc := HC0.out
      rw [if_pos hb] at hc
      have hst2 := HO1.out.stored 1 (.int .u8 (t1 : Int))
      have hs1 : (u8s (UInt8.ofNat f1 :: t :: l')).set 1 (.int .u8 (t1 : Int)) = u8s c0 := by rw [hc]; simp [u8s]; omega
      rw [hs1] at hst2
      have hB4 := HB3.out.grown hst2.2 HB3.out.size (fun k hk => by injection hk with hk; have := HGW.out; omega)
      have hR4 : Row ((wY.setCell ⟨g, 0, none⟩ (.int .u8 (f1 : Int))).setCell ⟨g, 1, none⟩ (.int .u8 (t1 : Int))) ((wY.setCell ⟨g, 0, none⟩ (.int .u8 (f1 : Int))).setCell ⟨g, 1, none⟩ (.int .u8 (t1 : Int))).heap.size 1 (some ⟨gA, oA, none⟩) n (u8s (f :: t :: l')) := ⟨HRY.out.1, fun _ => ⟨gA, oA, rfl, by simpa using hgA', fun j u hu => by
        rw [World.cell?_setCell_other _ ⟨g, 1, none⟩ ⟨gA, oA + j, none⟩ _ (fun e => HNE.out (by injection e with e; exact e.symm)), World.cell?_setCell_other wY ⟨g, 0, none⟩ ⟨gA, oA + j, none⟩ _ (fun e => HNE.out (by injection e with e; exact e.symm))]
        exact HCA.out j u hu⟩⟩
      have HREL := Lib.hid (show _ ∧ _ ∧ _ from ⟨hst2.1, hB4, hR4⟩)
      have x2 := HX2.out
      clear hc hst2 hs1 hB4 hR4 hb
      go_wp2_with fail
      go_meet
      exact HREL.out
    · have hb' : ¬ (128 : Int) ≤ (f.toNat : Int) := by omega
      have hc := HC0.out
      rw [if_neg hb] at hc
      have HREL := Lib.hid (show _ ∧ _ ∧ _ from ⟨HO1.out, HB3.out, HRW.out⟩)
      rw [← hc] at HREL
      clear hc hb
      go_wp2_with fail
      go_meet
      exact HREL.out
  case rest =>
    obtain ⟨hown, hB, hR⟩ := hcut
    have hlc : c0.length = n := by have := hown.1; rw [u8s_length] at this; omega
    have hpt : pT c0 = pT (f :: t :: l') := by
      unfold pT
      rw [HP.out, hlc, HN.out]
    have HRC := Lib.hid (Row.of_own hown)
    have HRB := Lib.hid hR
    have HBc := Lib.hid hB
    have CB := fun wx h => vparse_any (some ⟨gA, oA, none⟩) c (f :: t :: l') wx h (by rw [← HN.out]; omega)
    have CC := fun wx h => vparse_any (some ⟨g, 0, none⟩) n c0 wx h (by omega)
    rw [← HN.out] at CB
    rw [hlc] at CC
    have HCB := Lib.hid CB
    have HCC := Lib.hid CC
    have HPT := Lib.hid hpt
    clear hown hB hR CB CC hpt x1
    go_wp2_with fail
    refine (HCB.out wc HRB.out).mono ?_
    rintro e w5 h5
    obtain ⟨rfl, b5⟩ := told_eq h5
    generalize pT (f :: t :: l') = T at HPT ⊢
    obtain ⟨d, sz, er⟩ := T
    obtain ⟨more, lone, start, part, hasPic, wide, pic, hasTl0, tl0, hasTid, tid, sync, hasKey, key⟩ := d
    have heq := fun wx => eql_desc wx ⟨more, lone, start, part, hasPic, wide, pic, hasTl0, tl0, hasTid, tid, sync, hasKey, key⟩ ⟨more, lone, start, part, hasPic, wide, pic, hasTl0, tl0, hasTid, tid, sync, hasKey, key⟩
    simp only [Dsc.eqb_self] at heq
    unfold Dsc.cells at heq ⊢
    dsimp only at heq ⊢
    have HB5 := Lib.hid (HBc.out.trans (b5.mono HBc.out.size))
    have HRC5 := Lib.hid ((HRC.out.below b5 (Nat.le_refl _)).more b5.size)
    clear b5 h5 HRC HRB HCB
    go_wp2_with fail
    refine (HCC.out _ ((HRC5.out.alloc (Nat.le_refl _) _).more (by simp))).mono ?_
    rintro e w6 h6
    obtain ⟨rfl, b6⟩ := told_eq h6
    rw [HPT.out]
    unfold Dsc.cells
    dsimp only
    have HW6 := Lib.hid ((Whole.new w5 26 #[.bool more, .bool lone, .bool start, .int .u8 (part : Int), .bool hasPic, .bool wide, .int .u16 (pic : Int), .bool hasTl0, .int .u8 (tl0 : Int), .bool hasTid, .int .u8 (tid : Int), .bool sync, .bool hasKey, .int .u8 (key : Int)]).below b6 (by simp))
    have HB6 := Lib.hid ((HB5.out.alloc HB5.out.size _).trans (b6.mono (by have := HB5.out.size; simp; omega)))
    have hg5 : w5.heap.size < w6.heap.size := HW6.out.lt
    have k0 : w6.cell? ⟨w5.heap.size, 0, none⟩ = some (.bool more) := HW6.out.cell 0
    have k1 : w6.cell? ⟨w5.heap.size, 1, none⟩ = some (.bool lone) := HW6.out.cell 1
    have k2 : w6.cell? ⟨w5.heap.size, 2, none⟩ = some (.bool start) := HW6.out.cell 2
    have k3 : w6.cell? ⟨w5.heap.size, 3, none⟩ = some (.int .u8 (part : Int)) := HW6.out.cell 3
    have k4 : w6.cell? ⟨w5.heap.size, 4, none⟩ = some (.bool hasPic) := HW6.out.cell 4
    have k5 : w6.cell? ⟨w5.heap.size, 5, none⟩ = some (.bool wide) := HW6.out.cell 5
    have k6 : w6.cell? ⟨w5.heap.size, 6, none⟩ = some (.int .u16 (pic : Int)) := HW6.out.cell 6
    have k7 : w6.cell? ⟨w5.heap.size, 7, none⟩ = some (.bool hasTl0) := HW6.out.cell 7
    have k8 : w6.cell? ⟨w5.heap.size, 8, none⟩ = some (.int .u8 (tl0 : Int)) := HW6.out.cell 8
    have k9 : w6.cell? ⟨w5.heap.size, 9, none⟩ = some (.bool hasTid) := HW6.out.cell 9
    have k10 : w6.cell? ⟨w5.heap.size, 10, none⟩ = some (.int .u8 (tid : Int)) := HW6.out.cell 10
    have k11 : w6.cell? ⟨w5.heap.size, 11, none⟩ = some (.bool sync) := HW6.out.cell 11
    have k12 : w6.cell? ⟨w5.heap.size, 12, none⟩ = some (.bool hasKey) := HW6.out.cell 12
    have k13 : w6.cell? ⟨w5.heap.size, 13, none⟩ = some (.int .u8 (key : Int)) := HW6.out.cell 13
    clear b6 h6 HRC5
    go_wp2
    go_ret
    exact ⟨by simp, HB6.out.alloc HB6.out.size _⟩
set_option maxRecDepth 100000 in
theorem lifted (os : Os) (started : os.Started) (H : Type) (enc : TypeId × Value → H) :
    ReturnsInHanded {} Try.checked os 7 .any (Rows.vp8IgnoresSpec.pre6 enc Try.prog Try.f7 Rows.vp8IgnoresRow.domain false) (Rows.vp8IgnoresSpec.post enc Try.prog Try.f7 false true false false) := by
  refine returnsInHanded_of_change (C := Try.checked) own started (by kernel_rfl) Try.func7
    (ChangeSpec.witness6 (enc := enc) (C := Try.checked) false ⟨#[], #[.slice none 0 0, .int .u8 0], []⟩ 8 (by kernel_rfl) (by kernel_rfl) (by kernel_rfl) (by kernel_rfl)) ?_
  intro W base args ds gs before hval0 hW _ _
  have hval : ∀ (j : Nat) t v, Try.f7.params[j]? = some t → args[j]? = some v → Value.okWide Try.prog W .any base t v := hval0
  have hW' := hW
  obtain ⟨p, q, hA0, hV, _, _, _⟩ := hW
  have hA : DataW.TrodAll enc Try.prog W 0 (fun _ => true) true Try.f7.params.toList args.toList ds p := hA0
  rw [Try.params7] at hA hval
  obtain ⟨v0, vs0, d0, ds0, p0, q0, hargs, rfl, _, h0, r0⟩ := trodAll_cons hA
  obtain ⟨v1, vs1, d1, ds1, p1, q1, rfl, rfl, _, h1, r1⟩ := trodAll_cons r0
  obtain ⟨rfl, rfl, _⟩ := trodAll_nil r1
  obtain rfl : args = #[v0, v1] := by cases args; simp_all
  obtain ⟨rfl, _⟩ := trodVars_none hV
  refine law_post (s := Rows.vp8IgnoresSpec) rfl rfl (by rw [Try.params7]; intro t ht; simp at ht; rcases ht with rfl | rfl <;> exact ⟨by kernel_rfl, of_decide_eq_true (by kernel_rfl)⟩) rfl hW' ?_
  obtain ⟨A0, c0, l0, rfl, hl0, hr0, _⟩ := open_bytes (hval 0 22 v0 rfl rfl) h0
  obtain ⟨x1, rfl⟩ := open_u8 (hval 1 5 v1 rfl rfl) h1
  exact walk W A0 c0 l0 hl0 hr0 x1

theorem over : Rows.vp8IgnoresRow.holds Try.pinned (OpenSpec.ofChange Rows.vp8IgnoresSpec) :=
  OpenClaim.holds_of_wide 7 Try.f7 rfl rfl rfl rfl rfl rfl rfl ⟨rfl, rfl, rfl, rfl, rfl⟩ rfl rfl rfl rfl rfl (by kernel_rfl) Try.func7 (by kernel_rfl)
    (of_decide_eq_true (by kernel_rfl)) (by unfold Func.isWrapper; first | (rw [if_pos (by decide +kernel)]; kernel_rfl) | (rw [if_neg (by decide +kernel)]; exact ⟨rfl, rfl⟩))
    (fun os started H enc _ => lifted os started H enc)

/-- The statement. -/
theorem vp8Ignores_holds : Rows.Vp8IgnoresSaid := over

end Go.Proofs.Ytliiodjcpkabmaa.VIgnores
