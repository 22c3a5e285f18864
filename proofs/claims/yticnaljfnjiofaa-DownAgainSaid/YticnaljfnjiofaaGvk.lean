/-
  Several texts in one (VpK, VpY): what each of them says stands at its head.
-/
import Derived.Test.YticnaljfnjiofaaGvi
import Derived.Test.YticnaljfnjiofaaVpB
import Derived.Test.YticnaljfnjiofaaGvl
import Derived.Laws.IdiomCopy
import Derived.Laws.OwnMore
import Derived.Deep.CutBlock
import Derived.Deep.DeepCutAuto
import Derived.RegionTactic
import Derived.Deep.AppendLies
/-
  The contract of vp8's Write.
-/
namespace Go.Proofs.Yticnaljfnjiofaa
open Go.RowKit

/-- What Write tells. -/
def WriteTold (b : List UInt8) (pic tl0 : Nat) (w : World) (e : Ending) (w' : World) : Prop :=
  (parseS b = none ∧ e = .returned (.tuple #[.slice none 0 0, .int .i64 10]) ∧ Below w.heap.size w w') ∨
    ∃ d r A c, parseS b = some (d, r) ∧ e = .returned (.tuple #[.slice A b.length c, .int .i64 0]) ∧ w'.ownsRow w.heap.size 5 1 (.slice A b.length c) b.length (u8s (writeS d pic tl0 b)) ∧ Below w.heap.size w w'

theorem grown_from' {w w1 w' : World} {row : Option Nat} (h : w.grownBy w1 row) (k : w1.grownBy w' row) : w.grownBy w' row :=
  ⟨k.os.trans h.os, k.tape.trans h.tape, k.output.trans h.output, Nat.le_trans h.size k.size, fun i hi hne => (k.block i (Nat.lt_of_lt_of_le hi h.size) hne).trans (h.block i hi hne)⟩
/-- Behind a copy onto a part of a row of the call's own. -/
theorem own_cells {w : World} {base g n cap : Nat} {e : TypeId} {xs : List Value} : ∀ (cs : List Value) (o : Nat), w.ownsRow base e 1 (.slice (some ⟨g, 0, none⟩) n cap) n xs → o + cs.length ≤ n →
    (w.setCells g o cs).ownsRow base e 1 (.slice (some ⟨g, 0, none⟩) n cap) n (xs.take o ++ cs ++ xs.drop (o + cs.length)) ∧ w.grownBy (w.setCells g o cs) (some g)
  | [], o, h, _ => by rw [World.setCells.eq_1]; exact ⟨by simpa using h, World.grownBy.refl _ _⟩
  | c :: cs, o, h, hl => by
    have h1 := h.stored o c
    have hx : xs.length = n := by have := h.1; omega
    simp only [List.length_cons] at hl
    have h2 := own_cells cs (o + 1) h1.1 (by omega)
    rw [World.setCells.eq_2]
    refine ⟨?_, grown_from' h1.2 h2.2⟩
    have e : (xs.set o c).take (o + 1) ++ cs ++ (xs.set o c).drop (o + 1 + cs.length) = xs.take o ++ (c :: cs) ++ xs.drop (o + (c :: cs).length) := by
      rw [List.take_set, List.drop_set_of_lt (by omega)]
      have e1 : (xs.take (o + 1)).set o c = xs.take o ++ [c] := by
        rw [List.take_succ_eq_append_getElem (by omega), List.set_append_right _ _ (by simp; omega)]
        simp [List.length_take, Nat.min_eq_left (show o ≤ xs.length by omega)]
      rw [e1]
      simp [Nat.add_assoc, Nat.add_comm 1]
    rw [← e]
    exact h2.1

theorem setCells_below {b : Nat} {w0 : World} {g : Nat} : ∀ (cs : List Value) (o : Nat) {w : World}, Below b w0 w → b ≤ g → Below b w0 (w.setCells g o cs)
  | [], o, w, h, _ => by rw [World.setCells.eq_1]; exact h
  | c :: cs, o, w, h, hg => by rw [World.setCells.eq_2]; exact setCells_below cs (o + 1) (h.setCell hg c) hg

/-- 'copy' of bytes of the call's own onto a part of a row of the call's own. -/
theorem copy_eq {P : Program} (w : World) (t ty el : TypeId) (hu : P.underlying t = some (.slice el)) (hs : (P.info? el).map (fun x => x.size) = some 1) {base : Nat} {g n cap : Nat} {xs : List Value} (h : w.ownsRow base el 1 (.slice (some ⟨g, 0, none⟩) n cap) n xs)
    (o : Nat) {B : Nat} {A : Option Addr} {m c : Nat} {cs : List Value} (hr : Row w B 1 A m cs) (hm : 0 < m) (ho : o + m ≤ n) (h1 : ∀ v ∈ cs, v.oneCell' = true) (cap' : Nat) :
    (Builtin.copy_ #[t, t] ty #[.slice (some ⟨g, o, none⟩) (n - o) cap', .slice A m c]).run P w = .ok (goInt (m : Int)) (w.setCells g o cs) := by
  obtain ⟨gs, os, rfl, _, hc⟩ := hr.2 hm
  have hl : cs.length = m := by have := hr.1; omega
  have := run_copy_cells (P := P) w t t ty el g o (n - o) cap' ⟨gs, os, none⟩ m c cs hu hs (by rw [hl]; exact (Nat.min_eq_left (by omega)).symm) (fun j v hj => by rw [Addr.add_lit]; exact hc j v hj)
    (fun j hj => by
      rw [h.cellAt (o + j) (by omega)]
      have hx := h.1
      rw [List.getElem?_eq_getElem (by omega)]
      rfl) (fun j _ => h.frozenAt (o + j)) h1
  rw [hl] at this
  exact this

theorem set_u8 (a m : List UInt8) (x : UInt8) (v : Nat) (h : v < 256) (k : Nat) (hk : k = a.length) : (u8s (a ++ x :: m)).set k (.int .u8 (v : Int)) = u8s (a ++ ([UInt8.ofNat v] ++ m)) := by
  subst hk
  have e : ((UInt8.ofNat v).toNat : Int) = (v : Int) := by rw [toNat_of h]
  unfold u8s
  rw [List.map_append, List.set_append_right _ _ (by simp)]
  simp only [List.map_cons, List.map_append, List.length_map, Nat.sub_self, List.set_cons_zero, e, List.cons_append, List.nil_append]

set_option maxRecDepth 100000 in
set_option maxHeartbeats 1600000 in
theorem write_any (A : Option Addr) (c : Nat) (b : List UInt8) (pic tl0 : Nat) (hpic : pic < 65536) (htl : tl0 < 256) (w : World) (h : Row w w.heap.size 1 A b.length (u8s b)) (hl : b.length ≤ 100000) :
    Calls Try.prog 62 #[.slice A b.length c, .int .u16 (pic : Int), .int .u8 (tl0 : Int)] w (WriteTold b pic tl0 w) := by
  have C := Lib.hid (vparse_any A c b w h hl)
  have HR := Lib.hid h
  cases hp : parseS b with
  | none =>
    have HF := Lib.hid (show ∀ w', Below w.heap.size w w' → WriteTold b pic tl0 w (.returned (.tuple #[.slice none 0 0, .int .i64 10])) w' from fun w' h => .inl ⟨hp, rfl, h⟩)
    have HP := Lib.hid hp
    clear hp h
    go_enter Try.func62, Try.ntmps62
    go_wp2_with fail
    refine C.out.mono ?_
    rintro e w1 ⟨hh, b1⟩
    rw [HP.out] at hh
    obtain rfl : e = .returned (.tuple #[.agg dsc0.cells, .int .i64 0, .int .i64 10]) := by simpa using hh
    have HB := Lib.hid b1
    clear hh b1
    unfold dsc0 Dsc.cells
    dsimp only
    go_wp2
    go_ret2
    exact HF.out _ (HB.out.alloc HB.out.size _)
  | some x =>
    obtain ⟨d, r⟩ := x
    have HF := Lib.hid (show ∀ A c w', w'.ownsRow w.heap.size 5 1 (.slice A b.length c) b.length (u8s (writeS d pic tl0 b)) → Below w.heap.size w w' → WriteTold b pic tl0 w (.returned (.tuple #[.slice A b.length c, .int .i64 0])) w' from fun A c w' h1 h2 => .inr ⟨d, r, A, c, hp, rfl, h1, h2⟩)
    have HP := Lib.hid hp
    obtain ⟨pre, hpre, hps⟩ := parse_size hp
    have hbl : d.size ≤ b.length := by rw [hpre]; simp; omega
    have hmw : d.hasPic = true ∨ d.hasTl0 = true → d.more = true := by
      rcases parse_cases hp with ⟨f, hf, _, rfl⟩ | ⟨f, t, l, l1, l2, d1, d2, hf, _, h1, h2, h3⟩
      · simp [firstD, dsc0]
      · intro _
        rcases picForm h1 with ⟨_, _, rfl⟩ | ⟨_, p, _, _, rfl⟩ | ⟨_, p, q, _, _, rfl⟩ <;> rcases tl0Form h2 with ⟨_, _, rfl⟩ | ⟨_, x, _, rfl⟩ <;> rcases lastForm h3 with ⟨_, _, rfl⟩ | ⟨_, z, _, rfl⟩ <;> simp [setT_more, firstD, dsc0, hf]
    have hs1 : d.hasPic = true → 2 + (picB d.wide pic).length + (if d.hasTl0 then 1 else 0) ≤ b.length := by
      intro hh
      have := hmw (.inl hh)
      unfold Dsc.size Dsc.pw at hbl
      rw [this, hh] at hbl
      unfold picB
      cases hw : d.wide <;> rw [hw] at hbl <;> simp at hbl ⊢ <;> omega
    have hs2 : d.hasTl0 = true → 2 + d.pw + 1 ≤ b.length := by
      intro hh
      have := hmw (.inr hh)
      unfold Dsc.size at hbl
      rw [this, hh] at hbl
      simp at hbl
      omega
    have hn1 : 1 ≤ b.length := by
      have : 1 ≤ d.size := by unfold Dsc.size; split <;> omega
      omega
    have hwp : d.wide = true → d.hasPic = true := by
      rcases parse_cases hp with ⟨f, hf, _, rfl⟩ | ⟨f, t, l, l1, l2, d1, d2, hf, _, h1, h2, h3⟩
      · simp [firstD, dsc0]
      · rcases picForm h1 with ⟨_, _, rfl⟩ | ⟨_, p, _, _, rfl⟩ | ⟨_, p, q, _, _, rfl⟩ <;> rcases tl0Form h2 with ⟨_, _, rfl⟩ | ⟨_, x, _, rfl⟩ <;> rcases lastForm h3 with ⟨_, _, rfl⟩ | ⟨_, z, _, rfl⟩ <;> simp [setT_more, firstD, dsc0]
    have hpl : d.pw = (if d.hasPic then picB d.wide pic else []).length := by
      unfold Dsc.pw picB
      cases hw : d.wide
      · cases d.hasPic <;> simp
      · rw [hwp hw]; simp
    clear hpre hps hbl hmw hp h hwp
    obtain ⟨n, hn⟩ : ∃ n, n = b.length := ⟨_, rfl⟩
    rw [← hn] at HF C HR hl hs1 hs2 hn1 ⊢
    have HN := Lib.hid hn
    have HS1 := Lib.hid hs1
    obtain ⟨res, hres⟩ : ∃ res, res = writeS d pic tl0 b := ⟨_, rfl⟩
    rw [← hres] at HF
    obtain ⟨pp, hpp⟩ : ∃ pp, pp = (if d.hasPic then picB d.wide pic else []) := ⟨_, rfl⟩
    rw [← hpp] at hpl
    rw [hpl] at hs2
    have HPP := Lib.hid hpp
    have HRES := Lib.hid (show res = b.take 2 ++ pp ++ (if d.hasTl0 then [UInt8.ofNat tl0] else []) ++ b.drop (2 + pp.length + (if d.hasTl0 then 1 else 0)) from by rw [hres]; unfold writeS; rw [← hpp, hpl])
    have HRT := Lib.hid (parse_fits HP.out)
    have HS2 := Lib.hid hs2
    clear hn hs1 hs2 hres hpp hpl
    go_enter Try.func62, Try.ntmps62
    go_wp2_with fail
    refine C.out.mono ?_
    rintro e w1 ⟨hh, b1⟩
    rw [HP.out] at hh
    obtain ⟨sz, rfl⟩ : ∃ sz, e = .returned (.tuple #[.agg d.cells, .int .i64 sz, .int .i64 0]) := by
      rcases hh with ⟨h, _⟩ | ⟨d', r', h1, h2⟩
      · cases h
      · injection h1 with h1
        injection h1 with h1 h3
        subst h1 h3
        exact ⟨_, h2⟩
    have HB := Lib.hid b1
    have HRow := Lib.hid ((HR.out.below b1 (Nat.le_refl _)).more b1.size)
    clear hh b1 C HR
    obtain ⟨more, lone, start, part, hasPic, wide, pic0, hasTl0, tl00, hasTid, tid, sync, hasKey, key⟩ := d
    unfold Dsc.cells
    dsimp only at HRES HPP HS1 HS2 ⊢
    go_wp2_with fail
    have hz1 := HB.out.size
    refine (clone_any A n c b _ ((HRow.out.alloc (Nat.le_refl _) _).more (by simp)) (by omega)).mono ?_
    rintro e w3 ⟨A', c', rfl, own3, b3⟩
    obtain ⟨g, cap, hv, hgb, hgl⟩ := own3.form (by omega)
    obtain ⟨rfl, rfl⟩ : A' = some ⟨g, 0, none⟩ ∧ c' = cap := by
      injection hv with h1 h2 h3
      exact ⟨h1, h3⟩
    clear hv
    have hcap := (own_cap own3).1
    have hD := (Whole.new w1 46 #[.bool more, .bool lone, .bool start, .int .u8 (part : Int), .bool hasPic, .bool wide, .int .u16 (pic0 : Int), .bool hasTl0, .int .u8 (tl00 : Int), .bool hasTid, .int .u8 (tid : Int), .bool sync, .bool hasKey, .int .u8 (key : Int)]).below b3 (by simp)
    have hB3 : Below w.heap.size w w3 := (HB.out.alloc HB.out.size _).trans (b3.mono (by simp; omega))
    simp only [World.size_alloc] at own3 hgb
    obtain ⟨gd, hgd⟩ : ∃ gd, gd = w1.heap.size := ⟨_, rfl⟩
    rw [← hgd] at hD own3 hgb hz1 ⊢
    have HOWN := Lib.hid own3
    have HD := Lib.hid hD
    have HB3 := Lib.hid hB3
    have k4 : w3.cell? ⟨gd, 4, none⟩ = some (.bool hasPic) := hD.cell 4
    have hgw : gd < w3.heap.size := hD.lt
    clear own3 hD hB3 b3 HB HRow hgd
    go_upto_if 25 with fail
    go_cut [12] (fun s12 wx => s12 = .int .i64 (2 + (pp.length : Int)) ∧ wx.ownsRow (gd + 1) 5 1 (.slice (some ⟨g, 0, none⟩) n c') n (u8s (b.take 2 ++ pp ++ b.drop (2 + pp.length))) ∧ Whole wx gd 46 #[.bool more, .bool lone, .bool start, .int .u8 (part : Int), .bool hasPic, .bool wide, .int .u16 (pic0 : Int), .bool hasTl0, .int .u8 (tl00 : Int), .bool hasTid, .int .u8 (tid : Int), .bool sync, .bool hasKey, .int .u8 (key : Int)] ∧ Below w.heap.size w wx)
    case first =>
      cases hasPic with
      | false =>
        have e1 : pp = [] := by simpa using HPP.out
        subst e1
        go_wp2_with fail
        go_meet
        exact ⟨by simp, by simpa using HOWN.out, HD.out, HB3.out⟩
      | true =>
        have e1 : pp = picB wide pic := by simpa using HPP.out
        have hs1 := HS1.out rfl
        rw [← e1] at hs1
        have C := Lib.hid (fun wx => picOf_any pic wide wx hpic)
        rw [← e1] at C
        have hpp0 : 0 < pp.length := by rw [e1]; unfold picB; split <;> simp
        have hpp2 : pp.length ≤ 2 := by rw [e1]; unfold picB; split <;> simp
        have k5 : w3.cell? ⟨gd, 5, none⟩ = some (.bool wide) := HD.out.cell 5
        have hn3 : 2 + pp.length ≤ n := by omega
        have hc2 : ¬ c' = 2 := by omega
        have hc3 : (2 : Int) ≤ (c' : Int) := by omega
        have hn4 : (2 : Int) ≤ (n : Int) := by omega
        have hww : IntKind.i64.wrap (2 + (pp.length : Int)) = 2 + (pp.length : Int) := IntWalk.i64_in _ (by omega)
        clear e1 HPP hs1 HS1
        go_wp2_with fail
        have HCP := Lib.hid (show ∀ w4 A4 c4, Below w3.heap.size w3 w4 → w4.ownsRow w3.heap.size 5 1 (.slice A4 pp.length c4) pp.length (u8s pp) →
            (Builtin.copy_ #[33, 33] 3 #[.slice (some ⟨g, 2, none⟩) (n - 2) (c' - 2), .slice A4 pp.length c4]).run Try.prog w4 = .ok (goInt (pp.length : Int)) (w4.setCells g 2 (u8s pp)) from fun w4 A4 c4 hb ho =>
          copy_eq (P := Try.prog) w4 33 3 5 Try.underlying33 (by kernel_rfl) (own_below HOWN.out hb (Nat.le_refl _)) 2 (Row.of_own ho) hpp0 hn3 (u8s_one _) (c' - 2))
        have HC2 := Lib.hid (show ∀ w4 A4 c4, Below w3.heap.size w3 w4 → w4.ownsRow w3.heap.size 5 1 (.slice A4 pp.length c4) pp.length (u8s pp) →
            (w4.setCells g 2 (u8s pp)).ownsRow (gd + 1) 5 1 (.slice (some ⟨g, 0, none⟩) n c') n (u8s (b.take 2 ++ pp ++ b.drop (2 + pp.length))) ∧ Whole (w4.setCells g 2 (u8s pp)) gd 46 #[.bool more, .bool lone, .bool start, .int .u8 (part : Int), .bool true, .bool wide, .int .u16 (pic0 : Int), .bool hasTl0, .int .u8 (tl00 : Int), .bool hasTid, .int .u8 (tid : Int), .bool sync, .bool hasKey, .int .u8 (key : Int)] ∧ Below w.heap.size w (w4.setCells g 2 (u8s pp)) from fun w4 A4 c4 hb ho => by
          have h1 := own_cells (u8s pp) 2 (own_below HOWN.out hb (Nat.le_refl _)) (by rw [u8s_length]; omega)
          refine ⟨?_, (HD.out.below hb hgw).grown h1.2 (by simp; omega), (HB3.out.trans (hb.mono HB3.out.size)).grown h1.2 (by have := HB3.out.size; have := hb.size; omega) (fun k hk => by injection hk with hk; omega)⟩
          have := h1.1
          rw [u8s_length, ← u8s_take, ← u8s_drop, ← u8s_append, ← u8s_append] at this
          exact this)
        go_region_with (go_at_call 83; refine (C.out _).mono ?_; rintro e w4 ⟨A4, c4, rfl, own4, b4⟩; have hb4 : Below w3.heap.size w3 w4 := ⟨b4.os, b4.tape, b4.output, b4.size, b4.block⟩; have hcp := HCP.out w4 A4 c4 hb4 own4)
        all_goals
          have hfin := Lib.hid (HC2.out w4 A4 c4 hb4 own4)
          clear hcp HCP HC2 hb4 own4 b4
          go_wp2_with fail
          go_meet
          exact ⟨by first | rfl | simp, hfin.out.1, hfin.out.2.1, ⟨hfin.out.2.2.os, hfin.out.2.2.tape, hfin.out.2.2.output, hfin.out.2.2.size, hfin.out.2.2.block⟩⟩
    case rest =>
      obtain ⟨rfl, hown, hD, hB⟩ := hcut
      have hx : (u8s (b.take 2 ++ pp ++ b.drop (2 + pp.length))).length = n := by have := hown.1; omega
      have k7 : wc.cell? ⟨gd, 7, none⟩ = some (.bool hasTl0) := hD.cell 7
      cases hasTl0 with
      | false =>
        have hres : res = b.take 2 ++ pp ++ b.drop (2 + pp.length) := by rw [HRES.out]; simp
        rw [← hres] at hown
        have HG := Lib.hid (HF.out _ _ _ (own_base hown (by omega)) hB)
        clear hown hD hB hres hx
        go_wp2
        go_ret2
        exact HG.out
      | true =>
        have hs2 : 2 + pp.length + 1 ≤ n := HS2.out rfl
        have q0 := hown.cellAt (2 + pp.length) (by omega)
        rw [List.getElem?_eq_getElem (by omega)] at q0
        obtain ⟨u, hu⟩ : ∃ u, u = (u8s (b.take 2 ++ pp ++ b.drop (2 + pp.length)))[2 + pp.length]'(by omega) := ⟨_, rfl⟩
        rw [← hu] at q0
        have q1 := hown.frozenAt (2 + pp.length)
        have hst := hown.stored (2 + pp.length) (.int .u8 (tl0 : Int))
        have hres : (u8s (b.take 2 ++ pp ++ b.drop (2 + pp.length))).set (2 + pp.length) (.int .u8 (tl0 : Int)) = u8s res := by
          rw [HRES.out]
          have hb2 : (b.take 2).length = 2 := by have := HN.out; simp [List.length_take]; omega
          have h1 : b.drop (2 + pp.length) = (b[2 + pp.length]'(by have := HN.out; omega)) :: b.drop (2 + pp.length + 1) := List.drop_eq_getElem_cons _
          rw [h1]
          rw [set_u8 (b.take 2 ++ pp) _ _ tl0 htl _ (by rw [List.length_append, hb2])]
          simp
        rw [hres] at hst
        have HG := Lib.hid (HF.out _ _ _ (own_base hst.1 (by omega)) (hB.grown hst.2 hB.size (fun k hk => by injection hk with hk; omega)))
        have hi1 : (0 : Int) ≤ 2 + (pp.length : Int) := by omega
        have hi2 : 2 + (pp.length : Int) < (n : Int) := by omega
        clear hst hres hown hD hB hx hu
        go_wp2
        go_ret2
        exact HG.out
end Go.Proofs.Yticnaljfnjiofaa
/-
  What Write tells, as a plain pair; a slice from some place on.
-/
namespace Go.Proofs.Yticnaljfnjiofaa
open Go.RowKit

/-- What is written, and the error. -/
def wT (b : List UInt8) (pic tl0 : Nat) : List UInt8 × Int :=
  match parseS b with
  | none => ([], 10)
  | some (d, _) => (writeS d pic tl0 b, 0)
theorem wT_len (b : List UInt8) (pic tl0 : Nat) (ht : tl0 < 256) : (wT b pic tl0).1.length ≤ b.length := by
  unfold wT
  cases hp : parseS b with
  | none => simp
  | some x =>
    obtain ⟨d, r⟩ := x
    have := (write_facts hp pic tl0 ht).2.1
    show (writeS d pic tl0 b).length ≤ b.length
    omega
theorem wtold {b : List UInt8} {pic tl0 : Nat} {w w' : World} {e : Ending} (ht : tl0 < 256) (h : WriteTold b pic tl0 w e w') :
    (∃ A c, e = .returned (.tuple #[.slice A (wT b pic tl0).1.length c, .int .i64 (wT b pic tl0).2]) ∧ (wT b pic tl0).1.length ≤ c ∧ Row w' w'.heap.size 1 A (wT b pic tl0).1.length (u8s (wT b pic tl0).1)) ∧ Below w.heap.size w w' := by
  unfold wT
  rcases h with ⟨hp, rfl, hb⟩ | ⟨d, r, A, c, hp, rfl, hown, hb⟩
  · rw [hp]
    exact ⟨⟨none, 0, rfl, Nat.le_refl _, Row.nil⟩, hb⟩
  · have hl := (write_facts hp pic tl0 ht).2.1
    rw [hp]
    refine ⟨⟨A, c, ?_, ?_, ?_⟩, hb⟩
    · dsimp only; rw [hl]
    · dsimp only; rw [hl]; exact (own_cap hown).1
    · dsimp only; rw [hl]; exact Row.of_own hown

/-- s[k:], and the text of it. -/
theorem run_from (A : Option Addr) (n c k : Nat) (hk : k ≤ n) (w : World) :
    (Instr.slice 33 (.slice A n c) (some (.int .i64 (k : Int))) none none).run Try.prog w = .ok (.slice (if c = k then A else A.map fun x => x.add k) (n - k) (c - k)) w := by
  have hs : (sizeOf (Try.prog.elem 33)).run Try.prog w = .ok 1 w := by kernel_rfl
  rw [run_slice_l (P := Try.prog) w 33 A n c (by kernel_rfl) .i64 k (by omega) (by omega), hs]
  simp [Result.andThen, sliced]
end Go.Proofs.Yticnaljfnjiofaa
