/-
  Package down (layer 14): what Take tells.
-/
import Derived.Test.YticnaljfnjiofaaDnCp
namespace Go.Proofs.Yticnaljfnjiofaa
open Go.RowKit
set_option linter.unusedSimpArgs false
set_option linter.unusedVariables false
set_option maxRecDepth 100000

/-- What Take tells. -/
def DTold (d : Dn) (x : Sx) (g : Nat) (S : Nat → Prop) (w : World) (e : Ending) (w' : World) : Prop :=
  ∃ A c S', e = .returned (.tuple #[.slice A (d.told x).length c, .bool (d.is x), .bool (d.asks x)]) ∧ DnAt w' g S' (d.next x) ∧ Row w' w'.heap.size 1 A (d.told x).length (u8s (d.told x)) ∧ (d.told x).length ≤ c ∧ c ≤ maxLen ∧ But S w w' ∧ ∀ k, k < w.heap.size → S' k → S k
theorem told_of_pass {d : Dn} {x : Sx} {g : Nat} {S : Nat → Prop} {w w' : World} {A : Option Addr} {n c : Nat} {b q : Bool} (h : PassTold d x g S w (.returned (.tuple #[.slice A n c, .bool b])) w') (hq : d.asks x = q) : DTold d x g S w (.returned (.tuple #[.slice A n c, .bool b, .bool q])) w' := by
  obtain ⟨A', c', S', he, h1⟩ := h
  simp only [Ending.returned.injEq, Value.tuple.injEq, Array.mk.injEq, List.cons.injEq, Value.slice.injEq, Value.bool.injEq, and_true] at he
  obtain ⟨⟨rfl, rfl, rfl⟩, rfl⟩ := he
  exact ⟨A, c, S', by rw [hq], h1⟩
theorem take_muted {d : Dn} {x : Sx} (hm : x.muted = true) : d.take x = ({ d with pick := { d.pick with on := false }, left := d.left + 1 }, none) := by
  unfold Dn.take; rw [if_pos hm]
set_option maxHeartbeats 6400000 in
theorem dtake_any (d : Dn) (sa : Sa) (g : Nat) (S : Nat → Prop) (w : World) (hd : DnAt w g S d) (hf : d.few) (ha : sa.q.At w S) :
    Calls Try.prog 12 #[.pointer (some ⟨g, 0, none⟩), .agg sa.q.cells.toArray, .int .i64 sa.src, .int .i64 sa.lay, .agg sa.want.cells, .bool sa.muted] w (DTold d sa.x g S w) := by
  have HD := Lib.hid hd
  have HFW := Lib.hid hf
  have HA := Lib.hid ha
  have hlt0 := hd.lt
  have HLT := Lib.hid hlt0
  obtain ⟨pk, gs, mm, r, hpk, hW, hst, hS, hlt, hne⟩ := hd
  have hgl := hlt g hS.1
  have hfc := hf.1
  have HH := Lib.hid (And.intro hst (And.intro hS (And.intro hlt hne)))
  have HWG := Lib.hid (show Whole w g 78 #[.int .u32 (d.ssrc : Int), .bool pk.on, .int .i64 pk.src, .int .i64 pk.lay, .int .i64 pk.tid, .bool d.nums.on, .int .i64 d.nums.high, .int .i64 d.nums.since, .int .u16 d.nums.off.seq, .int .u32 d.nums.off.time, .int .u16 d.nums.off.pic, .int .u8 d.nums.off.tl0, .int .u16 d.nums.out.seq, .int .u32 d.nums.out.time, .int .u16 d.nums.out.pic, .int .u8 d.nums.out.tl0, .pointer (some ⟨gs, 0, none⟩), .int .i64 (d.sent : Int), .int .i64 (d.left : Int), .int .i64 (d.drop : Int), .int .i64 (d.late : Int), .int .i64 (d.bad : Int)] from hW)
  clear hpk hW hst hS hlt hne ha hlt0 hf
  dsimp only [Pq.cells, Cw.cells]
  obtain ⟨mu, hmu⟩ : ∃ z, sa.muted = z := ⟨_, rfl⟩
  rw [hmu]
  have HMU := Lib.hid hmu
  clear hmu
  cases mu with
  | true =>
    have d1 := HWG.out.cell 1
    have d2 := HWG.out.cell 2
    have d3 := HWG.out.cell 3
    have d4 := HWG.out.cell 4
    have d18 := HWG.out.cell 18
    have fd1 := HWG.out.free 1
    have fd2 := HWG.out.free 2
    have fd3 := HWG.out.free 3
    have fd4 := HWG.out.free 4
    have fd18 := HWG.out.free 18
    have hw1 : IntKind.i64.wrap ((d.left : Int) + 1) = d.left + 1 := IntWalk.i64_in _ (by omega)
    go_enter Try.func12, Try.ntmps12
    go_wp2_with fail
    have e1 : (d.left : Int) + 1 = ((d.left + 1 : Nat) : Int) := by omega
    rw [e1]
    obtain ⟨hst, hS, hlt, hne⟩ := HH.out
    exact bodyPost_ret (v := .tuple #[.slice none 0 0, .bool false, .bool false]) (by simp [results, Try.results12, go_sem]) rfl (told_of_pass (pass_quiet (d' := { d with pick := { d.pick with on := false }, left := d.left + 1 }) (pk := ⟨false, 0, 0, 0⟩) hS hlt hne hst (take_muted HMU.out) ⟨rfl, fun h => absurd h Bool.false_ne_true⟩ (((show Whole _ _ _ #[.int .u32 (d.ssrc : Int), .bool false, .int .i64 0, .int .i64 0, .int .i64 0, .bool d.nums.on, .int .i64 d.nums.high, .int .i64 d.nums.since, .int .u16 d.nums.off.seq, .int .u32 d.nums.off.time, .int .u16 d.nums.off.pic, .int .u8 d.nums.off.tl0, .int .u16 d.nums.out.seq, .int .u32 d.nums.out.time, .int .u16 d.nums.out.pic, .int .u8 d.nums.out.tl0, .pointer (some ⟨gs, 0, none⟩), .int .i64 (d.sent : Int), .int .i64 ((d.left + 1 : Nat) : Int), .int .i64 (d.drop : Int), .int .i64 (d.late : Int), .int .i64 (d.bad : Int)] from ((show Whole _ _ _ #[.int .u32 (d.ssrc : Int), .bool false, .int .i64 0, .int .i64 0, .int .i64 0, .bool d.nums.on, .int .i64 d.nums.high, .int .i64 d.nums.since, .int .u16 d.nums.off.seq, .int .u32 d.nums.off.time, .int .u16 d.nums.off.pic, .int .u8 d.nums.off.tl0, .int .u16 d.nums.out.seq, .int .u32 d.nums.out.time, .int .u16 d.nums.out.pic, .int .u8 d.nums.out.tl0, .pointer (some ⟨gs, 0, none⟩), .int .i64 (d.sent : Int), .int .i64 (d.left : Int), .int .i64 (d.drop : Int), .int .i64 (d.late : Int), .int .i64 (d.bad : Int)] from ((show Whole _ _ _ #[.int .u32 (d.ssrc : Int), .bool false, .int .i64 0, .int .i64 0, .int .i64 pk.tid, .bool d.nums.on, .int .i64 d.nums.high, .int .i64 d.nums.since, .int .u16 d.nums.off.seq, .int .u32 d.nums.off.time, .int .u16 d.nums.off.pic, .int .u8 d.nums.off.tl0, .int .u16 d.nums.out.seq, .int .u32 d.nums.out.time, .int .u16 d.nums.out.pic, .int .u8 d.nums.out.tl0, .pointer (some ⟨gs, 0, none⟩), .int .i64 (d.sent : Int), .int .i64 (d.left : Int), .int .i64 (d.drop : Int), .int .i64 (d.late : Int), .int .i64 (d.bad : Int)] from ((show Whole _ _ _ #[.int .u32 (d.ssrc : Int), .bool false, .int .i64 0, .int .i64 pk.lay, .int .i64 pk.tid, .bool d.nums.on, .int .i64 d.nums.high, .int .i64 d.nums.since, .int .u16 d.nums.off.seq, .int .u32 d.nums.off.time, .int .u16 d.nums.off.pic, .int .u8 d.nums.off.tl0, .int .u16 d.nums.out.seq, .int .u32 d.nums.out.time, .int .u16 d.nums.out.pic, .int .u8 d.nums.out.tl0, .pointer (some ⟨gs, 0, none⟩), .int .i64 (d.sent : Int), .int .i64 (d.left : Int), .int .i64 (d.drop : Int), .int .i64 (d.late : Int), .int .i64 (d.bad : Int)] from ((show Whole _ _ _ #[.int .u32 (d.ssrc : Int), .bool false, .int .i64 pk.src, .int .i64 pk.lay, .int .i64 pk.tid, .bool d.nums.on, .int .i64 d.nums.high, .int .i64 d.nums.since, .int .u16 d.nums.off.seq, .int .u32 d.nums.off.time, .int .u16 d.nums.off.pic, .int .u8 d.nums.off.tl0, .int .u16 d.nums.out.seq, .int .u32 d.nums.out.time, .int .u16 d.nums.out.pic, .int .u8 d.nums.out.tl0, .pointer (some ⟨gs, 0, none⟩), .int .i64 (d.sent : Int), .int .i64 (d.left : Int), .int .i64 (d.drop : Int), .int .i64 (d.late : Int), .int .i64 (d.bad : Int)] from (HWG.out).set 1 (.bool false))).set 2 (.int .i64 0))).set 3 (.int .i64 0))).set 4 (.int .i64 0))).set 18 (.int .i64 ((d.left + 1 : Nat) : Int))).alloc (.cells #[.bool sa.q.h.mark, .int .u8 (sa.q.h.typ : Int), .int .u16 (sa.q.h.seq : Int), .int .u32 (sa.q.h.time : Int), .int .u32 (sa.q.h.ssrc : Int), .slice sa.q.h.A1 sa.q.h.csrc.length sa.q.h.c1, .slice sa.q.h.A2 sa.q.h.ps.length sa.q.h.c2, .slice sa.q.A3 sa.q.pay.length sa.q.c3, .int .i64 sa.q.pad] 35)).alloc (.cells #[.int .i64 sa.want.src, .int .i64 sa.want.lay, .int .i64 sa.want.tid] 37)) rfl rfl ((((((((But.refl (fun k => k = g) w).set (p := ⟨g, 1, none⟩) (.inl rfl) (.bool false)).set (p := ⟨g, 2, none⟩) (.inl rfl) (.int .i64 0)).set (p := ⟨g, 3, none⟩) (.inl rfl) (.int .i64 0)).set (p := ⟨g, 4, none⟩) (.inl rfl) (.int .i64 0)).set (p := ⟨g, 18, none⟩) (.inl rfl) (.int .i64 ((d.left + 1 : Nat) : Int))).alloc (.cells #[.bool sa.q.h.mark, .int .u8 (sa.q.h.typ : Int), .int .u16 (sa.q.h.seq : Int), .int .u32 (sa.q.h.time : Int), .int .u32 (sa.q.h.ssrc : Int), .slice sa.q.h.A1 sa.q.h.csrc.length sa.q.h.c1, .slice sa.q.h.A2 sa.q.h.ps.length sa.q.h.c2, .slice sa.q.A3 sa.q.pay.length sa.q.c3, .int .i64 sa.q.pad] 35)).alloc (.cells #[.int .i64 sa.want.src, .int .i64 sa.want.lay, .int .i64 sa.want.tid] 37))) (by show (!sa.muted && _) = false; rw [HMU.out]; rfl))
  | false =>
    have CP := Lib.hid (fun w' (b : Below w.heap.size w w') => dpass_any d sa g S w' (HD.out.next b) HFW.out (HA.out.next b) HMU.out)
    have CP := CP.out
    dsimp only [Pq.cells, Cw.cells] at CP
    replace CP := Lib.hid CP
    clear HWG
    go_enter Try.func12, Try.ntmps12
    go_wp2_with fail
    have HB0 := Lib.hid ((((Below.refl w.heap.size w).alloc ((Below.refl w.heap.size w)).size (.cells #[.bool sa.q.h.mark, .int .u8 (sa.q.h.typ : Int), .int .u16 (sa.q.h.seq : Int), .int .u32 (sa.q.h.time : Int), .int .u32 (sa.q.h.ssrc : Int), .slice sa.q.h.A1 sa.q.h.csrc.length sa.q.h.c1, .slice sa.q.h.A2 sa.q.h.ps.length sa.q.h.c2, .slice sa.q.A3 sa.q.pay.length sa.q.c3, .int .i64 sa.q.pad] 35)).alloc (((Below.refl w.heap.size w).alloc ((Below.refl w.heap.size w)).size (.cells #[.bool sa.q.h.mark, .int .u8 (sa.q.h.typ : Int), .int .u16 (sa.q.h.seq : Int), .int .u32 (sa.q.h.time : Int), .int .u32 (sa.q.h.ssrc : Int), .slice sa.q.h.A1 sa.q.h.csrc.length sa.q.h.c1, .slice sa.q.h.A2 sa.q.h.ps.length sa.q.h.c2, .slice sa.q.A3 sa.q.pay.length sa.q.c3, .int .i64 sa.q.pad] 35))).size (.cells #[.int .i64 sa.want.src, .int .i64 sa.want.lay, .int .i64 sa.want.tid] 37)))
    have NP : Whole (w.alloc (.cells #[.bool sa.q.h.mark, .int .u8 (sa.q.h.typ : Int), .int .u16 (sa.q.h.seq : Int), .int .u32 (sa.q.h.time : Int), .int .u32 (sa.q.h.ssrc : Int), .slice sa.q.h.A1 sa.q.h.csrc.length sa.q.h.c1, .slice sa.q.h.A2 sa.q.h.ps.length sa.q.h.c2, .slice sa.q.A3 sa.q.pay.length sa.q.c3, .int .i64 sa.q.pad] 35)) (w.heap.size) 35 #[.bool sa.q.h.mark, .int .u8 (sa.q.h.typ : Int), .int .u16 (sa.q.h.seq : Int), .int .u32 (sa.q.h.time : Int), .int .u32 (sa.q.h.ssrc : Int), .slice sa.q.h.A1 sa.q.h.csrc.length sa.q.h.c1, .slice sa.q.h.A2 sa.q.h.ps.length sa.q.h.c2, .slice sa.q.A3 sa.q.pay.length sa.q.c3, .int .i64 sa.q.pad] := by have := Whole.new w 35 #[.bool sa.q.h.mark, .int .u8 (sa.q.h.typ : Int), .int .u16 (sa.q.h.seq : Int), .int .u32 (sa.q.h.time : Int), .int .u32 (sa.q.h.ssrc : Int), .slice sa.q.h.A1 sa.q.h.csrc.length sa.q.h.c1, .slice sa.q.h.A2 sa.q.h.ps.length sa.q.h.c2, .slice sa.q.A3 sa.q.pay.length sa.q.c3, .int .i64 sa.q.pad]; first | with_reducible exact this | simpa using this
    have NU : Whole ((w.alloc (.cells #[.bool sa.q.h.mark, .int .u8 (sa.q.h.typ : Int), .int .u16 (sa.q.h.seq : Int), .int .u32 (sa.q.h.time : Int), .int .u32 (sa.q.h.ssrc : Int), .slice sa.q.h.A1 sa.q.h.csrc.length sa.q.h.c1, .slice sa.q.h.A2 sa.q.h.ps.length sa.q.h.c2, .slice sa.q.A3 sa.q.pay.length sa.q.c3, .int .i64 sa.q.pad] 35)).alloc (.cells #[.int .i64 sa.want.src, .int .i64 sa.want.lay, .int .i64 sa.want.tid] 37)) (w.heap.size + 1) 37 #[.int .i64 sa.want.src, .int .i64 sa.want.lay, .int .i64 sa.want.tid] := by have := Whole.new (w.alloc (.cells #[.bool sa.q.h.mark, .int .u8 (sa.q.h.typ : Int), .int .u16 (sa.q.h.seq : Int), .int .u32 (sa.q.h.time : Int), .int .u32 (sa.q.h.ssrc : Int), .slice sa.q.h.A1 sa.q.h.csrc.length sa.q.h.c1, .slice sa.q.h.A2 sa.q.h.ps.length sa.q.h.c2, .slice sa.q.A3 sa.q.pay.length sa.q.c3, .int .i64 sa.q.pad] 35)) 37 #[.int .i64 sa.want.src, .int .i64 sa.want.lay, .int .i64 sa.want.tid]; first | with_reducible exact this | simpa using this
    have HU0 := Lib.hid (NU)
    clear NP NU
    obtain ⟨w0, hw0⟩ : ∃ z, z = ((w.alloc (.cells #[.bool sa.q.h.mark, .int .u8 (sa.q.h.typ : Int), .int .u16 (sa.q.h.seq : Int), .int .u32 (sa.q.h.time : Int), .int .u32 (sa.q.h.ssrc : Int), .slice sa.q.h.A1 sa.q.h.csrc.length sa.q.h.c1, .slice sa.q.h.A2 sa.q.h.ps.length sa.q.h.c2, .slice sa.q.A3 sa.q.pay.length sa.q.c3, .int .i64 sa.q.pad] 35)).alloc (.cells #[.int .i64 sa.want.src, .int .i64 sa.want.lay, .int .i64 sa.want.tid] 37)) := ⟨_, rfl⟩
    rw [← hw0] at HB0 HU0 ⊢
    clear hw0
    refine (CP.out _ HB0.out).mono ?_
    rintro e w1 ⟨A1, c1, S1, rfl, hd1, hrow1, hc1, hc2, hb1, hk1⟩
    have U1 := HU0.out.but hb1 (fun h => by have := HLT.out _ h; omega)
    have HD1 := Lib.hid hd1
    obtain ⟨pk1, gs1, mm1, r1, hpk1, hW1, _⟩ := hd1
    dsimp only [dcs] at hW1
    have HPK := Lib.hid hpk1
    have HW1 := Lib.hid hW1
    have HU1 := Lib.hid U1
    have HE := Lib.hid (And.intro hrow1 (And.intro hc1 (And.intro hc2 (And.intro hb1 hk1))))
    have hul := U1.lt
    have hgl1 := hW1.lt
    clear hpk1 hW1 U1 hrow1 hc1 hc2 hb1 hk1 CP HU0
    have CA := fun w => casks_any pk1 sa.want w
    obtain ⟨q, hq⟩ : ∃ z, pk1.asks sa.want = z := ⟨_, rfl⟩
    rw [hq] at CA
    dsimp only [Cs.cells, Cw.cells] at CA
    replace CA := Lib.hid CA
    have HQ := Lib.hid hq
    clear hq
    go_upto_region 8 with fail
    have KS := Lib.hid (fun w' (b' : Below w1.heap.size w1 w') => show (fun w' => w'.cell? ⟨g, 1, none⟩ = some (.bool pk1.on) ∧ w'.cell? ⟨g, 2, none⟩ = some (.int .i64 pk1.src) ∧ w'.cell? ⟨g, 3, none⟩ = some (.int .i64 pk1.lay) ∧ w'.cell? ⟨g, 4, none⟩ = some (.int .i64 pk1.tid) ∧ w'.cell? ⟨w.heap.size + 1, 0, none⟩ = some (.int .i64 sa.want.src) ∧ w'.cell? ⟨w.heap.size + 1, 1, none⟩ = some (.int .i64 sa.want.lay) ∧ w'.cell? ⟨w.heap.size + 1, 2, none⟩ = some (.int .i64 sa.want.tid)) w' from ⟨(HW1.out.below b' hgl1).cell 1, (HW1.out.below b' hgl1).cell 2, (HW1.out.below b' hgl1).cell 3, (HW1.out.below b' hgl1).cell 4, (HU1.out.below b' hul).cell 0, (HU1.out.below b' hul).cell 1, (HU1.out.below b' hul).cell 2⟩)
    have hK0 := KS.out w1 (Below.refl _ _)
    go_region_held3 (fun w' => w'.cell? ⟨g, 1, none⟩ = some (.bool pk1.on) ∧ w'.cell? ⟨g, 2, none⟩ = some (.int .i64 pk1.src) ∧ w'.cell? ⟨g, 3, none⟩ = some (.int .i64 pk1.lay) ∧ w'.cell? ⟨g, 4, none⟩ = some (.int .i64 pk1.tid) ∧ w'.cell? ⟨w.heap.size + 1, 0, none⟩ = some (.int .i64 sa.want.src) ∧ w'.cell? ⟨w.heap.size + 1, 1, none⟩ = some (.int .i64 sa.want.lay) ∧ w'.cell? ⟨w.heap.size + 1, 2, none⟩ = some (.int .i64 sa.want.tid))
      (first | exact hK0 | exact KS.out _ (Below.refl _ _).drew | exact KS.out _ ((Below.refl _ _).drew.trans ‹Below _ _ _›))
      (first | (go_at_call 24; refine (CA.out _).mono ?_; rintro e w2 ⟨rfl, b2⟩))
    have HB2 := Lib.hid ((Below.refl w1.heap.size w1).drew.trans b2)
    clear b2 hK0 KS CA
    go_wp2_with fail
    refine bodyPost_ret (v := .tuple #[.slice A1 (d.told sa.x).length c1, .bool (d.is sa.x), .bool q]) (by simp [results, Try.results12, go_sem]) rfl ?_
    obtain ⟨hrow1, hc1, hc2, hb1, hk1⟩ := HE.out
    have hz := HB0.out.size
    refine ⟨A1, c1, S1, ?_, HD1.out.next HB2.out, (hrow1.below HB2.out (Nat.le_refl _)).more HB2.out.size, hc1, hc2, ((but_of_below HB0.out).trans hb1).trans (but_of_below HB2.out), fun k hk h => hk1 k (by omega) h⟩
    have e : d.asks sa.x = q := by
      show (!sa.muted && ((d.next sa.x).pick.asks sa.want)) = q
      rw [HMU.out, ← Cs.as_asks HPK.out, HQ.out]
      rfl
    rw [e]
theorem dtake_nil (sa : Sa) (w : World) : Calls Try.prog 12 #[.pointer none, .agg sa.q.cells.toArray, .int .i64 sa.src, .int .i64 sa.lay, .agg sa.want.cells, .bool sa.muted] w fun e w' => e = .returned (.tuple #[.slice none 0 0, .bool false, .bool false]) ∧ Below w.heap.size w w' := by
  dsimp only [Pq.cells, Cw.cells]
  go_enter Try.func12, Try.ntmps12
  go_wp2_with fail
  exact bodyPost_ret (v := .tuple #[.slice none 0 0, .bool false, .bool false]) (by simp [results, Try.results12, go_sem]) rfl ⟨rfl, ((Below.refl w.heap.size w).alloc (Nat.le_refl _) (.cells #[.bool sa.q.h.mark, .int .u8 (sa.q.h.typ : Int), .int .u16 (sa.q.h.seq : Int), .int .u32 (sa.q.h.time : Int), .int .u32 (sa.q.h.ssrc : Int), .slice sa.q.h.A1 sa.q.h.csrc.length sa.q.h.c1, .slice sa.q.h.A2 sa.q.h.ps.length sa.q.h.c2, .slice sa.q.A3 sa.q.pay.length sa.q.c3, .int .i64 sa.q.pad] 35)).alloc (by simp) (.cells #[.int .i64 sa.want.src, .int .i64 sa.want.lay, .int .i64 sa.want.tid] 37)⟩
end Go.Proofs.Yticnaljfnjiofaa
