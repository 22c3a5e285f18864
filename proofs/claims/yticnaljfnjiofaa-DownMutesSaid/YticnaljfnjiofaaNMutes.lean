/-
  Proved: DownMutes returns true for every room, and every two rows of packets. Conditions: none.
-/
import Derived.Test.YticnaljfnjiofaaDnA
import Derived.Test.YticnaljfnjiofaaDnF
import Derived.Test.YticnaljfnjiofaaGli
import Derived.Deep.CutBlock
import Derived.Deep.DeepCutAuto
import Derived.Test.YticnaljfnjiofaaEqS
namespace Go.Proofs.Yticnaljfnjiofaa.NMutes
open Go.ChangeShapes Go.WideShapes Go.ChangeAt Go.RowKit
set_option linter.unusedSimpArgs false
set_option linter.unusedVariables false
set_option maxRecDepth 100000


theorem field_sent (a b c d e : Int) (w : World) : (Instr.field 63 (.agg #[.int .i64 a, .int .i64 b, .int .i64 c, .int .i64 d, .int .i64 e]) 0).run Try.prog w = .ok (.int .i64 a) w := by kernel_rfl
/-- A packet of somebody who is muted. -/
def hush (a : Sa) : Sa := { a with muted := true }
theorem muted_next (d : Dn) (x : Sx) (h : x.muted = true) : d.next x = { d with pick := { d.pick with on := false }, left := d.left + 1 } := by
  unfold Dn.next Dn.take
  rw [if_pos h]
theorem muted_is (d : Dn) (x : Sx) (h : x.muted = true) : d.is x = false ∧ d.told x = [] ∧ d.asks x = false := by
  refine ⟨?_, ?_, ?_⟩
  · unfold Dn.is Dn.take
    rw [if_pos h]
    rfl
  · unfold Dn.told Dn.take
    rw [if_pos h]
    rfl
  · unfold Dn.asks
    rw [h]
    rfl
theorem muted_run (d : Dn) (l : List Sa) : (d.run (l.map fun a => (hush a).x)).kept = d.kept ∧ (d.run (l.map fun a => (hush a).x)).sent = d.sent ∧ (d.run (l.map fun a => (hush a).x)).nums = d.nums ∧ (d.run (l.map fun a => (hush a).x)).ssrc = d.ssrc ∧
    (d.run (l.map fun a => (hush a).x)).left + (d.run (l.map fun a => (hush a).x)).drop + (d.run (l.map fun a => (hush a).x)).late + (d.run (l.map fun a => (hush a).x)).bad = d.left + d.drop + d.late + d.bad + l.length := by
  induction l generalizing d with
  | nil => exact ⟨rfl, rfl, rfl, rfl, rfl⟩
  | cons a l ih =>
    rw [List.map_cons, Dn.run, muted_next d _ rfl]
    obtain ⟨h1, h2, h3, h4, h5⟩ := ih { d with pick := { d.pick with on := false }, left := d.left + 1 }
    refine ⟨h1, h2, h3, h4, ?_⟩
    rw [h5, List.length_cons]
    dsimp only
    omega
set_option maxHeartbeats 3200000 in
theorem walk (w : World) (rm : Int) (hw : (Lit.int .u8 rm).wf = true) (A : Option Addr) (c : Nat) (l : List Sa) (hl : l.length ≤ maxLen) (hr : Row w w.heap.size 15 A l.length (rowC Sa.cells l)) (ho : ∀ a ∈ l, a.q.Ok w) (B : Option Addr) (cm : Nat) (m : List Sa) (hl2 : m.length ≤ maxLen) (hr2 : Row w w.heap.size 15 B m.length (rowC Sa.cells m)) (ho2 : ∀ a ∈ m, a.q.Ok w) :
    Calls Try.prog 8 #[.int .u8 rm, .slice A l.length c, .slice B m.length cm] w fun e w' => e = .returned (.bool true) ∧ Below w.heap.size w w' := by
  have hrm := wf_u8 hw
  clear hw
  obtain ⟨N, hN⟩ : ∃ N : Nat, rm % 9 + 1 = (N : Int) := ⟨(rm % 9 + 1).toNat, by omega⟩
  have hN1 : 1 ≤ N ∧ N ≤ 9 := by omega
  obtain ⟨n, hn⟩ : ∃ n, l.length = n := ⟨_, rfl⟩
  have CF := fun w' hb => few_any A c l w w' hb hl hr ho
  rw [hn] at hr CF ⊢
  have HR := Lib.hid (fun (h0 : 0 < n) => row_at Sa.cells_length hr h0)
  have HO := Lib.hid ho
  have HN := Lib.hid hn
  have hl63 : n ≤ 9223372036854775807 := by rw [← hn]; exact hl
  have CF := Lib.hid CF
  clear hr ho hn hl
  obtain ⟨nm, hnm⟩ : ∃ nm, m.length = nm := ⟨_, rfl⟩
  have CFm := fun w' hb => few_any B cm m w w' hb hl2 hr2 ho2
  rw [hnm] at hr2 CFm ⊢
  have HRm := Lib.hid (fun (h0 : 0 < nm) => row_at Sa.cells_length hr2 h0)
  have HOm := Lib.hid ho2
  have HNm := Lib.hid hnm
  have hm63 : nm ≤ 9223372036854775807 := by rw [← hnm]; exact hl2
  have CFm := Lib.hid CFm
  clear hr2 ho2 hnm hl2
  have CN := Lib.hid (fun w => dnew_any 3 N (by decide) hN1.1 (by omega) w)
  go_enter Try.func8, Try.ntmps8
  go_wp2_with fail
  refine (awake_any w).mono ?_
  rintro e wa ⟨rfl, ba⟩
  have HBA := Lib.hid ba
  clear ba
  go_wp2_with fail
  refine (CF.out wa HBA.out).mono ?_
  rintro e wb ⟨rfl, bb⟩
  have HBB := Lib.hid (HBA.out.trans (bb.mono HBA.out.size))
  clear bb HBA CF
  go_wp2_with fail
  refine (CFm.out wb HBB.out).mono ?_
  rintro e wc ⟨rfl, bc⟩
  have HB0 := Lib.hid (HBB.out.trans (bc.mono HBB.out.size))
  clear bc HBB CFm
  by_cases hfew : fewS l = false
  · rw [hfew]
    clear hfew
    go_wp2_with fail
    go_ret
    exact ⟨rfl, HB0.out⟩
  have hfew : fewS l = true := by simpa using hfew
  by_cases hfem : fewS m = false
  · rw [hfew, hfem]
    clear hfew hfem
    go_wp2_with fail
    go_ret
    exact ⟨rfl, HB0.out⟩
  have hfem : fewS m = true := by simpa using hfem
  rw [hfew, hfem]
  have hfw := hfew
  unfold fewS at hfw
  rw [Bool.and_eq_true] at hfw
  have h120n : n ≤ 120 := by have := hfw.2; rw [HN.out] at this; simpa using this
  have HFS : Hid (∀ a ∈ l, a.q.pay.length ≤ 200 ∧ a.q.h.csrc.length ≤ 20 ∧ a.q.h.ps.length ≤ 20) := Lib.hid (fun a ha => by have h := List.all_eq_true.1 hfw.1 a ha; unfold Sa.small at h; simp at h; omega)
  clear hfw
  have hfw := hfem
  unfold fewS at hfw
  rw [Bool.and_eq_true] at hfw
  have h120nm : nm ≤ 120 := by have := hfw.2; rw [HNm.out] at this; simpa using this
  have HFSm : Hid (∀ a ∈ m, a.q.pay.length ≤ 200 ∧ a.q.h.csrc.length ≤ 20 ∧ a.q.h.ps.length ≤ 20) := Lib.hid (fun a ha => by have h := List.all_eq_true.1 hfw.1 a ha; unfold Sa.small at h; simp at h; omega)
  clear hfw
  clear hfew hfem
  have hn120 := h120n
  go_wp2_with fail
  refine (CN.out wc).mono ?_
  rintro e w1 ⟨g1, U1, rfl, d1, hs1, b1⟩
  have HD1 := Lib.hid d1
  have HSG1 := Lib.hid (fun k h => Nat.le_trans HB0.out.size (hs1 k h))
  have HB1 := Lib.hid (HB0.out.trans (b1.mono HB0.out.size))
  have HL1 := Lib.hid (show ∀ k, U1 k → k < w1.heap.size from fun k h => HD1.out.lt k h)
  clear d1 hs1 b1 HB0
  go_wp2_with fail
  refine (CN.out w1).mono ?_
  rintro e w2 ⟨g2, U2, rfl, d2, hs2, b2⟩
  have HE2 := Lib.hid d2
  have HD2 := Lib.hid (HD1.out.next b2)
  have HSG2 := Lib.hid (fun k h => Nat.le_trans HB1.out.size (hs2 k h))
  have HB2 := Lib.hid (HB1.out.trans (b2.mono HB1.out.size))
  have HDJ := Lib.hid (show ∀ k, U1 k → ¬ U2 k from fun k h h' => Nat.not_lt_of_le (hs2 k h') (HL1.out k h))
  clear d2 hs2 b2 CN HB1 HD1 HL1 hN hN1
  go_wp2_with fail
  go_loopw [13] (fun i wr => ∃ k : Nat, k ≤ n ∧ i = .int .i64 (k : Int) ∧ ∃ T1 T2, DnAt wr g1 T1 ((Dn.new 3 N).run ((l.take k).map Sa.x)) ∧ DnAt wr g2 T2 ((Dn.new 3 N).run ((l.take k).map Sa.x)) ∧ (∀ k, T1 k → w.heap.size ≤ k) ∧ (∀ k, T2 k → w.heap.size ≤ k) ∧ (∀ k, T1 k → ¬ T2 k) ∧ Below w.heap.size w wr) (fun i _ => n - (intOf i).toNat)
  case atStart => exact ⟨0, Nat.zero_le _, rfl, U1, U2, HD2.out, HE2.out, HSG1.out, HSG2.out, HDJ.out, HB2.out⟩
  case round =>
    obtain ⟨k, hk, rfl, T1, T2, hd1, hd2, hg1, hg2, hdj, hb⟩ := hrel
    have HB := Lib.hid hb
    clear hb HD2 HE2 HSG1 HSG2 HDJ HB2
    by_cases hlt : k < n
    · obtain ⟨g0, o, rfl, hg, hc⟩ := HR.out (by omega)
      obtain ⟨a, ha⟩ : ∃ a, l[k]? = some a := ⟨l[k]'(by rw [HN.out]; exact hlt), by simp⟩
      have e := fun j v hj => hc wr HB.out k a j v ha hj
      have r0 := e 0 _ rfl
      have r1 := e 1 _ rfl
      have r2 := e 2 _ rfl
      have r3 := e 3 _ rfl
      have r4 := e 4 _ rfl
      have r5 := e 5 _ rfl
      have r6 := e 6 _ rfl
      have r7 := e 7 _ rfl
      have r8 := e 8 _ rfl
      have r9 := e 9 _ rfl
      have r10 := e 10 _ rfl
      have r11 := e 11 _ rfl
      have r12 := e 12 _ rfl
      have r13 := e 13 _ rfl
      have r14 := e 14 _ rfl
      rw [Nat.add_zero] at r0
      have i1 : (0 : Int) ≤ (k : Int) := by omega
      have i2 : (k : Int) < (n : Int) := by omega
      clear e hc
      have HAM := Lib.hid (List.mem_of_getElem? ha)
      have HAT := Lib.hid ha
      clear ha
      obtain ⟨D, hD⟩ : ∃ D, (Dn.new 3 N).run ((l.take k).map Sa.x) = D := ⟨_, rfl⟩
      rw [hD] at hd1 hd2
      have hfit : ∀ y ∈ (l.take k).map Sa.x, y.p.Fit := by intro y hy; obtain ⟨z, hz, rfl⟩ := List.mem_map.1 hy; exact Pq.fit (HO.out z (List.mem_of_mem_take hz))
      have hlen : ((l.take k).map Sa.x).length = k := by rw [List.length_map, List.length_take, HN.out]; omega
      have hok := Dn.run_ok (ssrc := 3) (room := N) (by decide) _ hfit (by omega)
      rw [hD] at hok
      have HFEW := Lib.hid hok
      have hnx : (Dn.new 3 N).run ((l.take (k + 1)).map Sa.x) = D.next a.x := by rw [List.take_add_one, HAT.out, Option.toList_some, List.map_append, Dn.run_append, hD]; rfl
      have HD := Lib.hid hd1
      have HE := Lib.hid hd2
      have HSG := Lib.hid hg1
      have HSE := Lib.hid hg2
      have HDJ := Lib.hid hdj
      have HNX := Lib.hid hnx
      have hlt1 := HD.out.lt
      have HLT := Lib.hid hlt1
      have hlt2 := HE.out.lt
      have HLE := Lib.hid hlt2
      clear hd1 hd2 hg1 hg2 hdj hnx hfit hlen hok hlt1 hlt2 hD
      go_wp2_with fail
      obtain ⟨wz, hwz⟩ : ∃ z, z = wr.alloc (.cells #[.bool a.q.h.mark, .int .u8 (a.q.h.typ : Int), .int .u16 (a.q.h.seq : Int), .int .u32 (a.q.h.time : Int), .int .u32 (a.q.h.ssrc : Int), .slice a.q.h.A1 a.q.h.csrc.length a.q.h.c1, .slice a.q.h.A2 a.q.h.ps.length a.q.h.c2, .slice a.q.A3 a.q.pay.length a.q.c3, .int .i64 a.q.pad, .int .i64 a.src, .int .i64 a.lay, .int .i64 a.want.src, .int .i64 a.want.lay, .int .i64 a.want.tid, .bool a.muted] 39) := ⟨_, rfl⟩
      have HX := Lib.hid (show Whole wz wr.heap.size 39 #[.bool a.q.h.mark, .int .u8 (a.q.h.typ : Int), .int .u16 (a.q.h.seq : Int), .int .u32 (a.q.h.time : Int), .int .u32 (a.q.h.ssrc : Int), .slice a.q.h.A1 a.q.h.csrc.length a.q.h.c1, .slice a.q.h.A2 a.q.h.ps.length a.q.h.c2, .slice a.q.A3 a.q.pay.length a.q.c3, .int .i64 a.q.pad, .int .i64 a.src, .int .i64 a.lay, .int .i64 a.want.src, .int .i64 a.want.lay, .int .i64 a.want.tid, .bool a.muted] from by rw [hwz]; exact Whole.new wr _ _)
      have bz : Below wr.heap.size wr wz := by rw [hwz]; exact (Below.refl _ _).alloc (Nat.le_refl _) _
      have HBZ := Lib.hid (HB.out.trans (bz.mono HB.out.size))
      rw [← hwz]
      clear hwz r0 r1 r2 r3 r4 r5 r6 r7 r8 r9 r10 r11 r12 r13 r14
      have CT : Calls Try.prog 12 #[.pointer (some ⟨g1, 0, none⟩), .agg #[.bool a.q.h.mark, .int .u8 (a.q.h.typ : Int), .int .u16 (a.q.h.seq : Int), .int .u32 (a.q.h.time : Int), .int .u32 (a.q.h.ssrc : Int), .slice a.q.h.A1 a.q.h.csrc.length a.q.h.c1, .slice a.q.h.A2 a.q.h.ps.length a.q.h.c2, .slice a.q.A3 a.q.pay.length a.q.c3, .int .i64 a.q.pad], .int .i64 a.src, .int .i64 a.lay, .agg #[.int .i64 a.want.src, .int .i64 a.want.lay, .int .i64 a.want.tid], .bool a.muted] wz (DTold D a.x g1 T1 wz) := dtake_any D a g1 T1 wz (HD.out.next bz) HFEW.out (Pq.Ok.at (HO.out a HAM.out) HBZ.out HSG.out (show a.q.pay.length ≤ 100000 from by have := (HFS.out a HAM.out).1; omega))
      unfold DTold at CT
      obtain ⟨D', hD'⟩ : ∃ x, D.next a.x = x := ⟨_, rfl⟩
      rw [hD'] at CT HNX
      have HE1 := Lib.hid (HE.out.next bz)
      have HLZ := Lib.hid (show ∀ k, T2 k → k < wz.heap.size from fun k h => HE1.out.lt k h)
      have CT := Lib.hid CT
      have HDE := Lib.hid hD'
      clear hD'
      refine CT.out.mono ?_
      rintro e w2 ⟨A2, c2, S2, rfl, d2, _, _, _, k2, n2⟩
      have HD2 := Lib.hid d2
      have HB2 := Lib.hid (HBZ.out.trans (k2.below HBZ.out.size (fun k hk h => Nat.not_lt_of_le (HSG.out k h) hk)))
      have HX2 := Lib.hid (HX.out.but k2 (fun h => Nat.lt_irrefl _ (HLT.out _ h)))
      have HSG2 : Hid (∀ k, S2 k → w.heap.size ≤ k) := Lib.hid (fun j h => (Nat.lt_or_ge j wz.heap.size).elim (fun hj => HSG.out j (n2 j hj h)) (fun hj => Nat.le_trans HBZ.out.size hj))
      have HE2 := Lib.hid (HE1.out.keep k2.size (fun k h => k2.block k (HLZ.out k h) (fun h1 => HDJ.out k h1 h)))
      have HDJ2 : Hid (∀ k, S2 k → ¬ T2 k) := Lib.hid (fun j h h' => HDJ.out j (n2 j (HLZ.out j h') h) h')
      have CE : Calls Try.prog 12 #[.pointer (some ⟨g2, 0, none⟩), .agg #[.bool a.q.h.mark, .int .u8 (a.q.h.typ : Int), .int .u16 (a.q.h.seq : Int), .int .u32 (a.q.h.time : Int), .int .u32 (a.q.h.ssrc : Int), .slice a.q.h.A1 a.q.h.csrc.length a.q.h.c1, .slice a.q.h.A2 a.q.h.ps.length a.q.h.c2, .slice a.q.A3 a.q.pay.length a.q.c3, .int .i64 a.q.pad], .int .i64 a.src, .int .i64 a.lay, .agg #[.int .i64 a.want.src, .int .i64 a.want.lay, .int .i64 a.want.tid], .bool a.muted] w2 (DTold D a.x g2 T2 w2) := dtake_any D a g2 T2 w2 HE2.out HFEW.out (Pq.Ok.at (HO.out a HAM.out) HB2.out HSE.out (by have := (HFS.out a HAM.out).1; omega))
      unfold DTold at CE
      rw [HDE.out] at CE
      have CE := Lib.hid CE
      have hz2 := k2.size
      have hxz := HX2.out.lt
      clear d2 k2 n2 CT HD HX HBZ HSG HLT HFEW HE HE1 HDJ HLZ HLE bz
      have x0 := HX2.out.cell 0
      have x1 := HX2.out.cell 1
      have x2 := HX2.out.cell 2
      have x3 := HX2.out.cell 3
      have x4 := HX2.out.cell 4
      have x5 := HX2.out.cell 5
      have x6 := HX2.out.cell 6
      have x7 := HX2.out.cell 7
      have x8 := HX2.out.cell 8
      have x9 := HX2.out.cell 9
      have x10 := HX2.out.cell 10
      have x11 := HX2.out.cell 11
      have x12 := HX2.out.cell 12
      have x13 := HX2.out.cell 13
      have x14 := HX2.out.cell 14
      go_wp2_with fail
      refine CE.out.mono ?_
      rintro e w3 ⟨A3, c3, S3, rfl, d3, _, _, _, k3, n3⟩
      have HE3 := Lib.hid d3
      have HB3 := Lib.hid (HB2.out.trans (k3.below HB2.out.size (fun k hk h => Nat.not_lt_of_le (HSE.out k h) hk)))
      have hlt3 := HD2.out.lt
      have HD3 := Lib.hid (HD2.out.keep k3.size (fun k h => k3.block k (hlt3 k h) (fun h1 => HDJ2.out k h h1)))
      have HSE3 : Hid (∀ k, S3 k → w.heap.size ≤ k) := Lib.hid (fun j h => (Nat.lt_or_ge j w2.heap.size).elim (fun hj => HSE.out j (n3 j hj h)) (fun hj => Nat.le_trans HB2.out.size hj))
      have HDJ3 : Hid (∀ k, S2 k → ¬ S3 k) := Lib.hid (fun j h h' => HDJ2.out j h (n3 j (hlt3 j h) h'))
      clear d3 k3 n3 CE HD2 HB2 HX2 HDJ2 HSE HE2 hlt3 x0 x1 x2 x3 x4 x5 x6 x7 x8 x9 x10 x11 x12 x13 x14
      go_wp2_with fail
      go_roundw
      case rel => exact ⟨k + 1, by omega, by go_num, S2, S3, by rw [HNX.out]; exact HD3.out, by rw [HNX.out]; exact HE3.out, HSG2.out, HSE3.out, HDJ3.out, HB3.out⟩
      case measure => simp [intOf]; omega
    · obtain rfl : k = n := by omega
      have hlt' : (l.take k) = l := by rw [← HN.out]; exact List.take_length
      rw [hlt'] at hd1 hd2
      have hfit : ∀ y ∈ l.map Sa.x, y.p.Fit := by intro y hy; obtain ⟨z, hz, rfl⟩ := List.mem_map.1 hy; exact Pq.fit (HO.out z hz)
      have hef := Dn.run_ok (ssrc := 3) (room := N) (by decide) _ hfit (by rw [List.length_map, HN.out]; omega)
      have hsm := Dn.run_few (ssrc := 3) (room := N) _ hfit
      obtain ⟨E, hE⟩ : ∃ E, ((Dn.new 3 N).run (l.map Sa.x)) = E := ⟨_, rfl⟩
      rw [hE] at hd1 hd2 hef hsm
      have HEF := Lib.hid hef
      have hsum : Hid (E.sent + E.left + E.drop + E.late + E.bad ≤ 120) := Lib.hid (by rw [hsm.1, List.length_map, HN.out]; exact h120n)
      have HD0 := Lib.hid hd1
      have HE0 := Lib.hid hd2
      have HG1 := Lib.hid hg1
      have HG2 := Lib.hid hg2
      have HDJ0 := Lib.hid hdj
      have HB0 := HB
      clear hd1 hd2 hg1 hg2 hdj hef hsm hE hfit hlt' HB hlt hk
      go_wp2_with fail
      go_loopw [15] (fun i wr => ∃ k : Nat, k ≤ nm ∧ i = .int .i64 (k : Int) ∧ ∃ T1 T2, DnAt wr g1 T1 (E.run ((m.take k).map fun a => (hush a).x)) ∧ DnAt wr g2 T2 E ∧ (∀ k, T1 k → w.heap.size ≤ k) ∧ (∀ k, T2 k → w.heap.size ≤ k) ∧ (∀ k, T1 k → ¬ T2 k) ∧ Below w.heap.size w wr) (fun i _ => nm - (intOf i).toNat)
      case atStart => exact ⟨0, Nat.zero_le _, rfl, T1, T2, HD0.out, HE0.out, HG1.out, HG2.out, HDJ0.out, HB0.out⟩
      case round =>
        obtain ⟨k, hk, rfl, T1, T2, hd1, hd2, hg1, hg2, hdj, hb⟩ := hrel
        have HB := Lib.hid hb
        clear hb HD0 HE0 HG1 HG2 HDJ0 HB0
        by_cases hlt : k < nm
        · obtain ⟨g0, o, rfl, hg, hc⟩ := HRm.out (by omega)
          obtain ⟨a, ha⟩ : ∃ a, m[k]? = some a := ⟨m[k]'(by rw [HNm.out]; exact hlt), by simp⟩
          have e := fun j v hj => hc wr HB.out k a j v ha hj
          have r0 := e 0 _ rfl
          have r1 := e 1 _ rfl
          have r2 := e 2 _ rfl
          have r3 := e 3 _ rfl
          have r4 := e 4 _ rfl
          have r5 := e 5 _ rfl
          have r6 := e 6 _ rfl
          have r7 := e 7 _ rfl
          have r8 := e 8 _ rfl
          have r9 := e 9 _ rfl
          have r10 := e 10 _ rfl
          have r11 := e 11 _ rfl
          have r12 := e 12 _ rfl
          have r13 := e 13 _ rfl
          have r14 := e 14 _ rfl
          rw [Nat.add_zero] at r0
          have i1 : (0 : Int) ≤ (k : Int) := by omega
          have i2 : (k : Int) < (nm : Int) := by omega
          clear e hc
          have HAM := Lib.hid (List.mem_of_getElem? ha)
          have HAT := Lib.hid ha
          clear ha
          obtain ⟨D, hD⟩ : ∃ D, E.run ((m.take k).map fun a => (hush a).x) = D := ⟨_, rfl⟩
          have hmr := muted_run E (m.take k)
          rw [hD] at hd1 hmr
          have hlen : (m.take k).length = k := by rw [List.length_take, HNm.out]; omega
          rw [hlen] at hmr
          have hef := HEF.out
          have hok : D.few := ⟨by have := hef.1; have := hsum.out; omega, by have := hef.2.1; omega, by rw [hmr.2.2.1]; exact hef.2.2⟩
          have HFEW := Lib.hid hok
          have hnx : E.run ((m.take (k + 1)).map fun a => (hush a).x) = D.next (hush a).x := by rw [List.take_add_one, HAT.out, Option.toList_some, List.map_append, Dn.run_append, hD]; rfl
          have HKP := Lib.hid hmr.1
          have HNX := Lib.hid hnx
          have hmn := muted_is D (hush a).x rfl
          have hkn : (D.next (hush a).x).kept = E.kept := by rw [muted_next _ _ rfl]; exact hmr.1
          have HKN := Lib.hid hkn
          have hfn : (D.next (hush a).x).few := by rw [muted_next _ _ rfl]; exact ⟨by have := hef.1; have := hsum.out; have := hmr.2.1; have := hmr.2.2.2.2; dsimp only; omega, hok.2.1, hok.2.2⟩
          have HFN := Lib.hid hfn
          have HD := Lib.hid hd1
          have HE := Lib.hid hd2
          have HSG := Lib.hid hg1
          have HSE := Lib.hid hg2
          have HDJ := Lib.hid hdj
          have hlt1 := HD.out.lt
          have HLT := Lib.hid hlt1
          clear hd1 hd2 hg1 hg2 hdj hnx hlen hok hlt1 hD hmr hef hkn hfn
          go_wp2_with fail
          obtain ⟨wz, hwz⟩ : ∃ z, z = wr.alloc (.cells #[.bool a.q.h.mark, .int .u8 (a.q.h.typ : Int), .int .u16 (a.q.h.seq : Int), .int .u32 (a.q.h.time : Int), .int .u32 (a.q.h.ssrc : Int), .slice a.q.h.A1 a.q.h.csrc.length a.q.h.c1, .slice a.q.h.A2 a.q.h.ps.length a.q.h.c2, .slice a.q.A3 a.q.pay.length a.q.c3, .int .i64 a.q.pad, .int .i64 a.src, .int .i64 a.lay, .int .i64 a.want.src, .int .i64 a.want.lay, .int .i64 a.want.tid, .bool a.muted] 39) := ⟨_, rfl⟩
          have HX := Lib.hid (show Whole wz wr.heap.size 39 #[.bool a.q.h.mark, .int .u8 (a.q.h.typ : Int), .int .u16 (a.q.h.seq : Int), .int .u32 (a.q.h.time : Int), .int .u32 (a.q.h.ssrc : Int), .slice a.q.h.A1 a.q.h.csrc.length a.q.h.c1, .slice a.q.h.A2 a.q.h.ps.length a.q.h.c2, .slice a.q.A3 a.q.pay.length a.q.c3, .int .i64 a.q.pad, .int .i64 a.src, .int .i64 a.lay, .int .i64 a.want.src, .int .i64 a.want.lay, .int .i64 a.want.tid, .bool a.muted] from by rw [hwz]; exact Whole.new wr _ _)
          have bz : Below wr.heap.size wr wz := by rw [hwz]; exact (Below.refl _ _).alloc (Nat.le_refl _) _
          have HBZ := Lib.hid (HB.out.trans (bz.mono HB.out.size))
          rw [← hwz]
          clear hwz r0 r1 r2 r3 r4 r5 r6 r7 r8 r9 r10 r11 r12 r13 r14
          have CT : Calls Try.prog 12 #[.pointer (some ⟨g1, 0, none⟩), .agg #[.bool a.q.h.mark, .int .u8 (a.q.h.typ : Int), .int .u16 (a.q.h.seq : Int), .int .u32 (a.q.h.time : Int), .int .u32 (a.q.h.ssrc : Int), .slice a.q.h.A1 a.q.h.csrc.length a.q.h.c1, .slice a.q.h.A2 a.q.h.ps.length a.q.h.c2, .slice a.q.A3 a.q.pay.length a.q.c3, .int .i64 a.q.pad], .int .i64 a.src, .int .i64 a.lay, .agg #[.int .i64 a.want.src, .int .i64 a.want.lay, .int .i64 a.want.tid], .bool true] wz (DTold D (hush a).x g1 T1 wz) := dtake_any D (hush a) g1 T1 wz (HD.out.next bz) HFEW.out (Pq.Ok.at (HOm.out a HAM.out) HBZ.out HSG.out (show a.q.pay.length ≤ 100000 from by have := (HFSm.out a HAM.out).1; omega))
          unfold DTold at CT
          rw [hmn.1, hmn.2.1, hmn.2.2] at CT
          obtain ⟨D', hD'⟩ : ∃ x, D.next (hush a).x = x := ⟨_, rfl⟩
          rw [hD'] at CT HNX HKN HFN
          have HE1 := Lib.hid (HE.out.next bz)
          have HLZ := Lib.hid (show ∀ k, T2 k → k < wz.heap.size from fun k h => HE1.out.lt k h)
          have CT := Lib.hid CT
          clear hD' hmn
          refine CT.out.mono ?_
          rintro e w2 ⟨A2, c2, S2, rfl, d2, _, _, _, k2, n2⟩
          have HD2 := Lib.hid d2
          have HB2 := Lib.hid (HBZ.out.trans (k2.below HBZ.out.size (fun k hk h => Nat.not_lt_of_le (HSG.out k h) hk)))
          have HX2 := Lib.hid (HX.out.but k2 (fun h => Nat.lt_irrefl _ (HLT.out _ h)))
          have HSG2 : Hid (∀ k, S2 k → w.heap.size ≤ k) := Lib.hid (fun j h => (Nat.lt_or_ge j wz.heap.size).elim (fun hj => HSG.out j (n2 j hj h)) (fun hj => Nat.le_trans HBZ.out.size hj))
          have HE2 := Lib.hid (HE1.out.keep k2.size (fun k h => k2.block k (HLZ.out k h) (fun h1 => HDJ.out k h1 h)))
          have HDJ2 : Hid (∀ k, S2 k → ¬ T2 k) := Lib.hid (fun j h h' => HDJ.out j (n2 j (HLZ.out j h') h) h')
          have hseq : (0 : Int) ≤ (a.q.h.seq : Int) ∧ (a.q.h.seq : Int) < 65536 := by have := (HOm.out a HAM.out).h.seq; omega
          have CA := dagain_any D' g1 S2 (a.q.h.seq : Int) hseq w2 HD2.out HFN.out
          rw [HKN.out] at CA
          obtain ⟨gl, hgl⟩ : ∃ x, getL E.kept (a.q.h.seq : Int) = x := ⟨_, rfl⟩
          rw [hgl] at CA
          have CB := fun w' (h : DnAt w' g2 T2 E) => dagain_any E g2 T2 (a.q.h.seq : Int) hseq w' h HEF.out
          rw [hgl] at CB
          obtain ⟨bl, hbl⟩ : ∃ x, gl.getD [] = x := ⟨_, rfl⟩
          obtain ⟨ib, hib⟩ : ∃ x, gl.isSome = x := ⟨_, rfl⟩
          rw [hbl, hib] at CA CB
          have CA := Lib.hid CA
          have CB := Lib.hid CB
          clear hgl hbl hib hseq d2 k2 n2 CT HD HX HBZ HSG HLT HFEW HE HE1 HDJ HLZ bz
          have x2 := HX2.out.cell 2
          go_wp2_with fail
          refine CA.out.mono ?_
          rintro e w3 ⟨A3, c3, rfl, r3, b3⟩
          have HD3 := Lib.hid (HD2.out.next b3)
          have HE3 := Lib.hid (HE2.out.next b3)
          have HB3 := Lib.hid (HB2.out.trans (b3.mono HB2.out.size))
          have HX3 := Lib.hid (HX2.out.below b3 HX2.out.lt)
          have HR3 := Lib.hid r3
          clear r3 b3 HD2 HE2 HB2 HX2 CA x2
          have x2 := HX3.out.cell 2
          go_wp2_with fail
          refine (CB.out w3 HE3.out).mono ?_
          rintro e w4 ⟨A4, c4, rfl, r4, b4⟩
          have HD4 := Lib.hid (HD3.out.next b4)
          have HE4 := Lib.hid (HE3.out.next b4)
          have HB4 := Lib.hid (HB3.out.trans (b4.mono HB3.out.size))
          have t1 := run_text (P := Try.prog) w4 33 5 9 Try.underlying33 Try.underlying5 Try.underlying9 _ A3 bl.length c3 _ ((HR3.out.below b4 (Nat.le_refl _)).more b4.size)
          have t2 := run_text (P := Try.prog) w4 33 5 9 Try.underlying33 Try.underlying5 Try.underlying9 _ A4 bl.length c4 _ r4
          obtain ⟨TB, hTB⟩ : ∃ t, str bl = t := ⟨_, rfl⟩
          rw [hTB] at t1 t2
          clear hTB r4 b4 HR3 HD3 HE3 HB3 HX3 CB x2
          go_wp2_with fail
          go_roundw
          case rel => exact ⟨k + 1, by omega, by go_num, S2, T2, by rw [HNX.out]; exact HD4.out, HE4.out, HSG2.out, HSE.out, HDJ2.out, HB4.out⟩
          case measure => simp [intOf]; omega
        · obtain rfl : k = nm := by omega
          have hmr := muted_run E m
          have hmt : (m.take k) = m := by rw [← HNm.out]; exact List.take_length
          rw [hmt] at hd1
          obtain ⟨D, hD⟩ : ∃ D, E.run (m.map fun a => (hush a).x) = D := ⟨_, rfl⟩
          rw [hD] at hd1 hmr
          have C1 := dcount_any D g1 T1 wr hd1
          have C2 := fun w' (b : Below wr.heap.size wr w') => dcount_any E g2 T2 w' (hd2.next b)
          unfold Dn.countV at C1 C2
          rw [hmr.2.1] at C1
          have C1 := Lib.hid C1
          have C2 := Lib.hid C2
          clear hd1 hd2 hmr hD hmt hg1 hg2 hdj
          have F1 := fun w => field_sent (E.sent : Int) (D.left : Int) (D.drop : Int) (D.late : Int) (D.bad : Int) w
          have F2 := fun w => field_sent (E.sent : Int) (E.left : Int) (E.drop : Int) (E.late : Int) (E.bad : Int) w
          go_wp2_with fail
          refine C1.out.mono ?_
          rintro e w2 ⟨rfl, b2⟩
          go_wp2_with fail
          refine (C2.out w2 b2).mono ?_
          rintro e w3 ⟨rfl, b3⟩
          have HEND := Lib.hid (HB.out.trans ((b2.trans (b3.mono b2.size)).mono HB.out.size))
          clear b2 b3 C1 C2
          go_wp2_with fail
          go_ret
          exact ⟨ret_bool (by simp), HEND.out⟩

set_option maxRecDepth 100000 in
theorem lifted (os : Os) (started : os.Started) (H : Type) (enc : TypeId × Value → H) :
    ReturnsInHanded {} Try.checked os 8 .any (Rows.downMutesSpec.pre6 enc Try.prog Try.f8 Rows.downMutesRow.domain false) (Rows.downMutesSpec.post enc Try.prog Try.f8 false true false false) := by
  refine returnsInHanded_of_change (C := Try.checked) own started (by kernel_rfl) Try.func8
    (ChangeSpec.witness6 (enc := enc) (C := Try.checked) false ⟨#[], #[.int .u8 0, .slice none 0 0, .slice none 0 0], []⟩ 8 (by kernel_rfl) (by kernel_rfl) (by kernel_rfl) (by kernel_rfl)) ?_
  intro W base args ds gs before hval0 hW _ _
  have hval : ∀ (j : Nat) t v, Try.f8.params[j]? = some t → args[j]? = some v → Value.okWide Try.prog W .any base t v := hval0
  have hW' := hW
  obtain ⟨p, q, hA0, hV, _, _, _⟩ := hW
  have hA : DataW.TrodAll enc Try.prog W 0 (fun _ => true) true Try.f8.params.toList args.toList ds p := hA0
  rw [Try.params8] at hA hval
  obtain ⟨v0, vs0, d0, ds0, p0, q0, hargs, rfl, _, h0, r0⟩ := trodAll_cons hA
  obtain ⟨v1, vs1, d1, ds1, p1, q1, rfl, rfl, _, h1, r1⟩ := trodAll_cons r0
  obtain ⟨v2, vs2, d2, ds2, p2, q2, rfl, rfl, _, h2, r2⟩ := trodAll_cons r1
  obtain ⟨rfl, rfl, _⟩ := trodAll_nil r2
  obtain rfl : args = #[v0, v1, v2] := by cases args; simp_all
  obtain ⟨rfl, _⟩ := trodVars_none hV
  refine law_post (s := Rows.downMutesSpec) rfl rfl (by rw [Try.params8]; intro t ht; simp at ht; rcases ht with rfl | rfl | rfl <;> exact ⟨by kernel_rfl, of_decide_eq_true (by kernel_rfl)⟩) rfl hW' ?_
  obtain ⟨a0, rfl, _, _, w0⟩ := open_int Try.underlying5 (hval 0 5 v0 rfl rfl) h0
  obtain ⟨A1, c1, l1, rfl, hl1, hr1, ho1⟩ := open_steps (hval 1 23 v1 rfl rfl) h1
  obtain ⟨A2, c2, l2, rfl, hl2, hr2, ho2⟩ := open_steps (hval 2 23 v2 rfl rfl) h2
  exact walk W a0 w0 A1 c1 l1 hl1 hr1 ho1 A2 c2 l2 hl2 hr2 ho2

theorem over : Rows.downMutesRow.holds Try.pinned (OpenSpec.ofChange Rows.downMutesSpec) :=
  OpenClaim.holds_of_wide 8 Try.f8 rfl rfl rfl rfl rfl rfl rfl ⟨rfl, rfl, rfl, rfl, rfl⟩ rfl rfl rfl rfl rfl (by kernel_rfl) Try.func8 (by kernel_rfl)
    (of_decide_eq_true (by kernel_rfl)) (by unfold Func.isWrapper; first | (rw [if_pos (by decide +kernel)]; kernel_rfl) | (rw [if_neg (by decide +kernel)]; exact ⟨rfl, rfl⟩))
    (fun os started H enc _ => lifted os started H enc)

/-- The statement. -/
theorem downMutes_holds : Rows.DownMutesSaid := over

end Go.Proofs.Yticnaljfnjiofaa.NMutes
