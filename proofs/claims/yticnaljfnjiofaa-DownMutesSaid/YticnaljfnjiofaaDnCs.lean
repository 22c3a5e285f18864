/-
  Package down (layer 14): what send tells.
-/
import Derived.Test.YticnaljfnjiofaaDnCb
namespace Go.Proofs.Yticnaljfnjiofaa
open Go.RowKit
set_option linter.unusedSimpArgs false
set_option linter.unusedVariables false
set_option maxRecDepth 100000

/-- The packet that is sent on. -/
def outP (p : Mp) (ssrc : Nat) (d : Dsc) (n : Mn) : Mp := ⟨p.mark, p.typ, n.seq.toNat, n.time.toNat, ssrc, p.csrc, p.exts, writeS d n.pic.toNat n.tl0.toNat p.pay, p.pad⟩
theorem outP_out (x : Sx) (ssrc : Nat) (d : Dsc) (n : Mn) : x.out ssrc d n = outP x.p ssrc d n := rfl
theorem outP_facts {p : Mp} {ss : Nat} {ds : Dsc} {r : List UInt8} {n : Mn} (hf : p.Fit) (he : p.err = 0) (hp : parseS p.pay = some (ds, r)) (hn : n.Fit) (hs : ss < 4294967296) :
    (outP p ss ds n).Fit ∧ (outP p ss ds n).err = 0 ∧ (outP p ss ds n).bytes.length ≤ 1500 ∧ (writeS ds n.pic.toNat n.tl0.toNat p.pay).length = p.pay.length := by
  have h := Sx.out_parse (x := ⟨p, 0, 0, ⟨0, 0, 0⟩, false⟩) hf he hp hn hs
  have hw := write_facts hp n.pic.toNat n.tl0.toNat (by have := hn.tl0; omega)
  exact ⟨h.2.1, h.2.2, Sx.out_length (x := ⟨p, 0, 0, ⟨0, 0, 0⟩, false⟩) h.2.2, hw.2.1⟩
/-- What send tells: the bytes, which are kept. -/
def SentTold (ss : Nat) (pk : Cs) (m : Mst) (c0 c1 c2 c3 c4 g gs mm r room : Nat) (l : List Pk) (S : Nat → Prop) (k : Int) (o : List UInt8) (w : World) (e : Ending) (w' : World) : Prop :=
  ∃ A c, e = .returned (.slice A o.length c) ∧ Row w' w'.heap.size 1 A o.length (u8s o) ∧ o.length ≤ c ∧ c ≤ maxLen ∧
    Whole w' g 78 (dcs ss pk m gs (c0 + 1) c1 c2 c3 c4) ∧ SAt (fun b => DnOwn S g gs mm r b ∨ (w.heap.size ≤ b)) w' gs mm r room (addL room l ⟨k, o⟩) ∧
    But (fun b => b = g ∨ b = gs ∨ b = mm ∨ b = r) w w'
set_option maxHeartbeats 3200000 in
theorem dsend_any (ss : Nat) (pk : Cs) (m : Mst) (c0 c1 c2 c3 c4 g gs mm r room : Nat) (l : List Pk) (S : Nat → Prop) (p : Pq) (ds : Dsc) (rr : List UInt8) (n : Mn) (w : World)
    (hW : Whole w g 78 (dcs ss pk m gs c0 c1 c2 c3 c4)) (hst : SAt (DnOwn S g gs mm r) w gs mm r room l) (hS : S g ∧ S gs ∧ S mm ∧ S r) (hlt : ∀ k, S k → k < w.heap.size) (hne : g ≠ gs ∧ g ≠ mm ∧ g ≠ r)
    (hp : p.At w S) (hpar : parseS p.pay = some (ds, rr)) (herr : p.p.err = 0) (hn : n.Fit) (hss : ss < 4294967296) (hc : c0 ≤ 1000000000) :
    Calls Try.prog 42 #[.pointer (some ⟨g, 0, none⟩), .agg p.cells.toArray, .agg n.cells] w (SentTold ss pk m c0 c1 c2 c3 c4 g gs mm r room l S n.seq (outP p.p ss ds n).bytes w) := by
  obtain ⟨q1, q2, q3, q4⟩ := outP_facts hp.fit herr hpar hn hss
  have hgl : g < w.heap.size := hlt g hS.1
  have hgsl : gs < w.heap.size := hlt gs hS.2.1
  have hml : mm < w.heap.size := hlt mm hS.2.2.1
  have hrl : r < w.heap.size := hlt r hS.2.2.2
  have nn := hn
  obtain ⟨nq, nt, np, nl⟩ := n
  have hkq := u16_wf hn.seq
  obtain ⟨nq, rfl⟩ : ∃ k : Nat, nq = (k : Int) := ⟨nq.toNat, by have := hn.seq; dsimp only at this; omega⟩
  obtain ⟨nt, rfl⟩ : ∃ k : Nat, nt = (k : Int) := ⟨nt.toNat, by have := hn.time; dsimp only at this; omega⟩
  obtain ⟨np, rfl⟩ : ∃ k : Nat, np = (k : Int) := ⟨np.toNat, by have := hn.pic; dsimp only at this; omega⟩
  obtain ⟨nl, rfl⟩ : ∃ k : Nat, nl = (k : Int) := ⟨nl.toNat, by have := hn.tl0; dsimp only at this; omega⟩
  have CW := fun w' (b : Below w.heap.size w w') => write_any p.A3 p.c3 p.pay np nl (by have := hn.pic; dsimp only at this; omega) (by have := hn.tl0; dsimp only at this; omega) w' ((hp.row3.below b (Nat.le_refl _)).more b.size) hp.len3
  replace q4 : (writeS ds np nl p.pay).length = p.pay.length := q4
  have CP := fun w' (b : Below w.heap.size w w') A c (hrow : Row w' w'.heap.size 1 A p.pay.length (u8s (writeS ds np nl p.pay))) => rput_any (outP p.p ss ds ⟨nq, nt, np, nl⟩) p.h.A1 p.h.A2 A p.h.c1 p.h.c2 c p.h.ps w' q1 (hp.its.next b) rfl hp.len2 (by show (writeS ds np nl p.pay).length ≤ _; rw [q4]; have := hp.len3; omega) ((hp.row1.below b (Nat.le_refl _)).more b.size) (by show Row _ _ _ _ (writeS ds np nl p.pay).length _; rw [q4]; exact hrow)
  obtain ⟨O, hO⟩ : ∃ o, outP p.p ss ds ⟨nq, nt, np, nl⟩ = o := ⟨_, rfl⟩
  have hcells : ∀ A c, O.cells p.h.A1 p.h.c1 p.h.A2 p.h.c2 A c = #[.bool p.h.mark, .int .u8 (p.h.typ : Int), .int .u16 (nq : Int), .int .u32 (nt : Int), .int .u32 (ss : Int), .slice p.h.A1 p.h.csrc.length p.h.c1, .slice p.h.A2 p.h.ps.length p.h.c2, .slice A p.pay.length c, .int .i64 p.pad] := by
    intro A c
    rw [← hO]
    simp only [Mp.cells, outP, Pq.p, List.length_map, Int.toNat_natCast, q4]
  rw [hO] at CP q3 ⊢
  simp only [hcells] at CP
  have CA := fun A c w' (b : Below w.heap.size w w') (hrow : Row w' w'.heap.size 1 A O.bytes.length (u8s O.bytes)) (hA : ∀ a, A = some a → w.heap.size ≤ a.block) =>
    add_any (DnOwn S g gs mm r) (fun b => DnOwn S g gs mm r b ∨ (w.heap.size ≤ b)) gs mm r room l (nq : Int) hkq w'.heap.size A c O.bytes (by omega) w' hrow (Nat.le_refl _) (fun _ a ha => by have := hA a ha; omega)
      (hst.next b) (fun _ h => .inl h) (fun k h => .inr (Nat.le_trans b.size h)) (fun h => h.elim (fun h => h.2.2.1 rfl) (fun h => by omega)) (fun h => h.elim (fun h => h.2.2.2.1 rfl) (fun h => by omega)) (fun h => h.elim (fun h => h.2.2.2.2 rfl) (fun h => by omega))
  replace CW := Lib.hid CW
  replace CP := Lib.hid CP
  replace CA := Lib.hid CA
  have HPAR := Lib.hid hpar
  have HNE := Lib.hid hne
  have HWG := Lib.hid (show Whole w g 78 #[.int .u32 (ss : Int), .bool pk.on, .int .i64 pk.src, .int .i64 pk.lay, .int .i64 pk.tid, .bool m.on, .int .i64 m.high, .int .i64 m.since, .int .u16 m.off.seq, .int .u32 m.off.time, .int .u16 m.off.pic, .int .u8 m.off.tl0, .int .u16 m.out.seq, .int .u32 m.out.time, .int .u16 m.out.pic, .int .u8 m.out.tl0, .pointer (some ⟨gs, 0, none⟩), .int .i64 (c0 : Int), .int .i64 (c1 : Int), .int .i64 (c2 : Int), .int .i64 (c3 : Int), .int .i64 (c4 : Int)] from hW)
  clear hst hS hlt hp hpar herr hn hss q1 q3 nn hO hcells hkq
  have Hq4 := Lib.hid q4
  clear q4
  dsimp only [Pq.cells, Mn.cells]
  have G0_0 := hW.cell 0
  have G0_16 := hW.cell 16
  have G0_17 := hW.cell 17
  dsimp only [dcs] at G0_0 G0_16 G0_17
  clear hW
  go_enter Try.func42, Try.ntmps42
  go_upto_region 1 with fail
  go_region
  go_wp2_with fail
  obtain ⟨wf1, hwf⟩ : ∃ z, z = ((w.alloc (.cells #[.bool p.h.mark, .int .u8 (p.h.typ : Int), .int .u16 (nq : Int), .int .u32 (nt : Int), .int .u32 (ss : Int), .slice p.h.A1 p.h.csrc.length p.h.c1, .slice p.h.A2 p.h.ps.length p.h.c2, .slice p.A3 p.pay.length p.c3, .int .i64 p.pad] 35)).alloc (.cells #[.int .u16 (nq : Int), .int .u32 (nt : Int), .int .u16 (np : Int), .int .u8 (nl : Int)] 74)).drew := ⟨_, rfl⟩
  have NP : Whole (w.alloc (.cells #[.bool p.h.mark, .int .u8 (p.h.typ : Int), .int .u16 (nq : Int), .int .u32 (nt : Int), .int .u32 (ss : Int), .slice p.h.A1 p.h.csrc.length p.h.c1, .slice p.h.A2 p.h.ps.length p.h.c2, .slice p.A3 p.pay.length p.c3, .int .i64 p.pad] 35)) (w.heap.size) 35 #[.bool p.h.mark, .int .u8 (p.h.typ : Int), .int .u16 (nq : Int), .int .u32 (nt : Int), .int .u32 (ss : Int), .slice p.h.A1 p.h.csrc.length p.h.c1, .slice p.h.A2 p.h.ps.length p.h.c2, .slice p.A3 p.pay.length p.c3, .int .i64 p.pad] := by have := Whole.new w 35 #[.bool p.h.mark, .int .u8 (p.h.typ : Int), .int .u16 (nq : Int), .int .u32 (nt : Int), .int .u32 (ss : Int), .slice p.h.A1 p.h.csrc.length p.h.c1, .slice p.h.A2 p.h.ps.length p.h.c2, .slice p.A3 p.pay.length p.c3, .int .i64 p.pad]; first | with_reducible exact this | simpa using this
  have NN : Whole ((w.alloc (.cells #[.bool p.h.mark, .int .u8 (p.h.typ : Int), .int .u16 (nq : Int), .int .u32 (nt : Int), .int .u32 (ss : Int), .slice p.h.A1 p.h.csrc.length p.h.c1, .slice p.h.A2 p.h.ps.length p.h.c2, .slice p.A3 p.pay.length p.c3, .int .i64 p.pad] 35)).alloc (.cells #[.int .u16 (nq : Int), .int .u32 (nt : Int), .int .u16 (np : Int), .int .u8 (nl : Int)] 74)) (w.heap.size + 1) 74 #[.int .u16 (nq : Int), .int .u32 (nt : Int), .int .u16 (np : Int), .int .u8 (nl : Int)] := by have := Whole.new (w.alloc (.cells #[.bool p.h.mark, .int .u8 (p.h.typ : Int), .int .u16 (nq : Int), .int .u32 (nt : Int), .int .u32 (ss : Int), .slice p.h.A1 p.h.csrc.length p.h.c1, .slice p.h.A2 p.h.ps.length p.h.c2, .slice p.A3 p.pay.length p.c3, .int .i64 p.pad] 35)) 74 #[.int .u16 (nq : Int), .int .u32 (nt : Int), .int .u16 (np : Int), .int .u8 (nl : Int)]; first | with_reducible exact this | simpa using this
  have SGf1 := (((HWG.out.alloc (.cells #[.bool p.h.mark, .int .u8 (p.h.typ : Int), .int .u16 (nq : Int), .int .u32 (nt : Int), .int .u32 (ss : Int), .slice p.h.A1 p.h.csrc.length p.h.c1, .slice p.h.A2 p.h.ps.length p.h.c2, .slice p.A3 p.pay.length p.c3, .int .i64 p.pad] 35)).alloc (.cells #[.int .u16 (nq : Int), .int .u32 (nt : Int), .int .u16 (np : Int), .int .u8 (nl : Int)] 74))).drew
  have SPf1 := ((NP.alloc (.cells #[.int .u16 (nq : Int), .int .u32 (nt : Int), .int .u16 (np : Int), .int .u8 (nl : Int)] 74))).drew
  have SNf1 := (NN).drew
  have HBf1 := ((((Below.refl w.heap.size w).alloc ((Below.refl w.heap.size w)).size (.cells #[.bool p.h.mark, .int .u8 (p.h.typ : Int), .int .u16 (nq : Int), .int .u32 (nt : Int), .int .u32 (ss : Int), .slice p.h.A1 p.h.csrc.length p.h.c1, .slice p.h.A2 p.h.ps.length p.h.c2, .slice p.A3 p.pay.length p.c3, .int .i64 p.pad] 35)).alloc (((Below.refl w.heap.size w).alloc ((Below.refl w.heap.size w)).size (.cells #[.bool p.h.mark, .int .u8 (p.h.typ : Int), .int .u16 (nq : Int), .int .u32 (nt : Int), .int .u32 (ss : Int), .slice p.h.A1 p.h.csrc.length p.h.c1, .slice p.h.A2 p.h.ps.length p.h.c2, .slice p.A3 p.pay.length p.c3, .int .i64 p.pad] 35))).size (.cells #[.int .u16 (nq : Int), .int .u32 (nt : Int), .int .u16 (np : Int), .int .u8 (nl : Int)] 74))).drew
  rw [← hwf] at SGf1 SPf1 SNf1 HBf1 ⊢
  clear hwf
  clear G0_0 G0_16 G0_17 HWG NP NN
  have lGf1 := SGf1.lt
  have lPf1 := SPf1.lt
  have lNf1 := SNf1.lt
  replace HBf1 := Lib.hid HBf1
  replace SGf1 := Lib.hid SGf1
  replace SPf1 := Lib.hid SPf1
  replace SNf1 := Lib.hid SNf1
  have P1_0 := SPf1.out.cell 0
  have P1_1 := SPf1.out.cell 1
  have P1_2 := SPf1.out.cell 2
  have P1_3 := SPf1.out.cell 3
  have P1_4 := SPf1.out.cell 4
  have P1_5 := SPf1.out.cell 5
  have P1_6 := SPf1.out.cell 6
  have P1_7 := SPf1.out.cell 7
  have P1_8 := SPf1.out.cell 8
  have fP1_0 := SPf1.out.free 0
  have fP1_1 := SPf1.out.free 1
  have fP1_2 := SPf1.out.free 2
  have fP1_3 := SPf1.out.free 3
  have fP1_4 := SPf1.out.free 4
  have fP1_5 := SPf1.out.free 5
  have fP1_6 := SPf1.out.free 6
  have fP1_7 := SPf1.out.free 7
  have fP1_8 := SPf1.out.free 8
  have N1_0 := SNf1.out.cell 0
  have N1_1 := SNf1.out.cell 1
  have N1_2 := SNf1.out.cell 2
  have N1_3 := SNf1.out.cell 3
  clear hne
  go_wp2_with fail
  refine (CW.out _ (HBf1.out)).mono ?_
  rintro e w1 hq1
  rcases hq1 with ⟨hno, _, _⟩ | ⟨d', r', A2, cc2, hpar2, rfl, hown, b1⟩
  · exact absurd (hno.symm.trans HPAR.out) (by simp)
  obtain ⟨rfl, rfl⟩ : d' = ds ∧ r' = rr := by have := hpar2.symm.trans HPAR.out; simp at this; exact this
  have HR := Lib.hid (Row.of_own hown)
  have HOW := Lib.hid (own_lo hown)
  clear hown hpar2 HPAR
  have SG1 := (SGf1.out).below b1 (by have := (SGf1.out).lt; first | with_reducible exact this | simpa using this)
  have SP1 := (SPf1.out).below b1 (by have := (SPf1.out).lt; first | with_reducible exact this | simpa using this)
  have SN1 := (SNf1.out).below b1 (by have := (SNf1.out).lt; first | with_reducible exact this | simpa using this)
  have HB1 := Lib.hid ((HBf1.out).trans (b1.mono (HBf1.out).size))
  have lG1 := SG1.lt
  have lP1 := SP1.lt
  have lN1 := SN1.lt
  clear b1 P1_0 P1_1 P1_2 P1_3 P1_4 P1_5 P1_6 P1_7 P1_8 fP1_0 fP1_1 fP1_2 fP1_3 fP1_4 fP1_5 fP1_6 fP1_7 fP1_8 N1_0 N1_1 N1_2 N1_3 SGf1 SPf1 SNf1 HBf1 CW
  have P1_0 := SP1.cell 0
  have fP1_0 := SP1.free 0
  have P1_1 := SP1.cell 1
  have fP1_1 := SP1.free 1
  have P1_2 := SP1.cell 2
  have fP1_2 := SP1.free 2
  have P1_3 := SP1.cell 3
  have fP1_3 := SP1.free 3
  have P1_4 := SP1.cell 4
  have fP1_4 := SP1.free 4
  have P1_5 := SP1.cell 5
  have fP1_5 := SP1.free 5
  have P1_6 := SP1.cell 6
  have fP1_6 := SP1.free 6
  have P1_7 := SP1.cell 7
  have fP1_7 := SP1.free 7
  have P1_8 := SP1.cell 8
  have fP1_8 := SP1.free 8
  have N1_0 := SN1.cell 0
  have N1_1 := SN1.cell 1
  have N1_2 := SN1.cell 2
  have N1_3 := SN1.cell 3
  replace SG1 := Lib.hid SG1
  replace SP1 := Lib.hid SP1
  replace SN1 := Lib.hid SN1
  go_wp2_with fail
  refine (CP.out _ (((HB1.out).setCell (p := ⟨w.heap.size, 7, none⟩) (show w.heap.size ≤ w.heap.size from by omega) (.slice A2 p.pay.length cc2))) A2 cc2 ((HR.out.butA (Nat.le_refl _) ((But.refl (fun b => b = w.heap.size) _).set (p := ⟨w.heap.size, 7, none⟩) (.inl rfl) (.slice A2 p.pay.length cc2)) (fun _ a ha => by have := HOW.out a ha; omega)).more (by simp))).mono ?_
  rintro e w2 ⟨A3, cz, rfl, hr3, b2, hlo, hcap1, hcap2⟩
  have HR3 := Lib.hid hr3
  have HLO := Lib.hid (fun a ha => Nat.le_trans (show w.heap.size ≤ _ by have := HB1.out.size; simp; omega) (hlo a ha))
  have HC := Lib.hid (And.intro hcap1 hcap2)
  clear hr3 hlo hcap1 hcap2
  have SG2 := (((SG1.out).far (p := ⟨w.heap.size, 7, none⟩) (show g ≠ w.heap.size from by omega) (.slice A2 p.pay.length cc2))).below b2 (by have := (((SG1.out).far (p := ⟨w.heap.size, 7, none⟩) (show g ≠ w.heap.size from by omega) (.slice A2 p.pay.length cc2))).lt; first | with_reducible exact this | simpa using this)
  have SP2 := ((show Whole _ _ _ #[.bool p.h.mark, .int .u8 (p.h.typ : Int), .int .u16 (nq : Int), .int .u32 (nt : Int), .int .u32 (ss : Int), .slice p.h.A1 p.h.csrc.length p.h.c1, .slice p.h.A2 p.h.ps.length p.h.c2, .slice A2 p.pay.length cc2, .int .i64 p.pad] from (SP1.out).set 7 (.slice A2 p.pay.length cc2))).below b2 (by have := ((show Whole _ _ _ #[.bool p.h.mark, .int .u8 (p.h.typ : Int), .int .u16 (nq : Int), .int .u32 (nt : Int), .int .u32 (ss : Int), .slice p.h.A1 p.h.csrc.length p.h.c1, .slice p.h.A2 p.h.ps.length p.h.c2, .slice A2 p.pay.length cc2, .int .i64 p.pad] from (SP1.out).set 7 (.slice A2 p.pay.length cc2))).lt; first | with_reducible exact this | simpa using this)
  have SN2 := (((SN1.out).far (p := ⟨w.heap.size, 7, none⟩) (show w.heap.size + 1 ≠ w.heap.size from by omega) (.slice A2 p.pay.length cc2))).below b2 (by have := (((SN1.out).far (p := ⟨w.heap.size, 7, none⟩) (show w.heap.size + 1 ≠ w.heap.size from by omega) (.slice A2 p.pay.length cc2))).lt; first | with_reducible exact this | simpa using this)
  have HB2 := Lib.hid ((((HB1.out).setCell (p := ⟨w.heap.size, 7, none⟩) (show w.heap.size ≤ w.heap.size from by omega) (.slice A2 p.pay.length cc2))).trans (b2.mono (((HB1.out).setCell (p := ⟨w.heap.size, 7, none⟩) (show w.heap.size ≤ w.heap.size from by omega) (.slice A2 p.pay.length cc2))).size))
  have lG2 := SG2.lt
  have lP2 := SP2.lt
  have lN2 := SN2.lt
  clear b2 P1_0 fP1_0 P1_1 fP1_1 P1_2 fP1_2 P1_3 fP1_3 P1_4 fP1_4 P1_5 fP1_5 P1_6 fP1_6 P1_7 fP1_7 P1_8 fP1_8 N1_0 N1_1 N1_2 N1_3 SG1 SP1 SN1 HB1 CP HR HOW lG1 lP1 lN1
  have G2_0 := SG2.cell 0
  have G2_1 := SG2.cell 1
  have G2_2 := SG2.cell 2
  have G2_3 := SG2.cell 3
  have G2_4 := SG2.cell 4
  have G2_5 := SG2.cell 5
  have G2_6 := SG2.cell 6
  have G2_7 := SG2.cell 7
  have G2_8 := SG2.cell 8
  have G2_9 := SG2.cell 9
  have G2_10 := SG2.cell 10
  have G2_11 := SG2.cell 11
  have G2_12 := SG2.cell 12
  have G2_13 := SG2.cell 13
  have G2_14 := SG2.cell 14
  have G2_15 := SG2.cell 15
  have G2_16 := SG2.cell 16
  have G2_17 := SG2.cell 17
  have G2_18 := SG2.cell 18
  have G2_19 := SG2.cell 19
  have G2_20 := SG2.cell 20
  have G2_21 := SG2.cell 21
  have N2_0 := SN2.cell 0
  have N2_1 := SN2.cell 1
  have N2_2 := SN2.cell 2
  have N2_3 := SN2.cell 3
  replace SG2 := Lib.hid SG2
  replace SP2 := Lib.hid SP2
  replace SN2 := Lib.hid SN2
  go_upto_region 4 with fail
  clear G2_0 G2_1 G2_2 G2_3 G2_4 G2_5 G2_6 G2_7 G2_8 G2_9 G2_10 G2_11 G2_12 G2_13 G2_14 G2_15 G2_16 G2_17 G2_18 G2_19 G2_20 G2_21 N2_0 N2_1 N2_2 N2_3
  have HWG2 := SG2
  have HWN2 := SN2
  have KS := Lib.hid (fun w' (b' : But (fun k => k = gs ∨ k = mm ∨ k = r) w2 w') => show (fun w' => w'.cell? ⟨g, 16, none⟩ = some (.pointer (some ⟨gs, 0, none⟩)) ∧ w'.cell? ⟨w.heap.size + 1, 0, none⟩ = some (.int .u16 (nq : Int))) w' from ⟨(HWG2.out.but b' (by have := HNE.out; omega)).cell 16, (HWN2.out.but b' (by omega)).cell 0⟩)
  have hK0 := KS.out w2 (But.refl _ _)
  go_region_held3 (fun w' => w'.cell? ⟨g, 16, none⟩ = some (.pointer (some ⟨gs, 0, none⟩)) ∧ w'.cell? ⟨w.heap.size + 1, 0, none⟩ = some (.int .u16 (nq : Int)))
    (first | exact hK0 | exact KS.out _ (But.refl _ _).drew | exact KS.out _ ((But.refl _ _).drew.trans ‹But _ _ _›))
    (first | (go_at_call 63; refine (CA.out A3 cz _ (HB2.out.drew) HR3.out.drew HLO.out).mono ?_; rintro e w3 ⟨rfl, hs3, b3⟩))
  have HS3 := Lib.hid hs3
  have b4 := (But.refl (fun k => k = gs ∨ k = mm ∨ k = r) w2).drew.trans b3
  have HB4 := Lib.hid b4
  have HG3 := HWG2.out.but b4 (by have := HNE.out; omega)
  clear hs3 b3 b4 KS hK0 CA
  have d17 := HG3.cell 17
  have fd17 := HG3.free 17
  have HG3' := Lib.hid HG3
  clear HG3
  have hw1 : IntKind.i64.wrap ((c0 : Int) + 1) = c0 + 1 := IntWalk.i64_in _ (by omega)
  go_wp2_with fail
  go_ret
  have hlo := HLO.out
  have hg3 := HG3'.out.lt
  have e1 : (c0 : Int) + 1 = ((c0 + 1 : Nat) : Int) := by omega
  rw [e1]
  have HB6 := Lib.hid ((HB4.out.mono (S' := fun k => k = g ∨ k = gs ∨ k = mm ∨ k = r) (fun _ _ h => .inr h)).set (p := ⟨g, 17, none⟩) (.inl (.inl rfl)) (.int .i64 ((c0 + 1 : Nat) : Int)))
  refine ⟨A3, cz, rfl, ?_, HC.out.1, HC.out.2, (show Whole _ _ _ #[.int .u32 (ss : Int), .bool pk.on, .int .i64 pk.src, .int .i64 pk.lay, .int .i64 pk.tid, .bool m.on, .int .i64 m.high, .int .i64 m.since, .int .u16 m.off.seq, .int .u32 m.off.time, .int .u16 m.off.pic, .int .u8 m.off.tl0, .int .u16 m.out.seq, .int .u32 m.out.time, .int .u16 m.out.pic, .int .u8 m.out.tl0, .pointer (some ⟨gs, 0, none⟩), .int .i64 ((c0 + 1 : Nat) : Int), .int .i64 (c1 : Int), .int .i64 (c2 : Int), .int .i64 (c3 : Int), .int .i64 (c4 : Int)] from HG3'.out.set 17 _), ?_, ?_⟩
  · exact (HR3.out.butA (Nat.le_refl _) (HB6.out) (fun hn a ha => by have := HLO.out a ha; omega)).more HB6.out.size
  · exact HS3.out.set (fun h => HNE.out.1 h) (fun h => HNE.out.2.1 h) (fun h => HNE.out.2.2 h) (fun h => h.elim (fun h => h.2.1 rfl) (fun h => Nat.not_le_of_lt hgl h)) _
  · exact (but_of_below HB2.out).trans HB6.out
end Go.Proofs.Yticnaljfnjiofaa
