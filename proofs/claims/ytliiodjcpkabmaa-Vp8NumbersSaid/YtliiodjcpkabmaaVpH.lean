/-
  Contracts of vp8's fields, and of the loop that reads by them.
-/
import Derived.Test.YtliiodjcpkabmaaVpG
namespace Go.Proofs.Ytliiodjcpkabmaa
open Go.RowKit
variable {lo g gd bd bc gl : Nat}

/-- The row of readings. -/
def fieldC (bd bc gl : Nat) : Array Value :=
  #[.int .u8 128, .func (.func 33) #[] #[.pointer (some ⟨bd, 0, none⟩), .pointer (some ⟨bc, 0, none⟩)],
    .int .u8 64, .func (.func 35) #[] #[.pointer (some ⟨bc, 0, none⟩), .pointer (some ⟨bd, 0, none⟩)],
    .int .u8 48, .func (.func 36) #[] #[.pointer (some ⟨bc, 0, none⟩), .pointer (some ⟨gl, 0, none⟩)],
    .int .u8 32, .func (.func 37) #[] #[.pointer (some ⟨gl, 0, none⟩), .pointer (some ⟨bd, 0, none⟩)],
    .int .u8 16, .func (.func 38) #[] #[.pointer (some ⟨gl, 0, none⟩), .pointer (some ⟨bd, 0, none⟩)]]

set_option maxRecDepth 100000 in
theorem fields_any (d : Dsc) (l : List UInt8) (e : Int) (w : World) (hd : Whole w gd 26 d.cells) (hc : CutAt w lo g l e) (hg : g < gd) :
    Calls Try.prog 31 #[.pointer (some ⟨gd, 0, none⟩), .pointer (some ⟨g, 0, none⟩)] w fun en w' => en = .returned (.slice (some ⟨w.heap.size + 3, 0, none⟩) 5 5) ∧ TAt w' lo g gd w.heap.size (w.heap.size + 1) (w.heap.size + 2) ⟨d, l, e, 0⟩ ∧
      Whole w' (w.heap.size + 3) 66 (fieldC w.heap.size (w.heap.size + 1) (w.heap.size + 2)) ∧ Below w.heap.size w w' := by

  have HD := Lib.hid hd
  have HC := Lib.hid hc
  clear hd hc
  go_enter Try.func31, Try.ntmps31
  go_wp2
  go_ret
  refine ⟨rfl, ⟨(((HD.out.alloc _).alloc _).alloc _).alloc _, (((HC.out.alloc _).alloc _).alloc _).alloc _, ?_, ?_, ?_, (by show 0 < 256; omega), hg, HD.out.lt, by omega, by omega, by simp⟩, ?_, (((Below.refl _ _).alloc (Nat.le_refl _) _).alloc (by simp) _).alloc (by simp; omega) _ |>.alloc (by simp; omega) _⟩
  · have := (Whole.new ((w.alloc (.cells #[.pointer (some ⟨gd, 0, none⟩)] 62)).alloc (.cells #[.pointer (some ⟨g, 0, none⟩)] 45)) 5 #[.int .u8 0]).alloc (.cells (fieldC w.heap.size (w.heap.size + 1) (w.heap.size + 2)) 66)
    simp only [World.size_alloc] at this
    exact this
  · exact (((Whole.new w 62 #[.pointer (some ⟨gd, 0, none⟩)]).alloc _).alloc _).alloc _
  · have := ((Whole.new (w.alloc (.cells #[.pointer (some ⟨gd, 0, none⟩)] 62)) 45 #[.pointer (some ⟨g, 0, none⟩)]).alloc (.cells #[.int .u8 0] 5)).alloc (.cells (fieldC w.heap.size (w.heap.size + 1) (w.heap.size + 2)) 66)
    simp only [World.size_alloc] at this
    exact this
  · have := Whole.new (((w.alloc (.cells #[.pointer (some ⟨gd, 0, none⟩)] 62)).alloc (.cells #[.pointer (some ⟨g, 0, none⟩)] 45)).alloc (.cells #[.int .u8 0] 5)) 66 (fieldC w.heap.size (w.heap.size + 1) (w.heap.size + 2))
    simp only [World.size_alloc] at this
    exact this

theorem store_func {P : Program} (w : World) (a : Value) (f : Fn) (xs : Array Value) (t : TypeId) (m : Mode) : (store ⟨w.heap.size, 1, none⟩ (.func f #[] xs) m).run P (w.alloc (.cells #[a, .nilFunc] t)) = .ok () (w.alloc (.cells #[a, .func f #[] xs] t)) := by
  rw [run_store P _ _ _ m rfl, World.cell?_alloc_new, World.setCell_alloc_new, World.frozen?_alloc_new]
  rfl
theorem TAt.alloc {w : World} {s : VS} (h : TAt w lo g gd bd bc gl s) (o : Obj) : TAt (w.alloc o) lo g gd bd bc gl s :=
  ⟨h.d.alloc o, h.c.alloc o, h.x.alloc o, h.pd.alloc o, h.pc.alloc o, h.xl, h.o1, h.o2, h.o3, h.o4, by have := h.o5; simp; omega⟩

theorem bitA (x : Nat) (h : x < 256) : (bits .and .u8 (x : Int) 128 != 0) = bitN x 128 ∧ (bits .and .u8 (x : Int) 64 != 0) = bitN x 64 ∧ (bits .and .u8 (x : Int) 48 != 0) = (bitN x 32 || bitN x 16) ∧ (bits .and .u8 (x : Int) 32 != 0) = bitN x 32 ∧ (bits .and .u8 (x : Int) 16 != 0) = bitN x 16 := by
  have : ∀ x : Nat, x < 256 → (bits .and .u8 (x : Int) 128 != 0) = bitN x 128 ∧ (bits .and .u8 (x : Int) 64 != 0) = bitN x 64 ∧ (bits .and .u8 (x : Int) 48 != 0) = (bitN x 32 || bitN x 16) ∧ (bits .and .u8 (x : Int) 32 != 0) = bitN x 32 ∧ (bits .and .u8 (x : Int) 16 != 0) = bitN x 16 := by decide +kernel
  exact this x h

/-- Behind all reads: the descriptor, what is left, what went wrong. -/
def VS.all (d : Dsc) (l : List UInt8) (e : Int) : VS := VS.a5 (rdN l e) ⟨d, rdL l e, rdE l e, 0⟩
def two (g gd k : Nat) : Prop := k = g ∨ k = gd
/-- What take comes to. -/
def Taken (lo g gd : Nat) (s : VS) (w : World) (e : Ending) (w' : World) : Prop :=
  e = .returned (.tuple #[]) ∧ Whole w' gd 26 s.d.cells ∧ CutAt w' lo g s.l s.e ∧ But (two g gd) w w'

set_option maxRecDepth 100000 in
set_option maxHeartbeats 1600000 in
theorem vtake_any (d : Dsc) (l : List UInt8) (e : Int) (w : World) (hd : Whole w gd 26 d.cells) (hc : CutAt w lo g l e) (hg : g < gd) :
    Calls Try.prog 21 #[.pointer (some ⟨gd, 0, none⟩), .pointer (some ⟨g, 0, none⟩)] w (Taken lo g gd (VS.all d l e) w) := by
  have ht := rd_lt l e
  obtain ⟨t1, t2, t3, t4, t5⟩ := bitA _ ht
  have HALL := Lib.hid (show VS.all d l e = VS.a5 (rdN l e) ⟨d, rdL l e, rdE l e, 0⟩ from rfl)
  generalize VS.all d l e = fin at HALL ⊢
  have C := Lib.hid (fun wx (hc : CutAt wx lo g l e) => num1_any (lo := lo) g l e wx hc)
  generalize rdN l e = t at *
  generalize rdL l e = l1 at *
  generalize rdE l e = e1 at *
  obtain ⟨s, hs⟩ : ∃ s : VS, s = ⟨d, l1, e1, 0⟩ := ⟨_, rfl⟩
  rw [← hs] at HALL
  have HS := Lib.hid hs
  have HT := Lib.hid t1
  have HT2 := Lib.hid t2
  have HT3 := Lib.hid t3
  have HT4 := Lib.hid t4
  have HT5 := Lib.hid t5
  have HD := Lib.hid hd
  have HC := Lib.hid hc
  clear t1 t2 t3 t4 t5 hs hd hc
  go_enter Try.func21, Try.ntmps21
  go_wp2_with fail
  refine (C.out _ HC.out).mono ?_
  rintro en w1 ⟨rfl, c1, g1⟩
  have HD1 := Lib.hid (HD.out.grown g1 (by simp; omega))
  have HC1 := Lib.hid c1
  have HG1 := Lib.hid g1
  clear c1 g1 HD HC C
  go_wp2_with fail
  refine (fields_any d l1 e1 w1 HD1.out HC1.out hg).mono ?_
  rintro en w2 ⟨rfl, hT, hF, hB⟩
  rw [← HS.out] at hT
  have HB0 := Lib.hid (show But (two g gd) w w2 from (but_grown HG1.out (S := two g gd) (.inl rfl)).trans (but_of_below hB))
  have hbd : w.heap.size ≤ w1.heap.size := HG1.out.size
  obtain ⟨bd, hbd'⟩ : ∃ bd, bd = w1.heap.size := ⟨_, rfl⟩
  rw [← hbd'] at hT hF ⊢
  rw [← hbd'] at hbd
  have hgs : bd + 2 < bd + 3 := by omega
  generalize bd + 3 = gs at hF hgs ⊢
  generalize hgl : bd + 2 = gl at hT hF hgs
  generalize bd + 1 = bc at hT hF
  have HGL := Lib.hid (show w.heap.size ≤ gl by omega)
  clear HD1 HC1 HG1 hB hbd' hbd hgl
  go_wp2_with fail
  go_loopw [14] (fun i wr => ∃ k : Nat, k ≤ 5 ∧ i = .int .i64 k ∧ TAt wr lo g gd bd bc gl (s.at t k) ∧ Whole wr gs 66 (fieldC bd bc gl) ∧ But (three g gd gl) w2 wr) (fun i _ => 5 - (intOf i).toNat)
  case atStart => exact ⟨0, by omega, rfl, hT, hF, But.refl _ _⟩
  case round =>
    clear hT hF
    obtain ⟨k, hk, rfl, hT, hF, hB⟩ := hrel
    have hgg : ¬ three g gd gl gs := by
      have := hT.o1
      have := hT.o2
      have := hT.o3
      have := hT.o4
      unfold three
      omega
    have HGG := Lib.hid hgg
    have hgw : gs < wr.heap.size := hF.lt
    clear hgg
    by_cases hlt : k < 5
    · obtain rfl | rfl | rfl | rfl | rfl : k = 0 ∨ k = 1 ∨ k = 2 ∨ k = 3 ∨ k = 4 := by omega
      · have q0 : wr.cell? ⟨gs, 0, none⟩ = some (.int .u8 128) := hF.cell 0
        have q1 : wr.cell? ⟨gs, 1, none⟩ = some (.func (.func 33) #[] #[.pointer (some ⟨bd, 0, none⟩), .pointer (some ⟨bc, 0, none⟩)]) := hF.cell 1
        have hst := store_func (P := Try.prog) wr (.int .u8 128) (.func 33) #[.pointer (some ⟨bd, 0, none⟩), .pointer (some ⟨bc, 0, none⟩)] 66
        have hb := HT.out
        have HTT := Lib.hid (hT.alloc (.cells #[.int .u8 128, .func (.func 33) #[] #[.pointer (some ⟨bd, 0, none⟩), .pointer (some ⟨bc, 0, none⟩)]] 66))
        have HFF := Lib.hid (hF.alloc (.cells #[.int .u8 128, .func (.func 33) #[] #[.pointer (some ⟨bd, 0, none⟩), .pointer (some ⟨bc, 0, none⟩)]] 66))
        have HBB := Lib.hid (hB.alloc (.cells #[.int .u8 128, .func (.func 33) #[] #[.pointer (some ⟨bd, 0, none⟩), .pointer (some ⟨bc, 0, none⟩)]] 66))
        have HU := Lib.hid (show s.at t 1 = if bitN t 128 = true then (s.at t 0).s1 else s.at t 0 from rfl)
        clear hT hF hB
        cases hc : bitN t 128 with
        | true =>
          rw [hc] at hb
          have hu := HU.out
          rw [hc, if_pos rfl] at hu
          have HV := Lib.hid hu
          clear hc HU hu
          go_wp2_with (go_at_call 33; refine (f1_any _ _ HTT.out).mono ?_; rintro e w4 ⟨rfl, hT4, hB4⟩)
          go_roundw
          case rel => exact ⟨1, by omega, rfl, by rw [HV.out]; exact hT4, HFF.out.but hB4 HGG.out, HBB.out.trans hB4⟩
          case measure => simp [intOf]
        | false =>
          rw [hc] at hb
          have hu := HU.out
          rw [hc, if_neg (by decide)] at hu
          have HV := Lib.hid hu
          clear hc HU hu
          go_wp2
          go_roundw
          case rel => exact ⟨1, by omega, rfl, by rw [HV.out]; exact HTT.out, HFF.out, HBB.out⟩
          case measure => simp [intOf]
      · have q0 : wr.cell? ⟨gs, 2, none⟩ = some (.int .u8 64) := hF.cell 2
        have q1 : wr.cell? ⟨gs, 3, none⟩ = some (.func (.func 35) #[] #[.pointer (some ⟨bc, 0, none⟩), .pointer (some ⟨bd, 0, none⟩)]) := hF.cell 3
        have hst := store_func (P := Try.prog) wr (.int .u8 64) (.func 35) #[.pointer (some ⟨bc, 0, none⟩), .pointer (some ⟨bd, 0, none⟩)] 66
        have hb := HT2.out
        have HTT := Lib.hid (hT.alloc (.cells #[.int .u8 64, .func (.func 35) #[] #[.pointer (some ⟨bc, 0, none⟩), .pointer (some ⟨bd, 0, none⟩)]] 66))
        have HFF := Lib.hid (hF.alloc (.cells #[.int .u8 64, .func (.func 35) #[] #[.pointer (some ⟨bc, 0, none⟩), .pointer (some ⟨bd, 0, none⟩)]] 66))
        have HBB := Lib.hid (hB.alloc (.cells #[.int .u8 64, .func (.func 35) #[] #[.pointer (some ⟨bc, 0, none⟩), .pointer (some ⟨bd, 0, none⟩)]] 66))
        have HU := Lib.hid (show s.at t 2 = if bitN t 64 = true then (s.at t 1).s2 else s.at t 1 from rfl)
        clear hT hF hB
        cases hc : bitN t 64 with
        | true =>
          rw [hc] at hb
          have hu := HU.out
          rw [hc, if_pos rfl] at hu
          have HV := Lib.hid hu
          clear hc HU hu
          go_wp2_with (go_at_call 35; refine (f2_any _ _ HTT.out).mono ?_; rintro e w4 ⟨rfl, hT4, hB4⟩)
          go_roundw
          case rel => exact ⟨2, by omega, rfl, by rw [HV.out]; exact hT4, HFF.out.but hB4 HGG.out, HBB.out.trans hB4⟩
          case measure => simp [intOf]
        | false =>
          rw [hc] at hb
          have hu := HU.out
          rw [hc, if_neg (by decide)] at hu
          have HV := Lib.hid hu
          clear hc HU hu
          go_wp2
          go_roundw
          case rel => exact ⟨2, by omega, rfl, by rw [HV.out]; exact HTT.out, HFF.out, HBB.out⟩
          case measure => simp [intOf]
      · have q0 : wr.cell? ⟨gs, 4, none⟩ = some (.int .u8 48) := hF.cell 4
        have q1 : wr.cell? ⟨gs, 5, none⟩ = some (.func (.func 36) #[] #[.pointer (some ⟨bc, 0, none⟩), .pointer (some ⟨gl, 0, none⟩)]) := hF.cell 5
        have hst := store_func (P := Try.prog) wr (.int .u8 48) (.func 36) #[.pointer (some ⟨bc, 0, none⟩), .pointer (some ⟨gl, 0, none⟩)] 66
        have hb := HT3.out
        have HTT := Lib.hid (hT.alloc (.cells #[.int .u8 48, .func (.func 36) #[] #[.pointer (some ⟨bc, 0, none⟩), .pointer (some ⟨gl, 0, none⟩)]] 66))
        have HFF := Lib.hid (hF.alloc (.cells #[.int .u8 48, .func (.func 36) #[] #[.pointer (some ⟨bc, 0, none⟩), .pointer (some ⟨gl, 0, none⟩)]] 66))
        have HBB := Lib.hid (hB.alloc (.cells #[.int .u8 48, .func (.func 36) #[] #[.pointer (some ⟨bc, 0, none⟩), .pointer (some ⟨gl, 0, none⟩)]] 66))
        have HU := Lib.hid (show s.at t 3 = if (bitN t 32 || bitN t 16) = true then (s.at t 2).s3 else s.at t 2 from rfl)
        clear hT hF hB
        cases hc : (bitN t 32 || bitN t 16) with
        | true =>
          rw [hc] at hb
          have hu := HU.out
          rw [hc, if_pos rfl] at hu
          have HV := Lib.hid hu
          clear hc HU hu
          go_wp2_with (go_at_call 36; refine (f3_any _ _ HTT.out).mono ?_; rintro e w4 ⟨rfl, hT4, hB4⟩)
          go_roundw
          case rel => exact ⟨3, by omega, rfl, by rw [HV.out]; exact hT4, HFF.out.but hB4 HGG.out, HBB.out.trans hB4⟩
          case measure => simp [intOf]
        | false =>
          rw [hc] at hb
          have hu := HU.out
          rw [hc, if_neg (by decide)] at hu
          have HV := Lib.hid hu
          clear hc HU hu
          go_wp2
          go_roundw
          case rel => exact ⟨3, by omega, rfl, by rw [HV.out]; exact HTT.out, HFF.out, HBB.out⟩
          case measure => simp [intOf]
      · have q0 : wr.cell? ⟨gs, 6, none⟩ = some (.int .u8 32) := hF.cell 6
        have q1 : wr.cell? ⟨gs, 7, none⟩ = some (.func (.func 37) #[] #[.pointer (some ⟨gl, 0, none⟩), .pointer (some ⟨bd, 0, none⟩)]) := hF.cell 7
        have hst := store_func (P := Try.prog) wr (.int .u8 32) (.func 37) #[.pointer (some ⟨gl, 0, none⟩), .pointer (some ⟨bd, 0, none⟩)] 66
        have hb := HT4.out
        have HTT := Lib.hid (hT.alloc (.cells #[.int .u8 32, .func (.func 37) #[] #[.pointer (some ⟨gl, 0, none⟩), .pointer (some ⟨bd, 0, none⟩)]] 66))
        have HFF := Lib.hid (hF.alloc (.cells #[.int .u8 32, .func (.func 37) #[] #[.pointer (some ⟨gl, 0, none⟩), .pointer (some ⟨bd, 0, none⟩)]] 66))
        have HBB := Lib.hid (hB.alloc (.cells #[.int .u8 32, .func (.func 37) #[] #[.pointer (some ⟨gl, 0, none⟩), .pointer (some ⟨bd, 0, none⟩)]] 66))
        have HU := Lib.hid (show s.at t 4 = if bitN t 32 = true then (s.at t 3).s4 else s.at t 3 from rfl)
        clear hT hF hB
        cases hc : bitN t 32 with
        | true =>
          rw [hc] at hb
          have hu := HU.out
          rw [hc, if_pos rfl] at hu
          have HV := Lib.hid hu
          clear hc HU hu
          go_wp2_with (go_at_call 37; refine (f4_any _ _ HTT.out).mono ?_; rintro e w4 ⟨rfl, hT4, hB4⟩)
          go_roundw
          case rel => exact ⟨4, by omega, rfl, by rw [HV.out]; exact hT4, HFF.out.but hB4 HGG.out, HBB.out.trans hB4⟩
          case measure => simp [intOf]
        | false =>
          rw [hc] at hb
          have hu := HU.out
          rw [hc, if_neg (by decide)] at hu
          have HV := Lib.hid hu
          clear hc HU hu
          go_wp2
          go_roundw
          case rel => exact ⟨4, by omega, rfl, by rw [HV.out]; exact HTT.out, HFF.out, HBB.out⟩
          case measure => simp [intOf]
      · have q0 : wr.cell? ⟨gs, 8, none⟩ = some (.int .u8 16) := hF.cell 8
        have q1 : wr.cell? ⟨gs, 9, none⟩ = some (.func (.func 38) #[] #[.pointer (some ⟨gl, 0, none⟩), .pointer (some ⟨bd, 0, none⟩)]) := hF.cell 9
        have hst := store_func (P := Try.prog) wr (.int .u8 16) (.func 38) #[.pointer (some ⟨gl, 0, none⟩), .pointer (some ⟨bd, 0, none⟩)] 66
        have hb := HT5.out
        have HTT := Lib.hid (hT.alloc (.cells #[.int .u8 16, .func (.func 38) #[] #[.pointer (some ⟨gl, 0, none⟩), .pointer (some ⟨bd, 0, none⟩)]] 66))
        have HFF := Lib.hid (hF.alloc (.cells #[.int .u8 16, .func (.func 38) #[] #[.pointer (some ⟨gl, 0, none⟩), .pointer (some ⟨bd, 0, none⟩)]] 66))
        have HBB := Lib.hid (hB.alloc (.cells #[.int .u8 16, .func (.func 38) #[] #[.pointer (some ⟨gl, 0, none⟩), .pointer (some ⟨bd, 0, none⟩)]] 66))
        have HU := Lib.hid (show s.at t 5 = if bitN t 16 = true then (s.at t 4).s5 else s.at t 4 from rfl)
        clear hT hF hB
        cases hc : bitN t 16 with
        | true =>
          rw [hc] at hb
          have hu := HU.out
          rw [hc, if_pos rfl] at hu
          have HV := Lib.hid hu
          clear hc HU hu
          go_wp2_with (go_at_call 38; refine (f5_any _ _ HTT.out).mono ?_; rintro e w4 ⟨rfl, hT4, hB4⟩)
          go_roundw
          case rel => exact ⟨5, by omega, rfl, by rw [HV.out]; exact hT4, HFF.out.but hB4 HGG.out, HBB.out.trans hB4⟩
          case measure => simp [intOf]
        | false =>
          rw [hc] at hb
          have hu := HU.out
          rw [hc, if_neg (by decide)] at hu
          have HV := Lib.hid hu
          clear hc HU hu
          go_wp2
          go_roundw
          case rel => exact ⟨5, by omega, rfl, by rw [HV.out]; exact HTT.out, HFF.out, HBB.out⟩
          case measure => simp [intOf]
    · obtain rfl : k = 5 := by omega
      have HF := Lib.hid (show Taken lo g gd fin w (.returned (.tuple #[])) wr from ⟨rfl, by rw [HALL.out]; exact hT.d, by rw [HALL.out]; exact hT.c, ((HB0.out.mono (S' := three g gd gl) (fun k _ h => h.elim .inl (fun h => .inr (.inl h)))).trans hB).mono (fun k hk h => by
        have := HGL.out
        unfold three at h
        unfold two
        omega)⟩)
      clear hT hF hB
      go_wp2
      exact bodyPost_end (v := .tuple #[]) (by simp [results, Try.results21, go_sem]) rfl HF.out
end Go.Proofs.Ytliiodjcpkabmaa
