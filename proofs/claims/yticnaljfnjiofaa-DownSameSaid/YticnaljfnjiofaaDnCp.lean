/-
  Package down (layer 14): what pass tells.
-/
import Derived.Test.YticnaljfnjiofaaDnCf
namespace Go.Proofs.Yticnaljfnjiofaa
open Go.RowKit
set_option linter.unusedSimpArgs false
set_option linter.unusedVariables false
set_option maxRecDepth 100000

section
variable {d : Dn} {x : Sx} {ds : Dsc} {r : List UInt8} {pk : Cs}
theorem dtakeBad (hm : x.muted = false) (hb : ∀ ds r, parseS x.p.pay = some (ds, r) → x.p.err ≠ 0) : d.take x = ((d.badS x).1, none) := by
  unfold Dn.take
  rw [if_neg (by simp [hm])]
  cases hp : parseS x.p.pay with
  | none => rfl
  | some y =>
    obtain ⟨ds, r⟩ := y
    dsimp only
    rw [if_pos (hb ds r hp)]
    rfl
theorem dtakeGood (hm : x.muted = false) (hp : parseS x.p.pay = some (ds, r)) (he : x.p.err = 0) : d.take x = d.good x ds := by
  unfold Dn.take
  rw [if_neg (by simp [hm]), hp]
  dsimp only
  rw [if_neg (by simp [he])]
theorem bad_nums (hpk : pk.as d.pick) : (d.badS x).1.nums = leftM pk d.nums x.p.seq x.src x.lay := by
  have h := Cs.as_own (x := ⟨x.src, x.lay, false, false, false, 0, false⟩) hpk
  unfold Dn.badS leftM Dn.own
  unfold Cs.own at h
  dsimp only at h ⊢
  rw [h]
theorem good_leave (hk : d.pick.kind (x.cx ds) x.want = 0) : d.good x ds = ({ d with pick := d.pick.next (x.cx ds) x.want, left := d.left + 1 }, none) := by
  unfold Dn.good; rw [if_pos hk]
theorem good_drop (hk : d.pick.kind (x.cx ds) x.want = 2) : d.good x ds = ({ d with pick := d.pick.next (x.cx ds) x.want, nums := d.nums.dropS (x.mn ds) ds.begins, drop := d.drop + 1 }, none) := by
  unfold Dn.good; rw [if_neg (by rw [hk]; decide), if_pos hk]
theorem good_switch (hk : d.pick.kind (x.cx ds) x.want = 3) : d.good x ds = ({ d with pick := d.pick.next (x.cx ds) x.want, nums := d.nums.switchS (x.mn ds) 3000, sent := d.sent + 1, kept := addL d.room d.kept ⟨(d.nums.begins (x.mn ds) 3000).seq, (outP x.p d.ssrc ds (d.nums.begins (x.mn ds) 3000)).bytes⟩ }, some (outP x.p d.ssrc ds (d.nums.begins (x.mn ds) 3000)).bytes) := by
  unfold Dn.good; rw [if_neg (by rw [hk]; decide), if_neg (by rw [hk]; decide), if_pos hk]; rfl
theorem good_send (hk : d.pick.kind (x.cx ds) x.want = 1) (ht : d.nums.tells (x.mn ds) = true) : d.good x ds = ({ d with pick := d.pick.next (x.cx ds) x.want, nums := d.nums.sendS (x.mn ds), sent := d.sent + 1, kept := addL d.room d.kept ⟨(d.nums.told (x.mn ds)).seq, (outP x.p d.ssrc ds (d.nums.told (x.mn ds))).bytes⟩ }, some (outP x.p d.ssrc ds (d.nums.told (x.mn ds))).bytes) := by
  unfold Dn.good; rw [if_neg (by rw [hk]; decide), if_neg (by rw [hk]; decide), if_neg (by rw [hk]; decide), if_pos ht]; rfl
theorem good_late (hk : d.pick.kind (x.cx ds) x.want = 1) (ht : ¬ d.nums.tells (x.mn ds) = true) : d.good x ds = ({ d with pick := d.pick.next (x.cx ds) x.want, nums := d.nums.sendS (x.mn ds), late := d.late + 1 }, none) := by
  unfold Dn.good; rw [if_neg (by rw [hk]; decide), if_neg (by rw [hk]; decide), if_neg (by rw [hk]; decide), if_neg ht]
end
theorem SAt.butg {w w' : World} {S : Nat → Prop} {g gs mm r room : Nat} {l : List Pk} (h : SAt (DnOwn S g gs mm r) w gs mm r room l) (hne : g ≠ gs ∧ g ≠ mm ∧ g ≠ r) (hB : But (fun k => k = g) w w') : SAt (DnOwn S g gs mm r) w' gs mm r room l := by
  refine h.keep hB.size (fun k hk hh => hB.block k hk (fun e => ?_))
  subst e
  rcases hh with h | h | h | h
  · exact hne.1 h
  · exact hne.2.1 h
  · exact hne.2.2 h
  · exact h.2.1 rfl

set_option maxHeartbeats 12800000 in
theorem dpass_any (d : Dn) (sa : Sa) (g : Nat) (S : Nat → Prop) (w : World) (hd : DnAt w g S d) (hf : d.few) (ha : sa.q.At w S) (hm : sa.muted = false) :
    Calls Try.prog 23 #[.pointer (some ⟨g, 0, none⟩), .agg sa.q.cells.toArray, .int .i64 sa.src, .int .i64 sa.lay, .agg sa.want.cells] w (PassTold d sa.x g S w) := by
  obtain ⟨pk, gs, mm, r, hpk, hW, hst, hS, hlt, hne⟩ := hd
  have hgl := hlt g hS.1
  have hfm : d.nums.Fit 1000000000000000 := ⟨by have := hf.2.2.high; omega, hf.2.2.off, hf.2.2.out⟩
  have hfc := hf.1
  have hsq : 0 ≤ (sa.q.h.seq : Int) ∧ (sa.q.h.seq : Int) < 65536 := by have : sa.q.h.seq < 65536 := ha.fit.seq; omega
  have CD := Lib.hid (fun w' (b : Below w.heap.size w w') => dscof_any sa.q S w' (ha.next b))
  have CH := Lib.hid (fun w' (b : Below w.heap.size w w') => whole_any sa.q.A3 sa.q.c3 sa.q.pay w' ((ha.row3.below b (Nat.le_refl _)).more b.size) ha.len3)
  have HH := Lib.hid (And.intro hpk (And.intro hst (And.intro hS (And.intro hlt hne))))
  have HA := Lib.hid ha
  have HF := Lib.hid (And.intro hfm (And.intro hfc (And.intro hsq (And.intro hf.2.1 hm))))
  have HWG := Lib.hid (show Whole w g 78 #[.int .u32 (d.ssrc : Int), .bool pk.on, .int .i64 pk.src, .int .i64 pk.lay, .int .i64 pk.tid, .bool d.nums.on, .int .i64 d.nums.high, .int .i64 d.nums.since, .int .u16 d.nums.off.seq, .int .u32 d.nums.off.time, .int .u16 d.nums.off.pic, .int .u8 d.nums.off.tl0, .int .u16 d.nums.out.seq, .int .u32 d.nums.out.time, .int .u16 d.nums.out.pic, .int .u8 d.nums.out.tl0, .pointer (some ⟨gs, 0, none⟩), .int .i64 (d.sent : Int), .int .i64 (d.left : Int), .int .i64 (d.drop : Int), .int .i64 (d.late : Int), .int .i64 (d.bad : Int)] from hW)
  clear hpk hW hst hS hlt hne hf ha hm hfm hfc hsq
  dsimp only [Pq.cells, Cw.cells]
  go_enter Try.func23, Try.ntmps23
  go_wp2_with fail
  refine (CD.out _ ((((Below.refl w.heap.size w).alloc ((Below.refl w.heap.size w)).size (.cells #[.bool sa.q.h.mark, .int .u8 (sa.q.h.typ : Int), .int .u16 (sa.q.h.seq : Int), .int .u32 (sa.q.h.time : Int), .int .u32 (sa.q.h.ssrc : Int), .slice sa.q.h.A1 sa.q.h.csrc.length sa.q.h.c1, .slice sa.q.h.A2 sa.q.h.ps.length sa.q.h.c2, .slice sa.q.A3 sa.q.pay.length sa.q.c3, .int .i64 sa.q.pad] 35)).alloc (((Below.refl w.heap.size w).alloc ((Below.refl w.heap.size w)).size (.cells #[.bool sa.q.h.mark, .int .u8 (sa.q.h.typ : Int), .int .u16 (sa.q.h.seq : Int), .int .u32 (sa.q.h.time : Int), .int .u32 (sa.q.h.ssrc : Int), .slice sa.q.h.A1 sa.q.h.csrc.length sa.q.h.c1, .slice sa.q.h.A2 sa.q.h.ps.length sa.q.h.c2, .slice sa.q.A3 sa.q.pay.length sa.q.c3, .int .i64 sa.q.pad] 35))).size (.cells #[.int .i64 sa.want.src, .int .i64 sa.want.lay, .int .i64 sa.want.tid] 37)))).mono ?_
  rintro e w1 ⟨hq1, b1⟩
  have HQ1 := Lib.hid hq1
  clear hq1
  have NP : Whole (w.alloc (.cells #[.bool sa.q.h.mark, .int .u8 (sa.q.h.typ : Int), .int .u16 (sa.q.h.seq : Int), .int .u32 (sa.q.h.time : Int), .int .u32 (sa.q.h.ssrc : Int), .slice sa.q.h.A1 sa.q.h.csrc.length sa.q.h.c1, .slice sa.q.h.A2 sa.q.h.ps.length sa.q.h.c2, .slice sa.q.A3 sa.q.pay.length sa.q.c3, .int .i64 sa.q.pad] 35)) (w.heap.size) 35 #[.bool sa.q.h.mark, .int .u8 (sa.q.h.typ : Int), .int .u16 (sa.q.h.seq : Int), .int .u32 (sa.q.h.time : Int), .int .u32 (sa.q.h.ssrc : Int), .slice sa.q.h.A1 sa.q.h.csrc.length sa.q.h.c1, .slice sa.q.h.A2 sa.q.h.ps.length sa.q.h.c2, .slice sa.q.A3 sa.q.pay.length sa.q.c3, .int .i64 sa.q.pad] := by have := Whole.new w 35 #[.bool sa.q.h.mark, .int .u8 (sa.q.h.typ : Int), .int .u16 (sa.q.h.seq : Int), .int .u32 (sa.q.h.time : Int), .int .u32 (sa.q.h.ssrc : Int), .slice sa.q.h.A1 sa.q.h.csrc.length sa.q.h.c1, .slice sa.q.h.A2 sa.q.h.ps.length sa.q.h.c2, .slice sa.q.A3 sa.q.pay.length sa.q.c3, .int .i64 sa.q.pad]; first | with_reducible exact this | simpa using this
  have NU : Whole ((w.alloc (.cells #[.bool sa.q.h.mark, .int .u8 (sa.q.h.typ : Int), .int .u16 (sa.q.h.seq : Int), .int .u32 (sa.q.h.time : Int), .int .u32 (sa.q.h.ssrc : Int), .slice sa.q.h.A1 sa.q.h.csrc.length sa.q.h.c1, .slice sa.q.h.A2 sa.q.h.ps.length sa.q.h.c2, .slice sa.q.A3 sa.q.pay.length sa.q.c3, .int .i64 sa.q.pad] 35)).alloc (.cells #[.int .i64 sa.want.src, .int .i64 sa.want.lay, .int .i64 sa.want.tid] 37)) (w.heap.size + 1) 37 #[.int .i64 sa.want.src, .int .i64 sa.want.lay, .int .i64 sa.want.tid] := by have := Whole.new (w.alloc (.cells #[.bool sa.q.h.mark, .int .u8 (sa.q.h.typ : Int), .int .u16 (sa.q.h.seq : Int), .int .u32 (sa.q.h.time : Int), .int .u32 (sa.q.h.ssrc : Int), .slice sa.q.h.A1 sa.q.h.csrc.length sa.q.h.c1, .slice sa.q.h.A2 sa.q.h.ps.length sa.q.h.c2, .slice sa.q.A3 sa.q.pay.length sa.q.c3, .int .i64 sa.q.pad] 35)) 37 #[.int .i64 sa.want.src, .int .i64 sa.want.lay, .int .i64 sa.want.tid]; first | with_reducible exact this | simpa using this
  have SG1 := (((HWG.out.alloc (.cells #[.bool sa.q.h.mark, .int .u8 (sa.q.h.typ : Int), .int .u16 (sa.q.h.seq : Int), .int .u32 (sa.q.h.time : Int), .int .u32 (sa.q.h.ssrc : Int), .slice sa.q.h.A1 sa.q.h.csrc.length sa.q.h.c1, .slice sa.q.h.A2 sa.q.h.ps.length sa.q.h.c2, .slice sa.q.A3 sa.q.pay.length sa.q.c3, .int .i64 sa.q.pad] 35)).alloc (.cells #[.int .i64 sa.want.src, .int .i64 sa.want.lay, .int .i64 sa.want.tid] 37))).below b1 (by have := (((HWG.out.alloc (.cells #[.bool sa.q.h.mark, .int .u8 (sa.q.h.typ : Int), .int .u16 (sa.q.h.seq : Int), .int .u32 (sa.q.h.time : Int), .int .u32 (sa.q.h.ssrc : Int), .slice sa.q.h.A1 sa.q.h.csrc.length sa.q.h.c1, .slice sa.q.h.A2 sa.q.h.ps.length sa.q.h.c2, .slice sa.q.A3 sa.q.pay.length sa.q.c3, .int .i64 sa.q.pad] 35)).alloc (.cells #[.int .i64 sa.want.src, .int .i64 sa.want.lay, .int .i64 sa.want.tid] 37))).lt; first | with_reducible exact this | simpa using this)
  have SP1 := ((NP.alloc (.cells #[.int .i64 sa.want.src, .int .i64 sa.want.lay, .int .i64 sa.want.tid] 37))).below b1 (by have := ((NP.alloc (.cells #[.int .i64 sa.want.src, .int .i64 sa.want.lay, .int .i64 sa.want.tid] 37))).lt; first | with_reducible exact this | simpa using this)
  have SU1 := (NU).below b1 (by have := (NU).lt; first | with_reducible exact this | simpa using this)
  have HB1 := Lib.hid (((((Below.refl w.heap.size w).alloc ((Below.refl w.heap.size w)).size (.cells #[.bool sa.q.h.mark, .int .u8 (sa.q.h.typ : Int), .int .u16 (sa.q.h.seq : Int), .int .u32 (sa.q.h.time : Int), .int .u32 (sa.q.h.ssrc : Int), .slice sa.q.h.A1 sa.q.h.csrc.length sa.q.h.c1, .slice sa.q.h.A2 sa.q.h.ps.length sa.q.h.c2, .slice sa.q.A3 sa.q.pay.length sa.q.c3, .int .i64 sa.q.pad] 35)).alloc (((Below.refl w.heap.size w).alloc ((Below.refl w.heap.size w)).size (.cells #[.bool sa.q.h.mark, .int .u8 (sa.q.h.typ : Int), .int .u16 (sa.q.h.seq : Int), .int .u32 (sa.q.h.time : Int), .int .u32 (sa.q.h.ssrc : Int), .slice sa.q.h.A1 sa.q.h.csrc.length sa.q.h.c1, .slice sa.q.h.A2 sa.q.h.ps.length sa.q.h.c2, .slice sa.q.A3 sa.q.pay.length sa.q.c3, .int .i64 sa.q.pad] 35))).size (.cells #[.int .i64 sa.want.src, .int .i64 sa.want.lay, .int .i64 sa.want.tid] 37))).trans (b1.mono ((((Below.refl w.heap.size w).alloc ((Below.refl w.heap.size w)).size (.cells #[.bool sa.q.h.mark, .int .u8 (sa.q.h.typ : Int), .int .u16 (sa.q.h.seq : Int), .int .u32 (sa.q.h.time : Int), .int .u32 (sa.q.h.ssrc : Int), .slice sa.q.h.A1 sa.q.h.csrc.length sa.q.h.c1, .slice sa.q.h.A2 sa.q.h.ps.length sa.q.h.c2, .slice sa.q.A3 sa.q.pay.length sa.q.c3, .int .i64 sa.q.pad] 35)).alloc (((Below.refl w.heap.size w).alloc ((Below.refl w.heap.size w)).size (.cells #[.bool sa.q.h.mark, .int .u8 (sa.q.h.typ : Int), .int .u16 (sa.q.h.seq : Int), .int .u32 (sa.q.h.time : Int), .int .u32 (sa.q.h.ssrc : Int), .slice sa.q.h.A1 sa.q.h.csrc.length sa.q.h.c1, .slice sa.q.h.A2 sa.q.h.ps.length sa.q.h.c2, .slice sa.q.A3 sa.q.pay.length sa.q.c3, .int .i64 sa.q.pad] 35))).size (.cells #[.int .i64 sa.want.src, .int .i64 sa.want.lay, .int .i64 sa.want.tid] 37))).size))
  have lG1 := SG1.lt
  have lP1 := SP1.lt
  have lU1 := SU1.lt
  clear b1 HWG NP NU CD
  have P1_0 := SP1.cell 0
  have P1_1 := SP1.cell 1
  have P1_2 := SP1.cell 2
  have P1_3 := SP1.cell 3
  have P1_4 := SP1.cell 4
  have P1_5 := SP1.cell 5
  have P1_6 := SP1.cell 6
  have P1_7 := SP1.cell 7
  have P1_8 := SP1.cell 8
  replace SG1 := Lib.hid SG1
  replace SP1 := Lib.hid SP1
  replace SU1 := Lib.hid SU1
  rcases HQ1.out with ⟨ds, rr, hpar, herr, rfl⟩ | ⟨hbad, dd, rfl⟩
  · have HPAR := Lib.hid hpar
    have HERR := Lib.hid herr
    clear HQ1
    have hfits := (parse_fits hpar)
    have hs1 := hfits.pic
    have hs2 := hfits.tl0
    have hs3 := hfits.tid
    clear hfits hpar herr
    dsimp only [Dsc.cells]
    have CB := Lib.hid (fun w => (begins_any ds w).mono (fun e w' h => (⟨h.1, by rw [h.2]; exact (Below.refl w.heap.size w).alloc (Nat.le_refl _) _⟩ : e = .returned (.bool ds.begins) ∧ Below w.heap.size w w')))
    have CB := CB.out
    dsimp only [Dsc.cells] at CB
    replace CB := Lib.hid CB
    go_wp2_with fail
    refine (CB.out _).mono ?_
    rintro e w2 ⟨rfl, b2⟩
    have NT : Whole (w1.alloc (.cells #[.bool ds.more, .bool ds.lone, .bool ds.start, .int .u8 (ds.part : Int), .bool ds.hasPic, .bool ds.wide, .int .u16 (ds.pic : Int), .bool ds.hasTl0, .int .u8 (ds.tl0 : Int), .bool ds.hasTid, .int .u8 (ds.tid : Int), .bool ds.sync, .bool ds.hasKey, .int .u8 (ds.key : Int)] 46)) (w1.heap.size) 46 #[.bool ds.more, .bool ds.lone, .bool ds.start, .int .u8 (ds.part : Int), .bool ds.hasPic, .bool ds.wide, .int .u16 (ds.pic : Int), .bool ds.hasTl0, .int .u8 (ds.tl0 : Int), .bool ds.hasTid, .int .u8 (ds.tid : Int), .bool ds.sync, .bool ds.hasKey, .int .u8 (ds.key : Int)] := by have := Whole.new w1 46 #[.bool ds.more, .bool ds.lone, .bool ds.start, .int .u8 (ds.part : Int), .bool ds.hasPic, .bool ds.wide, .int .u16 (ds.pic : Int), .bool ds.hasTl0, .int .u8 (ds.tl0 : Int), .bool ds.hasTid, .int .u8 (ds.tid : Int), .bool ds.sync, .bool ds.hasKey, .int .u8 (ds.key : Int)]; first | with_reducible exact this | simpa using this
    have SG2 := ((SG1.out.alloc (.cells #[.bool ds.more, .bool ds.lone, .bool ds.start, .int .u8 (ds.part : Int), .bool ds.hasPic, .bool ds.wide, .int .u16 (ds.pic : Int), .bool ds.hasTl0, .int .u8 (ds.tl0 : Int), .bool ds.hasTid, .int .u8 (ds.tid : Int), .bool ds.sync, .bool ds.hasKey, .int .u8 (ds.key : Int)] 46))).below b2 (by have := ((SG1.out.alloc (.cells #[.bool ds.more, .bool ds.lone, .bool ds.start, .int .u8 (ds.part : Int), .bool ds.hasPic, .bool ds.wide, .int .u16 (ds.pic : Int), .bool ds.hasTl0, .int .u8 (ds.tl0 : Int), .bool ds.hasTid, .int .u8 (ds.tid : Int), .bool ds.sync, .bool ds.hasKey, .int .u8 (ds.key : Int)] 46))).lt; first | with_reducible exact this | simpa using this)
    have SP2 := ((SP1.out.alloc (.cells #[.bool ds.more, .bool ds.lone, .bool ds.start, .int .u8 (ds.part : Int), .bool ds.hasPic, .bool ds.wide, .int .u16 (ds.pic : Int), .bool ds.hasTl0, .int .u8 (ds.tl0 : Int), .bool ds.hasTid, .int .u8 (ds.tid : Int), .bool ds.sync, .bool ds.hasKey, .int .u8 (ds.key : Int)] 46))).below b2 (by have := ((SP1.out.alloc (.cells #[.bool ds.more, .bool ds.lone, .bool ds.start, .int .u8 (ds.part : Int), .bool ds.hasPic, .bool ds.wide, .int .u16 (ds.pic : Int), .bool ds.hasTl0, .int .u8 (ds.tl0 : Int), .bool ds.hasTid, .int .u8 (ds.tid : Int), .bool ds.sync, .bool ds.hasKey, .int .u8 (ds.key : Int)] 46))).lt; first | with_reducible exact this | simpa using this)
    have SU2 := ((SU1.out.alloc (.cells #[.bool ds.more, .bool ds.lone, .bool ds.start, .int .u8 (ds.part : Int), .bool ds.hasPic, .bool ds.wide, .int .u16 (ds.pic : Int), .bool ds.hasTl0, .int .u8 (ds.tl0 : Int), .bool ds.hasTid, .int .u8 (ds.tid : Int), .bool ds.sync, .bool ds.hasKey, .int .u8 (ds.key : Int)] 46))).below b2 (by have := ((SU1.out.alloc (.cells #[.bool ds.more, .bool ds.lone, .bool ds.start, .int .u8 (ds.part : Int), .bool ds.hasPic, .bool ds.wide, .int .u16 (ds.pic : Int), .bool ds.hasTl0, .int .u8 (ds.tl0 : Int), .bool ds.hasTid, .int .u8 (ds.tid : Int), .bool ds.sync, .bool ds.hasKey, .int .u8 (ds.key : Int)] 46))).lt; first | with_reducible exact this | simpa using this)
    have ST2 := (NT).below b2 (by have := (NT).lt; first | with_reducible exact this | simpa using this)
    have HB2 := Lib.hid (((HB1.out.alloc (HB1.out).size (.cells #[.bool ds.more, .bool ds.lone, .bool ds.start, .int .u8 (ds.part : Int), .bool ds.hasPic, .bool ds.wide, .int .u16 (ds.pic : Int), .bool ds.hasTl0, .int .u8 (ds.tl0 : Int), .bool ds.hasTid, .int .u8 (ds.tid : Int), .bool ds.sync, .bool ds.hasKey, .int .u8 (ds.key : Int)] 46))).trans (b2.mono ((HB1.out.alloc (HB1.out).size (.cells #[.bool ds.more, .bool ds.lone, .bool ds.start, .int .u8 (ds.part : Int), .bool ds.hasPic, .bool ds.wide, .int .u16 (ds.pic : Int), .bool ds.hasTl0, .int .u8 (ds.tl0 : Int), .bool ds.hasTid, .int .u8 (ds.tid : Int), .bool ds.sync, .bool ds.hasKey, .int .u8 (ds.key : Int)] 46))).size))
    have lG2 := SG2.lt
    have lP2 := SP2.lt
    have lU2 := SU2.lt
    have lT2 := ST2.lt
    clear b2 P1_0 P1_1 P1_2 P1_3 P1_4 P1_5 P1_6 P1_7 P1_8 SG1 SP1 SU1 NT HB1 CB
    have P2_0 := SP2.cell 0
    have P2_1 := SP2.cell 1
    have P2_2 := SP2.cell 2
    have P2_3 := SP2.cell 3
    have P2_4 := SP2.cell 4
    have P2_5 := SP2.cell 5
    have P2_6 := SP2.cell 6
    have P2_7 := SP2.cell 7
    have P2_8 := SP2.cell 8
    have T2_0 := ST2.cell 0
    have T2_1 := ST2.cell 1
    have T2_2 := ST2.cell 2
    have T2_3 := ST2.cell 3
    have T2_4 := ST2.cell 4
    have T2_5 := ST2.cell 5
    have T2_6 := ST2.cell 6
    have T2_7 := ST2.cell 7
    have T2_8 := ST2.cell 8
    have T2_9 := ST2.cell 9
    have T2_10 := ST2.cell 10
    have T2_11 := ST2.cell 11
    have T2_12 := ST2.cell 12
    have T2_13 := ST2.cell 13
    have U2_0 := SU2.cell 0
    have U2_1 := SU2.cell 1
    have U2_2 := SU2.cell 2
    replace SG2 := Lib.hid SG2
    replace SP2 := Lib.hid SP2
    replace SU2 := Lib.hid SU2
    replace ST2 := Lib.hid ST2
    obtain ⟨wh, hwh⟩ : ∃ z, wholeS sa.q.pay = z := ⟨_, rfl⟩
    have CW := CH.out
    unfold WholeTold at CW
    rw [hwh] at CW
    replace CW := Lib.hid CW
    have HWH := Lib.hid hwh
    clear hwh CH
    have CT := fun w => ctake_any pk (sa.x.cx ds) sa.want w
    unfold ChOut at CT
    obtain ⟨nx, hnx⟩ : ∃ z, pk.next (sa.x.cx ds) sa.want = z := ⟨_, rfl⟩
    obtain ⟨kd, hkd⟩ : ∃ z, pk.kind (sa.x.cx ds) sa.want = z := ⟨_, rfl⟩
    rw [hnx, hkd] at CT
    dsimp only [Cs.cells, Cx.cells, Cw.cells, Sx.cx, Sa.x, Pq.p] at CT
    rw [HWH.out] at CT
    rw [← (IntWalk.i64_in (ds.tid : Int) (by omega) : IntKind.i64.wrap (ds.tid : Int) = ds.tid)] at CT
    replace CT := Lib.hid CT
    have HNX := Lib.hid hnx
    have HKD := Lib.hid hkd
    clear hnx hkd
    go_upto_region 6 with fail
    obtain ⟨wo, hwo⟩ : ∃ wo, wo = w2 := ⟨_, rfl⟩
    have PG := SG2.out
    have PP := SP2.out
    have PU := SU2.out
    have PT := ST2.out
    have PB := HB2.out
    rw [← hwo] at PG PP PU PT PB ⊢
    clear hwo
    clear P2_0 P2_1 P2_2 P2_3 P2_4 P2_5 P2_6 P2_7 P2_8 T2_0 T2_1 T2_2 T2_3 T2_4 T2_5 T2_6 T2_7 T2_8 T2_9 T2_10 T2_11 T2_12 T2_13 U2_0 U2_1 U2_2 SG2 SP2 SU2 ST2 HB2
    have pG1 := PG.lt
    have pP1 := PP.lt
    have pU1 := PU.lt
    have pT1 := PT.lt
    replace PG := Lib.hid PG
    replace PP := Lib.hid PP
    replace PU := Lib.hid PU
    replace PT := Lib.hid PT
    replace PB := Lib.hid PB
    have K6 := Lib.hid (fun w' (b' : Below wo.heap.size wo w') => show (fun w' => w'.cell? ⟨w.heap.size + 1, 0, none⟩ = some (.int .i64 sa.want.src) ∧ w'.cell? ⟨w.heap.size + 1, 1, none⟩ = some (.int .i64 sa.want.lay) ∧ w'.cell? ⟨w.heap.size + 1, 2, none⟩ = some (.int .i64 sa.want.tid) ∧ w'.cell? ⟨g, 1, none⟩ = some (.bool pk.on) ∧ w'.cell? ⟨g, 2, none⟩ = some (.int .i64 pk.src) ∧ w'.cell? ⟨g, 3, none⟩ = some (.int .i64 pk.lay) ∧ w'.cell? ⟨g, 4, none⟩ = some (.int .i64 pk.tid) ∧ w'.cell? ⟨w.heap.size, 7, none⟩ = some (.slice sa.q.A3 sa.q.pay.length sa.q.c3) ∧ w'.cell? ⟨w1.heap.size, 9, none⟩ = some (.bool ds.hasTid) ∧ w'.cell? ⟨w1.heap.size, 10, none⟩ = some (.int .u8 (ds.tid : Int)) ∧ w'.cell? ⟨w1.heap.size, 11, none⟩ = some (.bool ds.sync)) w' from ⟨(PU.out.below b' PU.out.lt).cell 0, (PU.out.below b' PU.out.lt).cell 1, (PU.out.below b' PU.out.lt).cell 2, (PG.out.below b' pG1).cell 1, (PG.out.below b' pG1).cell 2, (PG.out.below b' pG1).cell 3, (PG.out.below b' pG1).cell 4, (PP.out.below b' pP1).cell 7, (PT.out.below b' pT1).cell 9, (PT.out.below b' pT1).cell 10, (PT.out.below b' pT1).cell 11⟩)
    go_cut [15, 16] (fun p1 x16 wx => x16 = .int .i64 kd ∧ ∃ g1 : Nat, p1 = .pointer (some ⟨g1, 0, none⟩) ∧ wo.heap.size ≤ g1 ∧ Whole wx g1 72 #[.bool nx.on, .int .i64 nx.src, .int .i64 nx.lay, .int .i64 nx.tid] ∧ Below wo.heap.size wo wx)
    case first =>
      refine wp_region_X (S := fun w' => w'.cell? ⟨w.heap.size + 1, 0, none⟩ = some (.int .i64 sa.want.src) ∧ w'.cell? ⟨w.heap.size + 1, 1, none⟩ = some (.int .i64 sa.want.lay) ∧ w'.cell? ⟨w.heap.size + 1, 2, none⟩ = some (.int .i64 sa.want.tid) ∧ w'.cell? ⟨g, 1, none⟩ = some (.bool pk.on) ∧ w'.cell? ⟨g, 2, none⟩ = some (.int .i64 pk.src) ∧ w'.cell? ⟨g, 3, none⟩ = some (.int .i64 pk.lay) ∧ w'.cell? ⟨g, 4, none⟩ = some (.int .i64 pk.tid) ∧ w'.cell? ⟨w.heap.size, 7, none⟩ = some (.slice sa.q.A3 sa.q.pay.length sa.q.c3) ∧ w'.cell? ⟨w1.heap.size, 9, none⟩ = some (.bool ds.hasTid) ∧ w'.cell? ⟨w1.heap.size, 10, none⟩ = some (.int .u8 (ds.tid : Int)) ∧ w'.cell? ⟨w1.heap.size, 11, none⟩ = some (.bool ds.sync)) [] (by kernel_rfl) (K6.out _ (Below.refl _ _).drew) (fun hHeld0 => ?_)
      refine wpAnyX_take (i := 0) [] (v := ?_) rfl (by kernel_rfl) (by kernel_rfl) (by kernel_rfl) (by kernel_rfl) (fun _ _ _ h => h) (Or.inl ⟨by kernel_rfl, ?_⟩) (by assumption) ?_
      rotate_left 1
      · (intro w hSw; obtain ⟨m0, m1, m2, m3, m4, m5, m6, m7, m8, m9, m10⟩ := hSw; go_simp; try (with_reducible rfl))
      (try simp only [Act.put, List.getElem_toArray, List.getElem_cons_succ, List.getElem_cons_zero, List.setIfInBounds_toArray, List.set_cons_zero, List.set_cons_succ])
      refine wpAnyX_take (i := 1) [] (v := ?_) rfl (by kernel_rfl) (by kernel_rfl) (by kernel_rfl) (by kernel_rfl) (fun _ _ _ h => h) (Or.inl ⟨by kernel_rfl, ?_⟩) (by assumption) ?_
      rotate_left 1
      · (intro w hSw; obtain ⟨m0, m1, m2, m3, m4, m5, m6, m7, m8, m9, m10⟩ := hSw; go_simp; try (with_reducible rfl))
      (try simp only [Act.put, List.getElem_toArray, List.getElem_cons_succ, List.getElem_cons_zero, List.setIfInBounds_toArray, List.set_cons_zero, List.set_cons_succ])
      refine wpAnyX_take (i := 2) [] (v := ?_) rfl (by kernel_rfl) (by kernel_rfl) (by kernel_rfl) (by kernel_rfl) (fun _ _ _ h => h) (Or.inl ⟨by kernel_rfl, ?_⟩) (by assumption) ?_
      rotate_left 1
      · (intro w hSw; obtain ⟨m0, m1, m2, m3, m4, m5, m6, m7, m8, m9, m10⟩ := hSw; go_simp; try (with_reducible rfl))
      (try simp only [Act.put, List.getElem_toArray, List.getElem_cons_succ, List.getElem_cons_zero, List.setIfInBounds_toArray, List.set_cons_zero, List.set_cons_succ])
      refine wpAnyX_take (i := 3) [] (v := ?_) rfl (by kernel_rfl) (by kernel_rfl) (by kernel_rfl) (by kernel_rfl) (fun _ _ _ h => h) (Or.inl ⟨by kernel_rfl, ?_⟩) (by assumption) ?_
      rotate_left 1
      · (intro w hSw; obtain ⟨m0, m1, m2, m3, m4, m5, m6, m7, m8, m9, m10⟩ := hSw; go_simp; try (with_reducible rfl))
      (try simp only [Act.put, List.getElem_toArray, List.getElem_cons_succ, List.getElem_cons_zero, List.setIfInBounds_toArray, List.set_cons_zero, List.set_cons_succ])
      refine wpAnyX_take (i := 4) [] (v := ?_) rfl (by kernel_rfl) (by kernel_rfl) (by kernel_rfl) (by kernel_rfl) (fun _ _ _ h => h) (Or.inl ⟨by kernel_rfl, ?_⟩) (by assumption) ?_
      rotate_left 1
      · (intro w hSw; obtain ⟨m0, m1, m2, m3, m4, m5, m6, m7, m8, m9, m10⟩ := hSw; go_simp; try (with_reducible rfl))
      (try simp only [Act.put, List.getElem_toArray, List.getElem_cons_succ, List.getElem_cons_zero, List.setIfInBounds_toArray, List.set_cons_zero, List.set_cons_succ])
      refine wpAnyX_take (i := 5) [] (v := ?_) rfl (by kernel_rfl) (by kernel_rfl) (by kernel_rfl) (by kernel_rfl) (fun _ _ _ h => h) (Or.inl ⟨by kernel_rfl, ?_⟩) (by assumption) ?_
      rotate_left 1
      · (intro w hSw; obtain ⟨m0, m1, m2, m3, m4, m5, m6, m7, m8, m9, m10⟩ := hSw; go_simp; try (with_reducible rfl))
      (try simp only [Act.put, List.getElem_toArray, List.getElem_cons_succ, List.getElem_cons_zero, List.setIfInBounds_toArray, List.set_cons_zero, List.set_cons_succ])
      refine wpAnyX_take (i := 6) [] (v := ?_) rfl (by kernel_rfl) (by kernel_rfl) (by kernel_rfl) (by kernel_rfl) (fun _ _ _ h => h) (Or.inl ⟨by kernel_rfl, ?_⟩) (by assumption) ?_
      rotate_left 1
      · (intro w hSw; obtain ⟨m0, m1, m2, m3, m4, m5, m6, m7, m8, m9, m10⟩ := hSw; go_simp; try (with_reducible rfl))
      (try simp only [Act.put, List.getElem_toArray, List.getElem_cons_succ, List.getElem_cons_zero, List.setIfInBounds_toArray, List.set_cons_zero, List.set_cons_succ])
      refine wpAnyX_take (i := 7) [] (v := ?_) rfl (by kernel_rfl) (by kernel_rfl) (by kernel_rfl) (by kernel_rfl) (fun _ _ _ h => h) (Or.inl ⟨by kernel_rfl, ?_⟩) (by assumption) ?_
      rotate_left 1
      · (intro w hSw; obtain ⟨m0, m1, m2, m3, m4, m5, m6, m7, m8, m9, m10⟩ := hSw; go_simp; try (with_reducible rfl))
      (try simp only [Act.put, List.getElem_toArray, List.getElem_cons_succ, List.getElem_cons_zero, List.setIfInBounds_toArray, List.set_cons_zero, List.set_cons_succ])
      refine wpAnyX_take (i := 8) [] (v := ?_) rfl (by kernel_rfl) (by kernel_rfl) (by kernel_rfl) (by kernel_rfl) (fun _ _ _ h => h) (Or.inl ⟨by kernel_rfl, ?_⟩) (by assumption) ?_
      rotate_left 1
      · (intro w hSw; obtain ⟨m0, m1, m2, m3, m4, m5, m6, m7, m8, m9, m10⟩ := hSw; go_simp; try (with_reducible rfl))
      (try simp only [Act.put, List.getElem_toArray, List.getElem_cons_succ, List.getElem_cons_zero, List.setIfInBounds_toArray, List.set_cons_zero, List.set_cons_succ])
      refine wpAnyX_take (i := 10) [] (v := ?_) rfl (by kernel_rfl) (by kernel_rfl) (by kernel_rfl) (by kernel_rfl) (fun _ _ _ h => h) (Or.inl ⟨by kernel_rfl, ?_⟩) (by assumption) ?_
      rotate_left 1
      · (intro w hSw; obtain ⟨m0, m1, m2, m3, m4, m5, m6, m7, m8, m9, m10⟩ := hSw; go_simp; try (with_reducible rfl))
      (try simp only [Act.put, List.getElem_toArray, List.getElem_cons_succ, List.getElem_cons_zero, List.setIfInBounds_toArray, List.set_cons_zero, List.set_cons_succ])
      refine wpAnyX_take (i := 11) [] (v := ?_) rfl (by kernel_rfl) (by kernel_rfl) (by kernel_rfl) (by kernel_rfl) (fun _ _ _ h => h) (Or.inl ⟨by kernel_rfl, ?_⟩) (by assumption) ?_
      rotate_left 1
      · (intro w hSw; obtain ⟨m0, m1, m2, m3, m4, m5, m6, m7, m8, m9, m10⟩ := hSw; go_simp; try (with_reducible rfl))
      (try simp only [Act.put, List.getElem_toArray, List.getElem_cons_succ, List.getElem_cons_zero, List.setIfInBounds_toArray, List.set_cons_zero, List.set_cons_succ])
      refine wpAnyX_take (i := 12) [] (v := ?_) rfl (by kernel_rfl) (by kernel_rfl) (by kernel_rfl) (by kernel_rfl) (fun _ _ _ h => h) (Or.inl ⟨by kernel_rfl, ?_⟩) (by assumption) ?_
      rotate_left 1
      · (intro w hSw; obtain ⟨m0, m1, m2, m3, m4, m5, m6, m7, m8, m9, m10⟩ := hSw; go_simp; try (with_reducible rfl))
      (try simp only [Act.put, List.getElem_toArray, List.getElem_cons_succ, List.getElem_cons_zero, List.setIfInBounds_toArray, List.set_cons_zero, List.set_cons_succ])
      refine wpAnyX_take (i := 13) [] (v := ?_) rfl (by kernel_rfl) (by kernel_rfl) (by kernel_rfl) (by kernel_rfl) (fun _ _ _ h => h) (Or.inl ⟨by kernel_rfl, ?_⟩) (by assumption) ?_
      rotate_left 1
      · (intro w hSw; obtain ⟨m0, m1, m2, m3, m4, m5, m6, m7, m8, m9, m10⟩ := hSw; go_simp; try (with_reducible rfl))
      (try simp only [Act.put, List.getElem_toArray, List.getElem_cons_succ, List.getElem_cons_zero, List.setIfInBounds_toArray, List.set_cons_zero, List.set_cons_succ])
      refine wpAnyX_take (i := 14) [] (v := ?_) rfl (by kernel_rfl) (by kernel_rfl) (by kernel_rfl) (by kernel_rfl) (fun _ _ _ h => h) (Or.inl ⟨by kernel_rfl, ?_⟩) (by assumption) ?_
      rotate_left 1
      · (intro w hSw; obtain ⟨m0, m1, m2, m3, m4, m5, m6, m7, m8, m9, m10⟩ := hSw; go_simp; try (with_reducible rfl))
      (try simp only [Act.put, List.getElem_toArray, List.getElem_cons_succ, List.getElem_cons_zero, List.setIfInBounds_toArray, List.set_cons_zero, List.set_cons_succ])
      refine wpAnyX_take (i := 15) [] (v := ?_) rfl (by kernel_rfl) (by kernel_rfl) (by kernel_rfl) (by kernel_rfl) (fun _ _ _ h => h) (Or.inl ⟨by kernel_rfl, ?_⟩) (by assumption) ?_
      rotate_left 1
      · (intro w hSw; obtain ⟨m0, m1, m2, m3, m4, m5, m6, m7, m8, m9, m10⟩ := hSw; go_simp; try (with_reducible rfl))
      (try simp only [Act.put, List.getElem_toArray, List.getElem_cons_succ, List.getElem_cons_zero, List.setIfInBounds_toArray, List.set_cons_zero, List.set_cons_succ])
      refine wpAnyX_take (i := 16) [] (v := ?_) rfl (by kernel_rfl) (by kernel_rfl) (by kernel_rfl) (by kernel_rfl) (fun _ _ _ h => h) (Or.inl ⟨by kernel_rfl, ?_⟩) (by assumption) ?_
      rotate_left 1
      · (intro w hSw; obtain ⟨m0, m1, m2, m3, m4, m5, m6, m7, m8, m9, m10⟩ := hSw; go_simp; try (with_reducible rfl))
      (try simp only [Act.put, List.getElem_toArray, List.getElem_cons_succ, List.getElem_cons_zero, List.setIfInBounds_toArray, List.set_cons_zero, List.set_cons_succ])
      refine wpAnyX_take (i := 18) [] (v := ?_) rfl (by kernel_rfl) (by kernel_rfl) (by kernel_rfl) (by kernel_rfl) (fun _ _ _ h => h) (Or.inl ⟨by kernel_rfl, ?_⟩) (by assumption) ?_
      rotate_left 1
      · (intro w hSw; obtain ⟨m0, m1, m2, m3, m4, m5, m6, m7, m8, m9, m10⟩ := hSw; go_simp; try (with_reducible rfl))
      (try simp only [Act.put, List.getElem_toArray, List.getElem_cons_succ, List.getElem_cons_zero, List.setIfInBounds_toArray, List.set_cons_zero, List.set_cons_succ])
      refine wpAnyX_named (fun a0 ha0 => ?_)
      refine wpAnyX_inv (fun l a w' => l.size = 26 ∧ (l.getD 0 false = true ∧ l.getD 1 false = true ∧ l.getD 2 false = true ∧ l.getD 3 false = true ∧ l.getD 4 false = true ∧ l.getD 5 false = true ∧ l.getD 6 false = true ∧ l.getD 7 false = true ∧ l.getD 8 false = true ∧ l.getD 10 false = true ∧ l.getD 11 false = true ∧ l.getD 12 false = true ∧ l.getD 13 false = true ∧ l.getD 14 false = true ∧ l.getD 15 false = true ∧ l.getD 16 false = true ∧ l.getD 18 false = true) ∧ Below wo.heap.size wo w' ∧ ∃ t9 t17 t19 t20 t21 t22 t23 t25 : Value, a = ((((((((a0.put (some 46) t9).put (some 54) t17).put (some 56) t19).put (some 36) t20).put (some 57) t21).put (some 58) t22).put (some 15) t23).put (some 16) t25) ∧ (l.getD 9 false = true → t9 = (.bool wh)) ∧ (l.getD 17 false = true → t17 = (.agg #[.int .i64 sa.src, .int .i64 sa.lay, .bool ds.begins, .bool wh, .bool ds.hasTid, .int .i64 (IntKind.i64.wrap (ds.tid : Int)), .bool ds.sync])) ∧ (l.getD 19 false = true → t19 = (.tuple #[(.agg #[.bool nx.on, .int .i64 nx.src, .int .i64 nx.lay, .int .i64 nx.tid]), .int .i64 kd])) ∧ (l.getD 20 false = true → t20 = (.tuple #[(.agg #[.bool nx.on, .int .i64 nx.src, .int .i64 nx.lay, .int .i64 nx.tid]), .int .i64 kd])) ∧ (l.getD 21 false = true → t21 = (.agg #[.bool nx.on, .int .i64 nx.src, .int .i64 nx.lay, .int .i64 nx.tid])) ∧ (l.getD 22 false = true → t22 = (.int .i64 kd)) ∧ (l.getD 23 false = true → ∃ g, t23 = .pointer (some ⟨g, 0, none⟩) ∧ wo.heap.size ≤ g ∧ g < w'.heap.size ∧ (l.getD 24 false = false → Whole w' g 72 #[.bool false, .int .i64 0, .int .i64 0, .int .i64 0]) ∧ (l.getD 24 false = true → Whole w' g 72 #[.bool nx.on, .int .i64 nx.src, .int .i64 nx.lay, .int .i64 nx.tid])) ∧ (l.getD 24 false = true → l.getD 23 false = true) ∧ (l.getD 25 false = true → t25 = (.int .i64 kd))) (fun l a w hI => K6.out _ hI.2.2.1) ?_ ?_ _ _ _ _ (by decide) ?_
      · intro l a w hI i hi
        obtain ⟨hsz, ⟨k0, k1, k2, k3, k4, k5, k6, k7, k8, k10, k11, k12, k13, k14, k15, k16, k18⟩, hB, t9, t17, t19, t20, t21, t22, t23, t25, rfl, c9, c17, c19, c20, c21, c22, c23, s23, c25⟩ := hI
        obtain ⟨hun, hin, hd⟩ := ready_split (n := 26) rfl hi
        clear hi
        rw [show List.range 26 = [0, 1, 2, 3, 4, 5, 6, 7, 8, 9, 10, 11, 12, 13, 14, 15, 16, 17, 18, 19, 20, 21, 22, 23, 24, 25] from rfl] at hin
        simp only [List.mem_cons, List.not_mem_nil, or_false] at hin
        rcases hin with rfl | rfl | rfl | rfl | rfl | rfl | rfl | rfl | rfl | rfl | rfl | rfl | rfl | rfl | rfl | rfl | rfl | rfl | rfl | rfl | rfl | rfl | rfl | rfl | rfl | rfl
        · exact absurd (was_listed hun k0) id
        · exact absurd (was_listed hun k1) id
        · exact absurd (was_listed hun k2) id
        · exact absurd (was_listed hun k3) id
        · exact absurd (was_listed hun k4) id
        · exact absurd (was_listed hun k5) id
        · exact absurd (was_listed hun k6) id
        · exact absurd (was_listed hun k7) id
        · exact absurd (was_listed hun k8) id
        · have hd := waits_as (L := [8]) (by kernel_rfl) hd
          simp only [List.all_cons, List.all_nil, Bool.and_true, Bool.and_eq_true] at hd
          have e0 := hd
          refine inv_op rfl (fun K hK => ?_)
          subst ha0
          (try simp only [Act.put, List.getElem_toArray, List.getElem_cons_succ, List.getElem_cons_zero, List.setIfInBounds_toArray, List.set_cons_zero, List.set_cons_succ])
          go_simp
          go_wp2_with (refine (CW.out _ (PB.out.trans (hB.mono PB.out.size))).mono ?_; rintro e v ⟨rfl, b1⟩)
          refine hK.out _ _ ?_
          exact ⟨by simp [hsz], ⟨listed_new k0, listed_new k1, listed_new k2, listed_new k3, listed_new k4, listed_new k5, listed_new k6, listed_new k7, listed_new k8, listed_new k10, listed_new k11, listed_new k12, listed_new k13, listed_new k14, listed_new k15, listed_new k16, listed_new k18⟩, (hB.trans (b1.mono hB.size)), (.bool wh), t17, t19, t20, t21, t22, t23, t25, by kernel_rfl, fun _ => rfl, fun h => c17 (listed_old h (by decide)), fun h => c19 (listed_old h (by decide)), fun h => c20 (listed_old h (by decide)), fun h => c21 (listed_old h (by decide)), fun h => c22 (listed_old h (by decide)), fun h => by obtain ⟨g, hg, h1, h2, h3, h4⟩ := c23 (listed_old h (by decide)); exact ⟨g, hg, h1, Nat.lt_of_lt_of_le h2 b1.size, fun h => (h3 (listed_same h (by decide))).below b1 (h3 (listed_same h (by decide))).lt, fun h => (h4 (listed_same h (by decide))).below b1 (h4 (listed_same h (by decide))).lt⟩, fun h => listed_new (s23 (listed_old h (by decide))), fun h => c25 (listed_old h (by decide))⟩
        · exact absurd (was_listed hun k10) id
        · exact absurd (was_listed hun k11) id
        · exact absurd (was_listed hun k12) id
        · exact absurd (was_listed hun k13) id
        · exact absurd (was_listed hun k14) id
        · exact absurd (was_listed hun k15) id
        · exact absurd (was_listed hun k16) id
        · have hd := waits_as (L := [4, 5, 6, 9, 11, 14, 16]) (by kernel_rfl) hd
          simp only [List.all_cons, List.all_nil, Bool.and_true, Bool.and_eq_true] at hd
          obtain ⟨e0, e1, e2, e3, e4, e5, e6⟩ := hd
          obtain rfl := c9 e3
          refine inv_op rfl (fun K hK => ?_)
          subst ha0
          (try simp only [Act.put, List.getElem_toArray, List.getElem_cons_succ, List.getElem_cons_zero, List.setIfInBounds_toArray, List.set_cons_zero, List.set_cons_succ])
          go_simp
          refine hK.out _ _ ?_
          exact ⟨by simp [hsz], ⟨listed_new k0, listed_new k1, listed_new k2, listed_new k3, listed_new k4, listed_new k5, listed_new k6, listed_new k7, listed_new k8, listed_new k10, listed_new k11, listed_new k12, listed_new k13, listed_new k14, listed_new k15, listed_new k16, listed_new k18⟩, hB, (.bool wh), (.agg #[.int .i64 sa.src, .int .i64 sa.lay, .bool ds.begins, .bool wh, .bool ds.hasTid, .int .i64 (IntKind.i64.wrap (ds.tid : Int)), .bool ds.sync]), t19, t20, t21, t22, t23, t25, by kernel_rfl, fun _ => rfl, fun _ => rfl, fun h => c19 (listed_old h (by decide)), fun h => c20 (listed_old h (by decide)), fun h => c21 (listed_old h (by decide)), fun h => c22 (listed_old h (by decide)), fun h => by obtain ⟨g, hg, h1, h2, h3, h4⟩ := c23 (listed_old h (by decide)); exact ⟨g, hg, h1, h2, fun h => h3 (listed_same h (by decide)), fun h => h4 (listed_same h (by decide))⟩, fun h => listed_new (s23 (listed_old h (by decide))), fun h => c25 (listed_old h (by decide))⟩
        · exact absurd (was_listed hun k18) id
        · have hd := waits_as (L := [3, 17, 18, 9]) (by kernel_rfl) hd
          simp only [List.all_cons, List.all_nil, Bool.and_true, Bool.and_eq_true] at hd
          obtain ⟨e0, e1, e2, e3⟩ := hd
          obtain rfl := c17 e1
          obtain rfl := c9 e3
          refine inv_op rfl (fun K hK => ?_)
          subst ha0
          (try simp only [Act.put, List.getElem_toArray, List.getElem_cons_succ, List.getElem_cons_zero, List.setIfInBounds_toArray, List.set_cons_zero, List.set_cons_succ])
          go_simp
          go_wp2_with (refine (CT.out _).mono ?_; rintro e v ⟨rfl, b1⟩)
          refine hK.out _ _ ?_
          exact ⟨by simp [hsz], ⟨listed_new k0, listed_new k1, listed_new k2, listed_new k3, listed_new k4, listed_new k5, listed_new k6, listed_new k7, listed_new k8, listed_new k10, listed_new k11, listed_new k12, listed_new k13, listed_new k14, listed_new k15, listed_new k16, listed_new k18⟩, (hB.trans (b1.mono hB.size)), (.bool wh), (.agg #[.int .i64 sa.src, .int .i64 sa.lay, .bool ds.begins, .bool wh, .bool ds.hasTid, .int .i64 (IntKind.i64.wrap (ds.tid : Int)), .bool ds.sync]), (.tuple #[(.agg #[.bool nx.on, .int .i64 nx.src, .int .i64 nx.lay, .int .i64 nx.tid]), .int .i64 kd]), t20, t21, t22, t23, t25, by kernel_rfl, fun _ => rfl, fun _ => rfl, fun _ => rfl, fun h => c20 (listed_old h (by decide)), fun h => c21 (listed_old h (by decide)), fun h => c22 (listed_old h (by decide)), fun h => by obtain ⟨g, hg, h1, h2, h3, h4⟩ := c23 (listed_old h (by decide)); exact ⟨g, hg, h1, Nat.lt_of_lt_of_le h2 b1.size, fun h => (h3 (listed_same h (by decide))).below b1 (h3 (listed_same h (by decide))).lt, fun h => (h4 (listed_same h (by decide))).below b1 (h4 (listed_same h (by decide))).lt⟩, fun h => listed_new (s23 (listed_old h (by decide))), fun h => c25 (listed_old h (by decide))⟩
        · have hd := waits_as (L := [19]) (by kernel_rfl) hd
          simp only [List.all_cons, List.all_nil, Bool.and_true, Bool.and_eq_true] at hd
          have e0 := hd
          obtain rfl := c19 e0
          refine inv_op rfl (fun K hK => ?_)
          subst ha0
          (try simp only [Act.put, List.getElem_toArray, List.getElem_cons_succ, List.getElem_cons_zero, List.setIfInBounds_toArray, List.set_cons_zero, List.set_cons_succ])
          go_simp
          refine hK.out _ _ ?_
          exact ⟨by simp [hsz], ⟨listed_new k0, listed_new k1, listed_new k2, listed_new k3, listed_new k4, listed_new k5, listed_new k6, listed_new k7, listed_new k8, listed_new k10, listed_new k11, listed_new k12, listed_new k13, listed_new k14, listed_new k15, listed_new k16, listed_new k18⟩, hB, t9, t17, (.tuple #[(.agg #[.bool nx.on, .int .i64 nx.src, .int .i64 nx.lay, .int .i64 nx.tid]), .int .i64 kd]), (.tuple #[(.agg #[.bool nx.on, .int .i64 nx.src, .int .i64 nx.lay, .int .i64 nx.tid]), .int .i64 kd]), t21, t22, t23, t25, by kernel_rfl, fun h => c9 (listed_old h (by decide)), fun h => c17 (listed_old h (by decide)), fun _ => rfl, fun _ => rfl, fun h => c21 (listed_old h (by decide)), fun h => c22 (listed_old h (by decide)), fun h => by obtain ⟨g, hg, h1, h2, h3, h4⟩ := c23 (listed_old h (by decide)); exact ⟨g, hg, h1, h2, fun h => h3 (listed_same h (by decide)), fun h => h4 (listed_same h (by decide))⟩, fun h => listed_new (s23 (listed_old h (by decide))), fun h => c25 (listed_old h (by decide))⟩
        · have hd := waits_as (L := [20]) (by kernel_rfl) hd
          simp only [List.all_cons, List.all_nil, Bool.and_true, Bool.and_eq_true] at hd
          have e0 := hd
          obtain rfl := c20 e0
          refine inv_op rfl (fun K hK => ?_)
          subst ha0
          (try simp only [Act.put, List.getElem_toArray, List.getElem_cons_succ, List.getElem_cons_zero, List.setIfInBounds_toArray, List.set_cons_zero, List.set_cons_succ])
          go_simp
          refine hK.out _ _ ?_
          exact ⟨by simp [hsz], ⟨listed_new k0, listed_new k1, listed_new k2, listed_new k3, listed_new k4, listed_new k5, listed_new k6, listed_new k7, listed_new k8, listed_new k10, listed_new k11, listed_new k12, listed_new k13, listed_new k14, listed_new k15, listed_new k16, listed_new k18⟩, hB, t9, t17, t19, (.tuple #[(.agg #[.bool nx.on, .int .i64 nx.src, .int .i64 nx.lay, .int .i64 nx.tid]), .int .i64 kd]), (.agg #[.bool nx.on, .int .i64 nx.src, .int .i64 nx.lay, .int .i64 nx.tid]), t22, t23, t25, by kernel_rfl, fun h => c9 (listed_old h (by decide)), fun h => c17 (listed_old h (by decide)), fun h => c19 (listed_old h (by decide)), fun _ => rfl, fun _ => rfl, fun h => c22 (listed_old h (by decide)), fun h => by obtain ⟨g, hg, h1, h2, h3, h4⟩ := c23 (listed_old h (by decide)); exact ⟨g, hg, h1, h2, fun h => h3 (listed_same h (by decide)), fun h => h4 (listed_same h (by decide))⟩, fun h => listed_new (s23 (listed_old h (by decide))), fun h => c25 (listed_old h (by decide))⟩
        · have hd := waits_as (L := [20]) (by kernel_rfl) hd
          simp only [List.all_cons, List.all_nil, Bool.and_true, Bool.and_eq_true] at hd
          have e0 := hd
          obtain rfl := c20 e0
          refine inv_op rfl (fun K hK => ?_)
          subst ha0
          (try simp only [Act.put, List.getElem_toArray, List.getElem_cons_succ, List.getElem_cons_zero, List.setIfInBounds_toArray, List.set_cons_zero, List.set_cons_succ])
          go_simp
          refine hK.out _ _ ?_
          exact ⟨by simp [hsz], ⟨listed_new k0, listed_new k1, listed_new k2, listed_new k3, listed_new k4, listed_new k5, listed_new k6, listed_new k7, listed_new k8, listed_new k10, listed_new k11, listed_new k12, listed_new k13, listed_new k14, listed_new k15, listed_new k16, listed_new k18⟩, hB, t9, t17, t19, (.tuple #[(.agg #[.bool nx.on, .int .i64 nx.src, .int .i64 nx.lay, .int .i64 nx.tid]), .int .i64 kd]), t21, (.int .i64 kd), t23, t25, by kernel_rfl, fun h => c9 (listed_old h (by decide)), fun h => c17 (listed_old h (by decide)), fun h => c19 (listed_old h (by decide)), fun _ => rfl, fun h => c21 (listed_old h (by decide)), fun _ => rfl, fun h => by obtain ⟨g, hg, h1, h2, h3, h4⟩ := c23 (listed_old h (by decide)); exact ⟨g, hg, h1, h2, fun h => h3 (listed_same h (by decide)), fun h => h4 (listed_same h (by decide))⟩, fun h => listed_new (s23 (listed_old h (by decide))), fun h => c25 (listed_old h (by decide))⟩
        · have hd := waits_as (L := []) (by kernel_rfl) hd
          simp only [List.all_cons, List.all_nil, Bool.and_true, Bool.and_eq_true] at hd
          refine inv_op rfl (fun K hK => ?_)
          subst ha0
          (try simp only [Act.put, List.getElem_toArray, List.getElem_cons_succ, List.getElem_cons_zero, List.setIfInBounds_toArray, List.set_cons_zero, List.set_cons_succ])
          go_simp
          refine hK.out _ _ ?_
          exact ⟨by simp [hsz], ⟨listed_new k0, listed_new k1, listed_new k2, listed_new k3, listed_new k4, listed_new k5, listed_new k6, listed_new k7, listed_new k8, listed_new k10, listed_new k11, listed_new k12, listed_new k13, listed_new k14, listed_new k15, listed_new k16, listed_new k18⟩, (hB.alloc hB.size (.cells #[.bool false, .int .i64 0, .int .i64 0, .int .i64 0] 72)), t9, t17, t19, t20, t21, t22, (.pointer (some ⟨w.heap.size, 0, none⟩)), t25, by kernel_rfl, fun h => c9 (listed_old h (by decide)), fun h => c17 (listed_old h (by decide)), fun h => c19 (listed_old h (by decide)), fun h => c20 (listed_old h (by decide)), fun h => c21 (listed_old h (by decide)), fun h => c22 (listed_old h (by decide)), fun _ => ⟨_, rfl, hB.size, by simp, fun _ => Whole.new _ _ _, fun h => absurd (was_listed hun (s23 (listed_old h (by decide)))) id⟩, fun h => listed_new (s23 (listed_old h (by decide))), fun h => c25 (listed_old h (by decide))⟩
        · have hd := waits_as (L := [23, 21, 19, 0, 1, 2, 3, 4, 5, 6, 7, 8, 9, 10, 11, 12, 13, 14, 15, 16, 17, 18, 19, 20, 21, 23]) (by kernel_rfl) hd
          simp only [List.all_cons, List.all_nil, Bool.and_true, Bool.and_eq_true] at hd
          obtain ⟨e0, e1, e2, e3, e4, e5, e6, e7, e8, e9, e10, e11, e12, e13, e14, e15, e16, e17, e18, e19, e20, e21, e22, e23, e24, e25⟩ := hd
          obtain ⟨g23, rfl, lo23, lt23, z23, y23⟩ := c23 e0
          obtain rfl := c21 e1
          obtain rfl := c19 e2
          obtain rfl := c9 e12
          obtain rfl := c17 e20
          obtain rfl := c20 e23
          refine inv_op rfl (fun K hK => ?_)
          subst ha0
          (try simp only [Act.put, List.getElem_toArray, List.getElem_cons_succ, List.getElem_cons_zero, List.setIfInBounds_toArray, List.set_cons_zero, List.set_cons_succ])
          have q := z23 (unlisted_false hun)
          have zz0 := q.cell 0
          have zz1 := q.cell 1
          have zz2 := q.cell 2
          have zz3 := q.cell 3
          have yy0 := q.free 0
          have yy1 := q.free 1
          have yy2 := q.free 2
          have yy3 := q.free 3
          go_simp
          refine hK.out _ _ ?_
          exact ⟨by simp [hsz], ⟨listed_new k0, listed_new k1, listed_new k2, listed_new k3, listed_new k4, listed_new k5, listed_new k6, listed_new k7, listed_new k8, listed_new k10, listed_new k11, listed_new k12, listed_new k13, listed_new k14, listed_new k15, listed_new k16, listed_new k18⟩, (four_set hB lo23 (.bool nx.on) (.int .i64 nx.src) (.int .i64 nx.lay) (.int .i64 nx.tid)), (.bool wh), (.agg #[.int .i64 sa.src, .int .i64 sa.lay, .bool ds.begins, .bool wh, .bool ds.hasTid, .int .i64 (IntKind.i64.wrap (ds.tid : Int)), .bool ds.sync]), (.tuple #[(.agg #[.bool nx.on, .int .i64 nx.src, .int .i64 nx.lay, .int .i64 nx.tid]), .int .i64 kd]), (.tuple #[(.agg #[.bool nx.on, .int .i64 nx.src, .int .i64 nx.lay, .int .i64 nx.tid]), .int .i64 kd]), (.agg #[.bool nx.on, .int .i64 nx.src, .int .i64 nx.lay, .int .i64 nx.tid]), t22, (.pointer (some ⟨g23, 0, none⟩)), t25, by kernel_rfl, fun _ => rfl, fun _ => rfl, fun _ => rfl, fun _ => rfl, fun _ => rfl, fun h => c22 (listed_old h (by decide)), fun _ => ⟨g23, rfl, lo23, (by simpa using lt23), fun h => absurd ((listed_now hun).symm.trans h) (by decide), fun _ => (Whole.four q (.bool nx.on) (.int .i64 nx.src) (.int .i64 nx.lay) (.int .i64 nx.tid))⟩, fun _ => listed_new e0, fun h => c25 (listed_old h (by decide))⟩
        · have hd := waits_as (L := [22, 24, 0, 1, 2, 3, 4, 5, 6, 7, 8, 9, 10, 11, 12, 13, 14, 15, 16, 17, 18, 19, 20, 21, 22, 23, 24]) (by kernel_rfl) hd
          simp only [List.all_cons, List.all_nil, Bool.and_true, Bool.and_eq_true] at hd
          obtain ⟨e0, e1, e2, e3, e4, e5, e6, e7, e8, e9, e10, e11, e12, e13, e14, e15, e16, e17, e18, e19, e20, e21, e22, e23, e24, e25, e26⟩ := hd
          obtain rfl := c22 e0
          obtain rfl := c9 e11
          obtain rfl := c17 e19
          obtain rfl := c19 e21
          obtain rfl := c20 e22
          obtain rfl := c21 e23
          obtain ⟨g23, rfl, lo23, lt23, z23, y23⟩ := c23 e25
          refine inv_op rfl (fun K hK => ?_)
          subst ha0
          (try simp only [Act.put, List.getElem_toArray, List.getElem_cons_succ, List.getElem_cons_zero, List.setIfInBounds_toArray, List.set_cons_zero, List.set_cons_succ])
          go_simp
          refine hK.out _ _ ?_
          exact ⟨by simp [hsz], ⟨listed_new k0, listed_new k1, listed_new k2, listed_new k3, listed_new k4, listed_new k5, listed_new k6, listed_new k7, listed_new k8, listed_new k10, listed_new k11, listed_new k12, listed_new k13, listed_new k14, listed_new k15, listed_new k16, listed_new k18⟩, hB, (.bool wh), (.agg #[.int .i64 sa.src, .int .i64 sa.lay, .bool ds.begins, .bool wh, .bool ds.hasTid, .int .i64 (IntKind.i64.wrap (ds.tid : Int)), .bool ds.sync]), (.tuple #[(.agg #[.bool nx.on, .int .i64 nx.src, .int .i64 nx.lay, .int .i64 nx.tid]), .int .i64 kd]), (.tuple #[(.agg #[.bool nx.on, .int .i64 nx.src, .int .i64 nx.lay, .int .i64 nx.tid]), .int .i64 kd]), (.agg #[.bool nx.on, .int .i64 nx.src, .int .i64 nx.lay, .int .i64 nx.tid]), (.int .i64 kd), (.pointer (some ⟨g23, 0, none⟩)), (.int .i64 kd), by kernel_rfl, fun _ => rfl, fun _ => rfl, fun _ => rfl, fun _ => rfl, fun _ => rfl, fun _ => rfl, fun _ => ⟨g23, rfl, lo23, lt23, fun h => z23 (listed_same h (by decide)), fun h => y23 (listed_same h (by decide))⟩, fun h => listed_new (s23 (listed_old h (by decide))), fun _ => rfl⟩
      · intro l a w hI hr
        obtain ⟨hsz, ⟨k0, k1, k2, k3, k4, k5, k6, k7, k8, k10, k11, k12, k13, k14, k15, k16, k18⟩, hB, t9, t17, t19, t20, t21, t22, t23, t25, rfl, c9, c17, c19, c20, c21, c22, c23, s23, c25⟩ := hI
        have k9 := done_listed (i := 9) (n := 26) hsz (by decide) rfl hr (by rw [show waitsFor _ _ 9 = [8] from by kernel_rfl]; simp only [List.all_cons, List.all_nil, Bool.and_true, Bool.and_eq_true]; exact k8)
        have k17 := done_listed (i := 17) (n := 26) hsz (by decide) rfl hr (by rw [show waitsFor _ _ 17 = [4, 5, 6, 9, 11, 14, 16] from by kernel_rfl]; simp only [List.all_cons, List.all_nil, Bool.and_true, Bool.and_eq_true]; exact ⟨k4, k5, k6, k9, k11, k14, k16⟩)
        have k19 := done_listed (i := 19) (n := 26) hsz (by decide) rfl hr (by rw [show waitsFor _ _ 19 = [3, 17, 18, 9] from by kernel_rfl]; simp only [List.all_cons, List.all_nil, Bool.and_true, Bool.and_eq_true]; exact ⟨k3, k17, k18, k9⟩)
        have k20 := done_listed (i := 20) (n := 26) hsz (by decide) rfl hr (by rw [show waitsFor _ _ 20 = [19] from by kernel_rfl]; simp only [List.all_cons, List.all_nil, Bool.and_true, Bool.and_eq_true]; exact k19)
        have k21 := done_listed (i := 21) (n := 26) hsz (by decide) rfl hr (by rw [show waitsFor _ _ 21 = [20] from by kernel_rfl]; simp only [List.all_cons, List.all_nil, Bool.and_true, Bool.and_eq_true]; exact k20)
        have k22 := done_listed (i := 22) (n := 26) hsz (by decide) rfl hr (by rw [show waitsFor _ _ 22 = [20] from by kernel_rfl]; simp only [List.all_cons, List.all_nil, Bool.and_true, Bool.and_eq_true]; exact k20)
        have k23 := done_listed (i := 23) (n := 26) hsz (by decide) rfl hr (by rw [show waitsFor _ _ 23 = [] from by kernel_rfl]; rfl)
        have k24 := done_listed (i := 24) (n := 26) hsz (by decide) rfl hr (by rw [show waitsFor _ _ 24 = [23, 21, 19, 0, 1, 2, 3, 4, 5, 6, 7, 8, 9, 10, 11, 12, 13, 14, 15, 16, 17, 18, 19, 20, 21, 23] from by kernel_rfl]; simp only [List.all_cons, List.all_nil, Bool.and_true, Bool.and_eq_true]; exact ⟨k23, k21, k19, k0, k1, k2, k3, k4, k5, k6, k7, k8, k9, k10, k11, k12, k13, k14, k15, k16, k17, k18, k19, k20, k21, k23⟩)
        have k25 := done_listed (i := 25) (n := 26) hsz (by decide) rfl hr (by rw [show waitsFor _ _ 25 = [22, 24, 0, 1, 2, 3, 4, 5, 6, 7, 8, 9, 10, 11, 12, 13, 14, 15, 16, 17, 18, 19, 20, 21, 22, 23, 24] from by kernel_rfl]; simp only [List.all_cons, List.all_nil, Bool.and_true, Bool.and_eq_true]; exact ⟨k22, k24, k0, k1, k2, k3, k4, k5, k6, k7, k8, k9, k10, k11, k12, k13, k14, k15, k16, k17, k18, k19, k20, k21, k22, k23, k24⟩)
        obtain rfl := c9 k9
        obtain rfl := c17 k17
        obtain rfl := c19 k19
        obtain rfl := c20 k20
        obtain rfl := c21 k21
        obtain rfl := c22 k22
        obtain rfl := c25 k25
        obtain ⟨gc, rfl, loc, _, _, Wc⟩ := c23 k23
        replace Wc := Wc k24
        clear hr k0 k1 k2 k3 k4 k5 k6 k7 k8 k9 k10 k11 k12 k13 k14 k15 k16 k17 k18 k19 k20 k21 k22 k23 k24 k25 s23 c9 c17 c19 c20 c21 c22 c23 c25
        subst ha0
        (try simp only [Act.put, List.getElem_toArray, List.getElem_cons_succ, List.getElem_cons_zero, List.setIfInBounds_toArray, List.set_cons_zero, List.set_cons_succ])
        go_wp2_with fail
        go_meet
        exact ⟨rfl, _, rfl, loc, Wc, hB⟩
      · refine ⟨rfl, ⟨rfl, rfl, rfl, rfl, rfl, rfl, rfl, rfl, rfl, rfl, rfl, rfl, rfl, rfl, rfl, rfl, rfl⟩, (Below.refl _ _).drew, a0.tmps.getD 46 undef, a0.tmps.getD 54 undef, a0.tmps.getD 56 undef, a0.tmps.getD 36 undef, a0.tmps.getD 57 undef, a0.tmps.getD 58 undef, a0.tmps.getD 15 undef, a0.tmps.getD 16 undef, ?_, fun h => absurd h (by decide), fun h => absurd h (by decide), fun h => absurd h (by decide), fun h => absurd h (by decide), fun h => absurd h (by decide), fun h => absurd h (by decide), fun h => absurd h (by decide), fun h => absurd h (by decide), fun h => absurd h (by decide)⟩
        subst ha0
        kernel_rfl
    case rest =>
      obtain ⟨rfl, g1_1, rfl, loc1, Tc, bq⟩ := hcut
      obtain ⟨wc1, rfl⟩ : ∃ wd : World, wd = wc := ⟨_, rfl⟩
      have SGc1 := (PG.out).below bq PG.out.lt
      have SPc1 := (PP.out).below bq PP.out.lt
      have SUc1 := (PU.out).below bq PU.out.lt
      have STc1 := (PT.out).below bq PT.out.lt
      have Scc1 := Tc
      have HBc1 := Lib.hid (PB.out.trans (bq.mono PB.out.size))
      clear K6 bq PG PP PU PT Tc PB
      have lGc1 := SGc1.lt
      have lPc1 := SPc1.lt
      have lUc1 := SUc1.lt
      have lTc1 := STc1.lt
      have lcc1 := Scc1.lt
      clear CW CT
      have Gc1_0 := SGc1.cell 0
      have fGc1_0 := SGc1.free 0
      have Gc1_1 := SGc1.cell 1
      have fGc1_1 := SGc1.free 1
      have Gc1_2 := SGc1.cell 2
      have fGc1_2 := SGc1.free 2
      have Gc1_3 := SGc1.cell 3
      have fGc1_3 := SGc1.free 3
      have Gc1_4 := SGc1.cell 4
      have fGc1_4 := SGc1.free 4
      have Gc1_5 := SGc1.cell 5
      have fGc1_5 := SGc1.free 5
      have Gc1_6 := SGc1.cell 6
      have fGc1_6 := SGc1.free 6
      have Gc1_7 := SGc1.cell 7
      have fGc1_7 := SGc1.free 7
      have Gc1_8 := SGc1.cell 8
      have fGc1_8 := SGc1.free 8
      have Gc1_9 := SGc1.cell 9
      have fGc1_9 := SGc1.free 9
      have Gc1_10 := SGc1.cell 10
      have fGc1_10 := SGc1.free 10
      have Gc1_11 := SGc1.cell 11
      have fGc1_11 := SGc1.free 11
      have Gc1_12 := SGc1.cell 12
      have fGc1_12 := SGc1.free 12
      have Gc1_13 := SGc1.cell 13
      have fGc1_13 := SGc1.free 13
      have Gc1_14 := SGc1.cell 14
      have fGc1_14 := SGc1.free 14
      have Gc1_15 := SGc1.cell 15
      have fGc1_15 := SGc1.free 15
      have Gc1_16 := SGc1.cell 16
      have fGc1_16 := SGc1.free 16
      have Gc1_17 := SGc1.cell 17
      have fGc1_17 := SGc1.free 17
      have Gc1_18 := SGc1.cell 18
      have fGc1_18 := SGc1.free 18
      have Gc1_19 := SGc1.cell 19
      have fGc1_19 := SGc1.free 19
      have Gc1_20 := SGc1.cell 20
      have fGc1_20 := SGc1.free 20
      have Gc1_21 := SGc1.cell 21
      have fGc1_21 := SGc1.free 21
      have cc1_0 := Scc1.cell 0
      have cc1_1 := Scc1.cell 1
      have cc1_2 := Scc1.cell 2
      have cc1_3 := Scc1.cell 3
      replace SGc1 := Lib.hid SGc1
      replace SPc1 := Lib.hid SPc1
      replace SUc1 := Lib.hid SUc1
      replace STc1 := Lib.hid STc1
      replace Scc1 := Lib.hid Scc1
      go_upto_region 8 with fail
      obtain ⟨wf7, hwf⟩ : ∃ z, z = ((((wc1.setCell ⟨g, 1, none⟩ (.bool nx.on)).setCell ⟨g, 2, none⟩ (.int .i64 nx.src)).setCell ⟨g, 3, none⟩ (.int .i64 nx.lay)).setCell ⟨g, 4, none⟩ (.int .i64 nx.tid)) := ⟨_, rfl⟩
      have SGf7 := (show Whole _ _ _ #[.int .u32 (d.ssrc : Int), .bool nx.on, .int .i64 nx.src, .int .i64 nx.lay, .int .i64 nx.tid, .bool d.nums.on, .int .i64 d.nums.high, .int .i64 d.nums.since, .int .u16 d.nums.off.seq, .int .u32 d.nums.off.time, .int .u16 d.nums.off.pic, .int .u8 d.nums.off.tl0, .int .u16 d.nums.out.seq, .int .u32 d.nums.out.time, .int .u16 d.nums.out.pic, .int .u8 d.nums.out.tl0, .pointer (some ⟨gs, 0, none⟩), .int .i64 (d.sent : Int), .int .i64 (d.left : Int), .int .i64 (d.drop : Int), .int .i64 (d.late : Int), .int .i64 (d.bad : Int)] from ((show Whole _ _ _ #[.int .u32 (d.ssrc : Int), .bool nx.on, .int .i64 nx.src, .int .i64 nx.lay, .int .i64 pk.tid, .bool d.nums.on, .int .i64 d.nums.high, .int .i64 d.nums.since, .int .u16 d.nums.off.seq, .int .u32 d.nums.off.time, .int .u16 d.nums.off.pic, .int .u8 d.nums.off.tl0, .int .u16 d.nums.out.seq, .int .u32 d.nums.out.time, .int .u16 d.nums.out.pic, .int .u8 d.nums.out.tl0, .pointer (some ⟨gs, 0, none⟩), .int .i64 (d.sent : Int), .int .i64 (d.left : Int), .int .i64 (d.drop : Int), .int .i64 (d.late : Int), .int .i64 (d.bad : Int)] from ((show Whole _ _ _ #[.int .u32 (d.ssrc : Int), .bool nx.on, .int .i64 nx.src, .int .i64 pk.lay, .int .i64 pk.tid, .bool d.nums.on, .int .i64 d.nums.high, .int .i64 d.nums.since, .int .u16 d.nums.off.seq, .int .u32 d.nums.off.time, .int .u16 d.nums.off.pic, .int .u8 d.nums.off.tl0, .int .u16 d.nums.out.seq, .int .u32 d.nums.out.time, .int .u16 d.nums.out.pic, .int .u8 d.nums.out.tl0, .pointer (some ⟨gs, 0, none⟩), .int .i64 (d.sent : Int), .int .i64 (d.left : Int), .int .i64 (d.drop : Int), .int .i64 (d.late : Int), .int .i64 (d.bad : Int)] from ((show Whole _ _ _ #[.int .u32 (d.ssrc : Int), .bool nx.on, .int .i64 pk.src, .int .i64 pk.lay, .int .i64 pk.tid, .bool d.nums.on, .int .i64 d.nums.high, .int .i64 d.nums.since, .int .u16 d.nums.off.seq, .int .u32 d.nums.off.time, .int .u16 d.nums.off.pic, .int .u8 d.nums.off.tl0, .int .u16 d.nums.out.seq, .int .u32 d.nums.out.time, .int .u16 d.nums.out.pic, .int .u8 d.nums.out.tl0, .pointer (some ⟨gs, 0, none⟩), .int .i64 (d.sent : Int), .int .i64 (d.left : Int), .int .i64 (d.drop : Int), .int .i64 (d.late : Int), .int .i64 (d.bad : Int)] from (SGc1.out).set 1 (.bool nx.on))).set 2 (.int .i64 nx.src))).set 3 (.int .i64 nx.lay))).set 4 (.int .i64 nx.tid))
      have SPf7 := ((((((((SPc1.out).far (p := ⟨g, 1, none⟩) (show w.heap.size ≠ g from by omega) (.bool nx.on))).far (p := ⟨g, 2, none⟩) (show w.heap.size ≠ g from by omega) (.int .i64 nx.src))).far (p := ⟨g, 3, none⟩) (show w.heap.size ≠ g from by omega) (.int .i64 nx.lay))).far (p := ⟨g, 4, none⟩) (show w.heap.size ≠ g from by omega) (.int .i64 nx.tid))
      have SUf7 := ((((((((SUc1.out).far (p := ⟨g, 1, none⟩) (show w.heap.size + 1 ≠ g from by omega) (.bool nx.on))).far (p := ⟨g, 2, none⟩) (show w.heap.size + 1 ≠ g from by omega) (.int .i64 nx.src))).far (p := ⟨g, 3, none⟩) (show w.heap.size + 1 ≠ g from by omega) (.int .i64 nx.lay))).far (p := ⟨g, 4, none⟩) (show w.heap.size + 1 ≠ g from by omega) (.int .i64 nx.tid))
      have STf7 := ((((((((STc1.out).far (p := ⟨g, 1, none⟩) (show w1.heap.size ≠ g from by omega) (.bool nx.on))).far (p := ⟨g, 2, none⟩) (show w1.heap.size ≠ g from by omega) (.int .i64 nx.src))).far (p := ⟨g, 3, none⟩) (show w1.heap.size ≠ g from by omega) (.int .i64 nx.lay))).far (p := ⟨g, 4, none⟩) (show w1.heap.size ≠ g from by omega) (.int .i64 nx.tid))
      have HBf7 := (((((but_of_below (S := fun k => k = g) HBc1.out).set (p := ⟨g, 1, none⟩) (.inl rfl) (.bool nx.on)).set (p := ⟨g, 2, none⟩) (.inl rfl) (.int .i64 nx.src)).set (p := ⟨g, 3, none⟩) (.inl rfl) (.int .i64 nx.lay)).set (p := ⟨g, 4, none⟩) (.inl rfl) (.int .i64 nx.tid))
      rw [← hwf] at SGf7 SPf7 SUf7 STf7 HBf7 ⊢
      clear hwf
      clear Gc1_0 fGc1_0 Gc1_1 fGc1_1 Gc1_2 fGc1_2 Gc1_3 fGc1_3 Gc1_4 fGc1_4 Gc1_5 fGc1_5 Gc1_6 fGc1_6 Gc1_7 fGc1_7 Gc1_8 fGc1_8 Gc1_9 fGc1_9 Gc1_10 fGc1_10 Gc1_11 fGc1_11 Gc1_12 fGc1_12 Gc1_13 fGc1_13 Gc1_14 fGc1_14 Gc1_15 fGc1_15 Gc1_16 fGc1_16 Gc1_17 fGc1_17 Gc1_18 fGc1_18 Gc1_19 fGc1_19 Gc1_20 fGc1_20 Gc1_21 fGc1_21 cc1_0 cc1_1 cc1_2 cc1_3 SGc1 SPc1 SUc1 STc1 HBc1
      have lGf7 := SGf7.lt
      have lPf7 := SPf7.lt
      have lUf7 := SUf7.lt
      have lTf7 := STf7.lt
      replace HBf7 := Lib.hid HBf7
      replace SGf7 := Lib.hid SGf7
      replace SPf7 := Lib.hid SPf7
      replace SUf7 := Lib.hid SUf7
      replace STf7 := Lib.hid STf7
      have HB7 := HBf7
      clear HBf7 SUf7
      have p2 := SPf7.out.cell 2
      have p3 := SPf7.out.cell 3
      have t6 := STf7.out.cell 6
      have t8 := STf7.out.cell 8
      have CM := deeds_any g (sa.x.mn ds) ds.begins wf7
      dsimp only [Sx.mn, Sa.x, Pq.p, Mn.cells] at CM
      replace CM := Lib.hid CM
      have hthree := Cs.three pk (sa.x.cx ds) sa.want
      rw [HKD.out] at hthree
      have hkk : kd = 0 ∨ kd = 2 ∨ kd = 3 ∨ kd = 1 := by rcases hthree with ⟨_, _, ⟨_, _, h⟩ | ⟨_, h⟩⟩ | ⟨_, _, _, _, _, h⟩ | ⟨_, _, h⟩ <;> simp [h]
      clear hthree
      have HPK : Hid (nx.as (d.pick.next (sa.x.cx ds) sa.want)) := Lib.hid (by rw [← HNX.out]; exact Cs.as_next HH.out.1)
      have HK2 : Hid (d.pick.kind (sa.x.cx ds) sa.want = kd) := Lib.hid (by rw [← HKD.out]; exact (Cs.as_kind HH.out.1).symm)
      have HMN : Hid ((sa.x.mn ds).Fit) := Lib.hid (Sx.mn_fit HA.out.fit HPAR.out)
      clear HNX HKD HWH
      rcases hkk with rfl | rfl | rfl | rfl
      · go_wp2_with fail
        refine (CM.out).mono ?_
        rintro e w11 ⟨bd, bi, bb, mp, rfl, l1, l2, l3, wd, wi, wb, b11, k0, k1, k2, k3⟩
        have HWD := Lib.hid wd
        have HWI := Lib.hid wi
        have HWB := Lib.hid wb
        clear wd wi wb k1 k2 k3
        have SG11 := (SGf7.out).below b11 (by have := (SGf7.out).lt; first | with_reducible exact this | simpa using this)
        have SP11 := (SPf7.out).below b11 (by have := (SPf7.out).lt; first | with_reducible exact this | simpa using this)
        have ST11 := (STf7.out).below b11 (by have := (STf7.out).lt; first | with_reducible exact this | simpa using this)
        have HB11 := Lib.hid (((Below.refl wf7.heap.size wf7)).trans (b11.mono ((Below.refl wf7.heap.size wf7)).size))
        have lG11 := SG11.lt
        have lP11 := SP11.lt
        have lT11 := ST11.lt
        clear b11 p2 p3 t6 t8 SGf7 SPf7 STf7 CM
        replace SG11 := Lib.hid SG11
        replace SP11 := Lib.hid SP11
        replace ST11 := Lib.hid ST11
        go_wp2_with fail
        clear k0
        have CE := deed_leave d.ssrc nx d.nums gs d.sent d.left d.drop d.late d.bad g bd w11 (SG11.out) (HWD.out) (by have := HF.out.2.1; omega)
        replace CE := Lib.hid CE
        have HB8 := Lib.hid (HB7.out.trans (but_of_below HB11.out))
        clear HWD HWI HWB SG11 HB11 HB7
        refine CE.out.mono ?_
        rintro e w12 ⟨rfl, hg12, b12⟩
        dsimp only [Mn.cells, Mn.zero]
        have HG12 := Lib.hid hg12
        have HB12 := Lib.hid (HB8.out.trans b12)
        have P12 := SP11.out.but b12 (show w.heap.size ≠ g by omega)
        have p0 := P12.cell 0
        have p1 := P12.cell 1
        have p2 := P12.cell 2
        have p3 := P12.cell 3
        have p4 := P12.cell 4
        have p5 := P12.cell 5
        have p6 := P12.cell 6
        have p7 := P12.cell 7
        have p8 := P12.cell 8
        have lp12 := P12.lt
        clear P12 SP11 ST11 hg12 b12 CE HB8
        clear p0 p1 p2 p3 p4 p5 p6 p7 p8
        go_wp2
        go_ret2
        obtain ⟨hpk, hst, hS, hlt, hne⟩ := HH.out
        exact pass_quiet (d' := { d with pick := d.pick.next (sa.x.cx ds) sa.want, left := d.left + 1 }) (pk := nx) hS hlt hne hst ((dtakeGood HF.out.2.2.2.2 HPAR.out HERR.out).trans (good_leave HK2.out)) HPK.out (HG12.out.alloc _) rfl rfl (HB12.out.alloc _)
      · go_wp2_with fail
        refine (CM.out).mono ?_
        rintro e w11 ⟨bd, bi, bb, mp, rfl, l1, l2, l3, wd, wi, wb, b11, k0, k1, k2, k3⟩
        have HWD := Lib.hid wd
        have HWI := Lib.hid wi
        have HWB := Lib.hid wb
        clear wd wi wb k0 k1 k3
        have SG11 := (SGf7.out).below b11 (by have := (SGf7.out).lt; first | with_reducible exact this | simpa using this)
        have SP11 := (SPf7.out).below b11 (by have := (SPf7.out).lt; first | with_reducible exact this | simpa using this)
        have ST11 := (STf7.out).below b11 (by have := (STf7.out).lt; first | with_reducible exact this | simpa using this)
        have HB11 := Lib.hid (((Below.refl wf7.heap.size wf7)).trans (b11.mono ((Below.refl wf7.heap.size wf7)).size))
        have lG11 := SG11.lt
        have lP11 := SP11.lt
        have lT11 := ST11.lt
        clear b11 p2 p3 t6 t8 SGf7 SPf7 STf7 CM
        replace SG11 := Lib.hid SG11
        replace SP11 := Lib.hid SP11
        replace ST11 := Lib.hid ST11
        go_wp2_with fail
        clear k2
        have CE := deed_drop d.ssrc nx d.nums gs d.sent d.left d.drop d.late d.bad g bd bi bb (sa.x.mn ds) ds.begins HF.out.1 HMN.out w11 (SG11.out) (HWD.out) HWI.out HWB.out (by have := HF.out.2.1; omega)
        replace CE := Lib.hid CE
        have HB8 := Lib.hid (HB7.out.trans (but_of_below HB11.out))
        clear HWD HWI HWB SG11 HB11 HB7
        refine CE.out.mono ?_
        rintro e w12 ⟨rfl, hg12, b12⟩
        dsimp only [Mn.cells, Mn.zero]
        have HG12 := Lib.hid hg12
        have HB12 := Lib.hid (HB8.out.trans b12)
        have P12 := SP11.out.but b12 (show w.heap.size ≠ g by omega)
        have p0 := P12.cell 0
        have p1 := P12.cell 1
        have p2 := P12.cell 2
        have p3 := P12.cell 3
        have p4 := P12.cell 4
        have p5 := P12.cell 5
        have p6 := P12.cell 6
        have p7 := P12.cell 7
        have p8 := P12.cell 8
        have lp12 := P12.lt
        clear P12 SP11 ST11 hg12 b12 CE HB8
        clear p0 p1 p2 p3 p4 p5 p6 p7 p8
        go_wp2
        go_ret2
        obtain ⟨hpk, hst, hS, hlt, hne⟩ := HH.out
        exact pass_quiet (d' := { d with pick := d.pick.next (sa.x.cx ds) sa.want, nums := d.nums.dropS (sa.x.mn ds) ds.begins, drop := d.drop + 1 }) (pk := nx) hS hlt hne hst ((dtakeGood HF.out.2.2.2.2 HPAR.out HERR.out).trans (good_drop HK2.out)) HPK.out (HG12.out.alloc _) rfl rfl (HB12.out.alloc _)
      · go_wp2_with fail
        refine (CM.out).mono ?_
        rintro e w11 ⟨bd, bi, bb, mp, rfl, l1, l2, l3, wd, wi, wb, b11, k0, k1, k2, k3⟩
        have HWD := Lib.hid wd
        have HWI := Lib.hid wi
        have HWB := Lib.hid wb
        clear wd wi wb k0 k1 k2
        have SG11 := (SGf7.out).below b11 (by have := (SGf7.out).lt; first | with_reducible exact this | simpa using this)
        have SP11 := (SPf7.out).below b11 (by have := (SPf7.out).lt; first | with_reducible exact this | simpa using this)
        have ST11 := (STf7.out).below b11 (by have := (STf7.out).lt; first | with_reducible exact this | simpa using this)
        have HB11 := Lib.hid (((Below.refl wf7.heap.size wf7)).trans (b11.mono ((Below.refl wf7.heap.size wf7)).size))
        have lG11 := SG11.lt
        have lP11 := SP11.lt
        have lT11 := ST11.lt
        clear b11 p2 p3 t6 t8 SGf7 SPf7 STf7 CM
        replace SG11 := Lib.hid SG11
        replace SP11 := Lib.hid SP11
        replace ST11 := Lib.hid ST11
        go_wp2_with fail
        clear k3
        have CE := deed_switch d.ssrc nx d.nums gs d.sent d.left d.drop d.late d.bad g bd bi (sa.x.mn ds) HF.out.1 HMN.out w11 (SG11.out) (HWD.out) HWI.out (by have := HF.out.2.1; omega)
        replace CE := Lib.hid CE
        have HB8 := Lib.hid (HB7.out.trans (but_of_below HB11.out))
        clear HWD HWI HWB SG11 HB11 HB7
        refine CE.out.mono ?_
        rintro e w12 ⟨rfl, hg12, b12⟩
        dsimp only [Mn.cells, Mn.zero]
        have HG12 := Lib.hid hg12
        have HB12 := Lib.hid (HB8.out.trans b12)
        have P12 := SP11.out.but b12 (show w.heap.size ≠ g by omega)
        have p0 := P12.cell 0
        have p1 := P12.cell 1
        have p2 := P12.cell 2
        have p3 := P12.cell 3
        have p4 := P12.cell 4
        have p5 := P12.cell 5
        have p6 := P12.cell 6
        have p7 := P12.cell 7
        have p8 := P12.cell 8
        have lp12 := P12.lt
        clear P12 SP11 ST11 hg12 b12 CE HB8
        obtain ⟨wz, hwz⟩ : ∃ z, z = w12.alloc (.cells #[.int .u16 (d.nums.begins (sa.x.mn ds) 3000).seq, .int .u32 (d.nums.begins (sa.x.mn ds) 3000).time, .int .u16 (d.nums.begins (sa.x.mn ds) 3000).pic, .int .u8 (d.nums.begins (sa.x.mn ds) 3000).tl0] 74) := ⟨_, rfl⟩
        have HGZ := Lib.hid (HG12.out.alloc (.cells #[.int .u16 (d.nums.begins (sa.x.mn ds) 3000).seq, .int .u32 (d.nums.begins (sa.x.mn ds) 3000).time, .int .u16 (d.nums.begins (sa.x.mn ds) 3000).pic, .int .u8 (d.nums.begins (sa.x.mn ds) 3000).tl0] 74))
        have HBZ := Lib.hid (HB12.out.alloc (.cells #[.int .u16 (d.nums.begins (sa.x.mn ds) 3000).seq, .int .u32 (d.nums.begins (sa.x.mn ds) 3000).time, .int .u16 (d.nums.begins (sa.x.mn ds) 3000).pic, .int .u8 (d.nums.begins (sa.x.mn ds) 3000).tl0] 74))
        have HN : Hid ((d.nums.begins (sa.x.mn ds) 3000).Fit) := Lib.hid (Mst.begins_fit HMN.out _)
        have CS := Lib.hid (dsend_any d.ssrc nx (d.nums.switchS (sa.x.mn ds) 3000) d.sent d.left d.drop d.late d.bad g gs mm r d.room d.kept S sa.q ds rr (d.nums.begins (sa.x.mn ds) 3000) _ HGZ.out (HH.out.2.1.butg HH.out.2.2.2.2 HBZ.out) HH.out.2.2.1 (fun k hk => Nat.lt_of_lt_of_le (HH.out.2.2.2.1 k hk) HBZ.out.size) HH.out.2.2.2.2 (HA.out.but HBZ.out (fun b hb => by rw [hb]; exact HH.out.2.2.1.1)) HPAR.out HERR.out HN.out HF.out.2.2.2.1 (by have := HF.out.2.1; omega))
        rw [← hwz] at HGZ HBZ CS
        have CS := CS.out
        dsimp only [Pq.cells, Mn.cells] at CS
        replace CS := Lib.hid CS
        clear HN HG12 HB12
        go_wp2_with fail
        rw [← hwz]
        clear hwz
        refine CS.out.mono ?_
        rintro e w13 ⟨A9, c9, rfl, hrow, hc1, hc2, hw13, hs13, b13⟩
        have HE := Lib.hid (And.intro hrow (And.intro hc1 (And.intro hc2 (And.intro hw13 (And.intro hs13 b13)))))
        clear hrow hc1 hc2 hw13 hs13 b13 CS p0 p1 p2 p3 p4 p5 p6 p7 p8
        go_wp2
        go_ret2
        obtain ⟨hpk, hst, hS, hlt, hne⟩ := HH.out
        obtain ⟨e1, e2, e3, e4, e5, e6⟩ := HE.out
        exact pass_sent (d' := { d with pick := d.pick.next (sa.x.cx ds) sa.want, nums := d.nums.switchS (sa.x.mn ds) 3000, sent := d.sent + 1, kept := addL d.room d.kept ⟨(d.nums.begins (sa.x.mn ds) 3000).seq, (outP sa.x.p d.ssrc ds (d.nums.begins (sa.x.mn ds) 3000)).bytes⟩ }) (pk := nx) hS hlt hne ((dtakeGood HF.out.2.2.2.2 HPAR.out HERR.out).trans (good_switch HK2.out)) HPK.out e4 e5 HBZ.out e6 e1 e2 e3
      · go_wp2_with fail
        refine (CM.out).mono ?_
        rintro e w11 ⟨bd, bi, bb, mp, rfl, l1, l2, l3, wd, wi, wb, b11, k0, k1, k2, k3⟩
        have HWD := Lib.hid wd
        have HWI := Lib.hid wi
        have HWB := Lib.hid wb
        clear wd wi wb k0 k2 k3
        have SG11 := (SGf7.out).below b11 (by have := (SGf7.out).lt; first | with_reducible exact this | simpa using this)
        have SP11 := (SPf7.out).below b11 (by have := (SPf7.out).lt; first | with_reducible exact this | simpa using this)
        have ST11 := (STf7.out).below b11 (by have := (STf7.out).lt; first | with_reducible exact this | simpa using this)
        have HB11 := Lib.hid (((Below.refl wf7.heap.size wf7)).trans (b11.mono ((Below.refl wf7.heap.size wf7)).size))
        have lG11 := SG11.lt
        have lP11 := SP11.lt
        have lT11 := ST11.lt
        clear b11 p2 p3 t6 t8 SGf7 SPf7 STf7 CM
        replace SG11 := Lib.hid SG11
        replace SP11 := Lib.hid SP11
        replace ST11 := Lib.hid ST11
        go_wp2_with fail
        clear k1
        have CE := deed_send d.ssrc nx d.nums gs d.sent d.left d.drop d.late d.bad g bd bi (sa.x.mn ds) HF.out.1 HMN.out w11 (SG11.out) (HWD.out) HWI.out (by have := HF.out.2.1; omega)
        replace CE := Lib.hid CE
        have HB8 := Lib.hid (HB7.out.trans (but_of_below HB11.out))
        clear HWD HWI HWB SG11 HB11 HB7
        obtain ⟨tb, htb⟩ : ∃ z, d.nums.tells (sa.x.mn ds) = z := ⟨_, rfl⟩
        have HTB := Lib.hid htb
        have CE := CE.out
        rw [htb] at CE
        clear htb
        cases tb with
        | true =>
          rw [if_pos rfl] at CE
          replace CE := Lib.hid CE
          refine CE.out.mono ?_
          rintro e w12 ⟨rfl, hg12, b12⟩
          dsimp only [Mn.cells, Mn.zero]
          have HG12 := Lib.hid hg12
          have HB12 := Lib.hid (HB8.out.trans b12)
          have P12 := SP11.out.but b12 (show w.heap.size ≠ g by omega)
          have p0 := P12.cell 0
          have p1 := P12.cell 1
          have p2 := P12.cell 2
          have p3 := P12.cell 3
          have p4 := P12.cell 4
          have p5 := P12.cell 5
          have p6 := P12.cell 6
          have p7 := P12.cell 7
          have p8 := P12.cell 8
          have lp12 := P12.lt
          clear P12 SP11 ST11 hg12 b12 CE HB8
          obtain ⟨wz, hwz⟩ : ∃ z, z = w12.alloc (.cells #[.int .u16 (d.nums.told (sa.x.mn ds)).seq, .int .u32 (d.nums.told (sa.x.mn ds)).time, .int .u16 (d.nums.told (sa.x.mn ds)).pic, .int .u8 (d.nums.told (sa.x.mn ds)).tl0] 74) := ⟨_, rfl⟩
          have HGZ := Lib.hid (HG12.out.alloc (.cells #[.int .u16 (d.nums.told (sa.x.mn ds)).seq, .int .u32 (d.nums.told (sa.x.mn ds)).time, .int .u16 (d.nums.told (sa.x.mn ds)).pic, .int .u8 (d.nums.told (sa.x.mn ds)).tl0] 74))
          have HBZ := Lib.hid (HB12.out.alloc (.cells #[.int .u16 (d.nums.told (sa.x.mn ds)).seq, .int .u32 (d.nums.told (sa.x.mn ds)).time, .int .u16 (d.nums.told (sa.x.mn ds)).pic, .int .u8 (d.nums.told (sa.x.mn ds)).tl0] 74))
          have HN : Hid ((d.nums.told (sa.x.mn ds)).Fit) := Lib.hid (Mst.told_fit HF.out.1 _)
          have CS := Lib.hid (dsend_any d.ssrc nx (d.nums.sendS (sa.x.mn ds)) d.sent d.left d.drop d.late d.bad g gs mm r d.room d.kept S sa.q ds rr (d.nums.told (sa.x.mn ds)) _ HGZ.out (HH.out.2.1.butg HH.out.2.2.2.2 HBZ.out) HH.out.2.2.1 (fun k hk => Nat.lt_of_lt_of_le (HH.out.2.2.2.1 k hk) HBZ.out.size) HH.out.2.2.2.2 (HA.out.but HBZ.out (fun b hb => by rw [hb]; exact HH.out.2.2.1.1)) HPAR.out HERR.out HN.out HF.out.2.2.2.1 (by have := HF.out.2.1; omega))
          rw [← hwz] at HGZ HBZ CS
          have CS := CS.out
          dsimp only [Pq.cells, Mn.cells] at CS
          replace CS := Lib.hid CS
          clear HN HG12 HB12
          go_wp2_with fail
          rw [← hwz]
          clear hwz
          refine CS.out.mono ?_
          rintro e w13 ⟨A9, c9, rfl, hrow, hc1, hc2, hw13, hs13, b13⟩
          have HE := Lib.hid (And.intro hrow (And.intro hc1 (And.intro hc2 (And.intro hw13 (And.intro hs13 b13)))))
          clear hrow hc1 hc2 hw13 hs13 b13 CS p0 p1 p2 p3 p4 p5 p6 p7 p8
          go_wp2
          go_ret2
          obtain ⟨hpk, hst, hS, hlt, hne⟩ := HH.out
          obtain ⟨e1, e2, e3, e4, e5, e6⟩ := HE.out
          exact pass_sent (d' := { d with pick := d.pick.next (sa.x.cx ds) sa.want, nums := d.nums.sendS (sa.x.mn ds), sent := d.sent + 1, kept := addL d.room d.kept ⟨(d.nums.told (sa.x.mn ds)).seq, (outP sa.x.p d.ssrc ds (d.nums.told (sa.x.mn ds))).bytes⟩ }) (pk := nx) hS hlt hne ((dtakeGood HF.out.2.2.2.2 HPAR.out HERR.out).trans (good_send HK2.out HTB.out)) HPK.out e4 e5 HBZ.out e6 e1 e2 e3
        | false =>
          rw [if_neg Bool.false_ne_true] at CE
          replace CE := Lib.hid CE
          refine CE.out.mono ?_
          rintro e w12 ⟨rfl, hg12, b12⟩
          dsimp only [Mn.cells, Mn.zero]
          have HG12 := Lib.hid hg12
          have HB12 := Lib.hid (HB8.out.trans b12)
          have P12 := SP11.out.but b12 (show w.heap.size ≠ g by omega)
          have p0 := P12.cell 0
          have p1 := P12.cell 1
          have p2 := P12.cell 2
          have p3 := P12.cell 3
          have p4 := P12.cell 4
          have p5 := P12.cell 5
          have p6 := P12.cell 6
          have p7 := P12.cell 7
          have p8 := P12.cell 8
          have lp12 := P12.lt
          clear P12 SP11 ST11 hg12 b12 CE HB8
          clear p0 p1 p2 p3 p4 p5 p6 p7 p8
          go_wp2
          go_ret2
          obtain ⟨hpk, hst, hS, hlt, hne⟩ := HH.out
          exact pass_quiet (d' := { d with pick := d.pick.next (sa.x.cx ds) sa.want, nums := d.nums.sendS (sa.x.mn ds), late := d.late + 1 }) (pk := nx) hS hlt hne hst ((dtakeGood HF.out.2.2.2.2 HPAR.out HERR.out).trans (good_late HK2.out (by rw [HTB.out]; exact Bool.false_ne_true))) HPK.out (HG12.out.alloc _) rfl rfl (HB12.out.alloc _)
  · have HBAD := Lib.hid hbad
    clear HQ1 hbad CH
    dsimp only [Dsc.cells]
    have CL := dleave_any d.ssrc pk d.nums gs d.sent d.left d.drop d.late d.bad g (sa.q.h.seq : Int) sa.src sa.lay _ ((SG1.out.alloc (.cells #[.bool dd.more, .bool dd.lone, .bool dd.start, .int .u8 (dd.part : Int), .bool dd.hasPic, .bool dd.wide, .int .u16 (dd.pic : Int), .bool dd.hasTl0, .int .u8 (dd.tl0 : Int), .bool dd.hasTid, .int .u8 (dd.tid : Int), .bool dd.sync, .bool dd.hasKey, .int .u8 (dd.key : Int)] 46))) HF.out.1 (by have := HF.out.2.1; omega) HF.out.2.2.1
    replace CL := Lib.hid CL
    have HB2 := Lib.hid ((HB1.out.alloc (HB1.out).size (.cells #[.bool dd.more, .bool dd.lone, .bool dd.start, .int .u8 (dd.part : Int), .bool dd.hasPic, .bool dd.wide, .int .u16 (dd.pic : Int), .bool dd.hasTl0, .int .u8 (dd.tl0 : Int), .bool dd.hasTid, .int .u8 (dd.tid : Int), .bool dd.sync, .bool dd.hasKey, .int .u8 (dd.key : Int)] 46)))
    clear SG1
    go_wp2_with fail
    refine CL.out.mono ?_
    rintro e w2 ⟨rfl, hW2, b2⟩
    have HW2 := Lib.hid hW2
    have HB3 := Lib.hid ((but_of_below HB2.out).trans b2)
    clear CL hW2 b2 HB2
    go_wp2
    go_ret2
    obtain ⟨hpk, hst, hS, hlt, hne⟩ := HH.out
    exact pass_quiet (d' := (d.badS sa.x).1) (pk := pk) hS hlt hne hst (dtakeBad HF.out.2.2.2.2 HBAD.out) hpk (by rw [bad_nums hpk]; exact HW2.out) rfl rfl HB3.out
end Go.Proofs.Yticnaljfnjiofaa
