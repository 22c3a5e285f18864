/-
  Several texts in one (DnL, DnO, DnI, DnQ, DnR, DnU): what each of them says stands at its head.
-/
import Derived.Test.YticnaljfnjiofaaGpl
import Derived.Test.YticnaljfnjiofaaVpJ
import Derived.Test.YticnaljfnjiofaaGvl
import Derived.Test.YticnaljfnjiofaaRpB
import Derived.Test.YticnaljfnjiofaaGli
import Derived.Test.YticnaljfnjiofaaExtP
import Derived.Test.YticnaljfnjiofaaGse
import Derived.Test.YticnaljfnjiofaaGvi
/-
  A track as somebody is sent it, as plain functions: a packet that comes, a downtrack, what comes of it; what the laws of layer 14 say of them. Nothing here names the program.
-/
namespace Go.Proofs.Yticnaljfnjiofaa

/-- A packet that comes, of a source, and a layer; what is wanted then. -/
structure Sx where
  p : Mp
  src : Int
  lay : Int
  want : Cw
  muted : Bool
/-- A downtrack. -/
structure Dn where
  ssrc : Nat
  room : Nat
  kept : List Pk
  pick : Cs
  nums : Mst
  sent : Nat
  left : Nat
  drop : Nat
  late : Nat
  bad : Nat
def Dn.new (ssrc room : Nat) : Dn := ⟨ssrc, room, [], ⟨false, 0, 0, 0⟩, Mst.zero, 0, 0, 0, 0, 0⟩
/-- The packet as the choice has it; its numbers. -/
def Sx.cx (x : Sx) (d : Dsc) : Cx := ⟨x.src, x.lay, d.begins, wholeS x.p.pay, d.hasTid, d.tid, d.sync⟩
def Sx.mn (x : Sx) (d : Dsc) : Mn := ⟨x.p.seq, x.p.time, d.pic, d.tl0⟩
/-- The packet that is sent on. -/
def Sx.out (x : Sx) (ssrc : Nat) (d : Dsc) (n : Mn) : Mp := { x.p with seq := n.seq.toNat, time := n.time.toNat, ssrc := ssrc, pay := writeS d n.pic.toNat n.tl0.toNat x.p.pay }
/-- Is the choice On, and of the packet's source and layer? -/
def Dn.own (d : Dn) (x : Sx) : Bool := d.pick.on && (x.src == d.pick.src && x.lay == d.pick.lay)
def Dn.badS (d : Dn) (x : Sx) : Dn × Option (List UInt8) :=
  ({ d with bad := d.bad + 1, nums := if d.own x = true then d.nums.dropS ⟨x.p.seq, 0, 0, 0⟩ false else d.nums }, none)
def Dn.emit (d : Dn) (x : Sx) (ds : Dsc) (n : Mn) : Dn × Option (List UInt8) :=
  ({ d with sent := d.sent + 1, kept := addL d.room d.kept ⟨n.seq, (x.out d.ssrc ds n).bytes⟩ }, some (x.out d.ssrc ds n).bytes)
def Dn.good (d : Dn) (x : Sx) (ds : Dsc) : Dn × Option (List UInt8) :=
  if d.pick.kind (x.cx ds) x.want = 0 then ({ d with pick := d.pick.next (x.cx ds) x.want, left := d.left + 1 }, none)
  else if d.pick.kind (x.cx ds) x.want = 2 then ({ d with pick := d.pick.next (x.cx ds) x.want, nums := d.nums.dropS (x.mn ds) ds.begins, drop := d.drop + 1 }, none)
  else if d.pick.kind (x.cx ds) x.want = 3 then Dn.emit { d with pick := d.pick.next (x.cx ds) x.want, nums := d.nums.switchS (x.mn ds) 3000 } x ds (d.nums.begins (x.mn ds) 3000)
  else if d.nums.tells (x.mn ds) = true then Dn.emit { d with pick := d.pick.next (x.cx ds) x.want, nums := d.nums.sendS (x.mn ds) } x ds (d.nums.told (x.mn ds))
  else ({ d with pick := d.pick.next (x.cx ds) x.want, nums := d.nums.sendS (x.mn ds), late := d.late + 1 }, none)
/-- What a packet makes of a downtrack, and what is sent of it. -/
def Dn.take (d : Dn) (x : Sx) : Dn × Option (List UInt8) :=
  if x.muted = true then ({ d with pick := { d.pick with on := false }, left := d.left + 1 }, none)
  else match parseS x.p.pay with
  | none => d.badS x
  | some (ds, _) => if x.p.err ≠ 0 then d.badS x else d.good x ds
def Dn.next (d : Dn) (x : Sx) : Dn := (d.take x).1
def Dn.told (d : Dn) (x : Sx) : List UInt8 := (d.take x).2.getD []
def Dn.is (d : Dn) (x : Sx) : Bool := (d.take x).2.isSome
def Dn.asks (d : Dn) (x : Sx) : Bool := !x.muted && (d.next x).pick.asks x.want

/-! ### What may come of a packet -/
/-- Nothing is sent: what is kept, and the SSRC, stay; one more is left, dropped, late, or bad. -/
structure Dn.Quiet (d d' : Dn) : Prop where
  ssrc : d'.ssrc = d.ssrc
  room : d'.room = d.room
  kept : d'.kept = d.kept
  sent : d'.sent = d.sent
  sum : d'.left + d'.drop + d'.late + d'.bad = d.left + d.drop + d.late + d.bad + 1
/-- What is sent, of a descriptor ds and numbers n. -/
structure Dn.Sends (d d' : Dn) (x : Sx) (ds : Dsc) (r : List UInt8) (n : Mn) : Prop where
  muted : x.muted = false
  pay : parseS x.p.pay = some (ds, r)
  err : x.p.err = 0
  ssrc : d'.ssrc = d.ssrc
  room : d'.room = d.room
  kept : d'.kept = addL d.room d.kept ⟨n.seq, (x.out d.ssrc ds n).bytes⟩
  sent : d'.sent = d.sent + 1
  sum : d'.left + d'.drop + d'.late + d'.bad = d.left + d.drop + d.late + d.bad
  pick : d'.pick = d.pick.next (x.cx ds) x.want
  how : (d.pick.own (x.cx ds) = true ∧ d.nums.tells (x.mn ds) = true ∧ d'.nums = d.nums.sendS (x.mn ds) ∧ n = d.nums.told (x.mn ds)) ∨
    (d.pick.own (x.cx ds) = false ∧ (x.cx ds).wanted x.want = true ∧ wholeS x.p.pay = true ∧ d'.pick = ⟨true, x.want.src, x.want.lay, x.want.tid⟩ ∧ d'.nums = d.nums.switchS (x.mn ds) 3000 ∧ n = d.nums.begins (x.mn ds) 3000)
/-- What is not sent: what becomes of the choice and of the numbers. -/
def Dn.Skips (d d' : Dn) (x : Sx) : Prop :=
  (x.muted = true ∧ d'.pick = { d.pick with on := false } ∧ d'.nums = d.nums) ∨
  (x.muted = false ∧ d.own x = true ∧ d'.pick.on = true ∧ d'.pick.src = d.pick.src ∧ d'.pick.lay = d.pick.lay ∧ ((∃ m b, m.seq = (x.p.seq : Int) ∧ d'.nums = d.nums.dropS m b) ∨ (∃ m, m.seq = (x.p.seq : Int) ∧ d.nums.tells m = false ∧ d'.nums = d.nums))) ∨
  (x.muted = false ∧ d.own x = false ∧ d'.pick = d.pick ∧ d'.nums = d.nums)

theorem Dn.own_cx (d : Dn) (x : Sx) (ds : Dsc) : d.own x = d.pick.own (x.cx ds) := rfl
theorem Mst.send_late {s : Mst} {n : Mn} (h : s.tells n = false) : s.sendS n = s := by unfold Mst.sendS; rw [h]; rfl
theorem Dn.cases (d : Dn) (x : Sx) : (d.take x).2 = none ∧ d.Quiet (d.take x).1 ∧ d.Skips (d.take x).1 x ∨ ∃ ds r n, d.Sends (d.take x).1 x ds r n ∧ (d.take x).2 = some (x.out d.ssrc ds n).bytes := by
  have hbad : x.muted = false → ((d.badS x).2 = none ∧ d.Quiet (d.badS x).1 ∧ d.Skips (d.badS x).1 x) := by
    intro hm
    refine ⟨rfl, ⟨rfl, rfl, rfl, rfl, by unfold Dn.badS; dsimp only; omega⟩, ?_⟩
    unfold Dn.badS
    by_cases ho : d.own x = true
    · have hon : d.pick.on = true := by unfold Dn.own at ho; simp at ho; exact ho.1
      refine .inr (.inl ⟨hm, ho, hon, rfl, rfl, .inl ⟨⟨x.p.seq, 0, 0, 0⟩, false, rfl, ?_⟩⟩)
      dsimp only
      rw [if_pos ho]
    · refine .inr (.inr ⟨hm, by simpa using ho, rfl, ?_⟩)
      dsimp only
      rw [if_neg ho]
  unfold Dn.take
  by_cases hm : x.muted = true
  · rw [if_pos hm]
    exact .inl ⟨rfl, ⟨rfl, rfl, rfl, rfl, by dsimp only; omega⟩, .inl ⟨hm, rfl, rfl⟩⟩
  have hm' : x.muted = false := by simpa using hm
  rw [if_neg hm]
  cases hp : parseS x.p.pay with
  | none => exact .inl (hbad hm')
  | some y =>
    obtain ⟨ds, r⟩ := y
    dsimp only
    by_cases he : x.p.err = 0
    · rw [if_neg (by simp [he])]
      unfold Dn.good
      rcases Cs.three d.pick (x.cx ds) x.want with ⟨ho, hn, hk⟩ | ⟨ho, hw, hb, hwh, hn, hk⟩ | ⟨ho, hn, hk⟩
      · have hon : d.own x = true := ho
        rcases hk with ⟨_, _, hk⟩ | ⟨_, hk⟩
        · rw [if_neg (by rw [hk]; decide), if_pos hk]
          refine .inl ⟨rfl, ⟨rfl, rfl, rfl, rfl, by dsimp only; omega⟩, .inr (.inl ⟨hm', hon, ?_, ?_, ?_, .inl ⟨x.mn ds, ds.begins, rfl, rfl⟩⟩)⟩
          · dsimp only; rw [hn]
          · dsimp only; rw [hn]
          · dsimp only; rw [hn]
        · rw [if_neg (by rw [hk]; decide), if_neg (by rw [hk]; decide), if_neg (by rw [hk]; decide)]
          by_cases ht : d.nums.tells (x.mn ds) = true
          · rw [if_pos ht]
            exact .inr ⟨ds, r, d.nums.told (x.mn ds), ⟨hm', hp, he, rfl, rfl, rfl, rfl, rfl, rfl, .inl ⟨ho, ht, rfl, rfl⟩⟩, rfl⟩
          · rw [if_neg ht]
            refine .inl ⟨rfl, ⟨rfl, rfl, rfl, rfl, by dsimp only; omega⟩, .inr (.inl ⟨hm', hon, ?_, ?_, ?_, .inr ⟨x.mn ds, rfl, by simpa using ht, ?_⟩⟩)⟩
            · dsimp only; rw [hn]
            · dsimp only; rw [hn]
            · dsimp only; rw [hn]
            · exact Mst.send_late (by simpa using ht)
      · rw [if_neg (by rw [hk]; decide), if_neg (by rw [hk]; decide), if_pos hk]
        exact .inr ⟨ds, r, d.nums.begins (x.mn ds) 3000, ⟨hm', hp, he, rfl, rfl, rfl, rfl, rfl, rfl, .inr ⟨ho, hw, hwh, hn, rfl, rfl⟩⟩, rfl⟩
      · rw [if_pos hk]
        have hof : d.own x = false := ho
        exact .inl ⟨rfl, ⟨rfl, rfl, rfl, rfl, by dsimp only; omega⟩, .inr (.inr ⟨hm', hof, hn, rfl⟩)⟩
    · rw [if_pos he]
      exact .inl (hbad hm')

/-! ### The packet that is sent on -/
theorem Mp.err_pay {p : Mp} {s t r : Nat} {b : List UInt8} (hb : b.length = p.pay.length) : ({ p with seq := s, time := t, ssrc := r, pay := b } : Mp).err = p.err := by
  unfold Mp.err
  dsimp only
  rw [hb]
theorem Sx.out_parse {x : Sx} {ssrc : Nat} {ds : Dsc} {r : List UInt8} {n : Mn} (hf : x.p.Fit) (he : x.p.err = 0) (hp : parseS x.p.pay = some (ds, r)) (hn : n.Fit) (hs : ssrc < 4294967296) :
    parseP (x.out ssrc ds n).bytes = (x.out ssrc ds n, 0) ∧ (x.out ssrc ds n).Fit ∧ (x.out ssrc ds n).err = 0 := by
  have hw := write_facts hp n.pic.toNat n.tl0.toNat (by have := hn.tl0; omega)
  have h1 : (x.out ssrc ds n).Fit := ⟨hf.typ, by have := hn.seq; unfold Sx.out; dsimp only; omega, by have := hn.time; unfold Sx.out; dsimp only; omega, hs, hf.csrc⟩
  have h2 : (x.out ssrc ds n).err = 0 := (Mp.err_pay hw.2.1).trans he
  exact ⟨parse_bytes _ h1 h2, h1, h2⟩
theorem Sx.out_length {x : Sx} {ssrc : Nat} {ds : Dsc} {n : Mn} (he : (x.out ssrc ds n).err = 0) : (x.out ssrc ds n).bytes.length ≤ 1500 := by
  have h := Mp.bytes_length he
  have g := (Mp.good he).2.2.2.2.2
  omega
/-- Its numbers have bounds. -/
theorem parse_nums {b r : List UInt8} {ds : Dsc} (h : parseS b = some (ds, r)) : ds.pic < 65536 ∧ ds.tl0 < 256 := ⟨(parse_fits h).pic, (parse_fits h).tl0⟩
theorem Sx.mn_fit {x : Sx} {ds : Dsc} {r : List UInt8} (hf : x.p.Fit) (hp : parseS x.p.pay = some (ds, r)) : (x.mn ds).Fit := by
  have h := parse_nums hp
  exact ⟨by have := hf.seq; unfold Sx.mn; dsimp only; omega, by have := hf.time; unfold Sx.mn; dsimp only; omega, by unfold Sx.mn; dsimp only; omega, by unfold Sx.mn; dsimp only; omega⟩
/-- The numbers of what is sent fit. -/
theorem Dn.Sends.fit {d d' : Dn} {x : Sx} {ds : Dsc} {r : List UInt8} {n : Mn} {c : Int} (h : d.Sends d' x ds r n) (hf : x.p.Fit) (hc : d.nums.Fit c) : n.Fit := by
  have hm := Sx.mn_fit hf h.pay
  rcases h.how with ⟨_, _, _, rfl⟩ | ⟨_, _, _, _, _, rfl⟩
  · exact Mst.told_fit hc _
  · exact Mst.begins_fit hm _
/-- The bounds of the numbers go on. -/
theorem Dn.next_fit {d : Dn} {x : Sx} {c : Int} (hf : x.p.Fit) (hc : d.nums.Fit c) (h0 : 65536 ≤ c) : (d.take x).1.nums.Fit (c + 32768) := by
  have hw : d.nums.Fit (c + 32768) := ⟨by have := hc.high; omega, hc.off, hc.out⟩
  rcases Dn.cases d x with ⟨_, _, hs⟩ | ⟨ds, r, n, hs, _⟩
  · rcases hs with ⟨_, _, e⟩ | ⟨_, _, _, _, _, ⟨m, b, _, e⟩ | ⟨m, _, _, e⟩⟩ | ⟨_, _, _, e⟩
    · rw [e]; exact hw
    · rw [e]; exact Mst.drop_fit hc m b
    · rw [e]; exact hw
    · rw [e]; exact hw
  · have hm := Sx.mn_fit hf hs.pay
    rcases hs.how with ⟨_, _, e, _⟩ | ⟨_, _, _, _, e, _⟩
    · rw [e]; exact Mst.send_fit hc _
    · rw [e]; exact Mst.switch_fit hm _ (by omega)
end Go.Proofs.Yticnaljfnjiofaa
/-
  What comes in to layer 14's laws: packets with what they are sent by; rows of them.
-/
namespace Go.Proofs.Yticnaljfnjiofaa
set_option maxRecDepth 100000
open Go.ChangeShapes Go.WideShapes Go.ChangeAt Go.RowKit

/-- A head in memory. -/
structure Hd where
  mark : Bool
  typ : Nat
  seq : Nat
  time : Nat
  ssrc : Nat
  csrc : List Nat
  A1 : Option Addr
  c1 : Nat
  ps : List Ip
  A2 : Option Addr
  c2 : Nat
def Hd.cells (h : Hd) : List Value := [.bool h.mark, .int .u8 (h.typ : Int), .int .u16 (h.seq : Int), .int .u32 (h.time : Int), .int .u32 (h.ssrc : Int), .slice h.A1 h.csrc.length h.c1, .slice h.A2 h.ps.length h.c2]
structure Hd.Ok (W : World) (h : Hd) : Prop where
  typ : h.typ < 256
  seq : h.seq < 65536
  time : h.time < 4294967296
  ssrc : h.ssrc < 4294967296
  csrc : ∀ x ∈ h.csrc, x < 4294967296
  len1 : h.csrc.length ≤ maxLen
  row1 : Row W W.heap.size 1 h.A1 h.csrc.length (u32s h.csrc)
  len2 : h.ps.length ≤ maxLen
  its : Its W h.A2 h.ps
/-- A packet in memory. -/
structure Pq where
  h : Hd
  pay : List UInt8
  A3 : Option Addr
  c3 : Nat
  pad : Int
def Pq.cells (p : Pq) : List Value := [.bool p.h.mark, .int .u8 (p.h.typ : Int), .int .u16 (p.h.seq : Int), .int .u32 (p.h.time : Int), .int .u32 (p.h.ssrc : Int), .slice p.h.A1 p.h.csrc.length p.h.c1, .slice p.h.A2 p.h.ps.length p.h.c2, .slice p.A3 p.pay.length p.c3, .int .i64 p.pad]
structure Pq.Ok (W : World) (p : Pq) : Prop where
  h : p.h.Ok W
  len : p.pay.length ≤ maxLen
  row : Row W W.heap.size 1 p.A3 p.pay.length (u8s p.pay)
  pad : -9223372036854775808 ≤ p.pad ∧ p.pad < 9223372036854775808
  cap : p.pay.length ≤ p.c3
/-- A step in memory. -/
structure Sa where
  q : Pq
  src : Int
  lay : Int
  want : Cw
  muted : Bool
def Sa.cells (a : Sa) : List Value := [.bool a.q.h.mark, .int .u8 (a.q.h.typ : Int), .int .u16 (a.q.h.seq : Int), .int .u32 (a.q.h.time : Int), .int .u32 (a.q.h.ssrc : Int), .slice a.q.h.A1 a.q.h.csrc.length a.q.h.c1, .slice a.q.h.A2 a.q.h.ps.length a.q.h.c2, .slice a.q.A3 a.q.pay.length a.q.c3, .int .i64 a.q.pad, .int .i64 a.src, .int .i64 a.lay, .int .i64 a.want.src, .int .i64 a.want.lay, .int .i64 a.want.tid, .bool a.muted]
theorem Sa.cells_length (a : Sa) : a.cells.length = 15 := rfl
/-- The packet as such. -/
def Pq.p (p : Pq) : Mp := ⟨p.h.mark, p.h.typ, p.h.seq, p.h.time, p.h.ssrc, p.h.csrc, p.h.ps.map Ip.it, p.pay, p.pad⟩
def Sa.x (a : Sa) : Sx := ⟨a.q.p, a.src, a.lay, a.want, a.muted⟩
theorem Pq.fit {W : World} {p : Pq} (h : p.Ok W) : p.p.Fit := ⟨h.h.typ, h.h.seq, h.h.time, h.h.ssrc, h.h.csrc⟩
theorem Pq.cells_eq (p : Pq) : p.cells.toArray = p.p.cells p.h.A1 p.h.c1 p.h.A2 p.h.c2 p.A3 p.c3 := by unfold Pq.cells Pq.p Mp.cells; simp
theorem u32s_flat (l : List Nat) : (l.map fun x : Nat => [Value.int .u32 (x : Int)]).flatten = u32s l := by
  induction l with
  | nil => rfl
  | cons a l ih => simp_all [u32s]
theorem u8s_flat (l : List UInt8) : (l.map fun x : UInt8 => [Value.int .u8 (x.toNat : Int)]).flatten = u8s l := by
  induction l with
  | nil => rfl
  | cons a l ih => simp_all [u8s]

section
variable {H : Type} {enc : TypeId × Value → H} {W : World}
theorem trod_head {cs : List Value} (hl : cs.length = 7) {k : Nat} {y : DataW H × List MemPlace} (h : DataW.trod enc Try.prog W 0 (fun _ => true) true k 32 cs = some y) : ∃ a : Hd, cs = a.cells ∧ a.Ok W := by
  obtain ⟨n, hp⟩ := struct_parts Try.underlying32 h
  match cs, hl with
  | [v0, v1, v2, v3, v4, v5, v6], _ =>
    obtain ⟨z0, t0⟩ : ∃ z, DataW.trod enc Try.prog W 0 (fun _ => true) true n 4 (([v0, v1, v2, v3, v4, v5, v6].drop 0).take (Try.prog.cellsOf 4)) = some z := hp 0 _ rfl
    rw [show Try.prog.cellsOf 4 = 1 from by kernel_rfl] at t0
    obtain ⟨a0, e0, _⟩ := DataW.trod_bool Try.underlying4 t0
    simp at e0
    obtain ⟨z1, t1⟩ : ∃ z, DataW.trod enc Try.prog W 0 (fun _ => true) true n 5 (([v0, v1, v2, v3, v4, v5, v6].drop 1).take (Try.prog.cellsOf 5)) = some z := hp 1 _ rfl
    rw [show Try.prog.cellsOf 5 = 1 from by kernel_rfl] at t1
    obtain ⟨a1, e1, _, w1⟩ := DataW.trod_int Try.underlying5 t1
    have w1 := wf_u8 w1
    simp at e1
    obtain ⟨z2, t2⟩ : ∃ z, DataW.trod enc Try.prog W 0 (fun _ => true) true n 28 (([v0, v1, v2, v3, v4, v5, v6].drop 2).take (Try.prog.cellsOf 28)) = some z := hp 2 _ rfl
    rw [show Try.prog.cellsOf 28 = 1 from by kernel_rfl] at t2
    obtain ⟨a2, e2, _, w2⟩ := DataW.trod_int Try.underlying28 t2
    have w2 := wf_u16 w2
    simp at e2
    obtain ⟨z3, t3⟩ : ∃ z, DataW.trod enc Try.prog W 0 (fun _ => true) true n 22 (([v0, v1, v2, v3, v4, v5, v6].drop 3).take (Try.prog.cellsOf 22)) = some z := hp 3 _ rfl
    rw [show Try.prog.cellsOf 22 = 1 from by kernel_rfl] at t3
    obtain ⟨a3, e3, _, w3⟩ := DataW.trod_int Try.underlying22 t3
    have w3 := wf_u32 w3
    simp at e3
    obtain ⟨z4, t4⟩ : ∃ z, DataW.trod enc Try.prog W 0 (fun _ => true) true n 22 (([v0, v1, v2, v3, v4, v5, v6].drop 4).take (Try.prog.cellsOf 22)) = some z := hp 4 _ rfl
    rw [show Try.prog.cellsOf 22 = 1 from by kernel_rfl] at t4
    obtain ⟨a4, e4, _, w4⟩ := DataW.trod_int Try.underlying22 t4
    have w4 := wf_u32 w4
    simp at e4
    obtain ⟨z5, t5⟩ : ∃ z, DataW.trod enc Try.prog W 0 (fun _ => true) true n 29 (([v0, v1, v2, v3, v4, v5, v6].drop 5).take (Try.prog.cellsOf 29)) = some z := hp 5 _ rfl
    rw [show Try.prog.cellsOf 29 = 1 from by kernel_rfl] at t5
    obtain ⟨A5, n5, c5, xss5, e5, hn5, hc5, hx5, hr5, hq5⟩ := rows_cell (z := 1) Try.underlying29 (by kernel_rfl) (by decide) (v := v5) (by simpa using t5)
    obtain ⟨z6, t6⟩ : ∃ z, DataW.trod enc Try.prog W 0 (fun _ => true) true n 30 (([v0, v1, v2, v3, v4, v5, v6].drop 6).take (Try.prog.cellsOf 30)) = some z := hp 6 _ rfl
    rw [show Try.prog.cellsOf 30 = 1 from by kernel_rfl] at t6
    obtain ⟨A6, n6, c6, xss6, e6, hn6, hc6, hx6, hr6, hq6⟩ := rows_cell (z := 2) Try.underlying30 (by kernel_rfl) (by decide) (v := v6) (by simpa using t6)
    subst e0 e1 e2 e3 e4 e5 e6
    obtain ⟨l5, rfl, q5⟩ := typed_list (conv := fun x : Nat => [Value.int .u32 (x : Int)]) (Q := fun x => x < 4294967296) (xss := xss5) (fun cs hcs => by
      obtain ⟨g1, k1, y1, g2⟩ := hq5 cs hcs
      obtain ⟨a, e, _, wa⟩ := DataW.trod_int Try.underlying22 g2
      have wa := wf_u32 wa
      exact ⟨a.toNat, by rw [e]; simp; omega, by omega⟩)
    obtain ⟨l6, rfl, q6⟩ := typed_list (conv := Ip.cells) (Q := fun p => Row W W.heap.size 1 p.A p.it.d.length (u8s p.it.d) ∧ p.it.d.length ≤ maxLen) (xss := xss6) (fun cs hcs => by
      obtain ⟨h1, k, y, h2⟩ := hq6 cs hcs
      obtain ⟨v0, v1, n', y0, y1, rfl, t0, t1⟩ := trod_two Try.underlying68 rfl rfl (by kernel_rfl) (by kernel_rfl) h1 h2
      obtain ⟨x, e0, _, hw⟩ := DataW.trod_int Try.underlying5 t0
      obtain ⟨A1, c1, l1, rfl, hl1, hr1⟩ := bytes_cell t1
      simp only [List.cons.injEq, and_true] at e0
      subst e0
      have hb := wf_u8 hw
      exact ⟨⟨⟨UInt8.ofNat x.toNat, l1⟩, A1, c1⟩, by simp [Ip.cells]; omega, hr1, hl1⟩)
    rw [u32s_flat] at hr5
    simp only [List.length_map] at hx5 hx6
    subst hx5 hx6
    refine ⟨⟨a0, a1.toNat, a2.toNat, a3.toNat, a4.toNat, l5, A5, c5, l6, A6, c6⟩, ?_, ⟨by dsimp only; omega, by dsimp only; omega, by dsimp only; omega, by dsimp only; omega, q5, by dsimp only; omega, hr5, by dsimp only; omega, ⟨by simpa [ipC, List.flatMap] using hr6, q6⟩⟩⟩
    simp only [Hd.cells, List.cons.injEq, Value.int.injEq, true_and, and_true]
    omega
theorem trod_pkt {cs : List Value} (hl : cs.length = 9) {k : Nat} {y : DataW H × List MemPlace} (h : DataW.trod enc Try.prog W 0 (fun _ => true) true k 35 cs = some y) : ∃ a : Pq, cs = a.cells ∧ a.Ok W := by
  obtain ⟨n, hp⟩ := struct_parts Try.underlying35 h
  match cs, hl with
  | [v0, v1, v2, v3, v4, v5, v6, v7, v8], _ =>
    obtain ⟨z0, t0⟩ : ∃ z, DataW.trod enc Try.prog W 0 (fun _ => true) true n 32 (([v0, v1, v2, v3, v4, v5, v6, v7, v8].drop 0).take (Try.prog.cellsOf 32)) = some z := hp 0 _ rfl
    rw [show Try.prog.cellsOf 32 = 7 from by kernel_rfl] at t0
    obtain ⟨a0, e0, q0⟩ := trod_head (cs := [v0, v1, v2, v3, v4, v5, v6]) rfl (by simpa using t0)
    obtain ⟨z1, t1⟩ : ∃ z, DataW.trod enc Try.prog W 0 (fun _ => true) true n 33 (([v0, v1, v2, v3, v4, v5, v6, v7, v8].drop 7).take (Try.prog.cellsOf 33)) = some z := hp 1 _ rfl
    rw [show Try.prog.cellsOf 33 = 1 from by kernel_rfl] at t1
    obtain ⟨A1, n1, c1, xss1, e1, hn1, hc1, hx1, hr1, hq1⟩ := rows_cell (z := 1) Try.underlying33 (by kernel_rfl) (by decide) (v := v7) (by simpa using t1)
    obtain ⟨z2, t2⟩ : ∃ z, DataW.trod enc Try.prog W 0 (fun _ => true) true n 3 (([v0, v1, v2, v3, v4, v5, v6, v7, v8].drop 8).take (Try.prog.cellsOf 3)) = some z := hp 2 _ rfl
    rw [show Try.prog.cellsOf 3 = 1 from by kernel_rfl] at t2
    obtain ⟨a2, e2, _, w2⟩ := DataW.trod_int Try.underlying3 t2
    have w2 := wf_i64 w2
    simp at e2
    subst e1 e2
    simp only [Hd.cells, List.cons.injEq, and_true] at e0
    obtain ⟨rfl, rfl, rfl, rfl, rfl, rfl, rfl⟩ := e0
    obtain ⟨l1, rfl, _⟩ := typed_list (conv := fun x : UInt8 => [Value.int .u8 (x.toNat : Int)]) (Q := fun _ => True) (xss := xss1) (fun cs hcs => by
      obtain ⟨g1, k1, y1, g2⟩ := hq1 cs hcs
      obtain ⟨a, e, _, wa⟩ := DataW.trod_int Try.underlying5 g2
      have wa := wf_u8 wa
      exact ⟨UInt8.ofNat a.toNat, by rw [e]; simp; omega, trivial⟩)
    rw [u8s_flat] at hr1
    simp only [List.length_map] at hx1
    subst hx1
    exact ⟨⟨a0, l1, A1, c1, a2⟩, rfl, ⟨q0, by dsimp only; omega, hr1, w2, by dsimp only; omega⟩⟩
theorem trod_want {cs : List Value} (hl : cs.length = 3) {k : Nat} {y : DataW H × List MemPlace} (h : DataW.trod enc Try.prog W 0 (fun _ => true) true k 37 cs = some y) : ∃ a : Cw, cs = a.cells.toList := by
  obtain ⟨n, hp⟩ := struct_parts Try.underlying37 h
  match cs, hl with
  | [v0, v1, v2], _ =>
    obtain ⟨z0, t0⟩ : ∃ z, DataW.trod enc Try.prog W 0 (fun _ => true) true n 3 (([v0, v1, v2].drop 0).take (Try.prog.cellsOf 3)) = some z := hp 0 _ rfl
    rw [show Try.prog.cellsOf 3 = 1 from by kernel_rfl] at t0
    obtain ⟨a0, e0, _, w0⟩ := DataW.trod_int Try.underlying3 t0
    have w0 := wf_i64 w0
    simp at e0
    obtain ⟨z1, t1⟩ : ∃ z, DataW.trod enc Try.prog W 0 (fun _ => true) true n 3 (([v0, v1, v2].drop 1).take (Try.prog.cellsOf 3)) = some z := hp 1 _ rfl
    rw [show Try.prog.cellsOf 3 = 1 from by kernel_rfl] at t1
    obtain ⟨a1, e1, _, w1⟩ := DataW.trod_int Try.underlying3 t1
    have w1 := wf_i64 w1
    simp at e1
    obtain ⟨z2, t2⟩ : ∃ z, DataW.trod enc Try.prog W 0 (fun _ => true) true n 3 (([v0, v1, v2].drop 2).take (Try.prog.cellsOf 3)) = some z := hp 2 _ rfl
    rw [show Try.prog.cellsOf 3 = 1 from by kernel_rfl] at t2
    obtain ⟨a2, e2, _, w2⟩ := DataW.trod_int Try.underlying3 t2
    have w2 := wf_i64 w2
    simp at e2
    subst e0 e1 e2
    exact ⟨⟨a0, a1, a2⟩, rfl⟩
theorem trod_want9 {cs : List Value} (hl : cs.length = 3) {k : Nat} {y : DataW H × List MemPlace} (h : DataW.trod enc Try.prog W 0 (fun _ => true) true k 37 cs = some y) : ∃ a : Cw, cs = a.cells.toList ∧ True := by
  obtain ⟨a, ha⟩ := trod_want hl h
  exact ⟨a, ha, trivial⟩
theorem trod_step {cs : List Value} (hl : cs.length = 15) {k : Nat} {y : DataW H × List MemPlace} (h : DataW.trod enc Try.prog W 0 (fun _ => true) true k 39 cs = some y) : ∃ a : Sa, cs = a.cells ∧ a.q.Ok W := by
  obtain ⟨n, hp⟩ := struct_parts Try.underlying39 h
  match cs, hl with
  | [v0, v1, v2, v3, v4, v5, v6, v7, v8, v9, v10, v11, v12, v13, v14], _ =>
    obtain ⟨z0, t0⟩ : ∃ z, DataW.trod enc Try.prog W 0 (fun _ => true) true n 35 (([v0, v1, v2, v3, v4, v5, v6, v7, v8, v9, v10, v11, v12, v13, v14].drop 0).take (Try.prog.cellsOf 35)) = some z := hp 0 _ rfl
    rw [show Try.prog.cellsOf 35 = 9 from by kernel_rfl] at t0
    obtain ⟨a0, e0, q0⟩ := trod_pkt (cs := [v0, v1, v2, v3, v4, v5, v6, v7, v8]) rfl (by simpa using t0)
    obtain ⟨z1, t1⟩ : ∃ z, DataW.trod enc Try.prog W 0 (fun _ => true) true n 3 (([v0, v1, v2, v3, v4, v5, v6, v7, v8, v9, v10, v11, v12, v13, v14].drop 9).take (Try.prog.cellsOf 3)) = some z := hp 1 _ rfl
    rw [show Try.prog.cellsOf 3 = 1 from by kernel_rfl] at t1
    obtain ⟨a1, e1, _, w1⟩ := DataW.trod_int Try.underlying3 t1
    have w1 := wf_i64 w1
    simp at e1
    obtain ⟨z2, t2⟩ : ∃ z, DataW.trod enc Try.prog W 0 (fun _ => true) true n 3 (([v0, v1, v2, v3, v4, v5, v6, v7, v8, v9, v10, v11, v12, v13, v14].drop 10).take (Try.prog.cellsOf 3)) = some z := hp 2 _ rfl
    rw [show Try.prog.cellsOf 3 = 1 from by kernel_rfl] at t2
    obtain ⟨a2, e2, _, w2⟩ := DataW.trod_int Try.underlying3 t2
    have w2 := wf_i64 w2
    simp at e2
    obtain ⟨z3, t3⟩ : ∃ z, DataW.trod enc Try.prog W 0 (fun _ => true) true n 37 (([v0, v1, v2, v3, v4, v5, v6, v7, v8, v9, v10, v11, v12, v13, v14].drop 11).take (Try.prog.cellsOf 37)) = some z := hp 3 _ rfl
    rw [show Try.prog.cellsOf 37 = 3 from by kernel_rfl] at t3
    obtain ⟨a3, e3, q3⟩ := trod_want9 (cs := [v11, v12, v13]) rfl (by simpa using t3)
    obtain ⟨z4, t4⟩ : ∃ z, DataW.trod enc Try.prog W 0 (fun _ => true) true n 4 (([v0, v1, v2, v3, v4, v5, v6, v7, v8, v9, v10, v11, v12, v13, v14].drop 14).take (Try.prog.cellsOf 4)) = some z := hp 4 _ rfl
    rw [show Try.prog.cellsOf 4 = 1 from by kernel_rfl] at t4
    obtain ⟨a4, e4, _⟩ := DataW.trod_bool Try.underlying4 t4
    simp at e4
    subst e1 e2 e4
    simp only [Pq.cells, List.cons.injEq, and_true] at e0
    obtain ⟨rfl, rfl, rfl, rfl, rfl, rfl, rfl, rfl, rfl⟩ := e0
    simp only [Cw.cells, List.cons.injEq, and_true] at e3
    obtain ⟨rfl, rfl, rfl⟩ := e3
    exact ⟨⟨a0, a1, a2, a3, a4⟩, rfl, q0⟩
theorem open_steps {r : Reach} {b0 : Nat} {v : Value} {d : DataW H} {p : List MemPlace} (hok : Value.okWide Try.prog W r b0 23 v) (h : DataW.Trod enc Try.prog W 0 (fun _ => true) true 23 v d p) :
    ∃ A c, ∃ l : List Sa, v = .slice A l.length c ∧ l.length ≤ maxLen ∧ Row W W.heap.size 15 A l.length (rowC Sa.cells l) ∧ ∀ a ∈ l, a.q.Ok W := by
  obtain ⟨A, n, c, xss, rfl, hn, hm, hl, hr, hx⟩ := open_rows (z := 15) Try.underlying23 (by kernel_rfl) (by decide) hok h
  obtain ⟨l, he, hll, hq⟩ := typed_rows (conv := Sa.cells) (Q := fun a => a.q.Ok W) (xss := xss) (fun cs hcs => by
    obtain ⟨h1, k, y, h2⟩ := hx cs hcs
    exact trod_step h1 h2)
  rw [he] at hr
  obtain rfl : n = l.length := hl.symm.trans hll
  exact ⟨A, c, l, rfl, by omega, hr, hq⟩
end
end Go.Proofs.Yticnaljfnjiofaa
/-
  What the calls of package down tell (layer 14): what their contracts say. Nothing here names how the program keeps a downtrack.
-/
namespace Go.Proofs.Yticnaljfnjiofaa
open Go.RowKit

/-- A slice of n lies in none of the blocks S. -/
def FarS (S : Nat → Prop) (A : Option Addr) (n : Nat) : Prop := 0 < n → ∀ a, A = some a → ¬ S a.block
/-- A packet in memory, that lies in none of the blocks S. -/
structure Pq.At (w : World) (S : Nat → Prop) (p : Pq) : Prop where
  fit : p.p.Fit
  len1 : p.h.csrc.length ≤ maxLen
  row1 : Row w w.heap.size 1 p.h.A1 p.h.csrc.length (u32s p.h.csrc)
  far1 : FarS S p.h.A1 p.h.csrc.length
  len2 : p.h.ps.length ≤ maxLen
  its : Its w p.h.A2 p.h.ps
  far2 : FarS S p.h.A2 p.h.ps.length
  far2' : ∀ q ∈ p.h.ps, FarS S q.A q.it.d.length
  len3 : p.pay.length ≤ 100000
  row3 : Row w w.heap.size 1 p.A3 p.pay.length (u8s p.pay)
  far3 : FarS S p.A3 p.pay.length
theorem FarS.row {w : World} {B z n : Nat} {S : Nat → Prop} {A : Option Addr} {xs : List Value} (h : Row w B z A n xs) (hS : ∀ k, S k → B ≤ k) : FarS S A n := by
  intro hn a ha hs
  obtain ⟨g, o, e, hg, _⟩ := h.2 hn
  rw [e] at ha
  cases ha
  have := hS _ hs
  dsimp only at this
  omega
/-- An argument's packet, in a later world. -/
theorem Pq.Ok.at {W w : World} {S : Nat → Prop} {p : Pq} (h : p.Ok W) (hb : Below W.heap.size W w) (hS : ∀ k, S k → W.heap.size ≤ k) (hl : p.pay.length ≤ 100000) : p.At w S :=
  ⟨Pq.fit h, h.h.len1, (h.h.row1.below hb (Nat.le_refl _)).more hb.size, FarS.row h.h.row1 hS, h.h.len2, h.h.its.next hb, FarS.row h.h.its.1 hS, fun q hq => FarS.row (h.h.its.2 q hq).1 hS, hl, (h.row.below hb (Nat.le_refl _)).more hb.size, FarS.row h.row hS⟩
/-- No more than this was done. -/
def Dn.few (d : Dn) : Prop := d.sent + d.left + d.drop + d.late + d.bad ≤ 1000000000 ∧ d.ssrc < 4294967296 ∧ d.nums.Fit 1000000000000
def Dn.countV (d : Dn) : Array Value := #[.int .i64 (d.sent : Int), .int .i64 (d.left : Int), .int .i64 (d.drop : Int), .int .i64 (d.late : Int), .int .i64 (d.bad : Int)]
theorem Dn.next_few {d : Dn} {x : Sx} (hf : x.p.Fit) (k : Nat) (h : d.sent + d.left + d.drop + d.late + d.bad = k) (hn : d.nums.Fit (65536 + 32768 * k)) :
    (d.next x).sent + (d.next x).left + (d.next x).drop + (d.next x).late + (d.next x).bad = k + 1 ∧ (d.next x).ssrc = d.ssrc ∧ (d.next x).room = d.room ∧ (d.next x).nums.Fit (65536 + 32768 * (k + 1 : Nat)) := by
  have hx := Dn.next_fit hf hn (by omega)
  have e : (65536 + 32768 * (k : Int)) + 32768 = 65536 + 32768 * ((k + 1 : Nat) : Int) := by omega
  rw [e] at hx
  unfold Dn.next
  rcases Dn.cases d x with ⟨_, q, _⟩ | ⟨ds, r, n, q, _⟩
  · have q1 := q.sum
    have q2 := q.sent
    exact ⟨by omega, q.ssrc, q.room, hx⟩
  · have q1 := q.sum
    have q2 := q.sent
    exact ⟨by omega, q.ssrc, q.room, hx⟩
/-- As many steps done, one behind the other. -/
def Dn.run (d : Dn) : List Sx → Dn
  | [] => d
  | x :: l => (d.next x).run l
theorem Dn.run_append (d : Dn) (l m : List Sx) : d.run (l ++ m) = (d.run l).run m := by
  induction l generalizing d with
  | nil => rfl
  | cons y l ih => exact ih _
theorem Dn.next_sent (d : Dn) (x : Sx) : (d.next x).sent = d.sent + if d.is x = true then 1 else 0 := by
  unfold Dn.next Dn.is
  rcases Dn.cases d x with ⟨h, q, _⟩ | ⟨ds, r, n, q, h⟩
  · rw [h, q.sent]; rfl
  · rw [h, q.sent]; rfl
theorem Dn.run_snoc (d : Dn) (l : List Sx) (x : Sx) : d.run (l ++ [x]) = (d.run l).next x := by
  induction l generalizing d with
  | nil => rfl
  | cons y l ih => exact ih _
theorem Dn.run_few {ssrc room : Nat} (l : List Sx) (hl : ∀ x ∈ l, x.p.Fit) :
    ((Dn.new ssrc room).run l).sent + ((Dn.new ssrc room).run l).left + ((Dn.new ssrc room).run l).drop + ((Dn.new ssrc room).run l).late + ((Dn.new ssrc room).run l).bad = l.length ∧ ((Dn.new ssrc room).run l).ssrc = ssrc ∧ ((Dn.new ssrc room).run l).room = room ∧ ((Dn.new ssrc room).run l).nums.Fit (65536 + 32768 * (l.length : Nat)) := by
  obtain ⟨m, hm⟩ : ∃ m, m = l.reverse := ⟨_, rfl⟩
  obtain rfl : l = m.reverse := by rw [hm, List.reverse_reverse]
  clear hm
  induction m with
  | nil => exact ⟨rfl, rfl, rfl, ⟨by simp [Dn.run, Dn.new, Mst.zero], Mn.zero_fit, Mn.zero_fit⟩⟩
  | cons x m ih =>
    rw [List.reverse_cons] at hl ⊢
    obtain ⟨h1, h2, h3, h4⟩ := ih (fun y hy => hl y (by simp [hy]))
    have := Dn.next_few (x := x) (hl x (by simp)) _ h1 h4
    rw [Dn.run_snoc, List.length_append, List.length_singleton, h2, h3] at *
    exact this
theorem Dn.run_ok {ssrc room : Nat} (hs : ssrc < 4294967296) (l : List Sx) (hl : ∀ x ∈ l, x.p.Fit) (hn : l.length ≤ 1000) : ((Dn.new ssrc room).run l).few := by
  obtain ⟨h1, h2, h3, h4⟩ := Dn.run_few (ssrc := ssrc) (room := room) l hl
  exact ⟨by omega, by omega, ⟨by have := h4.high; omega, h4.off, h4.out⟩⟩
/-- What a packet makes of the choice, by whether it is sent. -/
theorem Dn.quiet_pick (d : Dn) (x : Sx) (h : d.is x = false) : if x.muted = true then (d.next x).pick.on = false else (d.next x).pick.on = d.pick.on ∧ (d.pick.on = true → (d.next x).pick.src = d.pick.src ∧ (d.next x).pick.lay = d.pick.lay) := by
  unfold Dn.is at h
  unfold Dn.next
  rcases Dn.cases d x with ⟨_, _, hs⟩ | ⟨ds, r, n, _, e⟩
  · rcases hs with ⟨hm, e, _⟩ | ⟨hm, ho, e1, e2, e3, _⟩ | ⟨hm, _, e, _⟩
    · rw [if_pos hm, e]
    · rw [if_neg (by simp [hm])]
      have hon : d.pick.on = true := by unfold Dn.own at ho; simp at ho; exact ho.1
      exact ⟨by rw [e1, hon], fun _ => ⟨e2, e3⟩⟩
    · rw [if_neg (by simp [hm]), e]
      exact ⟨rfl, fun _ => ⟨rfl, rfl⟩⟩
  · rw [e] at h
    cases h
theorem Dn.sent_pick (d : Dn) (x : Sx) (h : d.is x = true) : x.muted = false ∧ (d.next x).pick.on = true ∧ (d.next x).pick.src = x.src ∧ (d.next x).pick.lay = x.lay ∧
    ((d.pick.on = true ∧ x.src = d.pick.src ∧ x.lay = d.pick.lay) ∨ (¬ (d.pick.on = true ∧ x.src = d.pick.src ∧ x.lay = d.pick.lay) ∧ wholeS x.p.pay = true ∧ x.src = x.want.src ∧ x.lay = x.want.lay ∧ d.asks x = false)) := by
  unfold Dn.is at h
  rcases Dn.cases d x with ⟨e, _, _⟩ | ⟨ds, r, n, hs, _⟩
  · rw [e] at h
    cases h
  · have hp := hs.pick
    rcases hs.how with ⟨ho, _⟩ | ⟨ho, hw, hwh, hpk, _⟩
    · rw [Cs.next_own ho] at hp
      obtain ⟨o1, o2, o3⟩ := Cs.own_iff.1 ho
      have a1 : x.src = d.pick.src := o2
      have a2 : x.lay = d.pick.lay := o3
      unfold Dn.next
      rw [hp]
      exact ⟨hs.muted, rfl, a1.symm, a2.symm, .inl ⟨o1, a1, a2⟩⟩
    · obtain ⟨w1, w2⟩ := Cx.wanted_iff.1 hw
      have a1 : x.src = x.want.src := w1
      have a2 : x.lay = x.want.lay := w2
      refine ⟨hs.muted, by unfold Dn.next; rw [hpk], by unfold Dn.next; rw [hpk]; exact a1.symm, by unfold Dn.next; rw [hpk]; exact a2.symm, .inr ⟨fun hc => ?_, hwh, a1, a2, ?_⟩⟩
      · have : d.pick.own (x.cx ds) = true := Cs.own_iff.2 hc
        rw [ho] at this
        cases this
      · unfold Dn.asks Dn.next
        rw [hpk, hs.muted]
        exact Cs.asks_iff.2 ⟨rfl, rfl, rfl⟩
end Go.Proofs.Yticnaljfnjiofaa
/-
  Packets of one stream that come one behind the other, plain: what a downtrack's numbers come to. Nothing here names the program.
-/
namespace Go.Proofs.Yticnaljfnjiofaa

/-- The packet of place i: its number and its time are of the place. -/
def ordA (fr tm i : Nat) (a : Sa) : Sa := { a with q := { a.q with h := { a.q.h with seq := (fr + i) % 65536, time := (tm + i / 2 * 900) % 4294967296 } }, src := 0, lay := 0 }
def ordL (fr tm : Nat) : Nat → List Sa → List Sx
  | _, [] => []
  | i, a :: t => (ordA fr tm i a).x :: ordL fr tm (i + 1) t
theorem ordL_snoc (fr tm : Nat) (l : List Sa) (a : Sa) : ∀ i, ordL fr tm i (l ++ [a]) = ordL fr tm i l ++ [(ordA fr tm (i + l.length) a).x] := by
  induction l with
  | nil => intro i; rfl
  | cons b l ih =>
    intro i
    rw [List.cons_append, ordL, ih (i + 1), ordL, List.cons_append, List.length_cons, show i + 1 + l.length = i + (l.length + 1) from by omega]
theorem ordL_length (fr tm : Nat) (l : List Sa) : ∀ i, (ordL fr tm i l).length = l.length := by
  induction l with
  | nil => intro i; rfl
  | cons b l ih => intro i; rw [ordL, List.length_cons, ih, List.length_cons]
theorem ordA_fit {W : World} {fr tm i : Nat} {a : Sa} (h : a.q.Ok W) : (ordA fr tm i a).q.Ok W :=
  ⟨⟨h.h.typ, Nat.mod_lt _ (by decide), Nat.mod_lt _ (by decide), h.h.ssrc, h.h.csrc, h.h.len1, h.h.row1, h.h.len2, h.h.its⟩, h.len, h.row, h.pad, h.cap⟩
theorem ordL_fit {W : World} (fr tm : Nat) (l : List Sa) (h : ∀ a ∈ l, a.q.Ok W) : ∀ i, ∀ x ∈ ordL fr tm i l, x.p.Fit := by
  induction l with
  | nil => intro i x hx; cases hx
  | cons b l ih =>
    intro i x hx
    rcases List.mem_cons.1 hx with rfl | hx
    · exact Pq.fit (ordA_fit (h b (by simp)))
    · exact ih (fun a ha => h a (by simp [ha])) _ x hx
theorem ordL_step {fr tm k : Nat} {l : List Sa} {a : Sa} (h : l[k]? = some a) : ordL fr tm 0 (l.take (k + 1)) = ordL fr tm 0 (l.take k) ++ [(ordA fr tm k a).x] := by
  have hk : k < l.length := (List.getElem?_eq_some_iff.1 h).1
  rw [List.take_add_one, h, Option.toList_some, ordL_snoc, List.length_take, Nat.min_eq_left (Nat.le_of_lt hk), Nat.zero_add]

/-- How far it has come: k packets came; any was sent; it waits for a whole frame; the last number and time. -/
structure Dn.Row (d : Dn) (fr k : Nat) (any paused : Bool) (seq last : Int) : Prop where
  pause : d.pick.on = !paused
  stream : d.pick.on = true → d.pick.src = 0 ∧ d.pick.lay = 0 ∧ d.nums.on = true ∧ 1 ≤ k ∧ d.nums.high % 65536 = ((fr : Int) + k - 1) % 65536 ∧ (d.nums.high - d.nums.off.seq - d.nums.out.seq) % 65536 = 0
  had : d.nums.on = any
  last : any = true → seq = d.nums.out.seq ∧ last = d.nums.out.time
theorem Dn.Row.num {d : Dn} {fr k : Nat} {any paused : Bool} {seq last : Int} (h : d.Row fr k any paused seq last) (ho : d.pick.on = true) {m : Mn} (hm : m.seq = (((fr + k) % 65536 : Nat) : Int)) : d.nums.num m = d.nums.high + 1 := by
  obtain ⟨_, _, _, hk, e, _⟩ := h.stream ho
  unfold Mst.num
  have hs : m.seq = (d.nums.high + 1) % 65536 := by rw [hm]; omega
  rw [hs]
  exact nearM_of _ _ (by omega) (by omega)
theorem Dn.Row.start {ssrc room fr : Nat} : (Dn.new ssrc room).Row fr 0 false true 0 0 :=
  ⟨rfl, fun h => absurd (show false = true from h) (by decide), rfl, fun h => absurd h (by decide)⟩
section
variable {d : Dn} {fr tm k : Nat} {any paused : Bool} {seq last : Int} {a : Sa}
theorem Dn.Row.quiet (h : d.Row fr k any paused seq last) (hi : d.is (ordA fr tm k a).x = false) : (d.next (ordA fr tm k a).x).Row fr (k + 1) any (paused || a.muted) seq last := by
  unfold Dn.is at hi
  unfold Dn.next
  have hmu : (ordA fr tm k a).x.muted = a.muted := rfl
  have hseq : (ordA fr tm k a).x.p.seq = (fr + k) % 65536 := rfl
  rcases Dn.cases d (ordA fr tm k a).x with ⟨_, _, hs⟩ | ⟨ds, r, n, _, e⟩
  · rcases hs with ⟨hm, e1, e2⟩ | ⟨hm, ho, e1, e2, e3, e4⟩ | ⟨hm, ho, e1, e2⟩
    · rw [hmu] at hm
      refine ⟨by rw [e1, hm]; simp, fun hc => ?_, by rw [e2]; exact h.had, by rw [e2]; exact h.last⟩
      rw [e1] at hc
      cases hc
    · rw [hmu] at hm
      have hon : d.pick.on = true := by unfold Dn.own at ho; simp at ho; exact ho.1
      obtain ⟨s1, s2, s3, s4, s5, s6⟩ := h.stream hon
      have hp : (!paused) = true := h.pause.symm.trans hon
      rcases e4 with ⟨m, b, hms, e4⟩ | ⟨m, hms, ht, _⟩
      · have hn := h.num hon (m := m) (by rw [hms, hseq])
        have hd : d.nums.dropS m b = ⟨true, d.nums.high + 1, d.nums.high + 1, ⟨(d.nums.off.seq + 1) % 65536, d.nums.off.time, if b = true then (d.nums.off.pic + 1) % 65536 else d.nums.off.pic, d.nums.off.tl0⟩, d.nums.out⟩ := by
          unfold Mst.dropS
          rw [if_pos s3, hn, if_neg (by omega)]
        rw [hd] at e4
        refine ⟨by rw [e1, hm, Bool.or_false]; exact hp.symm, fun _ => ⟨e2.trans s1, e3.trans s2, by rw [e4], by omega, by rw [e4]; dsimp only; omega, by rw [e4]; dsimp only; omega⟩, by rw [e4]; exact s3.symm.trans h.had, fun ha => by rw [e4]; exact h.last ha⟩
      · have hn := h.num hon (m := m) (by rw [hms, hseq])
        unfold Mst.tells at ht
        rw [s3, hn] at ht
        have : decide (d.nums.high + 1 ≤ d.nums.high) = false := decide_eq_false (by omega)
        rw [this] at ht
        cases ht
    · rw [hmu] at hm
      have hoff : d.pick.on = false := by
        cases hc : d.pick.on with
        | false => rfl
        | true =>
          obtain ⟨s1, s2, _⟩ := h.stream hc
          have : d.own (ordA fr tm k a).x = true := by
            unfold Dn.own
            rw [hc, s1, s2]
            rfl
          rw [ho] at this
          cases this
      refine ⟨by rw [e1, hm, Bool.or_false]; exact h.pause, fun hc => ?_, by rw [e2]; exact h.had, by rw [e2]; exact h.last⟩
      rw [e1, hoff] at hc
      cases hc
  · rw [e] at hi
    cases hi
theorem Dn.Row.sends (h : d.Row fr k any paused seq last) (hi : d.is (ordA fr tm k a).x = true) (hf : (ordA fr tm k a).x.p.Fit) {c : Int} (hc : d.nums.Fit c) (hs : d.ssrc < 4294967296) :
    ∃ q : Mp, parseP (d.told (ordA fr tm k a).x) = (q, 0) ∧ q.seq < 65536 ∧ q.time < 4294967296 ∧ a.muted = false ∧ (any = true → (q.seq : Int) = (seq + 1) % 65536 ∧ up32 (q.time : Int) last = false) ∧ (paused = true → wholeS a.q.pay = true) ∧
      (d.next (ordA fr tm k a).x).Row fr (k + 1) true false (q.seq : Int) (q.time : Int) := by
  unfold Dn.is at hi
  unfold Dn.told Dn.next
  have hseq : ∀ ds, ((ordA fr tm k a).x.mn ds).seq = (((fr + k) % 65536 : Nat) : Int) := fun _ => rfl
  rcases Dn.cases d (ordA fr tm k a).x with ⟨e, _, _⟩ | ⟨ds, r, n, S, e⟩
  · rw [e] at hi
    cases hi
  · have hn := S.fit hf hc
    obtain ⟨hp, hqf, _⟩ := Sx.out_parse (ssrc := d.ssrc) hf S.err S.pay hn hs
    rw [e]
    have hq1 : (((ordA fr tm k a).x.out d.ssrc ds n).seq : Int) = n.seq := by have := hn.seq; unfold Sx.out; dsimp only; omega
    have hq2 : (((ordA fr tm k a).x.out d.ssrc ds n).time : Int) = n.time := by have := hn.time; unfold Sx.out; dsimp only; omega
    have hmn := Sx.mn_fit hf S.pay
    refine ⟨(ordA fr tm k a).x.out d.ssrc ds n, hp, hqf.seq, hqf.time, S.muted, ?_, ?_, ?_⟩
    · intro ha
      obtain ⟨l1, l2⟩ := h.last ha
      rw [hq1, hq2]
      have hon : d.nums.on = true := h.had.trans ha
      rcases S.how with ⟨ho, ht, e1, rfl⟩ | ⟨ho, _, _, _, e1, rfl⟩
      · have hon2 : d.pick.on = true := (Cs.own_iff.1 ho).1
        obtain ⟨s1, s2, s3, s4, s5, s6⟩ := h.stream hon2
        have hnum := h.num hon2 (hseq ds)
        have hto : d.nums.told ((ordA fr tm k a).x.mn ds) = d.nums.ahead ((ordA fr tm k a).x.mn ds) := by unfold Mst.told; rw [if_pos ht, hnum, if_neg (by omega)]
        rw [hto, l1, l2]
        have hsq : (d.nums.ahead ((ordA fr tm k a).x.mn ds)).seq = (((ordA fr tm k a).x.mn ds).less d.nums.off).seq := by unfold Mst.ahead; split <;> rfl
        have hle : (((ordA fr tm k a).x.mn ds).less d.nums.off).seq = (((fr + k) % 65536 : Nat) - d.nums.off.seq) % 65536 := rfl
        refine ⟨by rw [hsq, hle]; omega, ?_⟩
        unfold Mst.ahead
        split
        · dsimp only; unfold up32 d32; simp
        · rename_i hh
          unfold up32
          exact decide_eq_false (by unfold far32 at hh; unfold d32; exact hh)
      · have hb : d.nums.begins ((ordA fr tm k a).x.mn ds) 3000 = Mn.rnd ⟨d.nums.out.seq + 1, d.nums.out.time + 3000, d.nums.out.pic + 1, d.nums.out.tl0 + 1⟩ := by unfold Mst.begins; rw [if_pos hon]
        rw [hb, l1, l2]
        refine ⟨rfl, ?_⟩
        unfold up32 d32 Mn.rnd
        dsimp only
        exact decide_eq_false (by omega)
    · intro hpa
      rcases S.how with ⟨ho, _⟩ | ⟨_, _, hw, _⟩
      · have := (Cs.own_iff.1 ho).1
        rw [h.pause, hpa] at this
        cases this
      · exact hw
    · rw [hq1, hq2]
      rcases S.how with ⟨ho, ht, e1, rfl⟩ | ⟨ho, hw, _, hpk, e1, rfl⟩
      · have hon2 : d.pick.on = true := (Cs.own_iff.1 ho).1
        obtain ⟨s1, s2, s3, s4, s5, s6⟩ := h.stream hon2
        have hnum := h.num hon2 (hseq ds)
        have hto : d.nums.told ((ordA fr tm k a).x.mn ds) = d.nums.ahead ((ordA fr tm k a).x.mn ds) := by unfold Mst.told; rw [if_pos ht, hnum, if_neg (by omega)]
        have hse : d.nums.sendS ((ordA fr tm k a).x.mn ds) = { d.nums with high := d.nums.high + 1, out := d.nums.ahead ((ordA fr tm k a).x.mn ds) } := by unfold Mst.sendS; rw [if_pos ht, hnum, if_neg (by omega)]
        have hpn := S.pick
        rw [Cs.next_own ho] at hpn
        rw [hse] at e1
        have hsq : (d.nums.ahead ((ordA fr tm k a).x.mn ds)).seq = (((ordA fr tm k a).x.mn ds).less d.nums.off).seq := by unfold Mst.ahead; split <;> rfl
        have hle : (((ordA fr tm k a).x.mn ds).less d.nums.off).seq = (((fr + k) % 65536 : Nat) - d.nums.off.seq) % 65536 := rfl
        exact ⟨by rw [hpn]; rfl, fun _ => ⟨by rw [hpn]; exact s1, by rw [hpn]; exact s2, by rw [e1]; exact s3, by omega, by rw [e1]; dsimp only; omega, by rw [e1]; dsimp only; rw [hsq, hle]; omega⟩, by rw [e1]; exact s3, fun _ => by rw [e1, hto]; exact ⟨rfl, rfl⟩⟩
      · obtain ⟨w1, w2⟩ := Cx.wanted_iff.1 hw
        have w1' : (0 : Int) = (ordA fr tm k a).x.want.src := w1
        have w2' : (0 : Int) = (ordA fr tm k a).x.want.lay := w2
        have hsw : (d.nums.switchS ((ordA fr tm k a).x.mn ds) 3000).off.seq = ((((fr + k) % 65536 : Nat) : Int) - (d.nums.begins ((ordA fr tm k a).x.mn ds) 3000).seq) % 65536 := rfl
        have hsh : (d.nums.switchS ((ordA fr tm k a).x.mn ds) 3000).high = (((fr + k) % 65536 : Nat) : Int) := rfl
        have hso : (d.nums.switchS ((ordA fr tm k a).x.mn ds) 3000).out = d.nums.begins ((ordA fr tm k a).x.mn ds) 3000 := rfl
        exact ⟨by rw [hpk]; rfl, fun _ => ⟨by rw [hpk]; exact w1'.symm, by rw [hpk]; exact w2'.symm, by rw [e1]; rfl, by omega, by rw [e1, hsh]; omega, by rw [e1, hsw, hsh, hso]; omega⟩, by rw [e1]; rfl, fun _ => by rw [e1, hso]; exact ⟨rfl, rfl⟩⟩
end
end Go.Proofs.Yticnaljfnjiofaa
/-
  What is told again of what was sent, plain. Nothing here names the program.
-/
namespace Go.Proofs.Yticnaljfnjiofaa

def seqOf (b : List UInt8) : Int := ((parseP b).1.seq : Int)
def pkOf (b : List UInt8) : Pk := ⟨seqOf b, b⟩
/-- What is kept of what was sent. -/
def keptOf (N : Nat) (l : List (List UInt8)) : List Pk := (l.drop (l.length - N)).map pkOf
theorem keptOf_length (N : Nat) (l : List (List UInt8)) : (keptOf N l).length = min l.length N := by
  unfold keptOf
  rw [List.length_map, List.length_drop]
  omega
theorem kept_snoc {N : Nat} (h1 : 1 ≤ N) (l : List (List UInt8)) (b : List UInt8) : addL N (keptOf N l) (pkOf b) = keptOf N (l ++ [b]) := by
  unfold addL
  rw [keptOf_length]
  by_cases h : l.length < N
  · rw [if_pos (by omega)]
    unfold keptOf
    rw [show l.length - N = 0 from by omega, List.length_append, List.length_singleton, show l.length + 1 - N = 0 from by omega]
    simp
  · rw [if_neg (by omega)]
    unfold keptOf
    rw [List.length_append, List.length_singleton, show l.length + 1 - N = (l.length - N) + 1 from by omega, List.drop_append_of_le_length (by omega), List.map_append, ← List.map_tail, List.tail_drop]
    rfl
theorem getL_none {l : List Pk} {k : Int} (h : ∀ p ∈ l, p.seq ≠ k) : getL l k = none := by
  unfold getL
  rw [lastAt_none.2 h]
  rfl
theorem getL_more (l m : List Pk) (k : Int) (h : ∀ p ∈ m, p.seq ≠ k) : getL (l ++ m) k = getL l k := by
  obtain ⟨r, rfl⟩ : ∃ r, m = r.reverse := ⟨m.reverse, by rw [List.reverse_reverse]⟩
  induction r with
  | nil => simp
  | cons x r ih =>
    rw [List.reverse_cons] at h ⊢
    rw [← List.append_assoc, getL_snoc, if_neg (h x (by simp))]
    exact ih (fun p hp => h p (by simp [hp]))
/-- The last one of a number is told again, as long as it is one of the last N. -/
theorem get_last {N : Nat} {l : List (List UInt8)} {j : Nat} {b : List UInt8} (hj : l[j]? = some b) (hn : ∀ j', j < j' → ∀ b', l[j']? = some b' → seqOf b' ≠ seqOf b) :
    getL (keptOf N l) (seqOf b) = if l.length ≤ j + N then some b else none := by
  have hlt : j < l.length := (List.getElem?_eq_some_iff.1 hj).1
  have hsplit : l = l.take j ++ b :: l.drop (j + 1) := by
    have h := List.take_append_drop j l
    rw [List.drop_eq_getElem_cons hlt] at h
    have hb : l[j] = b := (List.getElem?_eq_some_iff.1 hj).2
    rw [hb] at h
    exact h.symm
  have hno : ∀ p ∈ (l.drop (j + 1)).map pkOf, p.seq ≠ seqOf b := by
    intro p hp
    obtain ⟨y, hy, rfl⟩ := List.mem_map.1 hp
    obtain ⟨i, hi⟩ := List.getElem?_of_mem hy
    rw [List.getElem?_drop] at hi
    exact hn (j + 1 + i) (by omega) y hi
  unfold keptOf
  by_cases h : l.length ≤ j + N
  · rw [if_pos h]
    obtain ⟨t, ht⟩ : ∃ t, l.length - N = t := ⟨_, rfl⟩
    have htj : t ≤ j := by omega
    rw [ht]
    have hd : l.drop t = (l.take j).drop t ++ b :: l.drop (j + 1) := by
      conv => lhs; rw [hsplit]
      rw [List.drop_append_of_le_length (by rw [List.length_take]; omega)]
    rw [hd, List.map_append, List.map_cons, show ((l.take j).drop t).map pkOf ++ pkOf b :: (l.drop (j + 1)).map pkOf = (((l.take j).drop t).map pkOf ++ [pkOf b]) ++ (l.drop (j + 1)).map pkOf from by simp, getL_more _ _ _ hno, getL_snoc, if_pos (show (pkOf b).seq = seqOf b from rfl)]
    rfl
  · rw [if_neg h]
    apply getL_none
    intro p hp
    obtain ⟨y, hy, rfl⟩ := List.mem_map.1 hp
    obtain ⟨i, hi⟩ := List.getElem?_of_mem hy
    rw [List.getElem?_drop] at hi
    exact hn (l.length - N + i) (by omega) y hi
/-- What is sent, of packets one behind the other. -/
def Dn.outs (d : Dn) : List Sx → List (List UInt8)
  | [] => []
  | x :: l => (if d.is x = true then [d.told x] else []) ++ (d.next x).outs l
theorem Dn.outs_snoc (d : Dn) (l : List Sx) (x : Sx) : d.outs (l ++ [x]) = d.outs l ++ if (d.run l).is x = true then [(d.run l).told x] else [] := by
  induction l generalizing d with
  | nil =>
    show (if d.is x = true then [d.told x] else []) ++ [] = [] ++ _
    rw [List.append_nil]
    rfl
  | cons y l ih => rw [List.cons_append, Dn.outs, ih, Dn.outs, List.append_assoc]; rfl
theorem Dn.kept_outs {ssrc N : Nat} (hs : ssrc < 4294967296) (h1 : 1 ≤ N) (l : List Sx) (hl : ∀ x ∈ l, x.p.Fit) :
    ((Dn.new ssrc N).run l).kept = keptOf N ((Dn.new ssrc N).outs l) ∧ (∀ b ∈ (Dn.new ssrc N).outs l, ∃ q, parseP b = (q, 0) ∧ q.seq < 65536 ∧ b.length ≤ 1500) ∧ ((Dn.new ssrc N).outs l).length ≤ l.length := by
  obtain ⟨m, rfl⟩ : ∃ m, l = m.reverse := ⟨l.reverse, by rw [List.reverse_reverse]⟩
  induction m with
  | nil =>
    rw [List.reverse_nil]
    exact ⟨by show [] = (([] : List (List UInt8)).drop _).map pkOf; rw [List.drop_nil]; rfl, (by intro b hb; cases hb), Nat.le_refl _⟩
  | cons x m ih =>
    rw [List.reverse_cons] at hl ⊢
    have hl' : ∀ y ∈ m.reverse, y.p.Fit := fun y hy => hl y (by simp only [List.mem_append]; exact .inl hy)
    obtain ⟨i1, i2, i3⟩ := ih hl'
    obtain ⟨r1, r2, r3, r4⟩ := Dn.run_few (ssrc := ssrc) (room := N) _ hl'
    have hxf := hl x (by simp)
    rw [Dn.run_snoc, Dn.outs_snoc]
    generalize hD : (Dn.new ssrc N).run m.reverse = D at *
    unfold Dn.next Dn.is Dn.told
    rcases Dn.cases D x with ⟨e, q, _⟩ | ⟨ds, r, n, S, e⟩
    · rw [e, q.kept, i1]
      refine ⟨by simp, by simpa using i2, ?_⟩
      simp only [Option.isSome_none, Bool.false_eq_true, if_false, List.append_nil, List.length_append, List.length_singleton]
      omega
    · have hn := S.fit hxf r4
      obtain ⟨hp, hqf, hqe⟩ := Sx.out_parse (ssrc := D.ssrc) hxf S.err S.pay hn (by rw [r2]; exact hs)
      have hsq : seqOf (x.out D.ssrc ds n).bytes = n.seq := by unfold seqOf; rw [hp]; have := hn.seq; unfold Sx.out; dsimp only; omega
      rw [e, S.kept, r3, i1, show (⟨n.seq, (x.out D.ssrc ds n).bytes⟩ : Pk) = pkOf (x.out D.ssrc ds n).bytes from by unfold pkOf; rw [hsq], kept_snoc h1]
      refine ⟨rfl, ?_, ?_⟩
      · intro b hb
        rcases List.mem_append.1 hb with hb | hb
        · exact i2 b hb
        · have : b = (x.out D.ssrc ds n).bytes := by simpa using hb
          subst this
          exact ⟨_, hp, hqf.seq, Sx.out_length hqe⟩
      · simp only [Option.isSome_some, if_true, List.length_append, List.length_singleton]
        omega
end Go.Proofs.Yticnaljfnjiofaa
/-
  What is sent is the packet that came, but for numbers: plain. Nothing here names the program.
-/
namespace Go.Proofs.Yticnaljfnjiofaa

theorem Dsc.upd_back (d : Dsc) (p t : Nat) : ({ d.upd p t with pic := d.pic, tl0 := d.tl0 } : Dsc) = d := by
  unfold Dsc.upd
  rfl
/-- What is sent of a packet, parsed. -/
theorem Dn.sent_same {d : Dn} {x : Sx} (h : d.is x = true) (hf : x.p.Fit) {c : Int} (hc : d.nums.Fit c) (hs : d.ssrc < 4294967296) :
    ∃ q : Mp, ∃ ds e : Dsc, ∃ r : List UInt8, parseP (d.told x) = (q, 0) ∧ q.ssrc = d.ssrc ∧ x.muted = false ∧ parseS x.p.pay = some (ds, r) ∧ parseS q.pay = some (e, r) ∧ q.pay.length = x.p.pay.length ∧ ({ e with pic := ds.pic, tl0 := ds.tl0 } : Dsc) = ds ∧
      q.mark = x.p.mark ∧ q.typ = x.p.typ ∧ q.csrc = x.p.csrc ∧ q.exts = x.p.exts ∧ q.pad = x.p.pad ∧ q.Fit := by
  unfold Dn.is at h
  unfold Dn.told
  rcases Dn.cases d x with ⟨e, _, _⟩ | ⟨ds, r, n, S, e⟩
  · rw [e] at h
    cases h
  · have hn := S.fit hf hc
    obtain ⟨hp, hqf, _⟩ := Sx.out_parse (ssrc := d.ssrc) hf S.err S.pay hn hs
    have hw := write_facts S.pay n.pic.toNat n.tl0.toNat (by have := hn.tl0; omega)
    rw [e]
    exact ⟨x.out d.ssrc ds n, ds, ds.upd n.pic.toNat n.tl0.toNat, r, hp, rfl, S.muted, S.pay, hw.1, hw.2.1, Dsc.upd_back _ _ _, rfl, rfl, rfl, rfl, rfl, hqf⟩
theorem parse_rest {b r : List UInt8} {d : Dsc} (h : parseS b = some (d, r)) : r.length ≤ b.length ∧ b.drop (b.length - r.length) = r := by
  obtain ⟨pre, rfl, hl⟩ := parse_size h
  refine ⟨by simp, ?_⟩
  rw [List.length_append, Nat.add_sub_cancel, List.drop_left' rfl]
end Go.Proofs.Yticnaljfnjiofaa
