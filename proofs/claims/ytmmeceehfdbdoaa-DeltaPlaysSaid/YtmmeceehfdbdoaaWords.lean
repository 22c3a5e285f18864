/-
  Plain words on memory that the proofs over layer 1 share: cells that a slice reads as, a block that is known whole, bytes as cells, append onto a row of the call's own. Nothing here names the program.
-/
import Derived.WalkKit
import Derived.WalkLawsBesides
import Derived.WalkSpells
import Derived.Lib.Hide
import Derived.Deep.Draws
import Derived.Deep.DeepMust
import Derived.Deep.DeepFit
import Derived.Maps.AppendAt
namespace Go.Proofs.Ytmmeceehfdbdoaa
open Go.RowKit

/-- The slice value whose address is A, of n elements (z cells each), reads as the cells xs; all of it lies below block B. A slice without elements may lie anywhere, or be nil. -/
def Row (w : World) (B z : Nat) (A : Option Addr) (n : Nat) (xs : List Value) : Prop :=
  xs.length = n * z ∧ (0 < n → ∃ g o, A = some ⟨g, o, none⟩ ∧ g < B ∧ ∀ j u, xs[j]? = some u → w.cell? ⟨g, o + j, none⟩ = some u)

section
variable {w w' : World} {B B' z n : Nat} {A : Option Addr} {xs : List Value}
theorem Row.nil : Row w B z A 0 [] := ⟨by simp, fun h => absurd h (by omega)⟩
theorem Row.keep (h : Row w B z A n xs) (hk : ∀ g o, g < B → w'.cell? ⟨g, o, none⟩ = w.cell? ⟨g, o, none⟩) : Row w' B z A n xs :=
  ⟨h.1, fun hn => by
    obtain ⟨g, o, e, hb, hc⟩ := h.2 hn
    exact ⟨g, o, e, hb, fun j u hu => (hk g _ hb).trans (hc j u hu)⟩⟩
theorem Row.more (h : Row w B z A n xs) (hB : B ≤ B') : Row w B' z A n xs :=
  ⟨h.1, fun hn => by
    obtain ⟨g, o, e, hb, hc⟩ := h.2 hn
    exact ⟨g, o, e, by omega, hc⟩⟩
theorem Row.below {b : Nat} (h : Row w B z A n xs) (hb : Below b w w') (hB : B ≤ b) : Row w' B z A n xs := h.keep fun g o hg => hb.cell (p := ⟨g, o, none⟩) (by simpa using (by omega : g < b))
theorem Row.alloc (h : Row w B z A n xs) (hB : B ≤ w.heap.size) (o : Obj) : Row (w.alloc o) B z A n xs := h.keep fun g q hg => World.cell?_alloc_lt w o ⟨g, q, none⟩ (by simpa using (by omega : g < w.heap.size))
theorem Row.set (h : Row w B z A n xs) {p : Addr} (hB : B ≤ p.block) (u : Value) : Row (w.setCell p u) B z A n xs :=
  h.keep fun g q hg => World.cell?_setCell_other w p ⟨g, q, none⟩ u (fun e => by subst e; simp at hB; omega)
theorem Row.drew (h : Row w B z A n xs) : Row w.drew B z A n xs := h
theorem Row.grown (h : Row w B z A n xs) {row : Option Nat} (hg : w.grownBy w' row) (hB : B ≤ w.heap.size) (hr : ∀ k, row = some k → B ≤ k) : Row w' B z A n xs :=
  h.keep fun g q hgb => World.cell?_of_block (a := ⟨g, q, none⟩) (hg.block g (by omega) (fun e => by have := hr g e.symm; omega))
theorem Row.take {k : Nat} (h : Row w B 1 A n xs) (hk : k ≤ n) : Row w B 1 A k (xs.take k) := by
  have hl := h.1
  refine ⟨by simp; omega, fun h0 => ?_⟩
  obtain ⟨g, o, e, hb, hc⟩ := h.2 (by omega)
  exact ⟨g, o, e, hb, fun j u hu => hc j u (by rw [List.getElem?_take] at hu; split at hu <;> simp_all)⟩
theorem Row.drop {k c : Nat} {A' : Option Addr} (h : Row w B 1 A n xs) (hk : k ≤ n) (hc : n ≤ c) (hA : A' = if c = k then A else A.map fun x => x.add k) : Row w B 1 A' (n - k) (xs.drop k) := by
  have hl := h.1
  refine ⟨by simp; omega, fun h0 => ?_⟩
  obtain ⟨g, o, e, hb, hcell⟩ := h.2 (by omega)
  rw [if_neg (by omega)] at hA
  subst e
  refine ⟨g, o + k, by simpa [Addr.add_lit] using hA, hb, fun j u hu => ?_⟩
  rw [List.getElem?_drop] at hu
  rw [Nat.add_assoc]
  exact hcell _ u hu
/-- What append(s, x) of one element lays first: a block of that one cell. -/
theorem Row.one (w : World) (t : TypeId) (u : Value) : Row (w.alloc (.cells #[u] t)) (w.heap.size + 1) 1 (some ⟨w.heap.size, 0, none⟩) 1 [u] := by
  refine ⟨rfl, fun _ => ⟨w.heap.size, 0, rfl, Nat.lt_succ_self _, fun j v hv => ?_⟩⟩
  match j, hv with
  | 0, hv =>
    simp at hv
    subst hv
    simp
/-- A slice literal's new block. -/
theorem Row.lit (w : World) (t : TypeId) (cs : Array Value) (z n : Nat) (h : cs.size = n * z) : Row (w.alloc (.cells cs t)) (w.heap.size + 1) z (some ⟨w.heap.size, 0, none⟩) n cs.toList := by
  refine ⟨by simpa using h, fun _ => ⟨w.heap.size, 0, rfl, Nat.lt_succ_self _, fun j v hv => ?_⟩⟩
  rw [Nat.zero_add, World.cell?_alloc_new]
  simpa using hv
theorem Row.fresh (w : World) (t : TypeId) (cs : Array Value) (z n : Nat) (xs : List Value) (h : cs.size = n * z) (hx : cs.toList = xs) : Row (w.alloc (.cells cs t)) (w.alloc (.cells cs t)).heap.size z (some ⟨w.heap.size, 0, none⟩) n xs := by
  subst hx
  have e : (w.alloc (.cells cs t)).heap.size = w.heap.size + 1 := by simp
  rw [e]
  exact Row.lit w t cs z n h
theorem Row.of_own {base : Nat} {e : TypeId} {c : Nat} (h : w.ownsRow base e z (.slice A n c) n xs) : Row w w.heap.size z A n xs := by
  refine ⟨h.1, fun hn => ?_⟩
  rcases h.2 with ⟨hv, h0⟩ | ⟨g, cap, cur, hv, _, hgg, _⟩
  · omega
  · have hA : A = some ⟨g, 0, none⟩ := by injection hv
    subst hA
    refine ⟨g, 0, rfl, (Array.getElem?_eq_some_iff.1 hgg).1, fun j u hu => ?_⟩
    have := h.cells (g := g) rfl j u hu
    rwa [Addr.add_lit] at this
end

/-- Block g is just the cells cs, of elements of type t; none is frozen. -/
def Whole (w : World) (g : Nat) (t : TypeId) (cs : Array Value) : Prop := w.heap[g]? = some (.cells cs t (0, 0))

section
variable {w w' : World} {g : Nat} {t : TypeId} {cs : Array Value}
theorem Whole.lt (h : Whole w g t cs) : g < w.heap.size := (Array.getElem?_eq_some_iff.1 h).1
theorem Whole.cell (h : Whole w g t cs) (i : Nat) : w.cell? ⟨g, i, none⟩ = cs[i]? := cell_of_row w g i cs t (0, 0) h
theorem Whole.free (h : Whole w g t cs) (i : Nat) : w.frozen? ⟨g, i, none⟩ = false := by
  have h' : w.heap[g]? = some (.cells cs t (0, 0)) := h
  simp [World.frozen?, h']
theorem Whole.new (w : World) (t : TypeId) (cs : Array Value) : Whole (w.alloc (.cells cs t)) w.heap.size t cs := heap_alloc_new w _
theorem Whole.new2 (w : World) (o : Obj) (t : TypeId) (cs : Array Value) : Whole ((w.alloc o).alloc (.cells cs t)) (w.heap.size + 1) t cs := by
  have := Whole.new (w.alloc o) t cs
  simpa using this
theorem Whole.alloc (h : Whole w g t cs) (o : Obj) : Whole (w.alloc o) g t cs := (Below.heap_alloc w o g h.lt).trans h
theorem Whole.set (h : Whole w g t cs) (i : Nat) (u : Value) : Whole (w.setCell ⟨g, i, none⟩ u) g t (cs.setIfInBounds i u) := by
  have h' : w.heap[g]? = some (.cells cs t (0, 0)) := h
  show (w.setCell ⟨g, i, none⟩ u).heap[g]? = _
  simp [World.setCell, Array.getElem?_modify, h']
theorem Whole.far (h : Whole w g t cs) {p : Addr} (hp : g ≠ p.block) (u : Value) : Whole (w.setCell p u) g t cs := (Below.heap_setCell w p u g hp).trans h
theorem Whole.below {b : Nat} (h : Whole w g t cs) (hb : Below b w w') (hg : g < b) : Whole w' g t cs := (hb.block g hg).trans h
theorem Whole.drew (h : Whole w g t cs) : Whole w.drew g t cs := h
theorem Whole.grown {row : Option Nat} (h : Whole w g t cs) (hb : w.grownBy w' row) (hg : some g ≠ row) : Whole w' g t cs := (hb.block g h.lt hg).trans h
end

/-- A row of elements of another type lies in another block. -/
theorem own_far {w : World} {g : Nat} {t : TypeId} {cs : Array Value} {base : Nat} {e : TypeId} {z n : Nat} {v : Value} {xs : List Value} (h : w.ownsRow base e z v n xs) (hg : Whole w g t cs) (hne : e ≠ t) : some g ≠ v.ownBlock := by
  rcases h.2 with ⟨rfl, _⟩ | ⟨g', cap, cur, rfl, _, hh, _⟩
  · simp [Value.ownBlock]
  · intro he
    have : g' = g := by simpa [Value.ownBlock] using he.symm
    subst this
    have hg' : w.heap[g']? = some (.cells cs t (0, 0)) := hg
    rw [hh] at hg'
    injection hg' with hg'
    injection hg' with _ ht
    exact hne ht

/-- Below b the two worlds are alike, and the old cells of a block from b on may have turned. -/
theorem below_set_whole {b : Nat} {w w' : World} (h : Below b w w') {p : Addr} (hp : b ≤ p.block) (u : Value) : Below b w (w'.setCell p u) := h.setCell hp u

theorem wf_u8 {n : Int} (h : (Lit.int .u8 n).wf = true) : 0 ≤ n ∧ n < 256 := by
  have h1 : IntKind.u8.min ≤ n ∧ n ≤ IntKind.u8.max := by simpa [Lit.wf] using h
  have e1 : IntKind.u8.min = 0 := by decide
  have e2 : IntKind.u8.max = 255 := by decide
  omega
theorem wf_u16 {n : Int} (h : (Lit.int .u16 n).wf = true) : 0 ≤ n ∧ n < 65536 := by
  have h1 : IntKind.u16.min ≤ n ∧ n ≤ IntKind.u16.max := by simpa [Lit.wf] using h
  have e1 : IntKind.u16.min = 0 := by decide
  have e2 : IntKind.u16.max = 65535 := by decide
  omega
theorem wf_u32 {n : Int} (h : (Lit.int .u32 n).wf = true) : 0 ≤ n ∧ n < 4294967296 := by
  have h1 : IntKind.u32.min ≤ n ∧ n ≤ IntKind.u32.max := by simpa [Lit.wf] using h
  have e1 : IntKind.u32.min = 0 := by decide
  have e2 : IntKind.u32.max = 4294967295 := by decide
  omega
theorem wf_u64 {n : Int} (h : (Lit.int .u64 n).wf = true) : 0 ≤ n ∧ n < 18446744073709551616 := by
  have h1 : IntKind.u64.min ≤ n ∧ n ≤ IntKind.u64.max := by simpa [Lit.wf] using h
  have e1 : IntKind.u64.min = 0 := by decide
  have e2 : IntKind.u64.max = 18446744073709551615 := by decide
  omega
theorem wf_i64 {n : Int} (h : (Lit.int .i64 n).wf = true) : -9223372036854775808 ≤ n ∧ n < 9223372036854775808 := by
  have h1 : IntKind.i64.min ≤ n ∧ n ≤ IntKind.i64.max := by simpa [Lit.wf] using h
  have e1 : IntKind.i64.min = -9223372036854775808 := by decide
  have e2 : IntKind.i64.max = 9223372036854775807 := by decide
  omega

/-- Bytes as cells. -/
def u8s (l : List UInt8) : List Value := l.map fun b => .int .u8 (b.toNat : Int)
theorem u8s_length (l : List UInt8) : (u8s l).length = l.length := by simp [u8s]
theorem u8s_append (l m : List UInt8) : u8s (l ++ m) = u8s l ++ u8s m := by simp [u8s]
theorem u8s_drop (l : List UInt8) (k : Nat) : u8s (l.drop k) = (u8s l).drop k := by simp [u8s, List.map_drop]
theorem u8s_take (l : List UInt8) (k : Nat) : u8s (l.take k) = (u8s l).take k := by simp [u8s, List.map_take]
theorem u8s_get (l : List UInt8) (j : Nat) (hj : j < l.length) : (u8s l)[j]? = some (.int .u8 (l[j].toNat : Int)) := by simp [u8s, hj]
theorem u8s_one (l : List UInt8) : ∀ u ∈ u8s l, u.oneCell' = true := by
  intro u hu
  obtain ⟨_, _, rfl⟩ := List.mem_map.1 hu
  rfl
theorem u8_lt (b : UInt8) : (b.toNat : Int) < 256 := by have := b.toNat_lt; omega

/-- The text of bytes. -/
def str (l : List UInt8) : ByteArray := ⟨l.toArray⟩
@[go_sem] theorem str_size (l : List UInt8) : (str l).size = l.length := by simp [str, ByteArray.size]
theorem str_data (l : List UInt8) : (str l).data.toList = l := by simp [str]
theorem str_eta (s : ByteArray) : str s.data.toList = s := by apply ByteArray.ext; simp [str]
@[go_sem] theorem str_add (l m : List UInt8) : str l ++ str m = str (l ++ m) := ByteArray.mk_append_mk l m

@[go_sem] theorem str_get (l : List UInt8) (k : Nat) (h : k < (str l).size) : (str l)[k]'h = l[k]'(by rw [str_size] at h; exact h) := by
  show (str l).data[k]'_ = _
  simp [str]
theorem str_extract (l : List UInt8) (a b : Nat) : (str l).extract a b = str ((l.take b).drop a) := by
  apply ByteArray.ext
  simp [str, List.drop_take]
@[go_sem] theorem str_head (l : List UInt8) (n : Nat) : (str l).extract 0 n = str (l.take n) := by rw [str_extract, List.drop_zero]
@[go_sem] theorem str_tail (l : List UInt8) (n : Nat) : (str l).extract n l.length = str (l.drop n) := by rw [str_extract, List.take_length]

/-- string(b) of a row of bytes. -/
theorem run_text {P : Program} (w : World) (src e dst : TypeId) (hs : P.underlying src = some (.slice e)) (he : P.underlying e = some (.int .u8)) (hd : P.underlying dst = some .string)
    (B : Nat) (A : Option Addr) (n c : Nat) (l : List UInt8) (h : Row w B 1 A n (u8s l)) : (convert src dst (.slice A n c)).run P w = .ok (.string (str l)) w := by
  have hl : l.length = n := by have := h.1; rw [u8s_length] at this; omega
  rcases Nat.eq_zero_or_pos n with h0 | h0
  · subst h0
    obtain rfl : l = [] := List.eq_nil_of_length_eq_zero hl
    cases A with
    | none => exact run_convert_bytes_nil w src e hs he 0 c dst hd
    | some a =>
      rw [run_convert_bytes_string w src dst e _ 0 c hs he hd, run_bytesToString w a 0 c [] (by simpa using run_loadCells_list (P := P) w a [] (by simp))]
      rfl
  · obtain ⟨g, o, rfl, _, hc⟩ := h.2 h0
    have := run_convert_bytes_arg (P := P) w src e hs he g o n c (l.map fun b => (b.toNat : Int)) (by simpa using hl) (fun i hi => by
      have hu := u8s_get l i (by omega)
      rw [hc i _ hu]
      simp [List.getD, show i < l.length by omega]) dst hd
    rw [this]
    congr 2
    apply ByteArray.ext
    simp [strOfNums, str, Function.comp_def]

/-- string([]byte{b}). -/
theorem run_text_one {P : Program} (w : World) (src e dst : TypeId) (hs : P.underlying src = some (.slice e)) (he : P.underlying e = some (.int .u8)) (hd : P.underlying dst = some .string)
    (v : Int) (h0 : 0 ≤ v) (h1 : v < 256) : (convert src dst (.slice (some ⟨w.heap.size, 0, none⟩) 1 1)).run P (w.alloc (.cells #[.int .u8 v] e)) = .ok (.string (str [UInt8.ofNat v.toNat])) (w.alloc (.cells #[.int .u8 v] e)) := by
  have e1 : u8s [UInt8.ofNat v.toNat] = [.int .u8 v] := by
    simp only [u8s, List.map_cons, List.map_nil, UInt8.toNat_ofNat']
    rw [show ((v.toNat % 2 ^ 8 : Nat) : Int) = v by omega]
  refine run_text (P := P) _ src e dst hs he hd (w.heap.size + 1) _ 1 1 [UInt8.ofNat v.toNat] ?_
  rw [e1]
  exact Row.one w e (.int .u8 v)
/-- '+' of two texts. -/
theorem run_str_add {P : Program} (w : World) (l m : List UInt8) (h : l.length + m.length ≤ 9223372036854775807) : (Op.stringOp .add (str l) (str m)).run P w = .ok (.string (str (l ++ m))) w := by
  rw [run_string_add_sum w _ _ (by rw [str_size, str_size]; exact h), str_add]

/-- append(s, x...) onto a row of the call's own; x may be nil, empty or not. -/
theorem wpl_append {P : Program} (w : World) {ops : Array Oper} {rest : List Oper} {o : Oper} {a : Act} {Q : Exit → Act → World → Prop} (hgd : o.guard = none) (s x : Operand) (t : TypeId)
    (ho : o.op = .call { callee := .builtin .append, args := #[s, x], argTypes := #[t, t] })
    (base : Nat) (e : TypeId) (zero : Value) (z bytes : Nat) (ht : P.underlying t = some (.slice e)) (hi : (P.info? e).map (fun i => (i.zero, i.size, i.bytes)) = some (some zero, z, bytes)) (hzs : zero.cells.size = z) (hsz : 0 < z)
    (v : Value) (n : Nat) (xs : List Value) (hs : a.eval s = v) (hown : w.ownsRow base e z v n xs)
    (B : Nat) (A : Option Addr) (m c : Nat) (news : List Value) (hx : a.eval x = .slice A m c) (hr : Row w B z A m news) (h1 : ∀ u ∈ news, u.oneCell' = true)
    (h63 : n + m ≤ maxLen) (hbytes : (n + m) * bytes ≤ 140737488355328) (hbase : base ≤ w.heap.size)
    (h : ∀ v' w', w'.ownsRow base e z v' (n + m) (xs ++ news) → w.grownBy w' v.ownBlock → (v'.ownBlock = v.ownBlock ∨ v'.ownBlock = some w.heap.size) → wpList P ops Q rest (a.put o.dst v') w') :
    wpList P ops Q (o :: rest) a w := by
  obtain ⟨i, hi0, hi1, hi2, hi3⟩ := info_parts hi
  have key : ∃ v' w', (Builtin.append_ #[t, t] o.type #[v, .slice A m c]).run P w = .ok v' w' ∧ w'.ownsRow base e z v' (n + m) (xs ++ news) ∧ w.grownBy w' v.ownBlock ∧
      (v'.ownBlock = v.ownBlock ∨ v'.ownBlock = some w.heap.size) := by
    rcases Nat.eq_zero_or_pos m with h0 | h0
    · subst h0
      obtain rfl : news = [] := List.eq_nil_of_length_eq_zero (by simpa using hr.1)
      cases A with
      | none =>
        refine ⟨v, w, ?_, by simpa using hown, World.grownBy.refl w _, .inl rfl⟩
        rcases hown.2 with ⟨rfl, rfl⟩ | ⟨g, cap, cur, rfl, _, _, hnc, _⟩
        · simp [Builtin.append_, run_underlying ht, sizeOf, typeInfo, hi0, Builtin.lenOf, Builtin.firstCells]
        · simp [Builtin.append_, run_underlying ht, sizeOf, typeInfo, hi0, Builtin.lenOf, Builtin.firstCells, hnc, storeCells]
      | some ad =>
        obtain ⟨v', w', hrun, h2, h3, _, h5⟩ := run_append_own_at (P := P) w base t o.type e i zero z bytes ht hi0 hi1 hi2 hi3 hzs hsz v n xs hown ad 0 c [] (by simp) (by simp) (by simp) h63 hbytes hbase
        exact ⟨v', w', hrun, h2, h3, h5⟩
    · obtain ⟨g, q, rfl, _, hc⟩ := hr.2 h0
      obtain ⟨v', w', hrun, h2, h3, _, h5⟩ := run_append_own_at (P := P) w base t o.type e i zero z bytes ht hi0 hi1 hi2 hi3 hzs hsz v n xs hown ⟨g, q, none⟩ m c news hr.1 (fun j u hu => by rw [Addr.add_lit]; exact hc j u hu) h1 h63 hbytes hbase
      exact ⟨v', w', hrun, h2, h3, h5⟩
  obtain ⟨v', w', hrun, h2, h3, h4⟩ := key
  refine wpList_plain hgd fun K hK => ?_
  unfold Oper.wp
  simp [execOp, ho, resolve, invoke, builtin, hs, hx, hrun, Result.andThen]
  exact hK _ _ (h v' w' h2 h3 h4)

end Go.Proofs.Ytmmeceehfdbdoaa
