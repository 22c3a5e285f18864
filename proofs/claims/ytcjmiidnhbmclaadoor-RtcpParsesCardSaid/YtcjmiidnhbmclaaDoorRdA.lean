/-
  The document's read (layer 9): what its kinds share; kind 4.
-/
import Derived.Test.YtcjmiidnhbmclaaDoorRtG
import Derived.Test.YtcjmiidnhbmclaaDoorRtN
import Derived.Test.YtcjmiidnhbmclaaDoorRcL
import Derived.Test.YtcjmiidnhbmclaaDoorHang
namespace Go.Proofs.YtcjmiidnhbmclaaDoor
set_option maxRecDepth 100000
set_option linter.unusedSimpArgs false
open Go.RowKit

/-- What read tells: the message, the error, and its rows. -/
def RdR (p : Ms × Int) (w : World) (e : Ending) (w' : World) : Prop :=
  ∃ s, e = .returned (.tuple #[.agg (p.1.cells s).toArray, .int .i64 p.2]) ∧ MsAt w' w'.heap.size p.1 s ∧ SlNew w.heap.size s ∧ Below w.heap.size w w'
theorem rdzero_at (w : World) (B : Nat) (m : Ms) (h1 : m.reps = []) (h2 : m.who = []) (h3 : m.pairs = []) (h4 : m.asks = []) : MsAt w B m ⟨none, 0, none, 0, none, 0, none, 0⟩ := by
  constructor
  · rw [h1]; exact Row.nil
  · rw [h2]; exact Row.nil
  · rw [h3]; exact Row.nil
  · rw [h4]; exact Row.nil
theorem RdR.plain {w w' : World} {p : Ms × Int} (m : Ms) (er : Int) (h : Below w.heap.size w w') (hp : p = (m, er)) (h1 : m.reps = []) (h2 : m.who = []) (h3 : m.pairs = []) (h4 : m.asks = []) :
    RdR p w (.returned (.tuple #[.agg #[.int .i64 m.kind, .int .u32 (m.ssrc : Int), .int .u32 (m.media : Int), .int .u64 (m.clock : Int), .int .u32 (m.time : Int), .int .u32 (m.packets : Int), .int .u32 (m.bytes : Int), .slice none 0 0, .slice none 0 0, .slice none 0 0, .slice none 0 0, .int .u8 (m.typ : Int)], .int .i64 er])) w' := by
  subst hp
  refine ⟨⟨none, 0, none, 0, none, 0, none, 0⟩, ?_, rdzero_at _ _ m h1 h2 h3 h4, SlNew.empty _, h⟩
  simp [Ms.cells, h1, h2, h3, h4]
theorem rnum_any (s : List UInt8) (i n x : Nat) (hx : numAt s i n = x) (w : World) (hl : s.length ≤ maxLen) (h1 : 1 ≤ n) (h8 : n ≤ 8) (hin : i + n ≤ s.length) :
    Calls Tryd.prog 28 #[.string (str s), .int .i64 i, .int .i64 n] w fun e w' => e = .returned (.int .u64 (x : Int)) ∧ Below w.heap.size w w' := by
  subst hx
  exact num_any s i n w hl h1 h8 hin

theorem u32_nat9 (x : Nat) (h : x < 4294967296) : IntKind.u32.wrap (x : Int) = (x : Int) := by
  simp only [IntKind.wrap, IntKind.bits, IntKind.signed]; simp; omega
theorem i64_nat9d (x : Nat) (h : x < 1000000) : IntKind.i64.wrap (x : Int) = (x : Int) := i64_nat9 x (by omega)
theorem i64_sum9 (x y z : Nat) (h : x + y = z) (hz : z < 1000000) : IntKind.i64.wrap ((x : Int) + (y : Int)) = (z : Int) := by
  rw [show (x : Int) + (y : Int) = (z : Int) by omega]; exact i64_nat9d z hz
theorem i64_mul9 (x y z : Nat) (h : x * y = z) (hz : z < 1000000) : IntKind.i64.wrap ((x : Int) * (y : Int)) = (z : Int) := by
  rw [show (x : Int) * (y : Int) = (z : Int) by rw [← h]; simp]; exact i64_nat9d z hz
theorem info_u32D : (Tryd.prog.info? 43).map (fun i => (i.zero, i.size, i.bytes)) = some (some (.int .u32 0), 1, 4) := by kernel_rfl
theorem numAt_one (s : List UInt8) (k : Nat) (hk : k < s.length) : numAt s k 1 = (s[k]).toNat := by
  unfold numAt
  rw [List.drop_eq_getElem_cons hk]
  show 0 * 256 + (s[k]).toNat = _
  omega
theorem run_byte9 (s : List UInt8) (k y : Nat) (hk : k < s.length) (hy : numAt s k 1 = y) (w : World) : (Instr.index 9 (.string (str s)) (.int .i64 (k : Int))).run Tryd.prog w = .ok (.int .u8 (y : Int)) w := by
  subst hy
  rw [numAt_one s k hk, run_index_string (P := Tryd.prog) w 9 (str s) .i64 k Tryd.underlying9, dif_pos (by rw [str_size]; omega)]
  simp only [Int.toNat_natCast, str_get]
theorem sl_new {w : World} {base : Nat} {e : TypeId} {z n c : Nat} {A : Option Addr} {xs : List Value} (h : w.ownsRow base e z (.slice A n c) n xs) {B : Nat} (hB : B ≤ base) : ∀ a, A = some a → B ≤ a.block :=
  fun a ha => Nat.le_trans hB (oown_lo h a ha)
theorem no_new (B : Nat) : ∀ a, (none : Option Addr) = some a → B ≤ a.block := fun _ e => by cases e
theorem rdReps_succ (s : List UInt8) (a k : Nat) : rdReps s a (k + 1) = rdReps s a k ++ [rdRep s (a + 24 * k)] := by simp [rdReps, List.range_succ]
theorem rdWho_succ (s : List UInt8) (k : Nat) : rdWho s (k + 1) = rdWho s k ++ [numAt s (4 * k) 4] := by simp [rdWho, List.range_succ]
theorem rdPairs_succ (s : List UInt8) (k : Nat) : rdPairs s (k + 1) = rdPairs s k ++ [(numAt s (8 + 4 * k) 2, numAt s (8 + 4 * k + 2) 2)] := by simp [rdPairs, List.range_succ]
theorem rdAsks_succ (s : List UInt8) (k : Nat) : rdAsks s (k + 1) = rdAsks s k ++ [(numAt s (8 + 8 * k) 4, numAt s (8 + 8 * k + 4) 1)] := by simp [rdAsks, List.range_succ]
end Go.Proofs.YtcjmiidnhbmclaaDoor
