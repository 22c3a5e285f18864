/-
  A table's maps in memory; something put by a key that is new, or not.
-/
import Derived.Test.YtgjhcnpegaemoaaTbCr
import Derived.Test.YtgjhcnpegaemoaaTbR
import Derived.Test.YtgjhcnpegaemoaaTbD
import Derived.Test.YtgjhcnpegaemoaaTbO
import Derived.Test.YtgjhcnpegaemoaaOwnX
namespace Go.Proofs.Ytgjhcnpegaemoaa
open Go.RowKit Go.Maps
set_option linter.unusedSimpArgs false
set_option linter.unusedVariables false
set_option maxRecDepth 100000
def U32 (k : Int) : Prop := 0 ≤ k ∧ k < 4294967296
def I64 (k : Int) : Prop := -9223372036854775808 ≤ k ∧ k ≤ 9223372036854775807
theorem wfU {k : Int} (h : U32 k) : (Lit.int .u32 k).wf = true := by
  have e1 : IntKind.u32.min = 0 := by decide
  have e2 : IntKind.u32.max = 4294967295 := by decide
  unfold U32 at h
  simp [Lit.wf]
  omega
theorem wfI {k : Int} (h : I64 k) : (Lit.int .i64 k).wf = true := by
  have e1 : IntKind.i64.min = -9223372036854775808 := by decide
  have e2 : IntKind.i64.max = 9223372036854775807 := by decide
  unfold I64 at h
  simp [Lit.wf]
  omega
theorem laidT : laidOutB Try.prog = true := by kernel_rfl
theorem keyU : KeyG Try.prog 25 (fun k : Int => Value.int .u32 k) := KeyG.int Try.underlying25
theorem keyI : KeyG Try.prog 3 (fun k : Int => Value.int .i64 k) := KeyG.int Try.underlying3
theorem pair_inj (q1 q2 : IntKind) (a b : Int × Int) (h : pairV q1 q2 a = pairV q1 q2 b) : a = b := by
  obtain ⟨a, b⟩ := a
  unfold pairV at h
  simp at h
  obtain ⟨rfl, rfl⟩ := h
  rfl
theorem keyS : KeyG Try.prog 74 (pairV .i64 .i64) := ⟨Keyed.of_law (deep_law_laid laidT (m := 2) (by omega) (of_decide_eq_true (by kernel_rfl)) (by kernel_rfl) (by kernel_rfl)), pair_inj _ _⟩
theorem keyR : KeyG Try.prog 39 (pairV .i64 .u32) := ⟨Keyed.of_law (deep_law_laid laidT (m := 2) (by omega) (of_decide_eq_true (by kernel_rfl)) (by kernel_rfl) (by kernel_rfl)), pair_inj _ _⟩
theorem okU {k : Int} (h : U32 k) : KeyOk Try.prog 25 (fun k : Int => Value.int .u32 k) k := KeyOk.int Try.underlying25 (wfU h)
theorem okI {k : Int} (h : I64 k) : KeyOk Try.prog 3 (fun k : Int => Value.int .i64 k) k := KeyOk.int Try.underlying3 (wfI h)
theorem okS {k : Int × Int} (h1 : I64 k.1) (h2 : I64 k.2) : KeyOk Try.prog 74 (pairV .i64 .i64) k := KeyOk.pair Try.underlying74 Try.underlying3 Try.underlying3 rfl rfl rfl rfl (by kernel_rfl) (by kernel_rfl) (by kernel_rfl) (by kernel_rfl) (of_decide_eq_true (by kernel_rfl)) k (wfI h1) (wfI h2)
theorem okR {k : Int × Int} (h1 : I64 k.1) (h2 : U32 k.2) : KeyOk Try.prog 39 (pairV .i64 .u32) k := KeyOk.pair Try.underlying39 Try.underlying3 Try.underlying25 rfl rfl rfl rfl (by kernel_rfl) (by kernel_rfl) (by kernel_rfl) (by kernel_rfl) (of_decide_eq_true (by kernel_rfl)) k (wfI h1) (wfU h2)
theorem zeroRt (w : World) : (zeroValue 37).run Try.prog w = .ok (rtVal zeroR) w := by kernel_rfl
theorem zeroDn (w : World) : (zeroValue 41).run Try.prog w = .ok (dnVal zeroD) w := by kernel_rfl
theorem zeroU_r (w : World) : (zeroValue 25).run Try.prog w = .ok (sVal Rt.ssrc zeroR) w := by kernel_rfl
theorem zeroU_d (w : World) : (zeroValue 25).run Try.prog w = .ok (sVal Dn.ssrc zeroD) w := by kernel_rfl
theorem zeroM (w : World) : (zeroValue 75).run Try.prog w = .ok (mVal (0, none)) w := by kernel_rfl
def RMap (w : World) (m : Nat) (l : List Rt) : Prop := MapG Try.prog 25 (fun k : Int => Value.int .u32 k) Rt.ssrc rtDat rtElem w m l
def SMap (w : World) (m : Nat) (l : List Rt) : Prop := MapG Try.prog 74 (pairV .i64 .i64) Rt.strm (sDat Rt.ssrc) u32Elem w m l
def OMap (w : World) (m : Nat) (l : List Dn) : Prop := MapG Try.prog 25 (fun k : Int => Value.int .u32 k) Dn.ssrc dnDat dnElem w m l
def WMap (w : World) (m : Nat) (l : List Dn) : Prop := MapG Try.prog 3 (fun k : Int => Value.int .i64 k) Dn.who (sDat Dn.ssrc) u32Elem w m l
def FMap (w : World) (m : Nat) (l : List Dn) : Prop := MapG Try.prog 39 (pairV .i64 .u32) Dn.ref (sDat Dn.ssrc) u32Elem w m l
def TMap (w : World) (m : Nat) (l : List (Int × Option Nat)) : Prop := MapG Try.prog 3 (fun k : Int => Value.int .i64 k) Prod.fst mDat mElem w m l
end Go.Proofs.Ytgjhcnpegaemoaa
