/-
  How routes, downtracks, SSRCs and maps read as a map's elements. Nothing here names the program.
-/
import Derived.Test.YtgjhcnpegaemoaaTbPl
namespace Go.Proofs.Ytgjhcnpegaemoaa
def rtDat (x : Rt) : DataW Unit := .agg [.lit (.int .u32 x.ssrc), .lit (.int .i64 x.track), .lit (.int .i64 x.src), .lit (.int .i64 x.layer), .lit (.int .i64 x.shard)]
def rtVal (x : Rt) : Value := .agg x.cells.toArray
def rtElem (v : Value) : Option (DataW Unit × List MemPlace) :=
  match v with
  | .agg ⟨[.int .u32 a, .int .i64 b, .int .i64 c, .int .i64 d, .int .i64 e]⟩ => some (rtDat ⟨a, b, c, d, e⟩, [])
  | _ => none
theorem rt_reads : ReadG rtVal rtDat rtElem where
  put _ := rfl
  inv v y h := by
    unfold rtElem at h
    split at h
    · exact ⟨⟨_, _, _, _, _⟩, rfl⟩
    · cases h
  one x y h := by
    cases x; cases y
    simp only [rtDat, DataW.agg.injEq, List.cons.injEq, DataW.lit.injEq, Lit.int.injEq, and_true, true_and] at h
    obtain ⟨rfl, rfl, rfl, rfl, rfl⟩ := h
    rfl
def dnDat (x : Dn) : DataW Unit := .agg [.lit (.int .u32 x.ssrc), .lit (.int .i64 x.slot), .lit (.int .u32 x.turn), .lit (.int .i64 x.who), .lit (.int .i64 x.track), .lit (.int .i64 x.shard), .lit (.int .i64 x.src), .lit (.int .i64 x.layer), .lit (.int .i64 x.tid), .lit (.bool x.muted)]
def dnVal (x : Dn) : Value := .agg x.cells.toArray
def dnElem (v : Value) : Option (DataW Unit × List MemPlace) :=
  match v with
  | .agg ⟨[.int .u32 a, .int .i64 b, .int .u32 c, .int .i64 d, .int .i64 e, .int .i64 f, .int .i64 g, .int .i64 h, .int .i64 i, .bool j]⟩ => some (dnDat ⟨a, b, c, d, e, f, g, h, i, j⟩, [])
  | _ => none
theorem dn_reads : ReadG dnVal dnDat dnElem where
  put _ := rfl
  inv v y h := by
    unfold dnElem at h
    split at h
    · exact ⟨⟨_, _, _, _, _, _, _, _, _, _⟩, rfl⟩
    · cases h
  one x y h := by
    cases x; cases y
    simp only [dnDat, DataW.agg.injEq, List.cons.injEq, DataW.lit.injEq, Lit.int.injEq, Lit.bool.injEq, and_true, true_and] at h
    obtain ⟨rfl, rfl, rfl, rfl, rfl, rfl, rfl, rfl, rfl, rfl⟩ := h
    rfl
theorem fnd_route (l : List Rt) (s : Int) : fndG Rt.ssrc l s = routeS l s := rfl
theorem fnd_own (l : List Dn) (s : Int) : fndG Dn.ssrc l s = ownS l s := rfl
/-- An SSRC as an element. -/
def u32Elem (v : Value) : Option (DataW Unit × List MemPlace) :=
  match v with
  | .int .u32 a => some (.lit (.int .u32 a), [])
  | _ => none
section
variable {α : Type} (f : α → Int)
def sVal (x : α) : Value := .int .u32 (f x)
def sDat (x : α) : DataW Unit := .lit (.int .u32 (f x))
theorem s_reads (hf : ∀ c, ∃ x, f x = c) : ReadG (sVal f) (sDat f) u32Elem where
  put _ := rfl
  inv v y h := by
    unfold u32Elem at h
    split at h
    · rename_i a
      obtain ⟨x, hx⟩ := hf a
      exact ⟨x, by unfold sVal; rw [hx]⟩
    · cases h
  one x y h := by
    simp only [sDat, DataW.lit.injEq, Lit.int.injEq, true_and] at h
    unfold sVal
    rw [h]
end
theorem rts_reads : ReadG (sVal Rt.ssrc) (sDat Rt.ssrc) u32Elem := s_reads _ fun c => ⟨⟨c, 0, 0, 0, 0⟩, rfl⟩
theorem dns_reads : ReadG (sVal Dn.ssrc) (sDat Dn.ssrc) u32Elem := s_reads _ fun c => ⟨⟨c, 0, 0, 0, 0, 0, 0, 0, 0, false⟩, rfl⟩
/-- A map as an element: where it lies, or nil. -/
def mVal (x : Int × Option Nat) : Value := .map x.2
def mDat (x : Int × Option Nat) : DataW Unit := match x.2 with | some k => .lit (.int .i64 k) | none => .agg []
def mElem (v : Value) : Option (DataW Unit × List MemPlace) :=
  match v with
  | .map k => some (mDat (0, k), [])
  | _ => none
theorem m_reads : ReadG mVal mDat mElem where
  put _ := rfl
  inv v y h := by
    unfold mElem at h
    split at h
    · exact ⟨(0, _), rfl⟩
    · cases h
  one x y h := by
    obtain ⟨a, x⟩ := x
    obtain ⟨b, y⟩ := y
    unfold mVal
    cases x <;> cases y <;> simp [mDat] at h ⊢
    omega
/-- What a layer of a track goes by; what a slot in its turn goes by. -/
def Rt.strm (x : Rt) : Int × Int := (x.track, x.layer)
def Dn.ref (x : Dn) : Int × Int := (x.slot, x.turn)
theorem fnd_src (l : List Rt) (t y : Int) : fndG Rt.strm l (t, y) = sourceS l t y := by
  unfold fndG sourceS Rt.strm
  congr 1
  funext x
  simp
end Go.Proofs.Ytgjhcnpegaemoaa
