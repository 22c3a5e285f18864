/-
  The contract of the document's Parse of layer 7.
-/
import Derived.Test.YtliiodjcpkabmaaVpUa
import Derived.Test.YtliiodjcpkabmaaVpUb
import Derived.Test.YtliiodjcpkabmaaVpUm00
import Derived.Test.YtliiodjcpkabmaaVpUm01
import Derived.Test.YtliiodjcpkabmaaVpUm10
import Derived.Test.YtliiodjcpkabmaaVpUm11
import Derived.Test.YtliiodjcpkabmaaVpUm20
import Derived.Test.YtliiodjcpkabmaaVpUm21
namespace Go.Proofs.Ytliiodjcpkabmaa
open Go.RowKit
set_option linter.unusedSimpArgs false

set_option maxRecDepth 100000 in
set_option maxHeartbeats 800000 in
theorem refParse_any (b : List UInt8) (w : World) (hl : b.length ≤ 100000) : Calls Try.prog 12 #[.string (str b)] w (RefParsed b w) := by
  cases b with
  | nil =>
    have HF := Lib.hid (show ∀ w', Below w.heap.size w w' → RefParsed [] w (.returned (.tuple #[.agg dsc0.plain, .int .i64 0, .int .i64 0, .int .i64 0, .int .i64 10])) w' from fun w' h => ⟨.inl ⟨rfl, rfl⟩, h⟩)
    have hnil : (str [] : ByteArray) = ⟨#[]⟩ := rfl
    rw [hnil]
    clear hnil
    go_enter Try.func12, Try.ntmps12
    go_wp2
    exact bodyPost_ret (v := .tuple #[.agg #[.bool false, .bool false, .bool false, .int .i64 0, .bool false, .bool false, .int .i64 0, .bool false, .int .i64 0, .bool false, .int .i64 0, .bool false, .bool false, .int .i64 0], .int .i64 0, .int .i64 0, .int .i64 0, .int .i64 10]) (by simp [results, Try.results12, go_sem]) rfl (HF.out _ ((Below.refl _ _).alloc (Nat.le_refl _) _))
  | cons f r =>
    by_cases hf : f.toNat < 128
    · exact refParse_lo (f :: r) _ f r w rfl hl rfl hf
    · by_cases hr : r = []
      · exact refParse_one (f :: r) _ f r w rfl hl rfl (by omega) hr
      · cases r with
        | nil => exact absurd rfl hr
        | cons t l0 =>
          cases hy : bitN t.toNat 64 <;> cases hx : bitN t.toNat 128
          · exact refParse_m00 (f :: t :: l0) _ f _ w rfl hl rfl (by omega) hr (by rintro _ _ ⟨⟩; exact hx) (by rintro _ _ ⟨⟩; exact hy)
          · by_cases hp : ∀ p r, l0 = p :: r → p.toNat < 128
            · exact refParse_m10 (f :: t :: l0) _ f _ w rfl hl rfl (by omega) hr (by rintro _ _ ⟨⟩; exact ⟨hx, hp⟩) (by rintro _ _ ⟨⟩; exact hy)
            · exact refParse_m20 (f :: t :: l0) _ f _ w rfl hl rfl (by omega) hr (by rintro _ _ ⟨⟩; exact ⟨hx, by simpa using hp⟩) (by rintro _ _ ⟨⟩; exact hy)
          · exact refParse_m01 (f :: t :: l0) _ f _ w rfl hl rfl (by omega) hr (by rintro _ _ ⟨⟩; exact hx) (by rintro _ _ ⟨⟩; exact hy)
          · by_cases hp : ∀ p r, l0 = p :: r → p.toNat < 128
            · exact refParse_m11 (f :: t :: l0) _ f _ w rfl hl rfl (by omega) hr (by rintro _ _ ⟨⟩; exact ⟨hx, hp⟩) (by rintro _ _ ⟨⟩; exact hy)
            · exact refParse_m21 (f :: t :: l0) _ f _ w rfl hl rfl (by omega) hr (by rintro _ _ ⟨⟩; exact ⟨hx, by simpa using hp⟩) (by rintro _ _ ⟨⟩; exact hy)
end Go.Proofs.Ytliiodjcpkabmaa
