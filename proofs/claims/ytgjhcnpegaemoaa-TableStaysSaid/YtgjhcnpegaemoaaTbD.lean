/-
  Contracts of the law's routes and downs, and of the document's Downs (layer 17).
-/
import Derived.Test.YtgjhcnpegaemoaaTbR
import Derived.Deep.AppendLies
namespace Go.Proofs.Ytgjhcnpegaemoaa
open Go.RowKit
set_option linter.unusedSimpArgs false
set_option linter.unusedVariables false
set_option maxRecDepth 100000

theorem info_RD17 : (Try.prog.info? 44).map (fun i => (i.zero, i.size, i.bytes)) = some (some (.agg #[.int .u32 0, .int .i64 0, .int .i64 0, .int .i64 0, .int .i64 0]), 5, 40) := by kernel_rfl
theorem info_DD17 : (Try.prog.info? 49).map (fun i => (i.zero, i.size, i.bytes)) = some (some (.agg #[.int .u32 0, .int .i64 0, .int .u32 0, .int .i64 0, .int .i64 0, .int .i64 0, .int .i64 0, .int .i64 0, .int .i64 0, .bool false]), 10, 80) := by kernel_rfl
theorem rowz_take {w : World} {B z n k : Nat} {A : Option Addr} {xs : List Value} (h : Row w B z A n xs) (hk : k ≤ n) : Row w B z A k (xs.take (k * z)) := by
  have hl := h.1
  have hkz : k * z ≤ n * z := Nat.mul_le_mul_right z hk
  refine ⟨by rw [List.length_take]; omega, fun h0 => ?_⟩
  obtain ⟨g, o, e, hb, hc⟩ := h.2 (by omega)
  exact ⟨g, o, e, hb, fun j u hu => hc j u (by rw [List.getElem?_take] at hu; split at hu <;> simp_all)⟩

/-- A new row of the call's own. -/
def NewRow (t : TypeId) (z n : Nat) (xs : List Value) (w : World) (e : Ending) (w' : World) : Prop := ∃ A c, e = .returned (.slice A n c) ∧ w'.ownsRow w.heap.size t z (.slice A n c) n xs ∧ Below w.heap.size w w'

set_option maxHeartbeats 3200000 in
theorem routes17 (A : Option Addr) (c : Nat) (l : List Rt) (w : World) (hr : Row w w.heap.size 5 A l.length (rtC l)) (hl : l.length ≤ 4096) :
    Calls Try.prog 10 #[.slice A l.length c] w (NewRow 44 5 l.length (rtC l) w) := by
  have HR := Lib.hid hr
  obtain ⟨n, hn⟩ : ∃ n, l.length = n := ⟨_, rfl⟩
  have HN := Lib.hid hn
  rw [hn] at hl HR ⊢
  clear hr hn
  go_enter Try.func10, Try.ntmps10
  go_wp2_with fail
  go_loopw [3, 4] (fun v i wr => ∃ k : Nat, k ≤ n ∧ i = .int .i64 (k : Int) ∧ wr.ownsRow w.heap.size 44 5 v k (rtC (l.take k)) ∧ Below w.heap.size w wr) (fun _ i _ => n - (intOf i).toNat)
  case atStart => exact ⟨0, Nat.zero_le _, rfl, World.ownsRow_nil _ _ _ _, Below.refl _ _⟩
  case round =>
    obtain ⟨k, hk, rfl, hown, hb⟩ := hrel
    obtain ⟨Av, cv, rfl⟩ := own_form hown
    have HO := Lib.hid hown
    have HB := Lib.hid hb
    have hsz := hb.size
    have hfar := Lib.hid (fun a ha => (hown.lt a ha).1)
    clear hown hb
    by_cases hlt : k < n
    · obtain ⟨x, hx⟩ : ∃ x, l[k]? = some x := ⟨_, List.getElem?_eq_getElem (by rw [HN.out]; exact hlt)⟩
      obtain ⟨g, o, rfl, hg, hc⟩ := HR.out.2 (by omega)
      have h0 := hc _ _ ((rtC_get hx 0 (by decide)).trans rfl)
      have h1 := hc _ _ ((rtC_get hx 1 (by decide)).trans rfl)
      have h2 := hc _ _ ((rtC_get hx 2 (by decide)).trans rfl)
      have h3 := hc _ _ ((rtC_get hx 3 (by decide)).trans rfl)
      have h4 := hc _ _ ((rtC_get hx 4 (by decide)).trans rfl)
      rw [Nat.add_zero] at h0
      rw [← Nat.add_assoc] at h1 h2 h3 h4
      have HT := Lib.hid (take_add hx)
      obtain ⟨xs, xt, xf, xl, xh⟩ := x
      dsimp only at h0 h1 h2 h3 h4
      have KEEP := Lib.hid (fun w' (b : Below w.heap.size w w') => show (fun w' => w'.cell? ⟨g, o + k * 5, none⟩ = some (.int .u32 xs) ∧ w'.cell? ⟨g, o + k * 5 + 1, none⟩ = some (.int .i64 xt) ∧ w'.cell? ⟨g, o + k * 5 + 2, none⟩ = some (.int .i64 xf) ∧ w'.cell? ⟨g, o + k * 5 + 3, none⟩ = some (.int .i64 xl) ∧ w'.cell? ⟨g, o + k * 5 + 4, none⟩ = some (.int .i64 xh)) w' from
        ⟨(b.cell (p := ⟨g, o + k * 5, none⟩) hg).trans h0, (b.cell (p := ⟨g, o + k * 5 + 1, none⟩) hg).trans h1, (b.cell (p := ⟨g, o + k * 5 + 2, none⟩) hg).trans h2, (b.cell (p := ⟨g, o + k * 5 + 3, none⟩) hg).trans h3, (b.cell (p := ⟨g, o + k * 5 + 4, none⟩) hg).trans h4⟩)
      have hi1 : (0 : Int) ≤ (k : Int) := by omega
      have hi2 : (k : Int) < (n : Int) := by omega
      obtain ⟨i0, hi0, hz0, hz1, hz2⟩ := info_parts info_RD17
      have HI0 := Lib.hid hi0
      have HZ0 := Lib.hid hz0
      have HZ1 := Lib.hid hz1
      have HZ2 := Lib.hid hz2
      clear hx hc h0 h1 h2 h3 h4 hi0 hz0 hz1 hz2
      go_wp2_with fail
      go_region_held3 (fun w' => w'.cell? ⟨g, o + k * 5, none⟩ = some (.int .u32 xs) ∧ w'.cell? ⟨g, o + k * 5 + 1, none⟩ = some (.int .i64 xt) ∧ w'.cell? ⟨g, o + k * 5 + 2, none⟩ = some (.int .i64 xf) ∧ w'.cell? ⟨g, o + k * 5 + 3, none⟩ = some (.int .i64 xl) ∧ w'.cell? ⟨g, o + k * 5 + 4, none⟩ = some (.int .i64 xh))
        (first
          | exact KEEP.out _ HB.out
          | exact KEEP.out _ HB.out.drew
          | exact KEEP.out _ (HB.out.drew.alloc (by simpa using hsz) _)
          | exact KEEP.out _ ((HB.out.drew.alloc (by simpa using hsz) _).grown hgrow (by simp; omega) hfar.out))
        ((first
          | (refine step_append_lies _ (by rfl) _ _ _ (by rfl) w.heap.size 44 i0 _ 5 40 Try.underlying32 HI0.out HZ0.out HZ1.out HZ2.out rfl (by omega) (.slice Av k cv) k (rtC (l.take k)) (by rfl) (HO.out.drew.alloc _)
              ⟨wr.heap.size, 0, none⟩ 1 1 [.int .u32 xs, .int .i64 xt, .int .i64 xf, .int .i64 xl, .int .i64 xh] (by rfl) (by rfl) (World.news_of_block (cs := #[.int .u32 xs, .int .i64 xt, .int .i64 xf, .int .i64 xl, .int .i64 xh]) (t := 44) (fr := (0, 0)) (heap_alloc_new wr.drew _)) (by simp [Value.oneCell'])
              (by omega) (by unfold maxLen; omega) (by omega) (by simp; omega) (wr.heap.size + 1) (by simp) ?_; intro gg cap w1 hown1 hgrow hat hlt1)))
      have hB1 : Below w.heap.size w w1 := (HB.out.drew.alloc (by simpa using hsz) _).grown hgrow (by simp; omega) hfar.out
      have R : w1.ownsRow w.heap.size 44 5 (.slice (some ⟨gg, 0, none⟩) (k + 1) cap) (k + 1) (rtC (l.take (k + 1))) := by rw [HT.out, rtC_add]; exact hown1
      have HF := Lib.hid (And.intro R hB1)
      clear hown1 hgrow hat KEEP HO HB hfar HI0 HZ0 HZ1 HZ2 R hB1
      go_wp2_with fail
      go_roundw
      case rel => exact ⟨k + 1, by omega, by go_num, HF.out.1, HF.out.2⟩
      case measure => simp [intOf]; omega
    · obtain rfl : k = n := by omega
      have HF := Lib.hid (show wr.ownsRow w.heap.size 44 5 (.slice Av k cv) k (rtC l) by have h := HO.out; rwa [List.take_of_length_le (by rw [HN.out]; exact Nat.le_refl _)] at h)
      clear HO hfar
      go_wp2_with fail
      go_ret
      exact ⟨Av, cv, rfl, HF.out, HB.out⟩

set_option maxHeartbeats 3200000 in
theorem downs17 (A : Option Addr) (c : Nat) (l : List Dn) (w : World) (hr : Row w w.heap.size 10 A l.length (dnC l)) (hl : l.length ≤ 4096) :
    Calls Try.prog 11 #[.slice A l.length c] w (NewRow 49 10 l.length (dnC l) w) := by
  have HR := Lib.hid hr
  obtain ⟨n, hn⟩ : ∃ n, l.length = n := ⟨_, rfl⟩
  have HN := Lib.hid hn
  rw [hn] at hl HR ⊢
  clear hr hn
  go_enter Try.func11, Try.ntmps11
  go_wp2_with fail
  go_loopw [3, 4] (fun v i wr => ∃ k : Nat, k ≤ n ∧ i = .int .i64 (k : Int) ∧ wr.ownsRow w.heap.size 49 10 v k (dnC (l.take k)) ∧ Below w.heap.size w wr) (fun _ i _ => n - (intOf i).toNat)
  case atStart => exact ⟨0, Nat.zero_le _, rfl, World.ownsRow_nil _ _ _ _, Below.refl _ _⟩
  case round =>
    obtain ⟨k, hk, rfl, hown, hb⟩ := hrel
    obtain ⟨Av, cv, rfl⟩ := own_form hown
    have HO := Lib.hid hown
    have HB := Lib.hid hb
    have hsz := hb.size
    clear hown hb
    by_cases hlt : k < n
    · obtain ⟨x, hx⟩ : ∃ x, l[k]? = some x := ⟨_, List.getElem?_eq_getElem (by rw [HN.out]; exact hlt)⟩
      obtain ⟨g, o, rfl, hg, hc⟩ := HR.out.2 (by omega)
      have h0 := (HB.out.cell (p := ⟨g, o + (k * 10 + 0), none⟩) hg).trans (hc _ _ ((dnC_get hx 0 (by decide)).trans rfl))
      have h1 := (HB.out.cell (p := ⟨g, o + (k * 10 + 1), none⟩) hg).trans (hc _ _ ((dnC_get hx 1 (by decide)).trans rfl))
      have h2 := (HB.out.cell (p := ⟨g, o + (k * 10 + 2), none⟩) hg).trans (hc _ _ ((dnC_get hx 2 (by decide)).trans rfl))
      have h3 := (HB.out.cell (p := ⟨g, o + (k * 10 + 3), none⟩) hg).trans (hc _ _ ((dnC_get hx 3 (by decide)).trans rfl))
      have h4 := (HB.out.cell (p := ⟨g, o + (k * 10 + 4), none⟩) hg).trans (hc _ _ ((dnC_get hx 4 (by decide)).trans rfl))
      have h5 := (HB.out.cell (p := ⟨g, o + (k * 10 + 5), none⟩) hg).trans (hc _ _ ((dnC_get hx 5 (by decide)).trans rfl))
      have h6 := (HB.out.cell (p := ⟨g, o + (k * 10 + 6), none⟩) hg).trans (hc _ _ ((dnC_get hx 6 (by decide)).trans rfl))
      have h7 := (HB.out.cell (p := ⟨g, o + (k * 10 + 7), none⟩) hg).trans (hc _ _ ((dnC_get hx 7 (by decide)).trans rfl))
      have h8 := (HB.out.cell (p := ⟨g, o + (k * 10 + 8), none⟩) hg).trans (hc _ _ ((dnC_get hx 8 (by decide)).trans rfl))
      have h9 := (HB.out.cell (p := ⟨g, o + (k * 10 + 9), none⟩) hg).trans (hc _ _ ((dnC_get hx 9 (by decide)).trans rfl))
      rw [Nat.add_zero] at h0
      rw [← Nat.add_assoc] at h1 h2 h3 h4 h5 h6 h7 h8 h9
      have HT := Lib.hid (take_add hx)
      have lg : g < wr.heap.size := by omega
      have i0 : (0 : Int) ≤ (k : Int) := by omega
      have i1 : (k : Int) < (n : Int) := by omega
      have CD := Lib.hid (fun w => down17 x w)
      obtain ⟨xs, xsl, xtu, xw, xt, xh, xf, xl, xd, xm⟩ := x
      dsimp only at h0 h1 h2 h3 h4 h5 h6 h7 h8 h9
      have CD := Lib.hid (fun w => (show Calls Try.prog 20 #[.agg #[.int .u32 xs, .int .i64 xsl, .int .u32 xtu, .int .i64 xw, .int .i64 xt, .int .i64 xh, .int .i64 xf, .int .i64 xl, .int .i64 xd, .bool xm]] w (fun e w' => e = .returned (.agg #[.int .u32 xs, .int .i64 xsl, .int .u32 xtu, .int .i64 xw, .int .i64 xt, .int .i64 xh, .int .i64 xf, .int .i64 xl, .int .i64 xd, .bool xm]) ∧ Below w.heap.size w w') from CD.out w))
      clear hx hc
      go_wp2_with fail
      refine (CD.out wr).mono ?_
      rintro e w5 ⟨rfl, b5⟩
      have HB5 := Lib.hid (HB.out.trans (b5.mono HB.out.size))
      have HO5 := Lib.hid (own_below HO.out b5 (Nat.le_refl _))
      have HW5 := Lib.hid (Row.fresh w5 49 #[.int .u32 xs, .int .i64 xsl, .int .u32 xtu, .int .i64 xw, .int .i64 xt, .int .i64 xh, .int .i64 xf, .int .i64 xl, .int .i64 xd, .bool xm] 10 1 [.int .u32 xs, .int .i64 xsl, .int .u32 xtu, .int .i64 xw, .int .i64 xt, .int .i64 xh, .int .i64 xf, .int .i64 xl, .int .i64 xd, .bool xm] rfl rfl)
      have hz5 := HB5.out.size
      clear b5 HB HO CD h0 h1 h2 h3 h4 h5 h6 h7 h8 h9
      go_wp2_with (at_builtin; refine wpl_append _ rfl (.tmp 11) (.tmp 17) 34 rfl w.heap.size 49 (.agg #[.int .u32 0, .int .i64 0, .int .u32 0, .int .i64 0, .int .i64 0, .int .i64 0, .int .i64 0, .int .i64 0, .int .i64 0, .bool false]) 10 80 Try.underlying34 info_DD17 rfl (by decide) _ k (dnC (l.take k)) rfl (HO5.out.alloc _) _ _ 1 1 [.int .u32 xs, .int .i64 xsl, .int .u32 xtu, .int .i64 xw, .int .i64 xt, .int .i64 xh, .int .i64 xf, .int .i64 xl, .int .i64 xd, .bool xm] rfl HW5.out (by simp [Value.oneCell']) ?c1 ?c2 ?c3 ?_)
      case c1 => unfold maxLen; omega
      case c2 => omega
      case c3 => first | omega | (simp; omega)
      intro v7 w7 hown7 hg7 _
      have HF := Lib.hid (And.intro (show w7.ownsRow w.heap.size 49 10 v7 (k + 1) (dnC (l.take (k + 1))) by rw [HT.out, dnC_add]; exact hown7) (show Below w.heap.size w w7 from (HB5.out.alloc HB5.out.size _).grown hg7 (by simp; omega) (fun q hq => (HO5.out.lt q hq).1)))
      clear hown7 hg7 HO5 HB5 HW5
      go_wp2_with fail
      go_roundw
      case rel => exact ⟨k + 1, by omega, by go_num, HF.out.1, HF.out.2⟩
      case measure => simp [intOf]; omega
    · obtain rfl : k = n := by omega
      have HF := Lib.hid (show wr.ownsRow w.heap.size 49 10 (.slice Av k cv) k (dnC l) by have h := HO.out; rwa [List.take_of_length_le (by rw [HN.out]; exact Nat.le_refl _)] at h)
      clear HO
      go_wp2_with fail
      go_ret
      exact ⟨Av, cv, rfl, HF.out, HB.out⟩
end Go.Proofs.Ytgjhcnpegaemoaa
