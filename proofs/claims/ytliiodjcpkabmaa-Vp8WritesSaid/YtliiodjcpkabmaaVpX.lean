/-
  The contract of the document's Write of layer 7.
-/
import Derived.Test.YtliiodjcpkabmaaVpU
import Derived.Test.YtliiodjcpkabmaaVpY
import Derived.RegionTactic
import Derived.IntWalk
import Derived.BigQuiet
namespace Go.Proofs.Ytliiodjcpkabmaa
open Go.RowKit
set_option linter.unusedSimpArgs false

/-- What the document's Write tells. -/
def RefWritten (b : List UInt8) (pic tl0 : Nat) (w : World) (e : Ending) (w' : World) : Prop :=
  (parseS b = none ∧ e = .returned (.tuple #[.string ⟨#[]⟩, .int .i64 10]) ∨
    ∃ d r, parseS b = some (d, r) ∧ e = .returned (.tuple #[.string (str (writeS d pic tl0 b)), .int .i64 0])) ∧ Below w.heap.size w w'

theorem parse_shape {b r : List UInt8} {d : Dsc} (hp : parseS b = some (d, r)) : (d.wide = true → d.hasPic = true) ∧ (d.hasPic = true → d.wide = false → 3 ≤ b.length) ∧ (d.wide = true → 4 ≤ b.length) ∧ (d.hasTl0 = true → 2 + d.pw + 1 ≤ b.length) := by
  obtain ⟨pre, hpre, hps⟩ := parse_size hp
  have hbl : d.size ≤ b.length := by rw [hpre]; simp; omega
  have hmw : d.hasPic = true ∨ d.hasTl0 = true → d.more = true := by
    rcases parse_cases hp with ⟨f, hf, _, rfl⟩ | ⟨f, t, l, l1, l2, d1, d2, hf, _, h1, h2, h3⟩
    · simp [firstD, dsc0]
    · intro _
      rcases picForm h1 with ⟨_, _, rfl⟩ | ⟨_, p, _, _, rfl⟩ | ⟨_, p, q, _, _, rfl⟩ <;> rcases tl0Form h2 with ⟨_, _, rfl⟩ | ⟨_, x, _, rfl⟩ <;> rcases lastForm h3 with ⟨_, _, rfl⟩ | ⟨_, z, _, rfl⟩ <;> simp [setT_more, firstD, dsc0, hf]
  have hwp : d.wide = true → d.hasPic = true := by
    rcases parse_cases hp with ⟨f, hf, _, rfl⟩ | ⟨f, t, l, l1, l2, d1, d2, hf, _, h1, h2, h3⟩
    · simp [firstD, dsc0]
    · rcases picForm h1 with ⟨_, _, rfl⟩ | ⟨_, p, _, _, rfl⟩ | ⟨_, p, q, _, _, rfl⟩ <;> rcases tl0Form h2 with ⟨_, _, rfl⟩ | ⟨_, x, _, rfl⟩ <;> rcases lastForm h3 with ⟨_, _, rfl⟩ | ⟨_, z, _, rfl⟩ <;> simp [setT_more, firstD, dsc0]
  refine ⟨hwp, fun hh hw => ?_, fun hw => ?_, fun hh => ?_⟩
  · have := hmw (.inl hh)
    unfold Dsc.size Dsc.pw at hbl
    rw [this, hh, hw] at hbl
    simp at hbl
    omega
  · have := hmw (.inl (hwp hw))
    unfold Dsc.size Dsc.pw at hbl
    rw [this, hw] at hbl
    simp at hbl
    omega
  · have := hmw (.inr hh)
    unfold Dsc.size at hbl
    rw [this, hh] at hbl
    simp at hbl
    omega
theorem picB_wide' (x : Nat) : picB true x = [UInt8.ofNat (128 + x / 256 % 128), UInt8.ofNat (x % 256)] := by
  unfold picB
  rw [if_pos rfl]
  congr 2
  apply UInt8.toNat_inj.1
  simp
theorem run_head (b : List UInt8) (k : Nat) (h : k ≤ b.length) (w : World) : (Instr.slice 9 (.string (str b)) none (some (.int .i64 (k : Int))) none).run Try.prog w = .ok (.string (str (b.take k))) w := by
  rw [run_slice_string_h (P := Try.prog) w 9 (str b) Try.underlying9 .i64 k (by omega) (by rw [str_size]; omega), Int.toNat_natCast, str_head]
theorem run_tail (b : List UInt8) (k : Nat) (h : k ≤ b.length) (w : World) : (Instr.slice 9 (.string (str b)) (some (.int .i64 (k : Int))) none none).run Try.prog w = .ok (.string (str (b.drop k))) w := by
  rw [run_slice_string_l (P := Try.prog) w 9 (str b) Try.underlying9 .i64 k (by omega) (by rw [str_size]; omega), Int.toNat_natCast, str_size, str_tail]
theorem size_alloc (w : World) (o : Obj) : (w.alloc o).heap.size = w.heap.size + 1 := by simp
theorem run_new_one (p : Nat) (hp : p < 256) (w : World) : (convert 22 9 (.slice (some ⟨w.heap.size, 0, none⟩) 1 1)).run Try.prog (w.alloc (.cells #[.int .u8 (p : Int)] 5)).drew = .ok (.string (str [UInt8.ofNat p])) (w.alloc (.cells #[.int .u8 (p : Int)] 5)).drew := by
  refine run_text (P := Try.prog) _ 22 5 9 Try.underlying22 Try.underlying5 Try.underlying9 _ _ 1 1 [UInt8.ofNat p] (show Row (w.alloc _).drew _ _ _ _ _ from Row.fresh w 5 _ 1 1 _ rfl ?_)
  simp [u8s, show p % 256 = p by omega]
theorem run_new_one2 (p : Nat) (hp : p < 256) (w : World) : (convert 22 9 (.slice (some ⟨w.heap.size, 0, none⟩) 1 1)).run Try.prog (w.alloc (.cells #[.int .u8 (p : Int)] 5)).drew.drew = .ok (.string (str [UInt8.ofNat p])) (w.alloc (.cells #[.int .u8 (p : Int)] 5)).drew.drew := by
  refine run_text (P := Try.prog) _ 22 5 9 Try.underlying22 Try.underlying5 Try.underlying9 _ _ 1 1 [UInt8.ofNat p] (show Row (w.alloc _).drew.drew _ _ _ _ _ from Row.fresh w 5 _ 1 1 _ rfl ?_)
  simp [u8s, show p % 256 = p by omega]
theorem run_new_two (p q : Nat) (hp : p < 256) (hq : q < 256) (w : World) : (convert 22 9 (.slice (some ⟨w.heap.size, 0, none⟩) 2 2)).run Try.prog (w.alloc (.cells #[.int .u8 (p : Int), .int .u8 (q : Int)] 5)).drew = .ok (.string (str [UInt8.ofNat p, UInt8.ofNat q])) (w.alloc (.cells #[.int .u8 (p : Int), .int .u8 (q : Int)] 5)).drew := by
  refine run_text (P := Try.prog) _ 22 5 9 Try.underlying22 Try.underlying5 Try.underlying9 _ _ 2 2 [UInt8.ofNat p, UInt8.ofNat q] (show Row (w.alloc _).drew _ _ _ _ _ from Row.fresh w 5 _ 1 2 _ rfl ?_)
  simp [u8s, show p % 256 = p by omega, show q % 256 = q by omega]
/-- Pic written over, and then Tl0 behind it. -/
theorem out_pt (b x : List UInt8) (k : Nat) (hx : x.length = k) (t : UInt8) (hb : 2 + k + 1 ≤ b.length) :
    b.take 2 ++ x ++ [t] ++ b.drop (2 + k + 1) = (b.take 2 ++ x ++ b.drop (2 + k)).take (2 + k) ++ [t] ++ (b.take 2 ++ x ++ b.drop (2 + k)).drop (2 + k + 1) := by
  have h2 : (b.take 2 ++ x).length = 2 + k := by simp; omega
  generalize b.take 2 ++ x = y at h2
  rw [List.take_left' h2, show (2 + k + 1 : Nat) = (2 + k) + 1 from rfl, ← List.drop_drop (i := 1) (j := 2 + k) (l := y ++ b.drop (2 + k)), List.drop_left' h2, List.drop_drop]

set_option maxRecDepth 100000 in
set_option maxHeartbeats 3200000 in
theorem refWrite_any (b : List UInt8) (pic tl0 : Nat) (hpic : pic < 65536) (htl : tl0 < 256) (w : World) (hl : b.length ≤ 100000) :
    Calls Try.prog 17 #[.string (str b), .int .i64 (pic : Int), .int .i64 (tl0 : Int)] w (RefWritten b pic tl0 w) := by
  have C := Lib.hid (refParse_any b w hl)
  cases hp : parseS b with
  | none =>
    have HF := Lib.hid (show ∀ w', Below w.heap.size w w' → RefWritten b pic tl0 w (.returned (.tuple #[.string ⟨#[]⟩, .int .i64 10])) w' from fun w' h => ⟨.inl ⟨hp, rfl⟩, h⟩)
    have HP := Lib.hid hp
    clear hp
    go_enter Try.func17, Try.ntmps17
    go_wp2_with fail
    refine C.out.mono ?_
    rintro e w1 ⟨hh, b1⟩
    obtain rfl : e = .returned (.tuple #[.agg dsc0.plain, .int .i64 0, .int .i64 0, .int .i64 0, .int .i64 10]) := by
      rcases hh with ⟨_, he⟩ | ⟨d', r', hs, _⟩
      · exact he
      · rw [HP.out] at hs; exact absurd hs (by simp)
    have HB := Lib.hid b1
    clear hh b1
    unfold dsc0 Dsc.plain
    dsimp only
    go_wp2
    go_ret2
    exact HF.out _ (HB.out.alloc HB.out.size _)
  | some x =>
    obtain ⟨d, r⟩ := x
    have HF := Lib.hid (show ∀ w', Below w.heap.size w w' → RefWritten b pic tl0 w (.returned (.tuple #[.string (str (writeS d pic tl0 b)), .int .i64 0])) w' from fun w' h => ⟨.inr ⟨d, r, hp, rfl⟩, h⟩)
    have HP := Lib.hid hp
    have HSH := Lib.hid (parse_shape hp)
    clear hp
    obtain ⟨m, hm⟩ : ∃ m, m = b.length := ⟨_, rfl⟩
    have hsz : (str b).size = m := by rw [str_size, hm]
    rw [← hm] at hl HSH
    have HM := Lib.hid hm
    clear hm
    go_enter Try.func17, Try.ntmps17
    go_wp2_with fail
    refine C.out.mono ?_
    rintro e w1 ⟨hh, b1⟩
    obtain rfl : e = .returned (.tuple #[.agg d.plain, .int .i64 ((b.length : Int) - r.length), .int .i64 (d.picAt : Int), .int .i64 (d.tl0At : Int), .int .i64 0]) := by
      rcases hh with ⟨hn, _⟩ | ⟨d', r', hs, he⟩
      · rw [HP.out] at hn; exact absurd hn (by simp)
      · rw [HP.out] at hs
        injection hs with hs
        injection hs with h1 h2
        subst h1 h2
        exact he
    have HB := Lib.hid b1
    obtain ⟨xx, hxx⟩ : ∃ xx : Int, xx = (b.length : Int) - r.length := ⟨_, rfl⟩
    obtain ⟨PA, hpa⟩ : ∃ PA : Int, PA = (d.picAt : Int) := ⟨_, rfl⟩
    obtain ⟨TA, hta⟩ : ∃ TA : Int, TA = (d.tl0At : Int) := ⟨_, rfl⟩
    obtain ⟨res, hres⟩ : ∃ res, res = writeS d pic tl0 b := ⟨_, rfl⟩
    rw [← hres] at HF
    rw [← hxx, ← hpa, ← hta]
    obtain ⟨more, lone, start, part, hasPic, wide, pc, hasTl0, tl, hasTid, tid, sync, hasKey, key⟩ := d
    simp only [Dsc.picAt, Dsc.tl0At, Dsc.pw, writeS] at hres HSH hpa hta
    simp only [Dsc.plain]
    have HRES := Lib.hid hres
    have hlm : m ≤ 100000 := hl
    clear hh b1 hxx hres HP C hl
    cases wide with
    | true =>
      obtain rfl : hasPic = true := HSH.out.1 rfl
      cases hasTl0 with
      | true =>
        obtain rfl : PA = 2 := by rw [hpa]; rfl
        obtain rfl : TA = 4 := by rw [hta]; rfl
        have hm4 : 4 ≤ m := HSH.out.2.2.1 rfl
        have hmt : 5 ≤ m := HSH.out.2.2.2 rfl
        have hml : m = b.length := HM.out
        obtain ⟨p, hp⟩ : ∃ p : Nat, p = 128 + pic / 256 % 128 := ⟨_, rfl⟩
        obtain ⟨q, hq⟩ : ∃ q : Nat, q = pic % 256 := ⟨_, rfl⟩
        have hp256 : p < 256 := by omega
        have hq256 : q < 256 := by omega
        have hpi : (p : Int) = 128 + (pic : Int) / 256 % 128 := by omega
        have hqk : IntKind.u8.wrap ((pic : Int) % 256) = (q : Int) := by rw [show (pic : Int) % 256 = (q : Int) from by omega]; exact IntWalk.u8_in _ (by omega)
        obtain ⟨x2, hx2⟩ : ∃ x2 : List UInt8, x2 = [UInt8.ofNat p, UInt8.ofNat q] := ⟨_, rfl⟩
        have hpp : picB true pic = x2 := by rw [hx2, hp, hq]; exact picB_wide' pic
        have hcv := fun o => run_new_two p q hp256 hq256 (w1.alloc o)
        simp only [size_alloc] at hcv
        rw [hpi, ← hx2] at hcv
        obtain ⟨x1, hx1⟩ : ∃ x1 : List UInt8, x1 = b.take 2 := ⟨_, rfl⟩
        obtain ⟨x3, hx3⟩ : ∃ x3 : List UInt8, x3 = b.drop 4 := ⟨_, rfl⟩
        obtain ⟨s1, hs1⟩ : ∃ s1 : List UInt8, s1 = x1 ++ x2 ++ x3 := ⟨_, rfl⟩
        have hl2 : x2.length = 2 := by rw [hx2]; rfl
        have hl1 : x1.length = 2 := by rw [hx1, List.length_take]; omega
        have hl3 : x3.length = m - 4 := by rw [hx3, List.length_drop]; omega
        have hls : s1.length = m := by rw [hs1]; simp only [List.length_append]; omega
        have hs1z : (str s1).size = m := by rw [str_size, hls]
        have e1 : ∀ wx, (Instr.slice 9 (.string (str b)) none (some (.int .i64 2)) none).run Try.prog wx = .ok (.string (str x1)) wx := by rw [hx1]; exact fun wx => run_head b 2 (by omega) wx
        have e2 : ∀ wx, (Op.stringOp .add (str x1) (str x2)).run Try.prog wx = .ok (.string (str (x1 ++ x2))) wx := fun wx => run_str_add wx x1 x2 (by omega)
        have e3 : ∀ wx, (Instr.slice 9 (.string (str b)) (some (.int .i64 4)) none none).run Try.prog wx = .ok (.string (str x3)) wx := by rw [hx3]; exact fun wx => run_tail b 4 (by omega) wx
        have e4 : ∀ wx, (Op.stringOp .add (str (x1 ++ x2)) (str x3)).run Try.prog wx = .ok (.string (str s1)) wx := by rw [hs1]; exact fun wx => run_str_add wx (x1 ++ x2) x3 (by simp only [List.length_append]; omega)
        have htk : IntKind.u8.wrap (tl0 : Int) = (tl0 : Int) := IntWalk.u8_in _ (by omega)
        obtain ⟨y2, hy2⟩ : ∃ y2 : List UInt8, y2 = [UInt8.ofNat tl0] := ⟨_, rfl⟩
        have hct := fun o o2 => run_new_one2 tl0 htl ((w1.alloc o).alloc o2)
        simp only [size_alloc] at hct
        rw [← hy2] at hct
        obtain ⟨y1, hy1⟩ : ∃ y1 : List UInt8, y1 = s1.take 4 := ⟨_, rfl⟩
        obtain ⟨y3, hy3⟩ : ∃ y3 : List UInt8, y3 = s1.drop 5 := ⟨_, rfl⟩
        obtain ⟨s2, hs2⟩ : ∃ s2 : List UInt8, s2 = y1 ++ y2 ++ y3 := ⟨_, rfl⟩
        have hm2 : y2.length = 1 := by rw [hy2]; rfl
        have hm1 : y1.length = 4 := by rw [hy1, List.length_take]; omega
        have hm3' : y3.length = m - 5 := by rw [hy3, List.length_drop]; omega
        have f1 : ∀ wx, (Instr.slice 9 (.string (str s1)) none (some (.int .i64 4)) none).run Try.prog wx = .ok (.string (str y1)) wx := by rw [hy1]; exact fun wx => run_head s1 4 (by omega) wx
        have f2 : ∀ wx, (Op.stringOp .add (str y1) (str y2)).run Try.prog wx = .ok (.string (str (y1 ++ y2))) wx := fun wx => run_str_add wx y1 y2 (by omega)
        have f3 : ∀ wx, (Instr.slice 9 (.string (str s1)) (some (.int .i64 5)) none none).run Try.prog wx = .ok (.string (str y3)) wx := by rw [hy3]; exact fun wx => run_tail s1 5 (by omega) wx
        have f4 : ∀ wx, (Op.stringOp .add (str (y1 ++ y2)) (str y3)).run Try.prog wx = .ok (.string (str s2)) wx := by rw [hs2]; exact fun wx => run_str_add wx (y1 ++ y2) y3 (by simp only [List.length_append]; omega)
        have hr : res = s2 := by rw [HRES.out, hs2, hy1, hy2, hy3, hs1, hx1, hx3, ← hpp]; exact out_pt b _ 2 (by simp [hpp, hl2]) _ (by omega)
        rw [hr] at HF
        clear HSH HRES HM hr hpa hta hml hpp hx1 hx2 hx3 hs1 hl1 hl2 hl3 hls hp hp256 hq hq256 hpi hm4 hy1 hy2 hy3 hs2 hm1 hm2 hm3' hmt
        go_wp2_with fail
        go_region
        all_goals go_wp2_with fail
        all_goals go_region
        all_goals go_wp2_with fail
        all_goals go_ret2
        all_goals exact HF.out _ (bdrewN (((HB.out.alloc HB.out.size _).alloc (HB.out.alloc HB.out.size _).size _).alloc ((HB.out.alloc HB.out.size _).alloc (HB.out.alloc HB.out.size _).size _).size _) 2)
      | false =>
        obtain rfl : PA = 2 := by rw [hpa]; rfl
        obtain rfl : TA = 0 := by rw [hta]; rfl
        have hm4 : 4 ≤ m := HSH.out.2.2.1 rfl
        have hml : m = b.length := HM.out
        obtain ⟨p, hp⟩ : ∃ p : Nat, p = 128 + pic / 256 % 128 := ⟨_, rfl⟩
        obtain ⟨q, hq⟩ : ∃ q : Nat, q = pic % 256 := ⟨_, rfl⟩
        have hp256 : p < 256 := by omega
        have hq256 : q < 256 := by omega
        have hpi : (p : Int) = 128 + (pic : Int) / 256 % 128 := by omega
        have hqk : IntKind.u8.wrap ((pic : Int) % 256) = (q : Int) := by rw [show (pic : Int) % 256 = (q : Int) from by omega]; exact IntWalk.u8_in _ (by omega)
        obtain ⟨x2, hx2⟩ : ∃ x2 : List UInt8, x2 = [UInt8.ofNat p, UInt8.ofNat q] := ⟨_, rfl⟩
        have hpp : picB true pic = x2 := by rw [hx2, hp, hq]; exact picB_wide' pic
        have hcv := fun o => run_new_two p q hp256 hq256 (w1.alloc o)
        simp only [size_alloc] at hcv
        rw [hpi, ← hx2] at hcv
        obtain ⟨x1, hx1⟩ : ∃ x1 : List UInt8, x1 = b.take 2 := ⟨_, rfl⟩
        obtain ⟨x3, hx3⟩ : ∃ x3 : List UInt8, x3 = b.drop 4 := ⟨_, rfl⟩
        obtain ⟨s1, hs1⟩ : ∃ s1 : List UInt8, s1 = x1 ++ x2 ++ x3 := ⟨_, rfl⟩
        have hl2 : x2.length = 2 := by rw [hx2]; rfl
        have hl1 : x1.length = 2 := by rw [hx1, List.length_take]; omega
        have hl3 : x3.length = m - 4 := by rw [hx3, List.length_drop]; omega
        have hls : s1.length = m := by rw [hs1]; simp only [List.length_append]; omega
        have hs1z : (str s1).size = m := by rw [str_size, hls]
        have e1 : ∀ wx, (Instr.slice 9 (.string (str b)) none (some (.int .i64 2)) none).run Try.prog wx = .ok (.string (str x1)) wx := by rw [hx1]; exact fun wx => run_head b 2 (by omega) wx
        have e2 : ∀ wx, (Op.stringOp .add (str x1) (str x2)).run Try.prog wx = .ok (.string (str (x1 ++ x2))) wx := fun wx => run_str_add wx x1 x2 (by omega)
        have e3 : ∀ wx, (Instr.slice 9 (.string (str b)) (some (.int .i64 4)) none none).run Try.prog wx = .ok (.string (str x3)) wx := by rw [hx3]; exact fun wx => run_tail b 4 (by omega) wx
        have e4 : ∀ wx, (Op.stringOp .add (str (x1 ++ x2)) (str x3)).run Try.prog wx = .ok (.string (str s1)) wx := by rw [hs1]; exact fun wx => run_str_add wx (x1 ++ x2) x3 (by simp only [List.length_append]; omega)
        have hr : res = s1 := by rw [HRES.out, hs1, hx1, hx3, ← hpp]; simp
        rw [hr] at HF
        clear HSH HRES HM hr hpa hta hml hpp hx1 hx2 hx3 hs1 hl1 hl2 hl3 hls hp hp256 hq hq256 hpi hm4
        go_wp2_with fail
        go_region
        all_goals go_wp2_with fail
        all_goals go_ret2
        all_goals exact HF.out _ (bdrewN ((HB.out.alloc HB.out.size _).alloc (HB.out.alloc HB.out.size _).size _) 1)
    | false =>
      cases hasPic with
      | true =>
        cases hasTl0 with
        | true =>
          obtain rfl : PA = 2 := by rw [hpa]; rfl
          obtain rfl : TA = 3 := by rw [hta]; rfl
          have hm3 : 3 ≤ m := HSH.out.2.1 rfl rfl
          have hmt : 4 ≤ m := HSH.out.2.2.2 rfl
          have hml : m = b.length := HM.out
          obtain ⟨p, hp⟩ : ∃ p : Nat, p = pic % 128 := ⟨_, rfl⟩
          have hp256 : p < 256 := by omega
          have hpk : IntKind.u8.wrap ((pic : Int) % 128) = (p : Int) := by rw [show (pic : Int) % 128 = (p : Int) from by omega]; exact IntWalk.u8_in _ (by omega)
          obtain ⟨x2, hx2⟩ : ∃ x2 : List UInt8, x2 = [UInt8.ofNat p] := ⟨_, rfl⟩
          have hpp : picB false pic = x2 := by rw [hx2, hp]; rfl
          have hcv := fun o => run_new_one p hp256 (w1.alloc o)
          simp only [size_alloc] at hcv
          rw [← hx2] at hcv
          obtain ⟨x1, hx1⟩ : ∃ x1 : List UInt8, x1 = b.take 2 := ⟨_, rfl⟩
          obtain ⟨x3, hx3⟩ : ∃ x3 : List UInt8, x3 = b.drop 3 := ⟨_, rfl⟩
          obtain ⟨s1, hs1⟩ : ∃ s1 : List UInt8, s1 = x1 ++ x2 ++ x3 := ⟨_, rfl⟩
          have hl2 : x2.length = 1 := by rw [hx2]; rfl
          have hl1 : x1.length = 2 := by rw [hx1, List.length_take]; omega
          have hl3 : x3.length = m - 3 := by rw [hx3, List.length_drop]; omega
          have hls : s1.length = m := by rw [hs1]; simp only [List.length_append]; omega
          have hs1z : (str s1).size = m := by rw [str_size, hls]
          have e1 : ∀ wx, (Instr.slice 9 (.string (str b)) none (some (.int .i64 2)) none).run Try.prog wx = .ok (.string (str x1)) wx := by rw [hx1]; exact fun wx => run_head b 2 (by omega) wx
          have e2 : ∀ wx, (Op.stringOp .add (str x1) (str x2)).run Try.prog wx = .ok (.string (str (x1 ++ x2))) wx := fun wx => run_str_add wx x1 x2 (by omega)
          have e3 : ∀ wx, (Instr.slice 9 (.string (str b)) (some (.int .i64 3)) none none).run Try.prog wx = .ok (.string (str x3)) wx := by rw [hx3]; exact fun wx => run_tail b 3 (by omega) wx
          have e4 : ∀ wx, (Op.stringOp .add (str (x1 ++ x2)) (str x3)).run Try.prog wx = .ok (.string (str s1)) wx := by rw [hs1]; exact fun wx => run_str_add wx (x1 ++ x2) x3 (by simp only [List.length_append]; omega)
          have htk : IntKind.u8.wrap (tl0 : Int) = (tl0 : Int) := IntWalk.u8_in _ (by omega)
          obtain ⟨y2, hy2⟩ : ∃ y2 : List UInt8, y2 = [UInt8.ofNat tl0] := ⟨_, rfl⟩
          have hct := fun o o2 => run_new_one2 tl0 htl ((w1.alloc o).alloc o2)
          simp only [size_alloc] at hct
          rw [← hy2] at hct
          obtain ⟨y1, hy1⟩ : ∃ y1 : List UInt8, y1 = s1.take 3 := ⟨_, rfl⟩
          obtain ⟨y3, hy3⟩ : ∃ y3 : List UInt8, y3 = s1.drop 4 := ⟨_, rfl⟩
          obtain ⟨s2, hs2⟩ : ∃ s2 : List UInt8, s2 = y1 ++ y2 ++ y3 := ⟨_, rfl⟩
          have hm2 : y2.length = 1 := by rw [hy2]; rfl
          have hm1 : y1.length = 3 := by rw [hy1, List.length_take]; omega
          have hm3' : y3.length = m - 4 := by rw [hy3, List.length_drop]; omega
          have f1 : ∀ wx, (Instr.slice 9 (.string (str s1)) none (some (.int .i64 3)) none).run Try.prog wx = .ok (.string (str y1)) wx := by rw [hy1]; exact fun wx => run_head s1 3 (by omega) wx
          have f2 : ∀ wx, (Op.stringOp .add (str y1) (str y2)).run Try.prog wx = .ok (.string (str (y1 ++ y2))) wx := fun wx => run_str_add wx y1 y2 (by omega)
          have f3 : ∀ wx, (Instr.slice 9 (.string (str s1)) (some (.int .i64 4)) none none).run Try.prog wx = .ok (.string (str y3)) wx := by rw [hy3]; exact fun wx => run_tail s1 4 (by omega) wx
          have f4 : ∀ wx, (Op.stringOp .add (str (y1 ++ y2)) (str y3)).run Try.prog wx = .ok (.string (str s2)) wx := by rw [hs2]; exact fun wx => run_str_add wx (y1 ++ y2) y3 (by simp only [List.length_append]; omega)
          have hr : res = s2 := by rw [HRES.out, hs2, hy1, hy2, hy3, hs1, hx1, hx3, ← hpp]; exact out_pt b _ 1 (by simp [hpp, hl2]) _ (by omega)
          rw [hr] at HF
          clear HSH HRES HM hr hpa hta hml hpp hx1 hx2 hx3 hs1 hl1 hl2 hl3 hls hp hp256 hm3 hy1 hy2 hy3 hs2 hm1 hm2 hm3' hmt
          go_wp2_with fail
          go_region
          all_goals go_wp2_with fail
          all_goals go_region
          all_goals go_wp2_with fail
          all_goals go_ret2
          all_goals exact HF.out _ (bdrewN (((HB.out.alloc HB.out.size _).alloc (HB.out.alloc HB.out.size _).size _).alloc ((HB.out.alloc HB.out.size _).alloc (HB.out.alloc HB.out.size _).size _).size _) 2)
        | false =>
          obtain rfl : PA = 2 := by rw [hpa]; rfl
          obtain rfl : TA = 0 := by rw [hta]; rfl
          have hm3 : 3 ≤ m := HSH.out.2.1 rfl rfl
          have hml : m = b.length := HM.out
          obtain ⟨p, hp⟩ : ∃ p : Nat, p = pic % 128 := ⟨_, rfl⟩
          have hp256 : p < 256 := by omega
          have hpk : IntKind.u8.wrap ((pic : Int) % 128) = (p : Int) := by rw [show (pic : Int) % 128 = (p : Int) from by omega]; exact IntWalk.u8_in _ (by omega)
          obtain ⟨x2, hx2⟩ : ∃ x2 : List UInt8, x2 = [UInt8.ofNat p] := ⟨_, rfl⟩
          have hpp : picB false pic = x2 := by rw [hx2, hp]; rfl
          have hcv := fun o => run_new_one p hp256 (w1.alloc o)
          simp only [size_alloc] at hcv
          rw [← hx2] at hcv
          obtain ⟨x1, hx1⟩ : ∃ x1 : List UInt8, x1 = b.take 2 := ⟨_, rfl⟩
          obtain ⟨x3, hx3⟩ : ∃ x3 : List UInt8, x3 = b.drop 3 := ⟨_, rfl⟩
          obtain ⟨s1, hs1⟩ : ∃ s1 : List UInt8, s1 = x1 ++ x2 ++ x3 := ⟨_, rfl⟩
          have hl2 : x2.length = 1 := by rw [hx2]; rfl
          have hl1 : x1.length = 2 := by rw [hx1, List.length_take]; omega
          have hl3 : x3.length = m - 3 := by rw [hx3, List.length_drop]; omega
          have hls : s1.length = m := by rw [hs1]; simp only [List.length_append]; omega
          have hs1z : (str s1).size = m := by rw [str_size, hls]
          have e1 : ∀ wx, (Instr.slice 9 (.string (str b)) none (some (.int .i64 2)) none).run Try.prog wx = .ok (.string (str x1)) wx := by rw [hx1]; exact fun wx => run_head b 2 (by omega) wx
          have e2 : ∀ wx, (Op.stringOp .add (str x1) (str x2)).run Try.prog wx = .ok (.string (str (x1 ++ x2))) wx := fun wx => run_str_add wx x1 x2 (by omega)
          have e3 : ∀ wx, (Instr.slice 9 (.string (str b)) (some (.int .i64 3)) none none).run Try.prog wx = .ok (.string (str x3)) wx := by rw [hx3]; exact fun wx => run_tail b 3 (by omega) wx
          have e4 : ∀ wx, (Op.stringOp .add (str (x1 ++ x2)) (str x3)).run Try.prog wx = .ok (.string (str s1)) wx := by rw [hs1]; exact fun wx => run_str_add wx (x1 ++ x2) x3 (by simp only [List.length_append]; omega)
          have hr : res = s1 := by rw [HRES.out, hs1, hx1, hx3, ← hpp]; simp
          rw [hr] at HF
          clear HSH HRES HM hr hpa hta hml hpp hx1 hx2 hx3 hs1 hl1 hl2 hl3 hls hp hp256 hm3
          go_wp2_with fail
          go_region
          all_goals go_wp2_with fail
          all_goals go_ret2
          all_goals exact HF.out _ (bdrewN ((HB.out.alloc HB.out.size _).alloc (HB.out.alloc HB.out.size _).size _) 1)
      | false =>
        cases hasTl0 with
        | true =>
          obtain rfl : PA = 0 := by rw [hpa]; rfl
          obtain rfl : TA = 2 := by rw [hta]; rfl
          have hmt : 3 ≤ m := HSH.out.2.2.2 rfl
          have hml : m = b.length := HM.out
          have hpp : picB false pic = picB false pic := rfl
          have htk : IntKind.u8.wrap (tl0 : Int) = (tl0 : Int) := IntWalk.u8_in _ (by omega)
          obtain ⟨y2, hy2⟩ : ∃ y2 : List UInt8, y2 = [UInt8.ofNat tl0] := ⟨_, rfl⟩
          have hct := fun o => run_new_one tl0 htl (w1.alloc o)
          simp only [size_alloc] at hct
          rw [← hy2] at hct
          obtain ⟨y1, hy1⟩ : ∃ y1 : List UInt8, y1 = b.take 2 := ⟨_, rfl⟩
          obtain ⟨y3, hy3⟩ : ∃ y3 : List UInt8, y3 = b.drop 3 := ⟨_, rfl⟩
          obtain ⟨s2, hs2⟩ : ∃ s2 : List UInt8, s2 = y1 ++ y2 ++ y3 := ⟨_, rfl⟩
          have hm2 : y2.length = 1 := by rw [hy2]; rfl
          have hm1 : y1.length = 2 := by rw [hy1, List.length_take]; omega
          have hm3' : y3.length = m - 3 := by rw [hy3, List.length_drop]; omega
          have f1 : ∀ wx, (Instr.slice 9 (.string (str b)) none (some (.int .i64 2)) none).run Try.prog wx = .ok (.string (str y1)) wx := by rw [hy1]; exact fun wx => run_head b 2 (by omega) wx
          have f2 : ∀ wx, (Op.stringOp .add (str y1) (str y2)).run Try.prog wx = .ok (.string (str (y1 ++ y2))) wx := fun wx => run_str_add wx y1 y2 (by omega)
          have f3 : ∀ wx, (Instr.slice 9 (.string (str b)) (some (.int .i64 3)) none none).run Try.prog wx = .ok (.string (str y3)) wx := by rw [hy3]; exact fun wx => run_tail b 3 (by omega) wx
          have f4 : ∀ wx, (Op.stringOp .add (str (y1 ++ y2)) (str y3)).run Try.prog wx = .ok (.string (str s2)) wx := by rw [hs2]; exact fun wx => run_str_add wx (y1 ++ y2) y3 (by simp only [List.length_append]; omega)
          have hr : res = s2 := by rw [HRES.out, hs2, hy1, hy2, hy3]; simp
          rw [hr] at HF
          clear HSH HRES HM hr hpa hta hml hpp hy1 hy2 hy3 hs2 hm1 hm2 hm3' hmt
          go_wp2_with fail
          go_region
          all_goals go_wp2_with fail
          all_goals go_ret2
          all_goals exact HF.out _ (bdrewN ((HB.out.alloc HB.out.size _).alloc (HB.out.alloc HB.out.size _).size _) 1)
        | false =>
          obtain rfl : PA = 0 := by rw [hpa]; rfl
          obtain rfl : TA = 0 := by rw [hta]; rfl
          have hml : m = b.length := HM.out
          have hpp : picB false pic = picB false pic := rfl
          have hr : res = b := by rw [HRES.out]; simp
          rw [hr] at HF
          clear HSH HRES HM hr hpa hta hml hpp
          go_wp2_with fail
          all_goals go_ret2
          all_goals exact HF.out _ (HB.out.alloc HB.out.size _)
theorem rtold {b : List UInt8} {pic tl0 : Nat} {w w' : World} {e : Ending} (h : RefWritten b pic tl0 w e w') :
    e = .returned (.tuple #[.string (str (wT b pic tl0).1), .int .i64 (wT b pic tl0).2]) ∧ Below w.heap.size w w' := by
  unfold wT
  rcases h with ⟨⟨hp, rfl⟩ | ⟨d, r, hp, rfl⟩, hb⟩
  · rw [hp]
    exact ⟨rfl, hb⟩
  · rw [hp]
    exact ⟨rfl, hb⟩

end Go.Proofs.Ytliiodjcpkabmaa
