/-
  The contract of vp8's Put.
-/
import Derived.Test.YtliiodjcpkabmaaVpB
import Derived.Test.YtliiodjcpkabmaaVpE
import Derived.Deep.RegionHeld3
import Derived.Deep.AppendLies
import Derived.Laws.OwnMore
import Derived.RegionTactic
import Derived.IntWalk
namespace Go.Proofs.Ytliiodjcpkabmaa
open Go.RowKit

instance (d : Dsc) : Decidable d.Right := by unfold Dsc.Right; infer_instance
theorem told_right (d : Dsc) (hd : d.Fits) : d.eqb d.told = decide d.Right := by
  obtain ⟨h1, h2, h3, h4, h5⟩ := hd
  rw [Bool.eq_iff_iff, Dsc.eqb_iff, decide_eq_true_iff]
  obtain ⟨more, lone, start, part, hasPic, wide, pic, hasTl0, tl0, hasTid, tid, sync, hasKey, key⟩ := d
  dsimp only at h1 h2 h3 h4 h5
  unfold Dsc.told Dsc.Right
  cases more <;> cases hasPic <;> cases wide <;> cases hasTl0 <;> cases hasTid <;> cases sync <;> cases hasKey <;> simp <;> omega

/-- What Put tells. -/
def PutTold (d : Dsc) (w : World) (e : Ending) (w' : World) : Prop :=
  ¬ d.Right ∧ e = .returned (.tuple #[.slice none 0 0, .int .i64 1]) ∧ Below w.heap.size w w' ∨
  d.Right ∧ ∃ A c, e = .returned (.tuple #[.slice A d.enc.length c, .int .i64 0]) ∧ w'.ownsRow w.heap.size 5 1 (.slice A d.enc.length c) d.enc.length (u8s d.enc) ∧ Below w.heap.size w w'

theorem bdrew {w w' : World} {B : Nat} (h : Below B w w') : Below B w w'.drew := ⟨h.os, h.tape, h.output, h.size, h.block⟩
theorem when_q (b : Bool) (x : Int) (w : World) : Calls Try.prog 28 #[.bool b, .int .u8 x] w fun e w' => e = .returned (.int .u8 (wh b x)) ∧ w' = w := (when_any b x w).mono fun _ _ ⟨h1, h2⟩ => ⟨h1, h2.symm⟩
/-- A row of bytes that the call has made. -/
def Grew (w1 : World) (acc : List UInt8) (v : Value) (w' : World) : Prop :=
  ∃ A c, v = .slice A acc.length c ∧ w'.ownsRow w1.heap.size 5 1 (.slice A acc.length c) acc.length (u8s acc) ∧ Below w1.heap.size w1 w'
theorem Grew.below {w1 w' : World} {acc : List UInt8} {v : Value} (h : Grew w1 acc v w') : Below w1.heap.size w1 w' := by
  obtain ⟨_, _, _, _, h⟩ := h
  exact h
theorem Grew.more {w1 w5 : World} {acc news : List UInt8} {v5 : Value} {n m : Nat} (own5 : w5.ownsRow w1.heap.size 5 1 v5 (n + m) (u8s acc ++ u8s news)) (hn : n = acc.length) (hm : m = news.length) (hB : Below w1.heap.size w1 w5) : Grew w1 (acc ++ news) v5 w5 := by
  subst hn hm
  obtain ⟨A, c, rfl⟩ := own_form own5
  exact ⟨A, c, by rw [List.length_append], by rw [u8s_append, List.length_append]; exact own5, hB⟩
theorem keep3 {p0 p1 p2 p3 p4 p5 p6 p7 p8 p9 p10 p11 p12 p13 : Prop} (h : p0 ∧ p1 ∧ p2 ∧ p3 ∧ p4 ∧ p5 ∧ p6 ∧ p7 ∧ p8 ∧ p9 ∧ p10 ∧ p11 ∧ p12 ∧ p13) : p10 ∧ p11 ∧ p13 :=
  ⟨h.2.2.2.2.2.2.2.2.2.2.1, h.2.2.2.2.2.2.2.2.2.2.2.1, h.2.2.2.2.2.2.2.2.2.2.2.2.2⟩
theorem keep4 {p0 p1 p2 p3 p4 p5 p6 p7 p8 p9 p10 p11 p12 p13 : Prop} (h : p0 ∧ p1 ∧ p2 ∧ p3 ∧ p4 ∧ p5 ∧ p6 ∧ p7 ∧ p8 ∧ p9 ∧ p10 ∧ p11 ∧ p12 ∧ p13) : p4 ∧ p7 ∧ p9 ∧ p12 :=
  ⟨h.2.2.2.2.1, h.2.2.2.2.2.2.2.1, h.2.2.2.2.2.2.2.2.2.1, h.2.2.2.2.2.2.2.2.2.2.2.2.1⟩
set_option maxRecDepth 100000 in
set_option maxHeartbeats 1600000 in
theorem vput_any (d : Dsc) (hd : d.Fits) (w : World) : Calls Try.prog 18 #[.agg d.cells] w (PutTold d w) := by
  have hq := told_right d hd
  have C := fun w => told_any d hd w
  have E := fun w => neq_desc w d d.told
  rw [hq] at E
  generalize d.told = T at C E
  clear hq
  obtain ⟨b, hb⟩ : ∃ b, b = !decide d.Right := ⟨_, rfl⟩
  rw [← hb] at E
  have HY := Lib.hid (show b = false → ∀ A c w', w'.ownsRow w.heap.size 5 1 (.slice A d.enc.length c) d.enc.length (u8s d.enc) → Below w.heap.size w w' → PutTold d w (.returned (.tuple #[.slice A d.enc.length c, .int .i64 0])) w' from fun h A c w' h1 h2 => .inr ⟨by simpa [hb] using h, A, c, rfl, h1, h2⟩)
  have HN := Lib.hid (show b = true → ∀ w', Below w.heap.size w w' → PutTold d w (.returned (.tuple #[.slice none 0 0, .int .i64 1])) w' from fun h w' h2 => .inl ⟨by simpa [hb] using h, rfl, h2⟩)
  have HR := Lib.hid (show b = false → d.Right from fun h => by simpa [hb] using h)
  have HE := Lib.hid (show d.enc = UInt8.ofNat d.b1 :: (if d.more then UInt8.ofNat d.b2 :: (d.bp ++ d.bt ++ d.bl) else []) from rfl)
  obtain ⟨Q, hQ⟩ : ∃ Q, Q = PutTold d w := ⟨_, rfl⟩
  rw [← hQ] at HY HN ⊢
  obtain ⟨bs, hbs⟩ : ∃ bs, bs = d.enc := ⟨_, rfl⟩
  rw [← hbs] at HY HE
  clear hb hd hQ hbs
  obtain ⟨more, lone, start, part, hasPic, wide, pic, hasTl0, tl0, hasTid, tid, sync, hasKey, key⟩ := d
  obtain ⟨more', lone', start', part', hasPic', wide', pic', hasTl0', tl0', hasTid', tid', sync', hasKey', key'⟩ := T
  unfold Dsc.cells at C E
  unfold Dsc.b1 Dsc.b2 Dsc.bp Dsc.bt Dsc.bl at HE
  unfold Dsc.Right at HR
  dsimp only at C E HE HR
  show Calls Try.prog 18 #[.agg #[.bool more, .bool lone, .bool start, .int .u8 (part : Int), .bool hasPic, .bool wide, .int .u16 (pic : Int), .bool hasTl0, .int .u8 (tl0 : Int), .bool hasTid, .int .u8 (tid : Int), .bool sync, .bool hasKey, .int .u8 (key : Int)]] w _
  go_enter Try.func18, Try.ntmps18
  go_upto_region 1 with fail
  go_cut [9] (fun s9 wx => s9 = .bool b ∧ ∃ A B : Array Value, wx = (((w.alloc (.cells #[.bool more, .bool lone, .bool start, .int .u8 (part : Int), .bool hasPic, .bool wide, .int .u16 (pic : Int), .bool hasTl0, .int .u8 (tl0 : Int), .bool hasTid, .int .u8 (tid : Int), .bool sync, .bool hasKey, .int .u8 (key : Int)] 26)).alloc (.cells A 26)).alloc (.cells B 26)).drew)
  case first =>
    go_region_with (go_at_call 27; refine (C _).mono ?_; rintro e w2 ⟨rfl, A, B, rfl⟩)
    all_goals (go_wp2_with fail; go_meet)
    all_goals exact ⟨rfl, A, B, rfl⟩
  case rest =>
    obtain ⟨rfl, A, B, rfl⟩ := hcut
    clear C E
    cases b with
    | true =>
      go_wp2
      exact HN.out (by trivial) _ (bdrew ((((Below.refl _ _).alloc (Nat.le_refl _) _).alloc (by simp) _).alloc (by simp; omega) _))
    | false =>
      have hR := HR.out rfl
      clear HN HR
      obtain ⟨w1, hw1⟩ : ∃ w1, w1 = w.alloc (.cells #[.bool more, .bool lone, .bool start, .int .u8 (part : Int), .bool hasPic, .bool wide, .int .u16 (pic : Int), .bool hasTl0, .int .u8 (tl0 : Int), .bool hasTid, .int .u8 (tid : Int), .bool sync, .bool hasKey, .int .u8 (key : Int)] 26) := ⟨_, rfl⟩
      have hz1 : w1.heap.size = w.heap.size + 1 := by rw [hw1]; simp
      have hW : Whole w1 w.heap.size 26 #[.bool more, .bool lone, .bool start, .int .u8 (part : Int), .bool hasPic, .bool wide, .int .u16 (pic : Int), .bool hasTl0, .int .u8 (tl0 : Int), .bool hasTid, .int .u8 (tid : Int), .bool sync, .bool hasKey, .int .u8 (key : Int)] := by rw [hw1]; exact Whole.new _ _ _
      obtain ⟨wr, hwr⟩ : ∃ wr, wr = (((w.alloc (.cells #[.bool more, .bool lone, .bool start, .int .u8 (part : Int), .bool hasPic, .bool wide, .int .u16 (pic : Int), .bool hasTl0, .int .u8 (tl0 : Int), .bool hasTid, .int .u8 (tid : Int), .bool sync, .bool hasKey, .int .u8 (key : Int)] 26)).alloc (.cells A 26)).alloc (.cells B 26)).drew := ⟨_, rfl⟩
      have hb1 : Below w1.heap.size w1 wr := by rw [hwr, ← hw1]; exact bdrew (((Below.refl _ _).alloc (Nat.le_refl _) _).alloc (by simp) _)
      have hb0 : Below w.heap.size w w1 := by rw [hw1]; exact (Below.refl _ _).alloc (Nat.le_refl _) _
      rw [← hwr]
      clear hw1 hwr
      have KEEP := Lib.hid (fun w' (h : Below w1.heap.size w1 w') => show w'.cell? ⟨w.heap.size, 0, none⟩ = some (.bool more) ∧ w'.cell? ⟨w.heap.size, 1, none⟩ = some (.bool lone) ∧ w'.cell? ⟨w.heap.size, 2, none⟩ = some (.bool start) ∧ w'.cell? ⟨w.heap.size, 3, none⟩ = some (.int .u8 (part : Int)) ∧
          w'.cell? ⟨w.heap.size, 4, none⟩ = some (.bool hasPic) ∧ w'.cell? ⟨w.heap.size, 5, none⟩ = some (.bool wide) ∧ w'.cell? ⟨w.heap.size, 6, none⟩ = some (.int .u16 (pic : Int)) ∧ w'.cell? ⟨w.heap.size, 7, none⟩ = some (.bool hasTl0) ∧ w'.cell? ⟨w.heap.size, 8, none⟩ = some (.int .u8 (tl0 : Int)) ∧
          w'.cell? ⟨w.heap.size, 9, none⟩ = some (.bool hasTid) ∧ w'.cell? ⟨w.heap.size, 10, none⟩ = some (.int .u8 (tid : Int)) ∧ w'.cell? ⟨w.heap.size, 11, none⟩ = some (.bool sync) ∧ w'.cell? ⟨w.heap.size, 12, none⟩ = some (.bool hasKey) ∧ w'.cell? ⟨w.heap.size, 13, none⟩ = some (.int .u8 (key : Int)) from by
        have hh := hW.below h (by omega)
        exact ⟨hh.cell 0, hh.cell 1, hh.cell 2, hh.cell 3, hh.cell 4, hh.cell 5, hh.cell 6, hh.cell 7, hh.cell 8, hh.cell 9, hh.cell 10, hh.cell 11, hh.cell 12, hh.cell 13⟩)
      have HW0 := Lib.hid hb0
      have HZ1' := Lib.hid hz1
      obtain ⟨i0, hi0, hz0, hz1', hz2⟩ := info_parts info_u8
      have HI0 := Lib.hid hi0
      have HZ0 := Lib.hid hz0
      have HZ1 := Lib.hid hz1'
      have HZ2 := Lib.hid hz2
      obtain ⟨r1, r2, r3, r4, r5, r6, r7, r8, r9, r10, r11⟩ := hR
      have HO1' := first_or more lone start part (by omega)
      have HO2' := second_or hasPic hasTl0 hasTid hasKey
      have HO3' := last_or tid key sync (by omega) (by omega)
      have hpic : pic < 65536 := by omega
      have HP := Lib.hid (fun w' => picOf_any pic wide w' hpic)
      have hb1' := Lib.hid hb1
      have F1 : one more 128 + one lone 32 + one start 16 + part < 256 := by cases more <;> cases lone <;> cases start <;> simp [one] <;> omega
      have F2 : one hasPic 128 + one hasTl0 64 + one hasTid 32 + one hasKey 16 < 256 := by cases hasPic <;> cases hasTl0 <;> cases hasTid <;> cases hasKey <;> simp [one]
      have F3 : 64 * tid + one sync 32 + key < 256 := by cases sync <;> simp [one] <;> omega
      have F4 : tl0 < 256 := r11
      have F5 : tid < 4 := by omega
      generalize one more 128 + one lone 32 + one start 16 + part = B1 at HO1' F1 HE
      generalize one hasPic 128 + one hasTl0 64 + one hasTid 32 + one hasKey 16 = B2 at HO2' F2 HE
      generalize 64 * tid + one sync 32 + key = B3 at HO3' F3 HE
      have HO1 := Lib.hid HO1'
      have HO2 := Lib.hid HO2'
      have HO3 := Lib.hid HO3'
      clear hi0 hz0 hz1' hz2 hz1 hW hb0 r1 r2 r3 r4 r5 r6 r7 r8 r9 r10 r11 HO1' HO2' HO3'
      obtain ⟨k0, k1, k2, k3, kk⟩ := KEEP.out _ hb1
      clear hb1
      go_wp2_with fail
      go_quiet ((go_at_call 28; exact Calls.quiet_of_same (when_q _ _ _)))
      rw [HO1.out]
      obtain ⟨wa, hwa⟩ : ∃ wa, wa = wr.drewN nq := ⟨_, rfl⟩
      have hba := bdrewN hb1'.out nq
      rw [← hwa] at hba ⊢
      have hown := World.ownsRow_lit (base := w1.heap.size) (e := 5) (size := 1) wa #[.int .u8 (B1 : Int)] 1 hba.size (by decide) rfl
      have hbb := hba.alloc hba.size (.cells #[.int .u8 (B1 : Int)] 5)
      have hu1 : [Value.int .u8 (B1 : Int)] = u8s [UInt8.ofNat B1] := by simp [u8s]; omega
      rw [show (#[Value.int .u8 (B1 : Int)] : Array Value).toList = u8s [UInt8.ofNat B1] from hu1] at hown
      have HOWN := Lib.hid hown
      have HBB := Lib.hid hbb
      have HBA := Lib.hid hba
      clear hwa hown hbb hba hu1 k0 k1 k2 k3 kk hb1'
      have k0 := (KEEP.out _ HBA.out).1
      have hlt0 : w.heap.size < wa.heap.size := by have := HBA.out.size; have := HZ1'.out; omega
      cases more with
      | false =>
        have hbs : bs = [UInt8.ofNat B1] := by simpa using HE.out
        go_wp2
        subst hbs
        exact HY.out (by trivial) _ _ _ (own_base HOWN.out HW0.out.size) (HW0.out.trans (HBB.out.mono HW0.out.size))
      | true =>
        simp only [if_true] at HE
        go_wp2_with fail
        obtain ⟨wb, hwb⟩ : ∃ wb, wb = wa.alloc (.cells #[.int .u8 (B1 : Int)] 5) := ⟨_, rfl⟩
        rw [← hwb] at HOWN HBB ⊢
        obtain ⟨gb, hgb⟩ : ∃ gb, gb = wa.heap.size := ⟨_, rfl⟩
        rw [← hgb] at HOWN ⊢
        have hsz := HBB.out.size
        have hfar := Lib.hid (fun a ha => (HOWN.out.lt a ha).1)
        obtain ⟨-, -, -, -, k4, k5, k6, k7, k8, k9, k10, k11, k12, k13⟩ := KEEP.out _ HBB.out
        have hlt1 : w.heap.size < wb.heap.size := by have := HBB.out.size; have := HZ1'.out; omega
        clear hwb hgb HBA hlt0 k0 k5 k6 k8 k10 k11 k13
        have o2 := HO2.out
        go_region_held3 (fun w' => w'.cell? ⟨w.heap.size, 4, none⟩ = some (.bool hasPic) ∧ w'.cell? ⟨w.heap.size, 7, none⟩ = some (.bool hasTl0) ∧ w'.cell? ⟨w.heap.size, 9, none⟩ = some (.bool hasTid) ∧ w'.cell? ⟨w.heap.size, 12, none⟩ = some (.bool hasKey))
          (first
            | exact ⟨k4, k7, k9, k12⟩
            | exact keep4 (KEEP.out _ HBB.out)
            | exact keep4 (KEEP.out _ (bdrew HBB.out))
            | exact keep4 (KEEP.out _ ((bdrew HBB.out).alloc (by simpa using hsz) _))
            | exact keep4 (KEEP.out _ (((bdrew HBB.out).alloc (by simpa using hsz) _).grown hgrow (by simp; omega) hfar.out)))
          ((first
            | (go_at_call 28; refine (when_any _ _ _).mono ?_; rintro e w' ⟨rfl, rfl⟩)
            | (refine step_append_lies _ (by rfl) _ _ _ (by rfl) w1.heap.size 5 i0 _ 1 1 Try.underlying22 HI0.out HZ0.out HZ1.out HZ2.out rfl (by omega) (.slice (some ⟨gb, 0, none⟩) 1 1) 1 (u8s [UInt8.ofNat B1]) (by rfl) (HOWN.out.drew.alloc _)
                  ⟨wb.heap.size, 0, none⟩ 1 1 [.int .u8 (B2 : Int)] (by rfl) (by rfl) (World.news_of_block (cs := #[.int .u8 (B2 : Int)]) (t := 5) (fr := (0, 0)) (heap_alloc_new wb.drew _)) (by simp [Value.oneCell'])
                  (by omega) (by unfold maxLen; omega) (by omega) (by simp; omega) (wb.heap.size + 1) (by simp) ?_; intro gg cap w2 hown1 hgrow hat hlt1)))
        rename_i hHeld
        have hB2 : Below w1.heap.size w1 w2 := (bdrew (HBB.out.alloc hsz _)).grown hgrow (by simp; omega) hfar.out
        have own2 : w2.ownsRow w1.heap.size 5 1 (.slice (some ⟨gg, 0, none⟩) 2 cap) 2 (u8s [UInt8.ofNat B1, UInt8.ofNat B2]) := by
          have e : u8s [UInt8.ofNat B1, UInt8.ofNat B2] = u8s [UInt8.ofNat B1] ++ [.int .u8 (B2 : Int)] := by simp [u8s]; omega
          rw [e]
          exact hown1
        have HG := Lib.hid (show Grew w1 [UInt8.ofNat B1, UInt8.ofNat B2] (.slice (some ⟨gg, 0, none⟩) 2 cap) w2 from ⟨_, _, rfl, own2, hB2⟩)
        have hlt2 : w.heap.size < w2.heap.size := by have := hB2.size; have := HZ1'.out; omega
        obtain ⟨-, -, -, -, k4, -⟩ := KEEP.out _ hB2
        clear o2 hown1 hgrow hat hlt1 hHeld own2 hB2 hfar hsz HBB HOWN k7 k9 k12
        obtain ⟨bp, hbp⟩ : ∃ bp, bp = (if hasPic = true then picB wide pic else []) := ⟨_, rfl⟩
        obtain ⟨bt, hbt⟩ : ∃ bt, bt = (if hasTl0 = true then [UInt8.ofNat tl0] else []) := ⟨_, rfl⟩
        obtain ⟨bl, hbl⟩ : ∃ bl, bl = (if (hasTid || hasKey) = true then [UInt8.ofNat B3] else []) := ⟨_, rfl⟩
        rw [← hbp, ← hbt, ← hbl] at HE
        have hpl : bp.length ≤ 2 := by
          rw [hbp]
          unfold picB
          repeat' split
          all_goals simp
        have htl : bt.length ≤ 1 := by rw [hbt]; split <;> simp
        have HBP := Lib.hid hbp
        have HBT := Lib.hid hbt
        have HBL := Lib.hid hbl
        clear hbp hbt hbl
        go_upto_if 49 with fail
        go_cut [5] (fun v wx => Grew w1 ([UInt8.ofNat B1, UInt8.ofNat B2] ++ bp) v wx)
        case first =>
          clear HBT HBL HE
          cases hasPic with
          | false =>
            have e1 : bp = [] := by simpa using HBP.out
            subst e1
            go_wp2_with fail
            go_meet
            simpa using HG.out
          | true =>
            have e1 : bp = picB wide pic := by simpa using HBP.out
            have C := HP.out
            rw [← e1] at C
            clear HP HBP e1
            obtain ⟨-, -, -, -, -, k5, k6, -⟩ := KEEP.out _ HG.out.below
            go_wp2_with fail
            refine (C _).mono ?_
            rintro e w3 ⟨A3, c3, rfl, own3, b3⟩
            obtain ⟨A9, c9, hv9, own9, hB9⟩ := HG.out
            have own4 := own_below own9 b3 (Nat.le_refl _)
            have row3 := Row.of_own own3
            have hB3 := hB9.trans (b3.mono hB9.size)
            rw [hv9]
            clear own9 hv9 own3 b3 hB9 k4 k5 k6 C
            go_wp2_with (at_builtin; go_loud (refine wpl_append _ rfl (.tmp 50) (.tmp 55) 22 rfl w1.heap.size 5 (.int .u8 0) 1 1 Try.underlying22 info_u8 rfl (by decide) _ _ _ rfl own4 _ _ _ _ _ rfl row3 (u8s_one _) ?c1 ?c2 ?c3 ?_))
            case c1 => simp; unfold maxLen; omega
            case c2 => simp; omega
            case c3 => exact hB3.size
            intro v5 w5 own5 g5 _
            have hB5 := hB3.grown g5 hB3.size (fun q hq => (own4.lt q hq).1)
            have HF := Lib.hid (Grew.more own5 rfl rfl hB5)
            clear own5 g5 own4 row3 hB5 hB3
            go_wp2_with fail
            go_meet
            exact HF.out
        case rest =>
          have HG2 := Lib.hid hcut
          obtain ⟨A7, c7, hv7, _⟩ := hcut
          subst hv7
          clear HG k4 HBP HP hlt2
          have hlt3 : w.heap.size < wc.heap.size := by have := HG2.out.below.size; have := HZ1'.out; omega
          obtain ⟨-, -, -, -, -, -, -, k7, -⟩ := KEEP.out _ HG2.out.below
          go_upto_if 58 with fail
          go_cut [5] (fun v wx => Grew w1 ([UInt8.ofNat B1, UInt8.ofNat B2] ++ bp ++ bt) v wx)
          case first =>
            clear HBL HE
            cases hasTl0 with
            | false =>
              have e1 : bt = [] := by simpa using HBT.out
              subst e1
              go_wp2_with fail
              go_meet
              simpa using HG2.out
            | true =>
              have e1 : bt = [UInt8.ofNat tl0] := by simpa using HBT.out
              have eT : [Value.int .u8 (tl0 : Int)] = u8s bt := by rw [e1]; simp [u8s]; omega
              have ET := Lib.hid eT
              have e2 : bt.length = 1 := by rw [e1]; rfl
              have E2 := Lib.hid e2
              clear e1 HBT eT e2 htl
              obtain ⟨-, -, -, -, -, -, -, -, k8, -⟩ := KEEP.out _ HG2.out.below
              obtain ⟨A9, c9, hv9, own9, hB9⟩ := HG2.out
              rw [hv9]
              clear hv9
              go_wp2_with (at_builtin; go_loud (refine wpl_append _ rfl (.tmp 59) (.tmp 62) 22 rfl w1.heap.size 5 (.int .u8 0) 1 1 Try.underlying22 info_u8 rfl (by decide) _ _ _ rfl (own9.alloc _) _ _ 1 1 [.int .u8 (tl0 : Int)] rfl (Row.one _ _ _) ?c0 ?c1 ?c2 ?c3 ?_))
              case c0 => intro u hu; simp at hu; subst hu; rfl
              case c1 => simp; unfold maxLen; omega
              case c2 => simp; omega
              case c3 => have := hB9.size; simp; omega
              intro v5 w5 own5 g5 _
              have hB5 := (hB9.alloc hB9.size _).grown g5 (by have := hB9.size; simp; omega) (fun q hq => (own9.lt q hq).1)
              rw [ET.out] at own5
              have HF := Lib.hid (Grew.more own5 rfl E2.out.symm hB5)
              clear own5 g5 own9 hB5 hB9
              go_wp2_with fail
              go_meet
              exact HF.out
          case rest =>
            have HG3 := Lib.hid hcut
            obtain ⟨A8, c8, hv8, _⟩ := hcut
            subst hv8
            clear HG2 k7 hlt3 HBT
            have hlt4 : w.heap.size < wc.heap.size := by have := HG3.out.below.size; have := HZ1'.out; omega
            obtain ⟨acc, hacc⟩ : ∃ acc, acc = [UInt8.ofNat B1, UInt8.ofNat B2] ++ bp ++ bt := ⟨_, rfl⟩
            have hal : acc.length ≤ 5 := by rw [hacc]; simp; omega
            rw [← hacc] at HG3 ⊢
            have HA := Lib.hid (show bs = acc ++ bl by rw [HE.out, hacc]; simp)
            clear hacc HE
            obtain ⟨-, -, -, -, -, -, -, -, -, k9, -, -, k12, -⟩ := KEEP.out _ HG3.out.below
            go_upto_region 12 with fail
            obtain ⟨wd, hwd⟩ : ∃ wd, wd = wc := ⟨_, rfl⟩
            rw [← hwd] at HG3 hlt4 k9 k12 ⊢
            clear hwd
            go_cut [69] (fun s69 wx => s69 = .bool (hasTid || hasKey) ∧ wx = wd)
            case first =>
              clear HBL HA HY HO3
              cases hasTid
              all_goals
                go_wp2_with fail
                go_meet
                exact ⟨by simp, rfl⟩
            case rest =>
            obtain ⟨rfl, hwx⟩ := hcut
            rw [hwx]
            clear hwx k9 k12
            generalize (hasTid || hasKey) = hq at HBL ⊢
            cases hq
            · have e1 : bl = [] := by simpa using HBL.out
              have e2 : bs = acc := by rw [HA.out, e1]; simp
              subst e2
              go_wp2
              obtain ⟨A9, c9, hv9, own9, hB9⟩ := HG3.out
              rw [hv9]
              exact HY.out (by trivial) _ _ _ (own_base own9 HW0.out.size) (HW0.out.trans (hB9.mono HW0.out.size))
            all_goals
              have e1 : bl = [UInt8.ofNat B3] := by simpa using HBL.out
              have eT : [Value.int .u8 (B3 : Int)] = u8s bl := by rw [e1]; simp [u8s]; omega
              have ET := Lib.hid eT
              have e2 : bl.length = 1 := by rw [e1]; rfl
              have E2 := Lib.hid e2
              clear e1 eT e2 HBL
              obtain ⟨-, -, -, -, -, -, -, -, -, -, k10, k11, -, k13⟩ := KEEP.out _ HG3.out.below
              obtain ⟨A9, c9, hv9, own9, hB9⟩ := HG3.out
              rw [hv9]
              have HOWN := Lib.hid own9
              have HBB := Lib.hid hB9
              have hsz := hB9.size
              have hfar := Lib.hid (fun a ha => (own9.lt a ha).1)
              clear hv9 own9 hB9
              go_wp2_with fail
              have o3 := HO3.out
              have hw6 : IntKind.u8.wrap ((tid : Int) * 64) = (tid : Int) * 64 := IntWalk.u8_in _ (by omega)
              go_region_held3 (fun w' => w'.cell? ⟨w.heap.size, 10, none⟩ = some (.int .u8 (tid : Int)) ∧ w'.cell? ⟨w.heap.size, 11, none⟩ = some (.bool sync) ∧ w'.cell? ⟨w.heap.size, 13, none⟩ = some (.int .u8 (key : Int)))
                (first
                  | exact ⟨k10, k11, k13⟩
                  | exact keep3 (KEEP.out _ HBB.out)
                  | exact keep3 (KEEP.out _ (bdrew HBB.out))
                  | exact keep3 (KEEP.out _ ((bdrew HBB.out).alloc (by simpa using hsz) _))
                  | exact keep3 (KEEP.out _ (((bdrew HBB.out).alloc (by simpa using hsz) _).grown hgrow (by simp; omega) hfar.out)))
                ((first
                  | (go_at_call 28; refine (when_any _ _ _).mono ?_; rintro e w' ⟨rfl, rfl⟩)
                  | (refine step_append_lies _ (by rfl) _ _ _ (by rfl) w1.heap.size 5 i0 _ 1 1 Try.underlying22 HI0.out HZ0.out HZ1.out HZ2.out rfl (by omega) (.slice A9 acc.length c9) acc.length (u8s acc) (by rfl) (HOWN.out.drew.alloc _)
                        ⟨wd.heap.size, 0, none⟩ 1 1 [.int .u8 (B3 : Int)] (by rfl) (by rfl) (World.news_of_block (cs := #[.int .u8 (B3 : Int)]) (t := 5) (fr := (0, 0)) (heap_alloc_new wd.drew _)) (by simp [Value.oneCell'])
                        (by omega) (by unfold maxLen; omega) (by omega) (by simp; omega) (wd.heap.size + 1) (by simp) ?_; intro gg cap w2 hown1 hgrow hat hlt9)))
              rename_i hHeld
              have hB2 : Below w1.heap.size w1 w2 := (bdrew (HBB.out.alloc hsz _)).grown hgrow (by simp; omega) hfar.out
              rw [ET.out] at hown1
              have HF := Lib.hid (Grew.more hown1 rfl E2.out.symm hB2)
              clear hown1 hgrow hat hlt9 hHeld hB2 hfar hsz o3 HBB HOWN
              rw [← HA.out] at HF
              go_wp2
              obtain ⟨A9, c9, hv9, own9, hB9⟩ := HF.out
              rw [hv9]
              exact HY.out (by trivial) _ _ _ (own_base own9 HW0.out.size) (HW0.out.trans (hB9.mono HW0.out.size))
end Go.Proofs.Ytliiodjcpkabmaa
