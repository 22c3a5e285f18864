/-
  Proved: ArenaPlays returns true for every room and every row of acts: whatever is taken, freed and got, of whatever Refs, what is told, and which are used, are the document's, step by step. Conditions: none.
-/
import Derived.Test.YtejfjjgcajdjmaaArA
import Derived.Test.YtejfjjgcajdjmaaArS
import Derived.Test.YtejfjjgcajdjmaaArO
import Derived.Test.YtejfjjgcajdjmaaLift
import Derived.Deep.CutBlock
import Derived.Deep.DeepCutAuto
import Derived.Deep.QuietTactic
import Derived.BigQuiet
import Derived.IntWalk
import Derived.RegionTactic
namespace Go.Proofs.Ytejfjjgcajdjmaa.APlays
open Go.ChangeShapes Go.WideShapes Go.ChangeAt Go.RowKit
set_option linter.unusedSimpArgs false
set_option linter.unusedVariables false
set_option maxRecDepth 100000

theorem made_slots (n : Nat) : (madeCells #[.int .i64 0, .int .u32 0, .bool false] (n * 3)).toList = docC (freshA zI n) := by
  apply List.ext_getElem?
  intro j
  by_cases hj : j < n * 3
  · have e1 : (madeCells #[.int .i64 0, .int .u32 0, .bool false] (n * 3)).toList[j]? = some ((#[.int .i64 0, .int .u32 0, .bool false] : Array Value)[j % 3]!) := by
      simp [madeCells, hj]
    have hf : (freshA zI n)[j / 3]? = some ⟨zI, 0, false⟩ := by
      unfold freshA
      rw [List.getElem?_replicate, if_pos (by omega)]
    obtain ⟨g0, g1, g2⟩ := docC_get hf
    rw [e1]
    have h3 : j % 3 = 0 ∨ j % 3 = 1 ∨ j % 3 = 2 := by omega
    rcases h3 with h | h | h
    · rw [h, show j = j / 3 * 3 by omega, g0]; rfl
    · rw [h, show j = j / 3 * 3 + 1 by omega, g1]; rfl
    · rw [h, show j = j / 3 * 3 + 2 by omega, g2]; rfl
  · rw [List.getElem?_eq_none (by simp [madeCells]; omega), List.getElem?_eq_none (by rw [docC_length, freshA_length]; omega)]
theorem make_slots (n : Nat) (h2 : n ≤ 4096) (w : World) : ∃ cs : Array Value, cs.toList = docC (freshA zI n) ∧ cs.size = n * 3 ∧ (Instr.makeSlice 26 (.int .i64 n) (.int .i64 n)).run Try.prog w = .ok (.slice (some ⟨w.heap.size, 0, none⟩) n n) (w.alloc (.cells cs 46)) := by
  obtain ⟨i, hi0, hi1, hi2, hi3⟩ := info_parts info_SD
  have h := run_make (P := Try.prog) w 26 46 i (.agg #[.int .i64 0, .int .u32 0, .bool false]) Try.underlying26 hi0 hi1 .i64 .i64 n n (by omega) (Int.le_refl _) (by rw [hi3]; omega) (by omega)
  rw [Int.toNat_natCast, hi2] at h
  exact ⟨_, made_slots n, by rw [size_madeCells], h⟩

theorem live_take {l : List Sl} {k : Nat} {y : Sl} (h : l[k]? = some y) : liveA (l.take (k + 1)) = liveA (l.take k) + (if y.used = true then 1 else 0) := by
  have e : l.take (k + 1) = l.take k ++ [y] := by rw [List.take_add_one, h]; rfl
  unfold liveA
  rw [e, List.countP_append, List.countP_singleton]
theorem refsF_append : ∀ (l m : List Sl) (i : Nat), refsF i (l ++ m) = refsF i l ++ refsF (i + l.length) m
  | [], m, i => by simp [refsF]
  | z :: l, m, i => by
    have := refsF_append l m (i + 1)
    show (if z.used = true then (i, z.turn) :: refsF (i + 1) (l ++ m) else refsF (i + 1) (l ++ m)) = (if z.used = true then (i, z.turn) :: refsF (i + 1) l else refsF (i + 1) l) ++ refsF (i + (z :: l).length) m
    rw [this, show i + (z :: l).length = i + 1 + l.length by simp; omega]
    by_cases h : z.used = true <;> simp [h]
theorem refs_at {l : List Sl} {k : Nat} {y : Sl} (h : l[k]? = some y) (hu : y.used = true) : (refsA l)[liveA (l.take k)]? = some (k, y.turn) := by
  have hk : k < l.length := (List.getElem?_eq_some_iff.1 h).1
  have e : l = l.take k ++ y :: l.drop (k + 1) := by
    have h1 := List.drop_eq_getElem_cons hk
    rw [(List.getElem?_eq_some_iff.1 h).2] at h1
    rw [← h1, List.take_append_drop]
  have h2 : refsA l = refsF 0 (l.take k) ++ refsF (0 + (l.take k).length) (y :: l.drop (k + 1)) := by
    unfold refsA
    rw [← refsF_append, ← e]
  rw [h2, List.getElem?_append_right (by rw [refsF_length]; exact Nat.le_refl _), refsF_length, Nat.sub_self, List.length_take, Nat.min_eq_left (by omega), Nat.zero_add]
  simp [refsF, hu]
/-- What a round keeps: the arena and the document's slots are the same; the Refs that were told. -/
def Keeps (w0 : World) (g n k : Nat) (v8 v9 : Value) (wr : World) : Prop :=
  ∃ (l : List Sl) (S : Nat → Prop) (A : Option Addr) (c : Nat) (told : List (Nat × Nat)), v8 = .slice A n c ∧ Sync w0 g n l l S A told v9 wr ∧ (Turns k l ∧ NumC l) ∧ (told.length ≤ k ∧ ∀ y ∈ told, y.2 < 4294967296)

set_option maxHeartbeats 6400000 in
theorem walk (w : World) (a : Int) (ha : (Lit.int .u8 a).wf = true) (A : Option Addr) (c : Nat) (ps : List Ac) (hl : ps.length ≤ maxLen) (hr : Row w w.heap.size 5 A ps.length (rowC Ac.cells ps)) (ho : ∀ x ∈ ps, x.Fit) :
    Calls Try.prog 3 #[.int .u8 a, .slice A ps.length c] w fun e w' => e = .returned (.bool true) ∧ Below w.heap.size w w' := by
  unfold maxLen at hl
  have ha' := wf_u8 ha
  clear ha
  obtain ⟨m, hm⟩ : ∃ m, ps.length = m := ⟨_, rfl⟩
  have HM := Lib.hid hm
  rw [hm] at hr hl ⊢
  have HR := Lib.hid (fun (h0 : 0 < m) => row_at Ac.cells_length hr h0)
  have HO := Lib.hid ho
  clear hr ho hm
  by_cases hlong : 200 < m
  · go_enter Try.func3, Try.ntmps3
    go_wp2_with (go_at_call 7; refine (awake_any w).mono ?_; rintro e w1 ⟨rfl, b1⟩)
    go_ret
    exact ⟨rfl, b1⟩
  obtain ⟨n, hn⟩ : ∃ n : Nat, a % 9 + 1 = (n : Int) := ⟨(a % 9 + 1).toNat, by omega⟩
  have hn1 : 1 ≤ n := by omega
  have hn2 : n ≤ 9 := by omega
  go_enter Try.func3, Try.ntmps3
  go_wp2_with fail
  refine (awake_any w).mono ?_
  rintro e w1 ⟨rfl, b1⟩
  have HB1 := Lib.hid b1
  clear b1
  go_wp2_with fail
  refine (anewI_any n hn1 (by omega) w1).mono ?_
  rintro e w2 ⟨g, S, rfl, d2, s2, b2⟩
  have HD2 := Lib.hid d2
  have HS2 := Lib.hid (fun k hk => Nat.le_trans HB1.out.size (s2 k hk))
  have HB2 := Lib.hid (bnext HB1.out b2)
  have hlt2 := d2.lt
  clear d2 s2 b2 HB1
  obtain ⟨cs, hcs, hcz, mk⟩ := make_slots n (by omega) w2
  have H3 : Hid (Keeps w g n 0 (.slice (some ⟨w2.heap.size, 0, none⟩) n n) (.slice none 0 0) (w2.alloc (.cells cs 46))) := Lib.hid ⟨freshA zI n, S, _, _, [], rfl,
    ⟨freshA_length _ _, by omega, HD2.out.next ((Below.refl _ _).alloc (Nat.le_refl _) _), HS2.out, Row.fresh w2 _ cs 3 n _ hcz hcs, fun a ha => by cases ha; exact ⟨HB2.out.size, fun h => Nat.lt_irrefl _ (hlt2 _ h), by simp [Value.ownBlock]⟩, World.ownsRow_nil _ _ _ _, fun b hb => by simp [Value.ownBlock] at hb, HB2.out.alloc HB2.out.size _⟩,
    ⟨Turns.fresh _ _, NumC.fresh n⟩, Nat.le_refl _, fun y hy => by simp at hy⟩
  clear hlt2 HD2 HS2 HB2 hcs hcz
  go_wp2_with fail
  go_loopw [8, 9, 10] (fun v8 v9 i wr => ∃ k : Nat, k ≤ m ∧ i = .int .i64 (k : Int) ∧ Keeps w g n k v8 v9 wr) (fun _ _ i _ => m - (intOf i).toNat)
  case atStart => exact ⟨0, Nat.zero_le _, rfl, H3.out⟩
  case round =>
    clear H3 mk
    obtain ⟨k, hk, rfl, hK⟩ := hrel
    have HK := Lib.hid hK
    clear hK
    by_cases hlt : k < m
    · obtain ⟨ga, oa, rfl, hga, hca⟩ := HR.out (by omega)
      obtain ⟨x, hx⟩ : ∃ x, ps[k]? = some x := ⟨_, List.getElem?_eq_getElem (by rw [HM.out]; exact hlt)⟩
      have hfit := HO.out x (List.mem_of_getElem? hx)
      have HC := Lib.hid (fun w' b => And.intro (hca w' b k x 0 _ hx rfl) (And.intro (hca w' b k x 1 _ hx rfl) (And.intro (hca w' b k x 2 _ hx rfl) (And.intro (hca w' b k x 3 _ hx rfl) (hca w' b k x 4 _ hx rfl)))))
      clear hca hx
      have i0 : (0 : Int) ≤ (k : Int) := by omega
      have i1 : (k : Int) < (m : Int) := by omega
      obtain ⟨kind, xx, wh, ⟨rs, rt⟩⟩ := x
      obtain ⟨⟨hrt1, hrt2⟩, hw1, hw2⟩ := hfit
      dsimp only at HC hrt1 hrt2 hw1 hw2
      obtain ⟨l, S, Aw, cw, told, rfl, hsy, ⟨htu, hnum⟩, ⟨htl, ht32⟩⟩ := HK.out
      have HT32 := Lib.hid ht32
      have HTU := Lib.hid htu
      have HNUM := Lib.hid hnum
      clear ht32 htu hnum
      obtain ⟨At, ct, rfl⟩ := own_form hsy.own
      obtain ⟨a0, a1, a2, a3, a4⟩ := HC.out wr hsy.below
      rw [Nat.add_zero] at a0
      have hz := hsy.below.size
      obtain ⟨wo, hwo⟩ : ∃ z, z = wr := ⟨_, rfl⟩
      rw [← hwo] at a0 a1 a2 a3 a4 hz ⊢
      have HSY : Hid (Sync w g n l l S Aw told (.slice At told.length ct) wo) := Lib.hid (hwo ▸ hsy)
      obtain ⟨q, hq⟩ : ∃ q, told.length = q := ⟨_, rfl⟩
      have HQ := Lib.hid hq
      have HOW : Hid (wo.ownsRow w.heap.size 30 2 (.slice At q ct) q (refC told)) := Lib.hid (by have h := HSY.out.own; rw [hq] at h; exact h)
      rw [hq] at HSY htl ⊢
      clear hwo hsy HK hq
      go_upto_region 14 with fail
      have hgo : ga < wo.heap.size := by omega
      go_cut [11, 61] (fun s11 s61 wx => s11 = .pointer (some ⟨wo.heap.size, 0, none⟩) ∧ (∃ bb, s61 = .bool bb ∧ (bb = true → 0 ≤ wh ∧ 0 < q)) ∧ wx = wo.alloc (.cells #[.int .i64 rs, .int .u32 rt] 30))
      case first =>
        clear HC a0 a1 HOW
        by_cases hw0 : 0 ≤ wh
        · by_cases hq0 : 0 < q
          · have hq0' : (0 : Int) < (q : Int) := by omega
            go_wp2_with fail
            go_meet
            exact ⟨rfl, ⟨true, rfl, fun _ => ⟨hw0, hq0⟩⟩, rfl⟩
          · obtain rfl : q = 0 := by omega
            go_wp2_with fail
            go_meet
            exact ⟨rfl, ⟨false, rfl, fun h => by cases h⟩, rfl⟩
        · go_wp2_with fail
          go_meet
          exact ⟨rfl, ⟨false, rfl, fun h => by cases h⟩, rfl⟩
      case rest =>
      obtain ⟨rfl, ⟨bb, rfl, hbb⟩, rfl⟩ := hcut
      have HBB := Lib.hid hbb
      clear hbb
      go_upto_if 61 with fail
      go_cut [11] (fun s11 wx => s11 = .pointer (some ⟨wo.heap.size, 0, none⟩) ∧ ∃ p1 p2 : Int, Whole wx wo.heap.size 30 #[.int .i64 p1, .int .u32 p2] ∧ Below wo.heap.size wo wx ∧ 0 ≤ p2 ∧ p2 < 4294967296)
      case first =>
        clear HC a0 a1
        cases bb with
        | false =>
          clear HOW
          go_wp2_with fail
          go_meet
          exact ⟨rfl, rs, rt, Whole.new _ _ _, (Below.refl _ _).alloc (Nat.le_refl _) _, hrt1, hrt2⟩
        | true =>
          obtain ⟨hw0, hq0⟩ := HBB.out rfl
          obtain ⟨wn, rfl⟩ : ∃ z : Nat, wh = (z : Int) := ⟨wh.toNat, by omega⟩
          obtain ⟨kk, hkk⟩ : ∃ z : Nat, (wn : Int) % (q : Int) = (z : Int) := ⟨wn % q, by simp⟩
          have hkq : kk < q := by
            have h1 : wn % q < q := Nat.mod_lt _ hq0
            have h2 : ((wn % q : Nat) : Int) = (kk : Int) := by rw [← hkk]; simp
            omega
          have hqn : ¬ (q : Int) = 0 := by omega
          obtain ⟨y, hy⟩ : ∃ y, told[kk]? = some y := ⟨_, List.getElem?_eq_getElem (by rw [HQ.out]; exact hkq)⟩
          obtain ⟨gt, ot, rfl, hgt, hct⟩ := (Row.of_own HOW.out).2 hq0
          obtain ⟨y0, y1⟩ := refC_get hy
          have c0 := hct _ _ y0
          have c1 := hct _ _ y1
          rw [← Nat.add_assoc] at c1
          have i2 : (0 : Int) ≤ (kk : Int) := by omega
          have i3 : (kk : Int) < (q : Int) := by omega
          have hy2 : y.2 < 4294967296 := HT32.out _ (List.mem_of_getElem? hy)
          clear hct y0 y1 hy HOW hw0 HBB
          go_wp2_with fail
          go_meet
          exact ⟨rfl, (y.1 : Int), (y.2 : Int), Whole.new _ _ _, (Below.refl _ _).alloc (Nat.le_refl _) _, by omega, by omega⟩
      case rest =>
      obtain ⟨rfl, p1, p2, hW, hb, hp2a, hp2b⟩ := hcut
      have hgc : ga < wc.heap.size := Nat.lt_of_lt_of_le hgo hb.size
      have HSC := Lib.hid (HSY.out.next hb)
      have hRS : ¬ S wo.heap.size := fun h => Nat.lt_irrefl _ (HSY.out.ar.lt _ h)
      obtain ⟨R, hR⟩ : ∃ R, wo.heap.size = R := ⟨_, rfl⟩
      have hRO : (Value.slice At q ct).ownBlock ≠ some R := fun h => by have := (HOW.out.lt _ h).2; omega
      rw [hR] at hW hRS ⊢
      have hRl := hW.lt
      have HW := Lib.hid hW
      have HRS := Lib.hid hRS
      have HRO := Lib.hid hRO
      obtain ⟨b0, b1, b2, b3, b4⟩ := HC.out wc HSC.out.below
      clear b2 b3 b4
      rw [Nat.add_zero] at b0
      clear hb hW hRS hRO hR HSY HOW a0 a1 a2 a3 a4 hz hgo HBB
      go_upto_block 2 with fail
      go_cut [8, 9] (fun s8 s9 wx => Keeps w g n (k + 1) s8 s9 wx ∧ Whole wx R 30 #[.int .i64 p1, .int .u32 p2])
      case first =>
        by_cases hk2 : kind = 0 ∨ kind = 1
        · have DT := Lib.hid (fun w' (b : Below wc.heap.size wc w') => rtake_any Aw cw l xx w' (by rw [HSC.out.len]; exact (HSC.out.row.below b (Nat.le_refl _)).more b.size) (by rw [HSC.out.len]; omega) HNUM.out.one (HTU.out.more (by omega)))
          have hll := HSC.out.len
          rw [hll] at DT
          obtain ⟨er, her⟩ : ∃ z, errA l = z := ⟨_, rfl⟩
          obtain ⟨sl, hsl⟩ : ∃ z, slotA l = z := ⟨_, rfl⟩
          obtain ⟨tn, htn⟩ : ∃ z, turnT l = z := ⟨_, rfl⟩
          have ATK := Lib.hid (fun S' w' (h : ArAt true w' g S' l) => atakeI_any l xx g S' w' h (HTU.out.more (by omega)) (by rw [hll]; omega))
          unfold refV at ATK
          rw [her, hsl, htn] at DT ATK
          have EQ := fun w : World => neq_ref w sl tn sl tn false (by simp)
          have hNU2 := HNUM.out.take xx
          have hTU2 := HTU.out.take (.int .i64 xx)
          have hlen2 := takeA_length l (.int .i64 xx)
          have her2 : er = 0 ∨ er = 20 := by rw [← her]; unfold errA; split <;> simp
          have htn2 : tn ≤ k + 1 := by
            rw [← htn]
            unfold turnT
            by_cases h : lowA l < l.length
            · rw [if_pos h]
              have h1 := hTU2 ⟨.int .i64 xx, turnA l, true⟩ (by rw [take_yes h]; exact List.mem_of_getElem? (i := lowA l) (by rw [List.getElem?_set_self h]))
              exact h1
            · rw [if_neg h]; omega
          obtain ⟨l2, hl2⟩ : ∃ z, takeA l (.int .i64 xx) = z := ⟨_, rfl⟩
          rw [hl2] at DT ATK hNU2 hTU2 hlen2
          have HN2 := Lib.hid (And.intro hNU2 (And.intro hTU2 (And.intro hlen2 htn2)))
          clear her hsl htn hl2 hNU2 hTU2 hlen2 htn2 HNUM HTU hll
          rcases hk2 with rfl | rfl
          all_goals
            go_wp2_with fail
            refine (DT.out wc (Below.refl _ _)).mono ?_
            rintro e w3 ⟨A3, c3, rfl, d3⟩
            have HS3 := Lib.hid (HSC.out.doc (l' := l2) HN2.out.2.2.1 d3)
            have HW3 := Lib.hid (HW.out.below d3.2.2 HW.out.lt)
            have x1 := (HC.out w3 HS3.out.below).2.1
            have hg3 : ga < w3.heap.size := Nat.lt_of_lt_of_le hgc d3.2.2.size
            clear d3 DT HSC HW b0 b1
            go_wp2_with fail
            obtain ⟨w4, hw4⟩ : ∃ z, z = w3.alloc (.cells #[.int .i64 (sl : Int), .int .u32 (tn : Int)] 30) := ⟨_, rfl⟩
            have bl4 : Below w3.heap.size w3 w4 := by rw [hw4]; exact (Below.refl _ _).alloc (Nat.le_refl _) _
            have HS4 := Lib.hid (HS3.out.next bl4)
            have HW4 := Lib.hid (HW3.out.below bl4 HW3.out.lt)
            have HT4 := Lib.hid (show Whole w4 w3.heap.size 30 #[.int .i64 (sl : Int), .int .u32 (tn : Int)] by rw [hw4]; exact Whole.new w3 _ _)
            have nT : ¬ S w3.heap.size := fun h => Nat.lt_irrefl _ (HS3.out.ar.lt _ h)
            rw [← hw4]
            clear hw4 bl4 HS3 HW3 x1
            refine (ATK.out S w4 HS4.out.ar).mono ?_
            rintro e w5 ⟨S5, rfl, d5, k5, m5⟩
            have HS5 := Lib.hid (HS4.out.arena d5 k5 m5)
            have HW5 := Lib.hid (HW4.out.but k5 HRS.out)
            have HT5 := Lib.hid (HT4.out.but k5 nT)
            have t0 := HT5.out.cell 0
            have t1 := HT5.out.cell 1
            have tl := HT5.out.lt
            clear d5 k5 m5 HS4 HW4 HT4 ATK nT
            have HF := Lib.hid (show Keeps w g n (k + 1) (.slice A3 n c3) (.slice At q ct) (w5.alloc (.cells #[.int .i64 (sl : Int), .int .u32 (tn : Int)] 30)) ∧ Whole (w5.alloc (.cells #[.int .i64 (sl : Int), .int .u32 (tn : Int)] 30)) R 30 #[.int .i64 p1, .int .u32 p2] from
              ⟨⟨l2, S5, A3, c3, told, rfl, HS5.out.next ((Below.refl _ _).alloc (Nat.le_refl _) _), ⟨HN2.out.2.1, HN2.out.1⟩, by rw [HQ.out]; omega, HT32.out⟩, HW5.out.alloc _⟩)
            rcases her2 with rfl | rfl
            · have HS6 := Lib.hid (HS5.out.next ((((Below.refl _ _).alloc (Nat.le_refl _) (.cells #[.int .i64 (sl : Int), .int .u32 (tn : Int)] 30))).alloc (by simp) (.cells #[.int .i64 (sl : Int), .int .u32 (tn : Int)] 30)))
              have HO6 := Lib.hid (show ((w5.alloc (.cells #[.int .i64 (sl : Int), .int .u32 (tn : Int)] 30)).alloc (.cells #[.int .i64 (sl : Int), .int .u32 (tn : Int)] 30)).ownsRow w.heap.size 30 2 (.slice At q ct) q (refC told) by have h := HS6.out.own; rw [HQ.out] at h; exact h)
              have HW6 := Lib.hid ((HW5.out.alloc (.cells #[.int .i64 (sl : Int), .int .u32 (tn : Int)] 30)).alloc (.cells #[.int .i64 (sl : Int), .int .u32 (tn : Int)] 30))
              have HR6 := Lib.hid (Row.fresh2 w5 (.cells #[.int .i64 (sl : Int), .int .u32 (tn : Int)] 30) 30 #[.int .i64 (sl : Int), .int .u32 (tn : Int)] 2 1 [.int .i64 (sl : Int), .int .u32 (tn : Int)] rfl rfl)
              have hz5 := HS5.out.below.size
              clear HF HS5 HW5 HT5
              go_wp2_with (at_builtin; refine wpl_append _ rfl (.tmp 113) (.tmp 115) 27 rfl w.heap.size 30 (.agg #[.int .i64 0, .int .u32 0]) 2 16 Try.underlying27 info_ref rfl (by decide) _ q (refC told) rfl HO6.out _ _ 1 1 [.int .i64 (sl : Int), .int .u32 (tn : Int)] rfl HR6.out (by simp [Value.oneCell']) ?c1 ?c2 ?c3 ?_)
              case c1 => unfold maxLen; omega
              case c2 => omega
              case c3 => simp; omega
              intro v7 w7 hown7 hg7 hv7
              have HF := Lib.hid (show Keeps w g n (k + 1) (.slice A3 n c3) v7 w7 ∧ Whole w7 R 30 #[.int .i64 p1, .int .u32 p2] from
                ⟨⟨l2, S5, A3, c3, told ++ [(sl, tn)], rfl, HS6.out.add (p := (sl, tn)) (by rw [HQ.out]; exact hown7) hg7 (by simpa using hv7), ⟨HN2.out.2.1, HN2.out.1⟩, by rw [List.length_append, HQ.out]; simp; omega, fun y hy => (List.mem_append.1 hy).elim (HT32.out y) (fun h => by rw [List.mem_singleton.1 h]; show tn < 4294967296; have := HN2.out.2.2.2; omega)⟩, HW6.out.grown hg7 (fun e => HRO.out e.symm)⟩)
              clear hown7 hg7 hv7 HS6 HO6 HW6 HR6
              go_wp2_with fail
              go_meet
              exact HF.out
            · go_wp2_with fail
              go_meet
              exact HF.out
        · by_cases hk3 : kind = 2
          · have DF := Lib.hid (fun w' (b : Below wc.heap.size wc w') => rfree_any Aw cw l p1 p2 w' (by rw [HSC.out.len]; exact (HSC.out.row.below b (Nat.le_refl _)).more b.size) (by rw [HSC.out.len]; omega) HNUM.out.one)
            have hll := HSC.out.len
            rw [hll] at DF
            obtain ⟨er, her⟩ : ∃ z : Int, (if (getA l p1 p2).isSome = true then 0 else 26) = z := ⟨_, rfl⟩
            have AFR := Lib.hid (fun S' w' (h : ArAt true w' g S' l) => afreeI_any l p1 p2 g S' w' h (by rw [hll]; omega))
            rw [her] at DF AFR
            rw [freeA_zI] at DF
            have hNU2 := HNUM.out.free p1 p2
            have hTU2 := (HTU.out.more (Nat.le_succ k)).free zI p1 p2
            have hlen2 := freeA_length zI l p1 p2
            obtain ⟨l2, hl2⟩ : ∃ z, freeA zI l p1 p2 = z := ⟨_, rfl⟩
            rw [hl2] at DF AFR hNU2 hTU2 hlen2
            have HN2 := Lib.hid (And.intro hNU2 (And.intro hTU2 hlen2))
            clear her hl2 hNU2 hTU2 hlen2 HNUM HTU hll hk2
            subst hk3
            have q0 := HW.out.cell 0
            have q1 := HW.out.cell 1
            go_wp2_with fail
            refine (DF.out wc (Below.refl _ _)).mono ?_
            rintro e w3 ⟨A3, c3, rfl, d3⟩
            have HS3 := Lib.hid (HSC.out.doc (l' := l2) HN2.out.2.2 d3)
            have HW3 := Lib.hid (HW.out.below d3.2.2 HW.out.lt)
            clear d3 DF HSC HW b0 b1 q0 q1
            have q0 := HW3.out.cell 0
            have q1 := HW3.out.cell 1
            have hR3 := HW3.out.lt
            go_wp2_with fail
            refine (AFR.out S w3 HS3.out.ar).mono ?_
            rintro e w5 ⟨S5, rfl, d5, k5, m5⟩
            have HF := Lib.hid (show Keeps w g n (k + 1) (.slice A3 n c3) (.slice At q ct) w5 ∧ Whole w5 R 30 #[.int .i64 p1, .int .u32 p2] from
              ⟨⟨l2, S5, A3, c3, told, rfl, HS3.out.arena d5 k5 m5, ⟨HN2.out.2.1, HN2.out.1⟩, by rw [HQ.out]; omega, HT32.out⟩, HW3.out.but k5 HRS.out⟩)
            clear d5 k5 m5 HS3 HW3 AFR q0 q1
            go_wp2_with fail
            go_meet
            exact HF.out
          · have HF := Lib.hid (show Keeps w g n (k + 1) (.slice Aw n cw) (.slice At q ct) wc ∧ Whole wc R 30 #[.int .i64 p1, .int .u32 p2] from
              ⟨⟨l, S, Aw, cw, told, rfl, HSC.out, ⟨HTU.out.more (Nat.le_succ k), HNUM.out⟩, by rw [HQ.out]; omega, HT32.out⟩, HW.out⟩)
            have z0 : ¬ kind = 0 := fun h => hk2 (.inl h)
            have z1 : ¬ kind = 1 := fun h => hk2 (.inr h)
            clear hk2 HSC HTU HNUM HW
            go_wp2_with fail
            go_meet
            exact HF.out
      case rest =>
      obtain ⟨⟨l2, S2, A2, c2, told2, rfl, hsy, ⟨htu, hnum⟩, htl2⟩, hW⟩ := hcut
      obtain ⟨xv, ev, hg1, hg2⟩ := got_same hnum p1 p2
      have hll := hsy.len
      have AG := Lib.hid (fun w' (h : ArAt true w' g S2 l2) => agetI_any l2 p1 p2 g S2 w' h (by omega))
      rw [hg1] at AG
      have DG := Lib.hid (fun w' (h : Row w' w'.heap.size 3 A2 n (docC l2)) => rget_any A2 c2 l2 p1 p2 w' (by rw [hll]; exact h) (by omega))
      rw [hg2, hll] at DG
      have HSY := Lib.hid hsy
      have HLN := Lib.hid hll
      have HW := Lib.hid hW
      have HKE := Lib.hid (And.intro (And.intro htu hnum) htl2)
      have q0 := hW.cell 0
      have q1 := hW.cell 1
      have hR1 := hW.lt
      clear hsy htu hnum htl2 hW hg1 hg2 hll b0 b1
      clear HSC HTU HNUM HQ HT32 HRS HRO HC hgc hRl
      go_wp2_with fail
      refine (AG.out _ HSY.out.ar).mono ?_
      rintro e w3 ⟨rfl, b3⟩
      have HS3 := Lib.hid (HSY.out.next b3)
      have HW3 := Lib.hid (HW.out.below b3 HW.out.lt)
      clear b3 HSY HW AG q0 q1 hR1
      have q0 := HW3.out.cell 0
      have q1 := HW3.out.cell 1
      have hR3 := HW3.out.lt
      go_wp2_with fail
      refine (DG.out _ HS3.out.row).mono ?_
      rintro e w4 ⟨rfl, b4⟩
      have HS4 := Lib.hid (HS3.out.next b4)
      clear b4 HS3 HW3 DG q0 q1 hR3
      have AR := Lib.hid (arefsI_any l2 g S2 w4 HS4.out.ar (by rw [HLN.out]; omega))
      go_wp2_with fail
      refine AR.out.mono ?_
      rintro e w5 ⟨Ar, cr, rfl, hrow5, b5⟩
      have HS5 := Lib.hid (HS4.out.next b5)
      have HR5 := Lib.hid hrow5
      clear b5 hrow5 HS4 AR
      obtain ⟨N, hN⟩ : ∃ N, liveA l2 = N := ⟨_, rfl⟩
      have HNL := Lib.hid hN
      rw [hN] at HR5 ⊢
      have hN9 : N ≤ 9 := by have := liveA_le l2; rw [HLN.out] at this; omega
      clear hN
      go_wp2_with fail
      go_loopw [23, 25] (fun v23 v25 wr => ∃ j : Nat, j ≤ n ∧ v25 = .int .i64 (j : Int) ∧ v23 = .int .i64 ((liveA (l2.take j) : Nat) : Int) ∧ Below w5.heap.size w5 wr) (fun _ v25 _ => n - (intOf v25).toNat)
      case atStart => exact ⟨0, Nat.zero_le _, rfl, rfl, Below.refl _ _⟩
      case round =>
        obtain ⟨j, hj, rfl, rfl, hb⟩ := hrel
        have HB := Lib.hid hb
        have hz5 := hb.size
        clear hb
        by_cases hjn : j < n
        · obtain ⟨y, hy⟩ : ∃ y, l2[j]? = some y := ⟨_, List.getElem?_eq_getElem (by rw [HLN.out]; exact hjn)⟩
          obtain ⟨gd, od, rfl, hgd, hcd⟩ := HS5.out.row.2 HS5.out.pos
          obtain ⟨e0, e1, e2⟩ := docC_get hy
          have d1 := (HB.out.cell (p := ⟨gd, od + (j * 3 + 1), none⟩) hgd).trans (hcd _ _ e1)
          have d2 := (HB.out.cell (p := ⟨gd, od + (j * 3 + 2), none⟩) hgd).trans (hcd _ _ e2)
          rw [← Nat.add_assoc] at d1 d2
          have i2 : (0 : Int) ≤ (j : Int) := by omega
          have i3 : (j : Int) < (n : Int) := by omega
          have hgd2 : gd < wr.heap.size := Nat.lt_of_lt_of_le hgd hz5
          obtain ⟨yx, yt, yu⟩ := y
          dsimp only at d1 d2
          have hlv := live_take hy
          have hrf := refs_at hy
          obtain ⟨L, hL⟩ : ∃ L, liveA (l2.take j) = L := ⟨_, rfl⟩
          rw [hL] at hlv hrf ⊢
          clear hcd e0 e1 e2 hL
          cases yu with
          | false =>
            have HX := Lib.hid (show liveA (l2.take (j + 1)) = L by rw [hlv]; rfl)
            clear hlv hrf hy d1
            go_wp2_with fail
            go_roundw
            case rel => exact ⟨j + 1, by omega, by go_num, by rw [HX.out], HB.out⟩
            case measure => simp [intOf]; omega
          | true =>
            have HX := Lib.hid (show liveA (l2.take (j + 1)) = L + 1 by rw [hlv]; rfl)
            have hrf := hrf rfl
            have hLN : L < N := by have := (List.getElem?_eq_some_iff.1 hrf).1; rw [refsA, refsF_length, HNL.out] at this; exact this
            obtain ⟨gr, orr, rfl, hgr, hcr⟩ := HR5.out.2 (by omega)
            obtain ⟨f0, f1⟩ := refC_get hrf
            have r0 := (HB.out.cell (p := ⟨gr, orr + L * 2, none⟩) hgr).trans (hcr _ _ f0)
            have r1 := (HB.out.cell (p := ⟨gr, orr + (L * 2 + 1), none⟩) hgr).trans (hcr _ _ f1)
            rw [← Nat.add_assoc] at r1
            have i4 : (0 : Int) ≤ (L : Int) := by omega
            have i5 : (L : Int) < (N : Int) := by omega
            have g1 : decide ((N : Int) ≤ (L : Int)) = false := decide_eq_false (by omega)
            have g2 : decide (N ≤ L) = false := decide_eq_false (by omega)
            have hgr2 : gr < wr.heap.size := Nat.lt_of_lt_of_le hgr hz5
            have EQ := fun w : World => neq_ref w j yt j yt false (by simp)
            clear hlv hrf hy hcr f0 f1
            dsimp only at r0 r1
            go_wp2_with fail
            go_region
            go_wp2_with fail
            go_roundw
            case rel => exact ⟨j + 1, by omega, by go_num, by rw [HX.out]; go_num, HB.out.drew⟩
            case measure => simp [intOf]; omega
        · obtain rfl : j = n := by omega
          have hta : l2.take j = l2 := by rw [← HLN.out]; exact List.take_length
          rw [hta, HNL.out]
          have AL := Lib.hid (aliveI_any l2 g S2 wr (HS5.out.ar.next HB.out) (by rw [HLN.out]; omega))
          rw [HNL.out] at AL
          have HS6 := Lib.hid (HS5.out.next HB.out)
          clear hta HS5 HR5 HB
          go_wp2_with fail
          refine AL.out.mono ?_
          rintro e w6 ⟨rfl, b6⟩
          have HF := Lib.hid (show Keeps w g j (k + 1) (.slice A2 j c2) _ w6 from ⟨l2, S2, A2, c2, told2, rfl, HS6.out.next b6, HKE.out⟩)
          clear b6 HS6 AL
          go_wp2_with fail
          go_roundw
          case rel => exact ⟨k + 1, by omega, by go_num, HF.out⟩
          case measure => simp [intOf]; omega


    · obtain rfl : k = m := by omega
      have HF : Hid (Below w.heap.size w wr) := Lib.hid (by obtain ⟨_, _, _, _, _, _, h, _⟩ := HK.out; exact h.below)
      clear HK
      go_wp2_with fail
      go_ret
      exact ⟨rfl, HF.out⟩

set_option maxRecDepth 100000 in
theorem lifted (os : Os) (started : os.Started) (H : Type) (enc : TypeId × Value → H) :
    ReturnsInHanded {} Try.checked os 3 .any (Rows.arenaPlaysSpec.pre6 enc Try.prog Try.f3 Rows.arenaPlaysRow.domain false) (Rows.arenaPlaysSpec.post enc Try.prog Try.f3 false true false false) := by
  refine returnsInHanded_of_change (C := Try.checked) own started (by kernel_rfl) Try.func3
    (ChangeSpec.witness6 (enc := enc) (C := Try.checked) false ⟨#[], #[.int .u8 0, .slice none 0 0], []⟩ 8 (by kernel_rfl) (by kernel_rfl) (by kernel_rfl) (by kernel_rfl)) ?_
  intro W base args ds gs before hval0 hW _ _
  have hval : ∀ (j : Nat) t v, Try.f3.params[j]? = some t → args[j]? = some v → Value.okWide Try.prog W .any base t v := hval0
  have hW' := hW
  obtain ⟨p, q, hA0, hV, _, _, _⟩ := hW
  have hA : DataW.TrodAll enc Try.prog W 0 (fun _ => true) true Try.f3.params.toList args.toList ds p := hA0
  rw [Try.params3] at hA hval
  obtain ⟨v0, vs0, d0, ds0, p0, q0, hargs, rfl, _, h0, r0⟩ := trodAll_cons hA
  obtain ⟨v1, vs1, d1, ds1, p1, q1, rfl, rfl, _, h1, r1⟩ := trodAll_cons r0
  obtain ⟨rfl, rfl, _⟩ := trodAll_nil r1
  obtain rfl : args = #[v0, v1] := by cases args; simp_all
  obtain ⟨rfl, _⟩ := trodVars_none hV
  refine law_post (s := Rows.arenaPlaysSpec) rfl rfl (by rw [Try.params3]; intro t ht; simp at ht; rcases ht with rfl | rfl <;> exact ⟨by kernel_rfl, of_decide_eq_true (by kernel_rfl)⟩) rfl hW' ?_
  obtain ⟨a0, rfl, _, _, w0⟩ := open_int Try.underlying5 (hval 0 5 v0 rfl rfl) h0
  obtain ⟨A1, c1, l1, rfl, hl1, hr1, ho1⟩ := open_acts (hval 1 22 v1 rfl rfl) h1
  exact walk W a0 w0 A1 c1 l1 hl1 hr1 ho1

theorem over : Rows.arenaPlaysRow.holds Try.pinned (OpenSpec.ofChange Rows.arenaPlaysSpec) :=
  OpenClaim.holds_of_wide 3 Try.f3 rfl rfl rfl rfl rfl rfl rfl ⟨rfl, rfl, rfl, rfl, rfl⟩ rfl rfl rfl rfl rfl (by kernel_rfl) Try.func3 (by kernel_rfl)
    (of_decide_eq_true (by kernel_rfl)) (by unfold Func.isWrapper; first | (rw [if_pos (by decide +kernel)]; kernel_rfl) | (rw [if_neg (by decide +kernel)]; exact ⟨rfl, rfl⟩))
    (fun os started H enc _ => lifted os started H enc)

/-- The statement. -/
theorem arenaPlays_holds : Rows.ArenaPlaysSaid := over

end Go.Proofs.Ytejfjjgcajdjmaa.APlays
