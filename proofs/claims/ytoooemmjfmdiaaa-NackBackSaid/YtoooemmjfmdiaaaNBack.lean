/-
  Proved: NackBack returns true for every number and every row of steps: of packets that rise, what is packed is listed as it was, in as few pairs as can be. Conditions: none.
-/
import Derived.Test.YtoooemmjfmdiaaaNacF
import Derived.Test.YtoooemmjfmdiaaaLiftB
namespace Go.Proofs.Ytoooemmjfmdiaaa.NBack
open Go.ChangeShapes Go.WideShapes Go.ChangeAt Go.RowKit

theorem fold_fit : ∀ (l : List Nat) (ps : List (Nat × Nat)), Fit ps → (∀ x ∈ l, x < 65536) → Fit (l.foldl stepP ps)
  | [], _, h, _ => h
  | x :: r, ps, h, hx => fold_fit r _ (stepP_fit ps x h (hx x (by simp))) (fun y hy => hx y (by simp [hy]))
theorem wrap_step (a s : Nat) : IntKind.u16.wrap ((a : Int) + ((s : Int) + 1)) = (((a + s + 1) % 65536 : Nat) : Int) := by
  rw [IntKind.wrap_u16]; omega
theorem wrap_far (p x : Nat) (hp : p < 65536) (hx : x < 65536) : IntKind.u16.wrap ((x : Int) - p) = ((farN p x : Nat) : Int) := by
  rw [IntKind.wrap_u16]; unfold farN; omega
theorem risesN_length : ∀ (r : List Nat) (a : Nat), (risesN a r).length = r.length
  | [], _ => rfl
  | s :: r, a => by simp [risesN, risesN_length r]
theorem risesN_lt : ∀ (r : List Nat) (a : Nat), ∀ x ∈ risesN a r, x < 65536
  | [], _, _, h => by simp [risesN] at h
  | s :: r, a, x, h => by
    unfold risesN at h
    rcases List.mem_cons.1 h with rfl | h
    · exact Nat.mod_lt _ (by decide)
    · exact risesN_lt r _ x h
theorem rises_all (a : Nat) (S : List Nat) (ha : a < 65536) (hS : ∀ s ∈ S, s < 256) : listS (packS (a :: risesN a S)) = a :: risesN a S ∧ (packS (a :: risesN a S)).length = pairsN a a S := by
  have h := pack_rises S a 0 a 0 ha ha hS (by unfold farN; omega) (by decide) (by decide)
  refine ⟨?_, h.2⟩
  show listS (packC a 0 (risesN a S)) = _
  rw [h.1]
  unfold listP
  rw [aft_none a 0 16 0 (by decide)]
  rfl
theorem pairsN_le : ∀ (r : List Nat) (a b : Nat), pairsN a b r ≤ r.length + 1
  | [], _, _ => by simp [pairsN]
  | s :: r, a, b => by
    unfold pairsN
    split
    · have := pairsN_le r ((b + s + 1) % 65536) ((b + s + 1) % 65536); simp; omega
    · have := pairsN_le r a ((b + s + 1) % 65536); simp; omega

set_option maxRecDepth 100000 in
set_option maxHeartbeats 1600000 in
theorem walk (w : World) (a : Int) (ha : (Lit.int .u16 a).wf = true) (A : Option Addr) (c : Nat) (l : List UInt8) (hl : l.length ≤ maxLen) (hr : Row w w.heap.size 1 A l.length (u8s l)) :
    Calls Try.prog 5 #[.int .u16 a, .slice A l.length c] w fun e w' => e = .returned (.bool true) ∧ Below w.heap.size w w' := by
  have ha' := wf_u16 ha
  clear ha
  obtain ⟨f, rfl⟩ := Int.eq_ofNat_of_zero_le ha'.1
  have hf6 : f < 65536 := by omega
  clear ha'
  unfold maxLen at hl
  obtain ⟨n, hn⟩ : ∃ n, l.length = n := ⟨_, rfl⟩
  rw [hn] at hl hr ⊢
  by_cases h1 : 120 < n
  · clear hr hn
    go_enter Try.func5, Try.ntmps5
    go_wp2_with fail
    refine (awake_any w).mono ?_
    rintro e w1 ⟨rfl, b1⟩
    go_wp2
    go_ret
    exact ⟨rfl, b1⟩
  obtain ⟨S, hS⟩ : ∃ S : List Nat, S = l.map UInt8.toNat := ⟨_, rfl⟩
  have hSn : S.length = n := by rw [hS]; simpa using hn
  have hS256 : ∀ s ∈ S, s < 256 := by
    rw [hS]
    intro s hs
    obtain ⟨b, _, rfl⟩ := List.mem_map.1 hs
    exact b.toNat_lt
  have hSC : u8s l = S.map fun (s : Nat) => (.int .u8 (s : Int) : Value) := by rw [hS]; simp [u8s, Function.comp_def]
  rw [hSC] at hr
  obtain ⟨P, hP⟩ : ∃ P, pairsN f f S = P := ⟨_, rfl⟩
  obtain ⟨xs, hxs⟩ : ∃ xs, f :: risesN f S = xs := ⟨_, rfl⟩
  have hPn : P ≤ n + 1 := by rw [← hP, ← hSn]; exact pairsN_le S f f
  have HALL : Hid (listS (packS xs) = xs ∧ (packS xs).length = P ∧ xs.length = n + 1 ∧ ∀ x ∈ xs, x < 65536) := Lib.hid (by
    have h := rises_all f S hf6 hS256
    rw [hxs, hP] at h
    refine ⟨h.1, h.2, ?_, ?_⟩
    · rw [← hxs, List.length_cons, risesN_length, hSn]
    · rw [← hxs]
      intro x hx
      rcases List.mem_cons.1 hx with rfl | hx
      · exact hf6
      · exact risesN_lt S f x hx)
  have H := Lib.hid hr
  have HS6 := Lib.hid hS256
  have HSN := Lib.hid hSn
  have HP := Lib.hid hP
  have HXS := Lib.hid hxs
  clear hr hn hS256 hSn hP hxs hSC hS
  go_enter Try.func5, Try.ntmps5
  go_wp2_with fail
  refine (awake_any w).mono ?_
  rintro e w1 ⟨rfl, b1⟩
  have hsz1 := b1.size
  have hlit := World.ownsRow_lit (base := w.heap.size) (e := 25) (size := 1) w1 #[.int .u16 (f : Int)] 1 hsz1 (by decide) rfl
  have HB1 := Lib.hid (b1.alloc hsz1 (.cells #[.int .u16 (f : Int)] 25))
  have HO1 := Lib.hid hlit
  clear b1 hlit
  go_wp2_with fail
  go_loopw [6, 7, 8, 9, 10] (fun nw v pr la i wr => ∃ (k now last cnt : Nat) (ys : List Nat), k ≤ n ∧ i = .int .i64 k ∧ nw = .int .u16 now ∧ la = .int .u16 last ∧ pr = .int .i64 cnt ∧ now < 65536 ∧ last < 65536 ∧ cnt ≤ k + 1 ∧ wr.ownsRow w.heap.size 25 1 v (k + 1) (n16 ys) ∧ Hid (ys ++ risesN now (S.drop k) = xs) ∧ Hid (cnt + pairsN last now (S.drop k) = P + 1) ∧ Below w.heap.size w wr) (fun _ _ _ _ i _ => n - (intOf i).toNat)
  case atStart => exact ⟨0, f, f, 1, [f], Nat.zero_le _, rfl, rfl, rfl, rfl, hf6, hf6, by omega, HO1.out, Lib.hid (by rw [← HXS.out]; rfl), Lib.hid (by rw [← HP.out, List.drop_zero]; omega), HB1.out⟩
  case round =>
    clear HB1 HO1
    obtain ⟨k, now, last, cnt, ys, hk, rfl, rfl, rfl, rfl, hnow, hlast, hcnt, hown, HY, HC, hb⟩ := hrel
    obtain ⟨Av, cv, rfl⟩ := own_form hown
    by_cases hlt : k < n
    · obtain ⟨s, hs⟩ : ∃ s, S[k]? = some s := ⟨S[k]'(by rw [HSN.out]; exact hlt), by simp⟩
      have hs6 := HS6.out s (List.mem_of_getElem? hs)
      have hdrop : S.drop k = s :: S.drop (k + 1) := by
        have hk2 := (List.getElem?_eq_some_iff.1 hs)
        obtain ⟨hk3, hk4⟩ := hk2
        rw [← hk4, List.drop_eq_getElem_cons hk3]
      obtain ⟨x, hx⟩ : ∃ x, x = (now + s + 1) % 65536 := ⟨_, rfl⟩
      have hx6 : x < 65536 := by omega
      have HY' : Hid (ys ++ [x] ++ risesN x (S.drop (k + 1)) = xs) := Lib.hid (by rw [← HY.out, hdrop, risesN, ← hx]; simp)
      have hw := wrap_step now s
      rw [← hx] at hw
      have hfar := wrap_far last x hlast hx6
      have hfl := farN_lt last x
      have HD : Hid (pairsN last now (S.drop k) = if 16 < farN last x then pairsN x x (S.drop (k + 1)) + 1 else pairsN last x (S.drop (k + 1))) := Lib.hid (by rw [hdrop, pairsN, ← hx])
      obtain ⟨g, o, rfl, hg, hc⟩ := (H.out.below hb (Nat.le_refl _)).2 (by omega)
      have hc0 : wr.cell? ⟨g, o + k, none⟩ = some (.int .u8 (s : Int)) := hc k _ (by simp [hs])
      have hi1 : (0 : Int) ≤ (k : Int) := by omega
      have hi2 : (k : Int) < (n : Int) := by omega
      have hsz := hb.size
      have hrow : Row (wr.alloc (.cells #[.int .u16 (x : Int)] 25)) (wr.heap.size + 1) 1 (some ⟨wr.heap.size, 0, none⟩) 1 [.int .u16 (x : Int)] := Row.one _ _ _
      have hne : ∀ q, (Value.slice Av (k + 1) cv).ownBlock = some q → w.heap.size ≤ q ∧ q < wr.heap.size := fun q hq => hown.lt q hq
      have HO := Lib.hid hown
      have HB := Lib.hid hb
      have HR := Lib.hid hrow
      have HNE := Lib.hid hne
      clear hown hb hrow hne hdrop hs hc HY hx
      obtain ⟨fr, hfr⟩ : ∃ fr, farN last x = fr := ⟨_, rfl⟩
      rw [hfr] at hfar hfl HD
      clear hfr
      go_wp2_with (at_builtin; refine wpl_append _ rfl (.tmp 38) (.tmp 40) 30 rfl w.heap.size 25 (.int .u16 0) 1 2 Try.underlying30 info_u16 rfl (by decide) (.slice Av (k + 1) cv) (k + 1) (n16 ys) rfl (HO.out.alloc _) (wr.heap.size + 1) (some ⟨wr.heap.size, 0, none⟩) 1 1 [.int .u16 (x : Int)] rfl HR.out (by simp [Value.oneCell']) ?c1 ?c2 ?c3 ?_)
      case c1 => unfold maxLen; omega
      case c2 => omega
      case c3 => simp; omega
      intro v3 w3 hown3 hg3 _
      have hb3 : Below w.heap.size w w3 := (HB.out.alloc (by omega) _).grown hg3 (by simp; omega) (fun q hq => (HNE.out q hq).1)
      have hown3' : w3.ownsRow w.heap.size 25 1 v3 (k + 1 + 1) (n16 (ys ++ [x])) := by
        rw [n16_append]
        exact hown3
      have HC2 := Lib.hid HC.out
      clear hc0 hown3 hg3 HO HB HR HNE hsz hw HC
      by_cases h16 : 16 < fr
      · have HC' : Hid (cnt + 1 + pairsN x x (S.drop (k + 1)) = P + 1) := Lib.hid (by
          have h := HC2.out
          rw [HD.out, if_pos h16] at h
          omega)
        clear HC2 HD
        go_wp2
        go_roundw
        case rel => exact ⟨k + 1, x, x, cnt + 1, _, by omega, by go_num, rfl, rfl, by go_num, hx6, hx6, by omega, hown3', HY', HC', hb3⟩
        case measure => simp [intOf]; omega
      · have HC' : Hid (cnt + pairsN last x (S.drop (k + 1)) = P + 1) := Lib.hid (by
          have h := HC2.out
          rw [HD.out, if_neg h16] at h
          omega)
        clear HC2 HD
        go_wp2
        go_roundw
        case rel => exact ⟨k + 1, x, last, cnt, _, by omega, by go_num, rfl, rfl, rfl, hx6, hlast, by omega, hown3', HY', HC', hb3⟩
        case measure => simp [intOf]; omega
    · obtain rfl : k = n := by omega
      have e1 : ys = xs := by
        have h := HY.out
        rw [List.drop_of_length_le (by rw [HSN.out]; exact Nat.le_refl _)] at h
        simpa [risesN] using h
      have e2 : cnt = P := by
        have h := HC.out
        rw [List.drop_of_length_le (by rw [HSN.out]; exact Nat.le_refl _)] at h
        simp only [pairsN] at h
        omega
      subst e1
      subst e2
      have HR := Lib.hid (Row.of_own hown)
      have HB := Lib.hid hb
      have HO := Lib.hid hown
      clear hown hb HY HC HXS HP H
      obtain ⟨ps, hps⟩ : ∃ x, packS ys = x := ⟨_, rfl⟩
      have HPS := Lib.hid hps
      clear hps
      have hC := pack_as Av cv (k + 1) cnt ys ps wr HR.out HALL.out.2.2.2 HALL.out.2.2.1 (by omega) HPS.out (by rw [← HPS.out]; exact HALL.out.2.1)
      have HC := Lib.hid hC
      clear hC
      go_wp2_with fail
      refine HC.out.mono ?_
      rintro e w4 ⟨A4, c4, rfl, hown4, b4⟩
      have HO4 := Lib.hid hown4
      have HB4 := Lib.hid (bnext HB.out b4)
      have HL4 := Lib.hid (own_below HO.out b4 (Nat.le_refl _))
      clear hown4 b4 HC HB HR HO
      have HFP : Hid (Fit ps) := Lib.hid (by rw [← HPS.out, ← fold_packS]; exact fold_fit ys [] (by intro p hp; simp at hp) HALL.out.2.2.2)
      have hC := list_as A4 c4 cnt (k + 1) ps ys w4 (Row.of_own HO4.out) HFP.out (by rw [← HPS.out]; exact HALL.out.2.1) (by omega) (by rw [← HPS.out]; exact HALL.out.1) HALL.out.2.2.1
      have HC := Lib.hid hC
      clear hC
      go_wp2_with fail
      refine HC.out.mono ?_
      rintro e w5 ⟨A5, c5, rfl, hown5, b5⟩
      have HX := Lib.hid (Row.of_own (own_below HL4.out b5 (Nat.le_refl _)))
      have HY := Lib.hid (Row.of_own hown5)
      have HB5 := Lib.hid (bnext HB4.out b5)
      clear hown5 b5 HC HO4 HB4 HL4 HFP HPS
      go_wp2_with fail
      go_loopw [13] (fun i wx => ∃ j : Nat, j ≤ k + 1 ∧ i = .int .i64 j ∧ Hid (∃ q, wx = w5.drewN q)) (fun i _ => k + 1 - (intOf i).toNat)
      case atStart => exact ⟨0, Nat.zero_le _, rfl, Lib.hid ⟨0, rfl⟩⟩
      case round =>
        obtain ⟨j, hj, rfl, HW⟩ := hrel
        by_cases hlt2 : j < k + 1
        · obtain ⟨x, hx⟩ : ∃ x, ys[j]? = some x := ⟨ys[j]'(by rw [HALL.out.2.2.1]; exact hlt2), by simp⟩
          obtain ⟨g1, o1, rfl, hg1, k1⟩ := HX.out.2 (by omega)
          obtain ⟨g2, o2, rfl, hg2, k2⟩ := HY.out.2 (by omega)
          have d1 : wr.cell? ⟨g1, o1 + j, none⟩ = some (.int .u16 (x : Int)) := by obtain ⟨q, rfl⟩ := HW.out; exact k1 j _ (n16_get _ _ _ hx)
          have d2 : wr.cell? ⟨g2, o2 + j, none⟩ = some (.int .u16 (x : Int)) := by obtain ⟨q, rfl⟩ := HW.out; exact k2 j _ (n16_get _ _ _ hx)
          have hi1 : (0 : Int) ≤ (j : Int) := by omega
          have hi2 : (j : Int) < (k : Int) + 1 := by omega
          clear k1 k2 hx hg1 hg2
          go_wp2_with fail
          go_quiet (fail)
          go_wp2
          go_roundw
          case rel => exact ⟨j + 1, by omega, by go_num, Lib.hid (by obtain ⟨q, rfl⟩ := HW.out; exact ⟨_, World.drewN_drewN _ _ _⟩)⟩
          case measure => simp [intOf]; omega
        · obtain rfl : j = k + 1 := by omega
          go_wp2
          go_ret
          obtain ⟨q, rfl⟩ := HW.out
          exact ⟨rfl, bdrewN HB5.out q⟩

set_option maxRecDepth 100000 in
theorem lifted (os : Os) (started : os.Started) (H : Type) (enc : TypeId × Value → H) :
    ReturnsInHanded {} Try.checked os 5 .any (Rows.nackBackSpec.pre6 enc Try.prog Try.f5 Rows.nackBackRow.domain false) (Rows.nackBackSpec.post enc Try.prog Try.f5 false true false false) := by
  refine returnsInHanded_of_change (C := Try.checked) own started (by kernel_rfl) Try.func5
    (ChangeSpec.witness6 (enc := enc) (C := Try.checked) false ⟨#[], #[.int .u16 0, .slice none 0 0], []⟩ 8 (by kernel_rfl) (by kernel_rfl) (by kernel_rfl) (by kernel_rfl)) ?_
  intro W base args ds gs before hval0 hW _ _
  have hval : ∀ (j : Nat) t v, Try.f5.params[j]? = some t → args[j]? = some v → Value.okWide Try.prog W .any base t v := hval0
  have hW' := hW
  obtain ⟨p, q, hA0, hV, _, _, _⟩ := hW
  have hA : DataW.TrodAll enc Try.prog W 0 (fun _ => true) true Try.f5.params.toList args.toList ds p := hA0
  rw [Try.params5] at hA hval
  obtain ⟨v0, vs0, d0, ds0, p0, q0, hargs, rfl, _, h0, r0⟩ := trodAll_cons hA
  obtain ⟨v1, vs1, d1, ds1, p1, q1, rfl, rfl, _, h1, r1⟩ := trodAll_cons r0
  obtain ⟨rfl, rfl, _⟩ := trodAll_nil r1
  obtain rfl : args = #[v0, v1] := by cases args; simp_all
  obtain ⟨rfl, _⟩ := trodVars_none hV
  refine law_post (s := Rows.nackBackSpec) rfl rfl (by rw [Try.params5]; intro t ht; simp at ht; rcases ht with rfl | rfl <;> exact ⟨by kernel_rfl, of_decide_eq_true (by kernel_rfl)⟩) rfl hW' ?_
  obtain ⟨a0, rfl, _, _, w0⟩ := open_int Try.underlying25 (hval 0 25 v0 rfl rfl) h0
  obtain ⟨A1, c1, l1, rfl, hl1, hr1, _, _⟩ := open_bytes (hval 1 38 v1 rfl rfl) h1
  exact walk W a0 w0 A1 c1 l1 hl1 hr1

theorem over : Rows.nackBackRow.holds Try.pinned (OpenSpec.ofChange Rows.nackBackSpec) :=
  OpenClaim.holds_of_wide 5 Try.f5 rfl rfl rfl rfl rfl rfl rfl ⟨rfl, rfl, rfl, rfl, rfl⟩ rfl rfl rfl rfl rfl (by kernel_rfl) Try.func5 (by kernel_rfl)
    (of_decide_eq_true (by kernel_rfl)) (by unfold Func.isWrapper; first | (rw [if_pos (by decide +kernel)]; kernel_rfl) | (rw [if_neg (by decide +kernel)]; exact ⟨rfl, rfl⟩))
    (fun os started H enc _ => lifted os started H enc)

/-- The statement. -/
theorem nackBack_holds : Rows.NackBackSaid := over

end Go.Proofs.Ytoooemmjfmdiaaa.NBack
