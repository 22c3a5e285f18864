/-
  Proved: OctetOwn returns true for all bytes and every number of bytes to take: what was taken, and what was handed in, may be written over, and what is left stays. Conditions: none.
-/
import Derived.Test.YtahaeeedpnoelaaOctS
import Derived.Deep.RegionHeld3
import Derived.Deep.DeepCutAuto
import Derived.Deep.QuietTactic
import Derived.BigQuiet
import Derived.IntWalk
namespace Go.Proofs.Ytahaeeedpnoelaa.OwnY
set_option linter.unusedSimpArgs false
open Go.ChangeShapes Go.WideShapes Go.ChangeAt Go.RowKit

theorem add_one (k : Nat) (hk : k ≤ 1000) (wx : World) : (binOp .add 3 (.int .i64 (k : Int)) (.int .i64 1)).run Try.prog wx = .ok (.int .i64 ((k : Int) + 1)) wx := by
  have h := IntWalk.i64_in ((k : Int) + 1) (by omega)
  go_simp

/-- What stays while what was taken is written over. -/
def Stay (w wr : World) (b1 b2 g : Nat) (l rs : List UInt8) (A2 : Option Addr) (c2 : Nat) : Prop :=
  CutAt wr b2 g rs 0 ∧ wr.ownsRow b1 5 1 (.slice A2 l.length c2) l.length (u8s l) ∧ Below w.heap.size w wr

theorem Stay.set {w wr : World} {b1 b2 g : Nat} {l rs : List UInt8} {A2 : Option Addr} {c2 : Nat} (h : Stay w wr b1 b2 g l rs A2 c2) (lA : ∀ q, (Value.slice A2 l.length c2).ownBlock = some q → b1 ≤ q ∧ q < b2)
    (hg : b2 ≤ g) (hb : w.heap.size ≤ b2) {gx j : Nat} (hx : g < gx) (u : Value) : Stay w (wr.setCell ⟨gx, j, none⟩ u) b1 b2 g l rs A2 c2 := by
  refine ⟨h.1.far (p := ⟨gx, j, none⟩) hx u, h.2.1.kept (grown_set wr gx j u) ?_, h.2.2.setCell (p := ⟨gx, j, none⟩) (by simp; omega) u⟩
  right
  intro e
  have := (lA gx e).2
  omega

theorem Stay.grown {w wr wx : World} {b1 b2 g : Nat} {l rs : List UInt8} {A2 : Option Addr} {c2 : Nat} (h : Stay w wr b1 b2 g l rs A2 c2) (lA : ∀ q, (Value.slice A2 l.length c2).ownBlock = some q → b1 ≤ q ∧ q < b2)
    (hg : b2 ≤ g) (hb : w.heap.size ≤ b2) (o : Obj) {row : Option Nat} (hx : (wr.alloc o).grownBy wx row) (hr : ∀ q, row = some q → g < q) : Stay w wx b1 b2 g l rs A2 c2 := by
  have hs := h.2.2.size
  have hl := h.1.lt
  refine ⟨(h.1.alloc o).grown hx hr, (h.2.1.alloc o).kept hx ?_, (h.2.2.alloc hs o).grown hx (by simp; omega) (fun q hq => by have := hr q hq; omega)⟩
  cases hv : (Value.slice A2 l.length c2).ownBlock with
  | none => exact .inl rfl
  | some q =>
    right
    intro e
    have h1 := (lA q hv).2
    have h2 := hr q e.symm
    omega

/-- An element of a row of bytes written over. -/
theorem own_put {wr : World} {b : Nat} {A : Option Addr} {c k j : Nat} {zs : List Int} (h : wr.ownsRow b 5 1 (.slice A k c) k (zs.map (Value.int .u8))) (hj : j < k) :
    ∃ gx z, A = some ⟨gx, 0, none⟩ ∧ b ≤ gx ∧ wr.cell? ⟨gx, j, none⟩ = some (.int .u8 z) ∧ wr.frozen? ⟨gx, j, none⟩ = false ∧
      ∀ v, (wr.setCell ⟨gx, j, none⟩ (.int .u8 v)).ownsRow b 5 1 (.slice A k c) k ((zs.set j v).map (Value.int .u8)) := by
  have hl : zs.length = k := by have := h.1; simpa using this
  rcases h.2 with ⟨_, h0⟩ | ⟨g, cap, cur, hv, hb, _⟩
  · omega
  · have hA : A = some ⟨g, 0, none⟩ := by injection hv
    subst hA
    refine ⟨g, zs[j]'(by omega), rfl, hb, ?_, h.frozenAt j, fun v => ?_⟩
    · rw [h.cellAt j (by omega)]
      simp [show j < zs.length by omega]
    · have := (h.stored j (.int .u8 v)).1
      rwa [← List.map_set] at this

set_option maxRecDepth 100000 in
set_option maxHeartbeats 8000000 in
theorem walk (w : World) (A : Option Addr) (c : Nat) (l : List UInt8) (hl : l.length ≤ maxLen) (hr : Row w w.heap.size 1 A l.length (u8s l)) (hlc : l.length ≤ c) (hcm : c ≤ maxLen) (n : Int) (hn : (Lit.int .u8 n).wf = true) :
    Calls Try.prog 6 #[.slice A l.length c, .int .u8 n] w fun e w' => e = .returned (.bool true) ∧ Below w.heap.size w w' := by
  unfold maxLen at hl hcm
  have hn' := wf_u8 hn
  clear hn
  obtain ⟨n, rfl⟩ := Int.eq_ofNat_of_zero_le hn'.1
  by_cases hlong : 300 < l.length
  · go_enter Try.func6, Try.ntmps6
    go_wp2_with (go_at_call 10; refine (awake_any w).mono ?_; rintro e w1 ⟨rfl, b1⟩)
    go_ret
    exact ⟨rfl, b1⟩
  go_enter Try.func6, Try.ntmps6
  go_wp2_with fail
  refine (awake_any w).mono ?_
  rintro e w1 ⟨rfl, b1⟩
  have r1 := hr.below b1 (Nat.le_refl _)
  have z1 := b1.size
  go_wp2_with (at_builtin; refine wpl_append _ rfl (.tmp 18) (.tmp 19) 24 rfl w1.heap.size 5 (.int .u8 0) 1 1 Try.underlying24 info_u8 rfl (by decide) (.slice none 0 0) 0 [] rfl (World.ownsRow_nil _ _ _ _) _ A l.length c (u8s l) rfl r1 (u8s_one l) (by unfold maxLen; omega) (by omega) (Nat.le_refl _) ?_; intro v1 w2 hown2 hg2 _; simp only [Nat.zero_add, List.nil_append] at hown2; obtain ⟨A2, c2, rfl⟩ := own_form hown2)
  have b2 : Below w1.heap.size w1 w2 := (Below.refl _ _).grown hg2 (Nat.le_refl _) (by simp [Value.ownBlock])
  have B2 := b1.trans (b2.mono z1)
  have z2 := B2.size
  have lA2 := hown2.lt
  go_wp2_with fail
  refine (new_any A2 _ c2 l w2 (Row.of_own hown2) (by omega)).mono ?_
  rintro e w3 ⟨g, rfl, hg, hc3, b3⟩
  have own3 := hown2.kept (only_below b3 none) (by cases hv : (Value.slice A2 l.length c2).ownBlock <;> simp)
  have B3 := B2.trans (b3.mono B2.size)
  have z3 := B3.size
  clear b1 r1 b2 B2 b3 hown2 hg2
  obtain ⟨wq, hwq⟩ : ∃ wq : World, wq = w3 := ⟨_, rfl⟩
  rw [← hwq] at hc3 own3 B3 z3 ⊢
  clear hwq
  go_upto_if 28 with fail
  go_cut [8] (fun s8 wx => wx = wq ∧ ∃ k : Nat, k ≤ l.length ∧ s8 = .int .i64 k)
  case first =>
    clear hc3 own3 B3
    go_wp2_with fail
    · go_meet; exact ⟨rfl, _, Nat.le_refl _, rfl⟩
    · go_meet; exact ⟨rfl, n, by omega, rfl⟩
  case rest =>
    obtain ⟨rfl, k, hk, rfl⟩ := hcut
    clear hn'
    go_wp2_with fail
    refine (bytes_any g l 0 k wc hc3 (by omega)).mono ?_
    have hk' : (k : Int) ≤ (l.length : Int) := by omega
    rw [show headS l 0 (k : Int) (decide (0 ≤ (k : Int))) = l.take k by simp [headS, hk'], show restS l 0 (k : Int) (decide (0 ≤ (k : Int))) = l.drop k by simp [restS, hk'], show errS l 0 (k : Int) (decide (0 ≤ (k : Int))) = 0 by simp [errS, hk']]
    rintro e w4 ⟨A4, c4, rfl, hown4, hc4, g4⟩
    have ek : (l.take k).length = k := by simp; omega
    rw [ek] at hown4 ⊢
    have B4 := B3.grown g4 B3.size (fun q hq => by injection hq with hq; omega)
    have r4 := (hr.below B4 (Nat.le_refl _)).take hk
    rw [← u8s_take] at r4
    have q4 : ∀ m, (convert 24 9 (.slice A4 k c4)).run Try.prog (w4.drewN m) = .ok (.string (str (l.take k))) (w4.drewN m) := fun m => run_text (P := Try.prog) (w4.drewN m) 24 5 9 Try.underlying24 Try.underlying5 Try.underlying9 _ _ _ c4 _ (Row.of_own hown4)
    have p4 : ∀ m, (convert 24 9 (.slice A k c)).run Try.prog (w4.drewN m) = .ok (.string (str (l.take k))) (w4.drewN m) := fun m => run_text (P := Try.prog) (w4.drewN m) 24 5 9 Try.underlying24 Try.underlying5 Try.underlying9 _ _ _ c _ r4
    have hkc : (k : Int) ≤ (c : Int) := by omega
    have hk0 : (0 : Int) ≤ (k : Int) := by omega
    have hcm' : (c : Int) ≤ 9223372036854775807 := by omega
    go_wp2_with fail
    go_quiet (fail)
    have own4 := own3.kept g4 (by right; intro e; have := (lA2 g e).2; omega)
    have hst : Stay w (w4.drewN nq) w1.heap.size w2.heap.size g l (l.drop k) A2 c2 := ⟨hc4, own4, ⟨B4.os, B4.tape, B4.output, B4.size, B4.block⟩⟩
    have hox : (w4.drewN nq).ownsRow wc.heap.size 5 1 (.slice A4 k c4) k (((l.take k).map fun b => (b.toNat : Int)).map (Value.int .u8)) := by
      have e : ((l.take k).map fun b => (b.toNat : Int)).map (Value.int .u8) = u8s (l.take k) := by simp only [u8s, List.map_map]; rfl
      rw [e]
      exact hown4
    have hgc := hc3.lt
    have z4 := g4.size
    clear q4 p4 r4 B4 hown4 hc4 g4 own3 B3 hc3 ek hkc hk0 hcm'
    go_wp2_with fail
    go_loopw [10] (fun i wr => ∃ (j : Nat) (zs : List Int), j ≤ k ∧ i = .int .i64 j ∧ wr.ownsRow wc.heap.size 5 1 (.slice A4 k c4) k (zs.map (Value.int .u8)) ∧ Stay w wr w1.heap.size w2.heap.size g l (l.drop k) A2 c2 ∧ wc.heap.size ≤ wr.heap.size) (fun i _ => k - (intOf i).toNat)
    case atStart => exact ⟨0, _, Nat.zero_le _, rfl, hox, hst, z4⟩
    case round =>
      clear hox hst
      obtain ⟨j, zs, hj, rfl, hox, hst, hzr⟩ := hrel
      by_cases hlt : j < k
      · obtain ⟨gx, z, rfl, hgx, hcx, hfx, hput⟩ := own_put hox hlt
        have hst2 := fun u => hst.set lA2 hg z2 (gx := gx) (j := j) (by omega) u
        have HP := Lib.hid (And.intro hput hst2)
        clear hput hst2 hox hst
        go_wp2
        go_roundw
        case rel => exact ⟨j + 1, _, by omega, by go_num, HP.out.1 _, HP.out.2 _, by simpa [World.setCell] using hzr⟩
        case measure => simp [intOf]; omega
      · have lx := hox.lt
        go_wp2_with (at_builtin; refine wpl_append _ rfl (.tmp 55) (.tmp 56) 24 rfl wc.heap.size 5 (.int .u8 0) 1 1 Try.underlying24 info_u8 rfl (by decide) _ _ _ rfl (hox.alloc _) _ _ 1 1 [_] rfl (Row.one _ _ _) ?c1 ?c2 ?c3 ?c4 ?_)
        case c1 => intro u hu; simp at hu; subst hu; rfl
        case c2 => unfold maxLen; omega
        case c3 => omega
        case c4 => simp; omega
        · intro v6 w6 hown6 hg6 _
          obtain ⟨A6, c6, rfl⟩ := own_form hown6
          have hst6 := hst.grown lA2 hg z2 _ hg6 (fun q hq => by have := (lx q hq).1; omega)
          clear hown6 hg6 hst hox lx hzr
          obtain ⟨hc7, own7, B7⟩ := hst6
          have e7 : u8s l = (l.map fun b => (b.toNat : Int)).map (Value.int .u8) := by simp only [u8s, List.map_map]; rfl
          rw [e7] at own7
          clear e7
          go_wp2_with fail
          go_loopw [11] (fun i wr => ∃ (j : Nat) (zs : List Int), j ≤ l.length ∧ i = .int .i64 j ∧ wr.ownsRow w1.heap.size 5 1 (.slice A2 l.length c2) l.length (zs.map (Value.int .u8)) ∧ CutAt wr w2.heap.size g (l.drop k) 0 ∧ Below w.heap.size w wr) (fun i _ => l.length - (intOf i).toNat)
          case atStart => exact ⟨0, _, Nat.zero_le _, rfl, own7, hc7, B7⟩
          case round =>
            clear own7 hc7 B7
            obtain ⟨j, zs, hj, rfl, hox, hc, hb⟩ := hrel
            by_cases hlt : j < l.length
            · obtain ⟨gx, z, rfl, hgx, hcx, hfx, hput⟩ := own_put hox hlt
              have hgx2 := (lA2 gx rfl).2
              have hcut2 := hc.low (p := ⟨gx, j, none⟩) hgx2 hg (.int .u8 7)
              have hb2 := hb.setCell (p := ⟨gx, j, none⟩) (by simp; omega) (.int .u8 7)
              have HP := Lib.hid (And.intro (hput 7) (And.intro hcut2 hb2))
              clear hput hcut2 hb2 hox hc hb
              go_wp2
              go_roundw
              case rel => exact ⟨j + 1, _, by omega, by go_num, HP.out.1, HP.out.2.1, HP.out.2.2⟩
              case measure => simp [intOf]; omega
            · clear hox
              have hd8 : ∀ A', (A' = if c = k then A else A.map fun x => x.add k) → ∀ wx, Below w.heap.size w wx → (convert 24 9 (.slice A' (l.length - k) (c - k))).run Try.prog wx = .ok (.string (str (l.drop k))) wx := by
                intro A' hA' wx hbx
                have hx := hr.below hbx (Nat.le_refl _)
                have hx2 := hx.drop hk hlc hA'
                rw [← u8s_drop] at hx2
                exact run_text (P := Try.prog) wx 24 5 9 Try.underlying24 Try.underlying5 Try.underlying9 _ _ _ (c - k) _ hx2
              have hll : (l.drop k).length ≤ 300 := by simp; omega
              have HD := Lib.hid hd8
              clear hd8 hr
              generalize l.drop k = rs at hc HD hll
              obtain ⟨wo, rfl⟩ : ∃ wo : World, wo = wr := ⟨_, rfl⟩
              have hcd : CutAt wo.drew w2.heap.size g rs 0 := hc
              have hg8 := hc.lt
              have z8 := hb.size
              have hkc : (k : Int) ≤ (l.length : Int) := by omega
              have hkc2 : (k : Int) ≤ (c : Int) := by omega
              have hk0 : (0 : Int) ≤ (k : Int) := by omega
              have hcm' : (c : Int) ≤ 9223372036854775807 := by omega
              have hlc' : (l.length : Int) ≤ (c : Int) := by omega
              by_cases hck : c = k
              · subst hck
                go_upto_region 24 with fail
                go_cut [4] (fun s4 wx => s4 = .bool true ∧ Below w.heap.size w wx)
                case first =>
                  have ec : c - c = 0 := by omega
                  have HS0 := HD.out A (by rw [if_pos rfl])
                  rw [ec] at HS0
                  have HS := Lib.hid HS0
                  clear ec HS0
                  have h75 := HS.out wo.drew hb.drew
                  have hbd := hb.drew
                  clear hlong z3 z4 hk' own4 hgc
                  clear hb
                  have hll' : rs.length ≤ 140737488355328 := by omega
                  have Hq0 : Hid (∀ q, some g = some q → w.heap.size ≤ q) := fun q hq => by injection hq with hq; omega
                  obtain ⟨kk, hkk⟩ : ∃ kk : Int, (c : Int) + 1 = kk := ⟨_, rfl⟩
                  have Hsum : Hid (IntKind.i64.wrap ((c : Int) + 1) = kk) := (IntWalk.i64_in ((c : Int) + 1) (by omega)).trans hkk
                  have Hkk := Lib.hid hkk
                  clear hkk hl hcm hj hlt hlc hk z1 z2 hg hg8 hll
                  refine wp_region_any (by kernel_rfl) ?_
                  (try (change wpAny _ _ _ _ _ _ _ (World.drew _)))
                  refine wpAny_take (i := 0) (v := ?_) rfl (by kernel_rfl) (by kernel_rfl) (by kernel_rfl) (fun _ _ _ h => h) (Or.inl ⟨by kernel_rfl, ?_⟩) ?_
                  rotate_left 1
                  · (intro w; go_simp; try (with_reducible rfl))
                  (try simp only [Act.put, List.getElem_toArray, List.getElem_cons_succ, List.getElem_cons_zero, List.setIfInBounds_toArray, List.set_cons_zero, List.set_cons_succ])
                  refine wpAny_take (i := 1) (v := ?_) rfl (by kernel_rfl) (by kernel_rfl) (by kernel_rfl) (fun _ _ _ h => h) (Or.inl ⟨by kernel_rfl, ?_⟩) ?_
                  rotate_left 1
                  · (intro w; go_simp; try (with_reducible rfl))
                  (try simp only [Act.put, List.getElem_toArray, List.getElem_cons_succ, List.getElem_cons_zero, List.setIfInBounds_toArray, List.set_cons_zero, List.set_cons_succ])
                  refine wpAny_take (i := 5) (v := ?_) rfl (by kernel_rfl) (by kernel_rfl) (by kernel_rfl) (fun _ _ _ h => h) (Or.inl ⟨by kernel_rfl, ?_⟩) ?_
                  rotate_left 1
                  · (intro w; go_simp; try (with_reducible rfl))
                  (try simp only [Act.put, List.getElem_toArray, List.getElem_cons_succ, List.getElem_cons_zero, List.setIfInBounds_toArray, List.set_cons_zero, List.set_cons_succ])
                  refine wpAny_take (i := 6) (v := ?_) rfl (by kernel_rfl) (by kernel_rfl) (by kernel_rfl) (fun _ _ _ h => h) (Or.inl ⟨by kernel_rfl, ?_⟩) ?_
                  rotate_left 1
                  · (intro w; go_simp; try (with_reducible rfl))
                  (try simp only [Act.put, List.getElem_toArray, List.getElem_cons_succ, List.getElem_cons_zero, List.setIfInBounds_toArray, List.set_cons_zero, List.set_cons_succ])
                  refine wpAny_take (i := 7) (v := ?_) rfl (by kernel_rfl) (by kernel_rfl) (by kernel_rfl) (fun _ _ _ h => h) (Or.inl ⟨by kernel_rfl, ?_⟩) ?_
                  rotate_left 1
                  · (intro w; go_simp; try (with_reducible rfl))
                  (try simp only [Act.put, List.getElem_toArray, List.getElem_cons_succ, List.getElem_cons_zero, List.setIfInBounds_toArray, List.set_cons_zero, List.set_cons_succ])
                  refine wpAny_ready (rs := [2, 8]) (by kernel_rfl) (by simp) ?_
                  refine AllReady.cons rfl (fun K hK => ?_) ?_
                  · go_simp
                    go_wp2_with (go_at_call 18; refine (left_any g rs 0 _ hcd).mono ?_; rintro e w' ⟨rfl, rfl⟩)
                    (try (refine hK _ _ ?_))
                    (try (clear hK K))
                    (try simp only [Act.put, List.getElem_toArray, List.getElem_cons_succ, List.getElem_cons_zero, List.setIfInBounds_toArray, List.set_cons_zero, List.set_cons_succ])
                    refine wpAny_ready (rs := [3, 8]) (by kernel_rfl) (by simp) ?_
                    refine AllReady.cons rfl (fun K hK => ?_) ?_
                    · go_simp
                      go_wp2_with (go_at_call 15; refine (bytes_any g rs 0 _ _ hcd hll').mono ?_; rintro e w9 ⟨A9, c9, rfl, hown9, hc9, g9⟩; have B9 := hbd.grown g9 z8 Hq0.out; have h9 := HS.out w9 B9; rw [show headS rs 0 (rs.length : Int) (decide (0 ≤ (rs.length : Int))) = rs by simp [headS]] at hown9 ⊢; rw [show errS rs 0 (rs.length : Int) (decide (0 ≤ (rs.length : Int))) = 0 by simp [errS]] at hc9; have q9 := run_text (P := Try.prog) w9 24 5 9 Try.underlying24 Try.underlying5 Try.underlying9 _ _ _ c9 _ (Row.of_own hown9))
                      (try (refine hK _ _ ?_))
                      (try (clear hK K))
                      (try simp only [Act.put, List.getElem_toArray, List.getElem_cons_succ, List.getElem_cons_zero, List.setIfInBounds_toArray, List.set_cons_zero, List.set_cons_succ])
                      refine wpAny_ready (rs := [4, 8]) (by kernel_rfl) (by simp) ?_
                      refine AllReady.cons rfl (fun K hK => ?_) ?_
                      · go_simp
                        (try (refine hK _ _ ?_))
                        (try (clear hK K))
                        (try simp only [Act.put, List.getElem_toArray, List.getElem_cons_succ, List.getElem_cons_zero, List.setIfInBounds_toArray, List.set_cons_zero, List.set_cons_succ])
                        refine wpAny_ready (rs := [8]) (by kernel_rfl) (by simp) ?_
                        refine AllReady.cons rfl (fun K hK => ?_) ?_
                        · go_simp
                          (try (refine hK _ _ ?_))
                          (try (clear hK K))
                          (try simp only [Act.put, List.getElem_toArray, List.getElem_cons_succ, List.getElem_cons_zero, List.setIfInBounds_toArray, List.set_cons_zero, List.set_cons_succ])
                          refine wpAny_take (i := 9) (v := ?_) rfl (by kernel_rfl) (by kernel_rfl) (by kernel_rfl) (fun _ _ _ h => h) (Or.inl ⟨by kernel_rfl, ?_⟩) ?_
                          rotate_left 1
                          · (intro w; go_simp; try (with_reducible rfl))
                          (try simp only [Act.put, List.getElem_toArray, List.getElem_cons_succ, List.getElem_cons_zero, List.setIfInBounds_toArray, List.set_cons_zero, List.set_cons_succ])
                          refine wpAny_take (i := 10) (v := ?_) rfl (by kernel_rfl) (by kernel_rfl) (by kernel_rfl) (fun _ _ _ h => h) (Or.inl ⟨by kernel_rfl, ?_⟩) ?_
                          rotate_left 1
                          · (intro w; go_simp; try (with_reducible rfl))
                          (try simp only [Act.put, List.getElem_toArray, List.getElem_cons_succ, List.getElem_cons_zero, List.setIfInBounds_toArray, List.set_cons_zero, List.set_cons_succ])
                          refine wpAny_take (i := 11) (v := ?_) rfl (by kernel_rfl) (by kernel_rfl) (by kernel_rfl) (fun _ _ _ h => h) (Or.inl ⟨by kernel_rfl, ?_⟩) ?_
                          rotate_left 1
                          · (intro w; go_simp; try (with_reducible rfl))
                          (try simp only [Act.put, List.getElem_toArray, List.getElem_cons_succ, List.getElem_cons_zero, List.setIfInBounds_toArray, List.set_cons_zero, List.set_cons_succ])
                          refine wpAny_ready (rs := [12]) (by kernel_rfl) (by simp) ?_
                          refine AllReady.cons rfl (fun K hK => ?_) ?_
                          · go_simp
                            go_wp2_with (go_at_call 19; refine (err_any g _ _ _ hc9).mono ?_; rintro e w' ⟨rfl, rfl⟩)
                            (try (refine hK _ _ ?_))
                            (try (clear hK K))
                            (try simp only [Act.put, List.getElem_toArray, List.getElem_cons_succ, List.getElem_cons_zero, List.setIfInBounds_toArray, List.set_cons_zero, List.set_cons_succ])
                            refine wpAny_take (i := 13) (v := ?_) rfl (by kernel_rfl) (by kernel_rfl) (by kernel_rfl) (fun _ _ _ h => h) (Or.inl ⟨by kernel_rfl, ?_⟩) ?_
                            rotate_left 1
                            · (intro w; go_simp; try (with_reducible rfl))
                            (try simp only [Act.put, List.getElem_toArray, List.getElem_cons_succ, List.getElem_cons_zero, List.setIfInBounds_toArray, List.set_cons_zero, List.set_cons_succ])
                            refine wpAny_take (i := 14) (v := ?_) rfl (by kernel_rfl) (by kernel_rfl) (by kernel_rfl) (fun _ _ _ h => h) (Or.inl ⟨by kernel_rfl, ?_⟩) ?_
                            rotate_left 1
                            · (intro w; go_simp; try (with_reducible rfl))
                            (try simp only [Act.put, List.getElem_toArray, List.getElem_cons_succ, List.getElem_cons_zero, List.setIfInBounds_toArray, List.set_cons_zero, List.set_cons_succ])
                            refine wpAny_take (i := 15) (v := ?_) rfl (by kernel_rfl) (by kernel_rfl) (by kernel_rfl) (fun _ _ _ h => h) (Or.inl ⟨by kernel_rfl, ?_⟩) ?_
                            rotate_left 1
                            · (intro w; go_simp; try (with_reducible rfl))
                            (try simp only [Act.put, List.getElem_toArray, List.getElem_cons_succ, List.getElem_cons_zero, List.setIfInBounds_toArray, List.set_cons_zero, List.set_cons_succ])
                            refine wpAny_take (i := 16) (v := ?_) rfl (by kernel_rfl) (by kernel_rfl) (by kernel_rfl) (fun _ _ _ h => h) (Or.inl ⟨by kernel_rfl, ?_⟩) ?_
                            rotate_left 1
                            · (intro w; go_simp; try (with_reducible rfl))
                            (try simp only [Act.put, List.getElem_toArray, List.getElem_cons_succ, List.getElem_cons_zero, List.setIfInBounds_toArray, List.set_cons_zero, List.set_cons_succ])
                            refine wpAny_take (i := 17) (v := ?_) rfl (by kernel_rfl) (by kernel_rfl) (by kernel_rfl) (fun _ _ _ h => h) (Or.inl ⟨by kernel_rfl, ?_⟩) ?_
                            rotate_left 1
                            · (intro w; go_simp; try (with_reducible rfl))
                            (try simp only [Act.put, List.getElem_toArray, List.getElem_cons_succ, List.getElem_cons_zero, List.setIfInBounds_toArray, List.set_cons_zero, List.set_cons_succ])
                            refine wpAny_take (i := 18) (v := ?_) rfl (by kernel_rfl) (by kernel_rfl) (by kernel_rfl) (fun _ _ _ h => h) (Or.inl ⟨by kernel_rfl, ?_⟩) ?_
                            rotate_left 1
                            · (intro w; go_simp; try (with_reducible rfl))
                            (try simp only [Act.put, List.getElem_toArray, List.getElem_cons_succ, List.getElem_cons_zero, List.setIfInBounds_toArray, List.set_cons_zero, List.set_cons_succ])
                            refine wpAny_take (i := 19) (v := .int .i64 kk) rfl (by kernel_rfl) (by kernel_rfl) (by kernel_rfl) (fun _ _ _ h => h) (Or.inl ⟨by kernel_rfl, ?_⟩) ?_
                            · (intro w; go_simp; first | done | exact Hsum.out)
                            (try simp only [Act.put, List.getElem_toArray, List.getElem_cons_succ, List.getElem_cons_zero, List.setIfInBounds_toArray, List.set_cons_zero, List.set_cons_succ])
                            refine wpAny_take (i := 20) (v := .bool true) rfl (by kernel_rfl) (by kernel_rfl) (by kernel_rfl) (fun _ _ _ h => h) (Or.inl ⟨by kernel_rfl, ?_⟩) ?_
                            · (intro w; go_simp; first | done | exact Hkk.out | exact Hkk.out.symm | (rw [Hkk.out]; done))
                            (try simp only [Act.put, List.getElem_toArray, List.getElem_cons_succ, List.getElem_cons_zero, List.setIfInBounds_toArray, List.set_cons_zero, List.set_cons_succ])
                            refine wpAny_take (i := 21) (v := ?_) rfl (by kernel_rfl) (by kernel_rfl) (by kernel_rfl) (fun _ _ _ h => h) (Or.inl ⟨by kernel_rfl, ?_⟩) ?_
                            rotate_left 1
                            · (intro w; go_simp; try (with_reducible rfl))
                            (try simp only [Act.put, List.getElem_toArray, List.getElem_cons_succ, List.getElem_cons_zero, List.setIfInBounds_toArray, List.set_cons_zero, List.set_cons_succ])
                            refine wpAny_take (i := 22) (v := ?_) rfl (by kernel_rfl) (by kernel_rfl) (by kernel_rfl) (fun _ _ _ h => h) (Or.inl ⟨by kernel_rfl, ?_⟩) ?_
                            rotate_left 1
                            · (intro w; go_simp; try (with_reducible rfl))
                            (try simp only [Act.put, List.getElem_toArray, List.getElem_cons_succ, List.getElem_cons_zero, List.setIfInBounds_toArray, List.set_cons_zero, List.set_cons_succ])
                            refine wpAny_done (by kernel_rfl) ?_ _
                            (try (go_wp2_with fail))
                            go_meet
                            exact ⟨rfl, B9⟩
                          exact AllReady.nil
                        exact AllReady.nil
                      refine AllReady.cons rfl (fun K hK => ?_) ?_
                      · go_simp
                        (try (refine hK _ _ ?_))
                        (try (clear hK K))
                        (try simp only [Act.put, List.getElem_toArray, List.getElem_cons_succ, List.getElem_cons_zero, List.setIfInBounds_toArray, List.set_cons_zero, List.set_cons_succ])
                        refine wpAny_ready (rs := [4]) (by kernel_rfl) (by simp) ?_
                        refine AllReady.cons rfl (fun K hK => ?_) ?_
                        · go_simp
                          (try (refine hK _ _ ?_))
                          (try (clear hK K))
                          (try simp only [Act.put, List.getElem_toArray, List.getElem_cons_succ, List.getElem_cons_zero, List.setIfInBounds_toArray, List.set_cons_zero, List.set_cons_succ])
                          refine wpAny_take (i := 9) (v := ?_) rfl (by kernel_rfl) (by kernel_rfl) (by kernel_rfl) (fun _ _ _ h => h) (Or.inl ⟨by kernel_rfl, ?_⟩) ?_
                          rotate_left 1
                          · (intro w; go_simp; try (with_reducible rfl))
                          (try simp only [Act.put, List.getElem_toArray, List.getElem_cons_succ, List.getElem_cons_zero, List.setIfInBounds_toArray, List.set_cons_zero, List.set_cons_succ])
                          refine wpAny_take (i := 10) (v := ?_) rfl (by kernel_rfl) (by kernel_rfl) (by kernel_rfl) (fun _ _ _ h => h) (Or.inl ⟨by kernel_rfl, ?_⟩) ?_
                          rotate_left 1
                          · (intro w; go_simp; try (with_reducible rfl))
                          (try simp only [Act.put, List.getElem_toArray, List.getElem_cons_succ, List.getElem_cons_zero, List.setIfInBounds_toArray, List.set_cons_zero, List.set_cons_succ])
                          refine wpAny_take (i := 11) (v := ?_) rfl (by kernel_rfl) (by kernel_rfl) (by kernel_rfl) (fun _ _ _ h => h) (Or.inl ⟨by kernel_rfl, ?_⟩) ?_
                          rotate_left 1
                          · (intro w; go_simp; try (with_reducible rfl))
                          (try simp only [Act.put, List.getElem_toArray, List.getElem_cons_succ, List.getElem_cons_zero, List.setIfInBounds_toArray, List.set_cons_zero, List.set_cons_succ])
                          refine wpAny_ready (rs := [12]) (by kernel_rfl) (by simp) ?_
                          refine AllReady.cons rfl (fun K hK => ?_) ?_
                          · go_simp
                            go_wp2_with (go_at_call 19; refine (err_any g _ _ _ hc9).mono ?_; rintro e w' ⟨rfl, rfl⟩)
                            (try (refine hK _ _ ?_))
                            (try (clear hK K))
                            (try simp only [Act.put, List.getElem_toArray, List.getElem_cons_succ, List.getElem_cons_zero, List.setIfInBounds_toArray, List.set_cons_zero, List.set_cons_succ])
                            refine wpAny_take (i := 13) (v := ?_) rfl (by kernel_rfl) (by kernel_rfl) (by kernel_rfl) (fun _ _ _ h => h) (Or.inl ⟨by kernel_rfl, ?_⟩) ?_
                            rotate_left 1
                            · (intro w; go_simp; try (with_reducible rfl))
                            (try simp only [Act.put, List.getElem_toArray, List.getElem_cons_succ, List.getElem_cons_zero, List.setIfInBounds_toArray, List.set_cons_zero, List.set_cons_succ])
                            refine wpAny_take (i := 14) (v := ?_) rfl (by kernel_rfl) (by kernel_rfl) (by kernel_rfl) (fun _ _ _ h => h) (Or.inl ⟨by kernel_rfl, ?_⟩) ?_
                            rotate_left 1
                            · (intro w; go_simp; try (with_reducible rfl))
                            (try simp only [Act.put, List.getElem_toArray, List.getElem_cons_succ, List.getElem_cons_zero, List.setIfInBounds_toArray, List.set_cons_zero, List.set_cons_succ])
                            refine wpAny_take (i := 15) (v := ?_) rfl (by kernel_rfl) (by kernel_rfl) (by kernel_rfl) (fun _ _ _ h => h) (Or.inl ⟨by kernel_rfl, ?_⟩) ?_
                            rotate_left 1
                            · (intro w; go_simp; try (with_reducible rfl))
                            (try simp only [Act.put, List.getElem_toArray, List.getElem_cons_succ, List.getElem_cons_zero, List.setIfInBounds_toArray, List.set_cons_zero, List.set_cons_succ])
                            refine wpAny_take (i := 16) (v := ?_) rfl (by kernel_rfl) (by kernel_rfl) (by kernel_rfl) (fun _ _ _ h => h) (Or.inl ⟨by kernel_rfl, ?_⟩) ?_
                            rotate_left 1
                            · (intro w; go_simp; try (with_reducible rfl))
                            (try simp only [Act.put, List.getElem_toArray, List.getElem_cons_succ, List.getElem_cons_zero, List.setIfInBounds_toArray, List.set_cons_zero, List.set_cons_succ])
                            refine wpAny_take (i := 17) (v := ?_) rfl (by kernel_rfl) (by kernel_rfl) (by kernel_rfl) (fun _ _ _ h => h) (Or.inl ⟨by kernel_rfl, ?_⟩) ?_
                            rotate_left 1
                            · (intro w; go_simp; try (with_reducible rfl))
                            (try simp only [Act.put, List.getElem_toArray, List.getElem_cons_succ, List.getElem_cons_zero, List.setIfInBounds_toArray, List.set_cons_zero, List.set_cons_succ])
                            refine wpAny_take (i := 18) (v := ?_) rfl (by kernel_rfl) (by kernel_rfl) (by kernel_rfl) (fun _ _ _ h => h) (Or.inl ⟨by kernel_rfl, ?_⟩) ?_
                            rotate_left 1
                            · (intro w; go_simp; try (with_reducible rfl))
                            (try simp only [Act.put, List.getElem_toArray, List.getElem_cons_succ, List.getElem_cons_zero, List.setIfInBounds_toArray, List.set_cons_zero, List.set_cons_succ])
                            refine wpAny_take (i := 19) (v := .int .i64 kk) rfl (by kernel_rfl) (by kernel_rfl) (by kernel_rfl) (fun _ _ _ h => h) (Or.inl ⟨by kernel_rfl, ?_⟩) ?_
                            · (intro w; go_simp; first | done | exact Hsum.out)
                            (try simp only [Act.put, List.getElem_toArray, List.getElem_cons_succ, List.getElem_cons_zero, List.setIfInBounds_toArray, List.set_cons_zero, List.set_cons_succ])
                            refine wpAny_take (i := 20) (v := .bool true) rfl (by kernel_rfl) (by kernel_rfl) (by kernel_rfl) (fun _ _ _ h => h) (Or.inl ⟨by kernel_rfl, ?_⟩) ?_
                            · (intro w; go_simp; first | done | exact Hkk.out | exact Hkk.out.symm | (rw [Hkk.out]; done))
                            (try simp only [Act.put, List.getElem_toArray, List.getElem_cons_succ, List.getElem_cons_zero, List.setIfInBounds_toArray, List.set_cons_zero, List.set_cons_succ])
                            refine wpAny_take (i := 21) (v := ?_) rfl (by kernel_rfl) (by kernel_rfl) (by kernel_rfl) (fun _ _ _ h => h) (Or.inl ⟨by kernel_rfl, ?_⟩) ?_
                            rotate_left 1
                            · (intro w; go_simp; try (with_reducible rfl))
                            (try simp only [Act.put, List.getElem_toArray, List.getElem_cons_succ, List.getElem_cons_zero, List.setIfInBounds_toArray, List.set_cons_zero, List.set_cons_succ])
                            refine wpAny_take (i := 22) (v := ?_) rfl (by kernel_rfl) (by kernel_rfl) (by kernel_rfl) (fun _ _ _ h => h) (Or.inl ⟨by kernel_rfl, ?_⟩) ?_
                            rotate_left 1
                            · (intro w; go_simp; try (with_reducible rfl))
                            (try simp only [Act.put, List.getElem_toArray, List.getElem_cons_succ, List.getElem_cons_zero, List.setIfInBounds_toArray, List.set_cons_zero, List.set_cons_succ])
                            refine wpAny_done (by kernel_rfl) ?_ _
                            (try (go_wp2_with fail))
                            go_meet
                            exact ⟨rfl, B9⟩
                          exact AllReady.nil
                        exact AllReady.nil
                      exact AllReady.nil
                    refine AllReady.cons rfl (fun K hK => ?_) ?_
                    · go_simp
                      (try (refine hK _ _ ?_))
                      (try (clear hK K))
                      (try simp only [Act.put, List.getElem_toArray, List.getElem_cons_succ, List.getElem_cons_zero, List.setIfInBounds_toArray, List.set_cons_zero, List.set_cons_succ])
                      refine wpAny_ready (rs := [3]) (by kernel_rfl) (by simp) ?_
                      refine AllReady.cons rfl (fun K hK => ?_) ?_
                      · go_simp
                        go_wp2_with (go_at_call 15; refine (bytes_any g rs 0 _ _ hcd hll').mono ?_; rintro e w9 ⟨A9, c9, rfl, hown9, hc9, g9⟩; have B9 := hbd.grown g9 z8 Hq0.out; have h9 := HS.out w9 B9; rw [show headS rs 0 (rs.length : Int) (decide (0 ≤ (rs.length : Int))) = rs by simp [headS]] at hown9 ⊢; rw [show errS rs 0 (rs.length : Int) (decide (0 ≤ (rs.length : Int))) = 0 by simp [errS]] at hc9; have q9 := run_text (P := Try.prog) w9 24 5 9 Try.underlying24 Try.underlying5 Try.underlying9 _ _ _ c9 _ (Row.of_own hown9))
                        (try (refine hK _ _ ?_))
                        (try (clear hK K))
                        (try simp only [Act.put, List.getElem_toArray, List.getElem_cons_succ, List.getElem_cons_zero, List.setIfInBounds_toArray, List.set_cons_zero, List.set_cons_succ])
                        refine wpAny_ready (rs := [4]) (by kernel_rfl) (by simp) ?_
                        refine AllReady.cons rfl (fun K hK => ?_) ?_
                        · go_simp
                          (try (refine hK _ _ ?_))
                          (try (clear hK K))
                          (try simp only [Act.put, List.getElem_toArray, List.getElem_cons_succ, List.getElem_cons_zero, List.setIfInBounds_toArray, List.set_cons_zero, List.set_cons_succ])
                          refine wpAny_take (i := 9) (v := ?_) rfl (by kernel_rfl) (by kernel_rfl) (by kernel_rfl) (fun _ _ _ h => h) (Or.inl ⟨by kernel_rfl, ?_⟩) ?_
                          rotate_left 1
                          · (intro w; go_simp; try (with_reducible rfl))
                          (try simp only [Act.put, List.getElem_toArray, List.getElem_cons_succ, List.getElem_cons_zero, List.setIfInBounds_toArray, List.set_cons_zero, List.set_cons_succ])
                          refine wpAny_take (i := 10) (v := ?_) rfl (by kernel_rfl) (by kernel_rfl) (by kernel_rfl) (fun _ _ _ h => h) (Or.inl ⟨by kernel_rfl, ?_⟩) ?_
                          rotate_left 1
                          · (intro w; go_simp; try (with_reducible rfl))
                          (try simp only [Act.put, List.getElem_toArray, List.getElem_cons_succ, List.getElem_cons_zero, List.setIfInBounds_toArray, List.set_cons_zero, List.set_cons_succ])
                          refine wpAny_take (i := 11) (v := ?_) rfl (by kernel_rfl) (by kernel_rfl) (by kernel_rfl) (fun _ _ _ h => h) (Or.inl ⟨by kernel_rfl, ?_⟩) ?_
                          rotate_left 1
                          · (intro w; go_simp; try (with_reducible rfl))
                          (try simp only [Act.put, List.getElem_toArray, List.getElem_cons_succ, List.getElem_cons_zero, List.setIfInBounds_toArray, List.set_cons_zero, List.set_cons_succ])
                          refine wpAny_ready (rs := [12]) (by kernel_rfl) (by simp) ?_
                          refine AllReady.cons rfl (fun K hK => ?_) ?_
                          · go_simp
                            go_wp2_with (go_at_call 19; refine (err_any g _ _ _ hc9).mono ?_; rintro e w' ⟨rfl, rfl⟩)
                            (try (refine hK _ _ ?_))
                            (try (clear hK K))
                            (try simp only [Act.put, List.getElem_toArray, List.getElem_cons_succ, List.getElem_cons_zero, List.setIfInBounds_toArray, List.set_cons_zero, List.set_cons_succ])
                            refine wpAny_take (i := 13) (v := ?_) rfl (by kernel_rfl) (by kernel_rfl) (by kernel_rfl) (fun _ _ _ h => h) (Or.inl ⟨by kernel_rfl, ?_⟩) ?_
                            rotate_left 1
                            · (intro w; go_simp; try (with_reducible rfl))
                            (try simp only [Act.put, List.getElem_toArray, List.getElem_cons_succ, List.getElem_cons_zero, List.setIfInBounds_toArray, List.set_cons_zero, List.set_cons_succ])
                            refine wpAny_take (i := 14) (v := ?_) rfl (by kernel_rfl) (by kernel_rfl) (by kernel_rfl) (fun _ _ _ h => h) (Or.inl ⟨by kernel_rfl, ?_⟩) ?_
                            rotate_left 1
                            · (intro w; go_simp; try (with_reducible rfl))
                            (try simp only [Act.put, List.getElem_toArray, List.getElem_cons_succ, List.getElem_cons_zero, List.setIfInBounds_toArray, List.set_cons_zero, List.set_cons_succ])
                            refine wpAny_take (i := 15) (v := ?_) rfl (by kernel_rfl) (by kernel_rfl) (by kernel_rfl) (fun _ _ _ h => h) (Or.inl ⟨by kernel_rfl, ?_⟩) ?_
                            rotate_left 1
                            · (intro w; go_simp; try (with_reducible rfl))
                            (try simp only [Act.put, List.getElem_toArray, List.getElem_cons_succ, List.getElem_cons_zero, List.setIfInBounds_toArray, List.set_cons_zero, List.set_cons_succ])
                            refine wpAny_take (i := 16) (v := ?_) rfl (by kernel_rfl) (by kernel_rfl) (by kernel_rfl) (fun _ _ _ h => h) (Or.inl ⟨by kernel_rfl, ?_⟩) ?_
                            rotate_left 1
                            · (intro w; go_simp; try (with_reducible rfl))
                            (try simp only [Act.put, List.getElem_toArray, List.getElem_cons_succ, List.getElem_cons_zero, List.setIfInBounds_toArray, List.set_cons_zero, List.set_cons_succ])
                            refine wpAny_take (i := 17) (v := ?_) rfl (by kernel_rfl) (by kernel_rfl) (by kernel_rfl) (fun _ _ _ h => h) (Or.inl ⟨by kernel_rfl, ?_⟩) ?_
                            rotate_left 1
                            · (intro w; go_simp; try (with_reducible rfl))
                            (try simp only [Act.put, List.getElem_toArray, List.getElem_cons_succ, List.getElem_cons_zero, List.setIfInBounds_toArray, List.set_cons_zero, List.set_cons_succ])
                            refine wpAny_take (i := 18) (v := ?_) rfl (by kernel_rfl) (by kernel_rfl) (by kernel_rfl) (fun _ _ _ h => h) (Or.inl ⟨by kernel_rfl, ?_⟩) ?_
                            rotate_left 1
                            · (intro w; go_simp; try (with_reducible rfl))
                            (try simp only [Act.put, List.getElem_toArray, List.getElem_cons_succ, List.getElem_cons_zero, List.setIfInBounds_toArray, List.set_cons_zero, List.set_cons_succ])
                            refine wpAny_take (i := 19) (v := .int .i64 kk) rfl (by kernel_rfl) (by kernel_rfl) (by kernel_rfl) (fun _ _ _ h => h) (Or.inl ⟨by kernel_rfl, ?_⟩) ?_
                            · (intro w; go_simp; first | done | exact Hsum.out)
                            (try simp only [Act.put, List.getElem_toArray, List.getElem_cons_succ, List.getElem_cons_zero, List.setIfInBounds_toArray, List.set_cons_zero, List.set_cons_succ])
                            refine wpAny_take (i := 20) (v := .bool true) rfl (by kernel_rfl) (by kernel_rfl) (by kernel_rfl) (fun _ _ _ h => h) (Or.inl ⟨by kernel_rfl, ?_⟩) ?_
                            · (intro w; go_simp; first | done | exact Hkk.out | exact Hkk.out.symm | (rw [Hkk.out]; done))
                            (try simp only [Act.put, List.getElem_toArray, List.getElem_cons_succ, List.getElem_cons_zero, List.setIfInBounds_toArray, List.set_cons_zero, List.set_cons_succ])
                            refine wpAny_take (i := 21) (v := ?_) rfl (by kernel_rfl) (by kernel_rfl) (by kernel_rfl) (fun _ _ _ h => h) (Or.inl ⟨by kernel_rfl, ?_⟩) ?_
                            rotate_left 1
                            · (intro w; go_simp; try (with_reducible rfl))
                            (try simp only [Act.put, List.getElem_toArray, List.getElem_cons_succ, List.getElem_cons_zero, List.setIfInBounds_toArray, List.set_cons_zero, List.set_cons_succ])
                            refine wpAny_take (i := 22) (v := ?_) rfl (by kernel_rfl) (by kernel_rfl) (by kernel_rfl) (fun _ _ _ h => h) (Or.inl ⟨by kernel_rfl, ?_⟩) ?_
                            rotate_left 1
                            · (intro w; go_simp; try (with_reducible rfl))
                            (try simp only [Act.put, List.getElem_toArray, List.getElem_cons_succ, List.getElem_cons_zero, List.setIfInBounds_toArray, List.set_cons_zero, List.set_cons_succ])
                            refine wpAny_done (by kernel_rfl) ?_ _
                            (try (go_wp2_with fail))
                            go_meet
                            exact ⟨rfl, B9⟩
                          exact AllReady.nil
                        exact AllReady.nil
                      exact AllReady.nil
                    exact AllReady.nil
                  refine AllReady.cons rfl (fun K hK => ?_) ?_
                  · go_simp
                    (try (refine hK _ _ ?_))
                    (try (clear hK K))
                    (try simp only [Act.put, List.getElem_toArray, List.getElem_cons_succ, List.getElem_cons_zero, List.setIfInBounds_toArray, List.set_cons_zero, List.set_cons_succ])
                    refine wpAny_ready (rs := [2]) (by kernel_rfl) (by simp) ?_
                    refine AllReady.cons rfl (fun K hK => ?_) ?_
                    · go_simp
                      go_wp2_with (go_at_call 18; refine (left_any g rs 0 _ hcd).mono ?_; rintro e w' ⟨rfl, rfl⟩)
                      (try (refine hK _ _ ?_))
                      (try (clear hK K))
                      (try simp only [Act.put, List.getElem_toArray, List.getElem_cons_succ, List.getElem_cons_zero, List.setIfInBounds_toArray, List.set_cons_zero, List.set_cons_succ])
                      refine wpAny_ready (rs := [3]) (by kernel_rfl) (by simp) ?_
                      refine AllReady.cons rfl (fun K hK => ?_) ?_
                      · go_simp
                        go_wp2_with (go_at_call 15; refine (bytes_any g rs 0 _ _ hcd hll').mono ?_; rintro e w9 ⟨A9, c9, rfl, hown9, hc9, g9⟩; have B9 := hbd.grown g9 z8 Hq0.out; have h9 := HS.out w9 B9; rw [show headS rs 0 (rs.length : Int) (decide (0 ≤ (rs.length : Int))) = rs by simp [headS]] at hown9 ⊢; rw [show errS rs 0 (rs.length : Int) (decide (0 ≤ (rs.length : Int))) = 0 by simp [errS]] at hc9; have q9 := run_text (P := Try.prog) w9 24 5 9 Try.underlying24 Try.underlying5 Try.underlying9 _ _ _ c9 _ (Row.of_own hown9))
                        (try (refine hK _ _ ?_))
                        (try (clear hK K))
                        (try simp only [Act.put, List.getElem_toArray, List.getElem_cons_succ, List.getElem_cons_zero, List.setIfInBounds_toArray, List.set_cons_zero, List.set_cons_succ])
                        refine wpAny_ready (rs := [4]) (by kernel_rfl) (by simp) ?_
                        refine AllReady.cons rfl (fun K hK => ?_) ?_
                        · go_simp
                          (try (refine hK _ _ ?_))
                          (try (clear hK K))
                          (try simp only [Act.put, List.getElem_toArray, List.getElem_cons_succ, List.getElem_cons_zero, List.setIfInBounds_toArray, List.set_cons_zero, List.set_cons_succ])
                          refine wpAny_take (i := 9) (v := ?_) rfl (by kernel_rfl) (by kernel_rfl) (by kernel_rfl) (fun _ _ _ h => h) (Or.inl ⟨by kernel_rfl, ?_⟩) ?_
                          rotate_left 1
                          · (intro w; go_simp; try (with_reducible rfl))
                          (try simp only [Act.put, List.getElem_toArray, List.getElem_cons_succ, List.getElem_cons_zero, List.setIfInBounds_toArray, List.set_cons_zero, List.set_cons_succ])
                          refine wpAny_take (i := 10) (v := ?_) rfl (by kernel_rfl) (by kernel_rfl) (by kernel_rfl) (fun _ _ _ h => h) (Or.inl ⟨by kernel_rfl, ?_⟩) ?_
                          rotate_left 1
                          · (intro w; go_simp; try (with_reducible rfl))
                          (try simp only [Act.put, List.getElem_toArray, List.getElem_cons_succ, List.getElem_cons_zero, List.setIfInBounds_toArray, List.set_cons_zero, List.set_cons_succ])
                          refine wpAny_take (i := 11) (v := ?_) rfl (by kernel_rfl) (by kernel_rfl) (by kernel_rfl) (fun _ _ _ h => h) (Or.inl ⟨by kernel_rfl, ?_⟩) ?_
                          rotate_left 1
                          · (intro w; go_simp; try (with_reducible rfl))
                          (try simp only [Act.put, List.getElem_toArray, List.getElem_cons_succ, List.getElem_cons_zero, List.setIfInBounds_toArray, List.set_cons_zero, List.set_cons_succ])
                          refine wpAny_ready (rs := [12]) (by kernel_rfl) (by simp) ?_
                          refine AllReady.cons rfl (fun K hK => ?_) ?_
                          · go_simp
                            go_wp2_with (go_at_call 19; refine (err_any g _ _ _ hc9).mono ?_; rintro e w' ⟨rfl, rfl⟩)
                            (try (refine hK _ _ ?_))
                            (try (clear hK K))
                            (try simp only [Act.put, List.getElem_toArray, List.getElem_cons_succ, List.getElem_cons_zero, List.setIfInBounds_toArray, List.set_cons_zero, List.set_cons_succ])
                            refine wpAny_take (i := 13) (v := ?_) rfl (by kernel_rfl) (by kernel_rfl) (by kernel_rfl) (fun _ _ _ h => h) (Or.inl ⟨by kernel_rfl, ?_⟩) ?_
                            rotate_left 1
                            · (intro w; go_simp; try (with_reducible rfl))
                            (try simp only [Act.put, List.getElem_toArray, List.getElem_cons_succ, List.getElem_cons_zero, List.setIfInBounds_toArray, List.set_cons_zero, List.set_cons_succ])
                            refine wpAny_take (i := 14) (v := ?_) rfl (by kernel_rfl) (by kernel_rfl) (by kernel_rfl) (fun _ _ _ h => h) (Or.inl ⟨by kernel_rfl, ?_⟩) ?_
                            rotate_left 1
                            · (intro w; go_simp; try (with_reducible rfl))
                            (try simp only [Act.put, List.getElem_toArray, List.getElem_cons_succ, List.getElem_cons_zero, List.setIfInBounds_toArray, List.set_cons_zero, List.set_cons_succ])
                            refine wpAny_take (i := 15) (v := ?_) rfl (by kernel_rfl) (by kernel_rfl) (by kernel_rfl) (fun _ _ _ h => h) (Or.inl ⟨by kernel_rfl, ?_⟩) ?_
                            rotate_left 1
                            · (intro w; go_simp; try (with_reducible rfl))
                            (try simp only [Act.put, List.getElem_toArray, List.getElem_cons_succ, List.getElem_cons_zero, List.setIfInBounds_toArray, List.set_cons_zero, List.set_cons_succ])
                            refine wpAny_take (i := 16) (v := ?_) rfl (by kernel_rfl) (by kernel_rfl) (by kernel_rfl) (fun _ _ _ h => h) (Or.inl ⟨by kernel_rfl, ?_⟩) ?_
                            rotate_left 1
                            · (intro w; go_simp; try (with_reducible rfl))
                            (try simp only [Act.put, List.getElem_toArray, List.getElem_cons_succ, List.getElem_cons_zero, List.setIfInBounds_toArray, List.set_cons_zero, List.set_cons_succ])
                            refine wpAny_take (i := 17) (v := ?_) rfl (by kernel_rfl) (by kernel_rfl) (by kernel_rfl) (fun _ _ _ h => h) (Or.inl ⟨by kernel_rfl, ?_⟩) ?_
                            rotate_left 1
                            · (intro w; go_simp; try (with_reducible rfl))
                            (try simp only [Act.put, List.getElem_toArray, List.getElem_cons_succ, List.getElem_cons_zero, List.setIfInBounds_toArray, List.set_cons_zero, List.set_cons_succ])
                            refine wpAny_take (i := 18) (v := ?_) rfl (by kernel_rfl) (by kernel_rfl) (by kernel_rfl) (fun _ _ _ h => h) (Or.inl ⟨by kernel_rfl, ?_⟩) ?_
                            rotate_left 1
                            · (intro w; go_simp; try (with_reducible rfl))
                            (try simp only [Act.put, List.getElem_toArray, List.getElem_cons_succ, List.getElem_cons_zero, List.setIfInBounds_toArray, List.set_cons_zero, List.set_cons_succ])
                            refine wpAny_take (i := 19) (v := .int .i64 kk) rfl (by kernel_rfl) (by kernel_rfl) (by kernel_rfl) (fun _ _ _ h => h) (Or.inl ⟨by kernel_rfl, ?_⟩) ?_
                            · (intro w; go_simp; first | done | exact Hsum.out)
                            (try simp only [Act.put, List.getElem_toArray, List.getElem_cons_succ, List.getElem_cons_zero, List.setIfInBounds_toArray, List.set_cons_zero, List.set_cons_succ])
                            refine wpAny_take (i := 20) (v := .bool true) rfl (by kernel_rfl) (by kernel_rfl) (by kernel_rfl) (fun _ _ _ h => h) (Or.inl ⟨by kernel_rfl, ?_⟩) ?_
                            · (intro w; go_simp; first | done | exact Hkk.out | exact Hkk.out.symm | (rw [Hkk.out]; done))
                            (try simp only [Act.put, List.getElem_toArray, List.getElem_cons_succ, List.getElem_cons_zero, List.setIfInBounds_toArray, List.set_cons_zero, List.set_cons_succ])
                            refine wpAny_take (i := 21) (v := ?_) rfl (by kernel_rfl) (by kernel_rfl) (by kernel_rfl) (fun _ _ _ h => h) (Or.inl ⟨by kernel_rfl, ?_⟩) ?_
                            rotate_left 1
                            · (intro w; go_simp; try (with_reducible rfl))
                            (try simp only [Act.put, List.getElem_toArray, List.getElem_cons_succ, List.getElem_cons_zero, List.setIfInBounds_toArray, List.set_cons_zero, List.set_cons_succ])
                            refine wpAny_take (i := 22) (v := ?_) rfl (by kernel_rfl) (by kernel_rfl) (by kernel_rfl) (fun _ _ _ h => h) (Or.inl ⟨by kernel_rfl, ?_⟩) ?_
                            rotate_left 1
                            · (intro w; go_simp; try (with_reducible rfl))
                            (try simp only [Act.put, List.getElem_toArray, List.getElem_cons_succ, List.getElem_cons_zero, List.setIfInBounds_toArray, List.set_cons_zero, List.set_cons_succ])
                            refine wpAny_done (by kernel_rfl) ?_ _
                            (try (go_wp2_with fail))
                            go_meet
                            exact ⟨rfl, B9⟩
                          exact AllReady.nil
                        exact AllReady.nil
                      exact AllReady.nil
                    exact AllReady.nil
                  exact AllReady.nil
                case rest =>
                  obtain ⟨rfl, B10⟩ := hcut
                  go_wp2
                  go_ret
                  exact ⟨rfl, B10⟩
              · go_upto_region 24 with fail
                go_cut [4] (fun s4 wx => s4 = .bool true ∧ Below w.heap.size w wx)
                case first =>
                  have HS := Lib.hid (HD.out _ (by rw [if_neg hck]))
                  have h75 := HS.out wo.drew hb.drew
                  have hbd := hb.drew
                  clear hlong z3 z4 hk hk' own4 hgc
                  clear hb
                  have hll' : rs.length ≤ 140737488355328 := by omega
                  have Hq0 : Hid (∀ q, some g = some q → w.heap.size ≤ q) := fun q hq => by injection hq with hq; omega
                  obtain ⟨kk, hkk⟩ : ∃ kk : Int, (k : Int) + 1 = kk := ⟨_, rfl⟩
                  have Hsum : Hid (IntKind.i64.wrap ((k : Int) + 1) = kk) := (IntWalk.i64_in ((k : Int) + 1) (by omega)).trans hkk
                  have Hkk := Lib.hid hkk
                  clear hkk hl hcm hj hlt hlc z1 z2 hg hg8 hll
                  refine wp_region_any (by kernel_rfl) ?_
                  (try (change wpAny _ _ _ _ _ _ _ (World.drew _)))
                  refine wpAny_take (i := 0) (v := ?_) rfl (by kernel_rfl) (by kernel_rfl) (by kernel_rfl) (fun _ _ _ h => h) (Or.inl ⟨by kernel_rfl, ?_⟩) ?_
                  rotate_left 1
                  · (intro w; go_simp; try (with_reducible rfl))
                  (try simp only [Act.put, List.getElem_toArray, List.getElem_cons_succ, List.getElem_cons_zero, List.setIfInBounds_toArray, List.set_cons_zero, List.set_cons_succ])
                  refine wpAny_take (i := 1) (v := ?_) rfl (by kernel_rfl) (by kernel_rfl) (by kernel_rfl) (fun _ _ _ h => h) (Or.inl ⟨by kernel_rfl, ?_⟩) ?_
                  rotate_left 1
                  · (intro w; go_simp; try (with_reducible rfl))
                  (try simp only [Act.put, List.getElem_toArray, List.getElem_cons_succ, List.getElem_cons_zero, List.setIfInBounds_toArray, List.set_cons_zero, List.set_cons_succ])
                  refine wpAny_take (i := 5) (v := ?_) rfl (by kernel_rfl) (by kernel_rfl) (by kernel_rfl) (fun _ _ _ h => h) (Or.inl ⟨by kernel_rfl, ?_⟩) ?_
                  rotate_left 1
                  · (intro w; go_simp; try (with_reducible rfl))
                  (try simp only [Act.put, List.getElem_toArray, List.getElem_cons_succ, List.getElem_cons_zero, List.setIfInBounds_toArray, List.set_cons_zero, List.set_cons_succ])
                  refine wpAny_take (i := 6) (v := ?_) rfl (by kernel_rfl) (by kernel_rfl) (by kernel_rfl) (fun _ _ _ h => h) (Or.inl ⟨by kernel_rfl, ?_⟩) ?_
                  rotate_left 1
                  · (intro w; go_simp; try (with_reducible rfl))
                  (try simp only [Act.put, List.getElem_toArray, List.getElem_cons_succ, List.getElem_cons_zero, List.setIfInBounds_toArray, List.set_cons_zero, List.set_cons_succ])
                  refine wpAny_take (i := 7) (v := ?_) rfl (by kernel_rfl) (by kernel_rfl) (by kernel_rfl) (fun _ _ _ h => h) (Or.inl ⟨by kernel_rfl, ?_⟩) ?_
                  rotate_left 1
                  · (intro w; go_simp; try (with_reducible rfl))
                  (try simp only [Act.put, List.getElem_toArray, List.getElem_cons_succ, List.getElem_cons_zero, List.setIfInBounds_toArray, List.set_cons_zero, List.set_cons_succ])
                  refine wpAny_ready (rs := [2, 8]) (by kernel_rfl) (by simp) ?_
                  refine AllReady.cons rfl (fun K hK => ?_) ?_
                  · go_simp
                    go_wp2_with (go_at_call 18; refine (left_any g rs 0 _ hcd).mono ?_; rintro e w' ⟨rfl, rfl⟩)
                    (try (refine hK _ _ ?_))
                    (try (clear hK K))
                    (try simp only [Act.put, List.getElem_toArray, List.getElem_cons_succ, List.getElem_cons_zero, List.setIfInBounds_toArray, List.set_cons_zero, List.set_cons_succ])
                    refine wpAny_ready (rs := [3, 8]) (by kernel_rfl) (by simp) ?_
                    refine AllReady.cons rfl (fun K hK => ?_) ?_
                    · go_simp
                      go_wp2_with (go_at_call 15; refine (bytes_any g rs 0 _ _ hcd hll').mono ?_; rintro e w9 ⟨A9, c9, rfl, hown9, hc9, g9⟩; have B9 := hbd.grown g9 z8 Hq0.out; have h9 := HS.out w9 B9; rw [show headS rs 0 (rs.length : Int) (decide (0 ≤ (rs.length : Int))) = rs by simp [headS]] at hown9 ⊢; rw [show errS rs 0 (rs.length : Int) (decide (0 ≤ (rs.length : Int))) = 0 by simp [errS]] at hc9; have q9 := run_text (P := Try.prog) w9 24 5 9 Try.underlying24 Try.underlying5 Try.underlying9 _ _ _ c9 _ (Row.of_own hown9))
                      (try (refine hK _ _ ?_))
                      (try (clear hK K))
                      (try simp only [Act.put, List.getElem_toArray, List.getElem_cons_succ, List.getElem_cons_zero, List.setIfInBounds_toArray, List.set_cons_zero, List.set_cons_succ])
                      refine wpAny_ready (rs := [4, 8]) (by kernel_rfl) (by simp) ?_
                      refine AllReady.cons rfl (fun K hK => ?_) ?_
                      · go_simp
                        (try (refine hK _ _ ?_))
                        (try (clear hK K))
                        (try simp only [Act.put, List.getElem_toArray, List.getElem_cons_succ, List.getElem_cons_zero, List.setIfInBounds_toArray, List.set_cons_zero, List.set_cons_succ])
                        refine wpAny_ready (rs := [8]) (by kernel_rfl) (by simp) ?_
                        refine AllReady.cons rfl (fun K hK => ?_) ?_
                        · go_simp
                          (try (refine hK _ _ ?_))
                          (try (clear hK K))
                          (try simp only [Act.put, List.getElem_toArray, List.getElem_cons_succ, List.getElem_cons_zero, List.setIfInBounds_toArray, List.set_cons_zero, List.set_cons_succ])
                          refine wpAny_take (i := 9) (v := ?_) rfl (by kernel_rfl) (by kernel_rfl) (by kernel_rfl) (fun _ _ _ h => h) (Or.inl ⟨by kernel_rfl, ?_⟩) ?_
                          rotate_left 1
                          · (intro w; go_simp; try (with_reducible rfl))
                          (try simp only [Act.put, List.getElem_toArray, List.getElem_cons_succ, List.getElem_cons_zero, List.setIfInBounds_toArray, List.set_cons_zero, List.set_cons_succ])
                          refine wpAny_take (i := 10) (v := ?_) rfl (by kernel_rfl) (by kernel_rfl) (by kernel_rfl) (fun _ _ _ h => h) (Or.inl ⟨by kernel_rfl, ?_⟩) ?_
                          rotate_left 1
                          · (intro w; go_simp; try (with_reducible rfl))
                          (try simp only [Act.put, List.getElem_toArray, List.getElem_cons_succ, List.getElem_cons_zero, List.setIfInBounds_toArray, List.set_cons_zero, List.set_cons_succ])
                          refine wpAny_take (i := 11) (v := ?_) rfl (by kernel_rfl) (by kernel_rfl) (by kernel_rfl) (fun _ _ _ h => h) (Or.inl ⟨by kernel_rfl, ?_⟩) ?_
                          rotate_left 1
                          · (intro w; go_simp; try (with_reducible rfl))
                          (try simp only [Act.put, List.getElem_toArray, List.getElem_cons_succ, List.getElem_cons_zero, List.setIfInBounds_toArray, List.set_cons_zero, List.set_cons_succ])
                          refine wpAny_ready (rs := [12]) (by kernel_rfl) (by simp) ?_
                          refine AllReady.cons rfl (fun K hK => ?_) ?_
                          · go_simp
                            go_wp2_with (go_at_call 19; refine (err_any g _ _ _ hc9).mono ?_; rintro e w' ⟨rfl, rfl⟩)
                            (try (refine hK _ _ ?_))
                            (try (clear hK K))
                            (try simp only [Act.put, List.getElem_toArray, List.getElem_cons_succ, List.getElem_cons_zero, List.setIfInBounds_toArray, List.set_cons_zero, List.set_cons_succ])
                            refine wpAny_take (i := 13) (v := ?_) rfl (by kernel_rfl) (by kernel_rfl) (by kernel_rfl) (fun _ _ _ h => h) (Or.inl ⟨by kernel_rfl, ?_⟩) ?_
                            rotate_left 1
                            · (intro w; go_simp; try (with_reducible rfl))
                            (try simp only [Act.put, List.getElem_toArray, List.getElem_cons_succ, List.getElem_cons_zero, List.setIfInBounds_toArray, List.set_cons_zero, List.set_cons_succ])
                            refine wpAny_take (i := 14) (v := ?_) rfl (by kernel_rfl) (by kernel_rfl) (by kernel_rfl) (fun _ _ _ h => h) (Or.inl ⟨by kernel_rfl, ?_⟩) ?_
                            rotate_left 1
                            · (intro w; go_simp; try (with_reducible rfl))
                            (try simp only [Act.put, List.getElem_toArray, List.getElem_cons_succ, List.getElem_cons_zero, List.setIfInBounds_toArray, List.set_cons_zero, List.set_cons_succ])
                            refine wpAny_take (i := 15) (v := ?_) rfl (by kernel_rfl) (by kernel_rfl) (by kernel_rfl) (fun _ _ _ h => h) (Or.inl ⟨by kernel_rfl, ?_⟩) ?_
                            rotate_left 1
                            · (intro w; go_simp; try (with_reducible rfl))
                            (try simp only [Act.put, List.getElem_toArray, List.getElem_cons_succ, List.getElem_cons_zero, List.setIfInBounds_toArray, List.set_cons_zero, List.set_cons_succ])
                            refine wpAny_take (i := 16) (v := ?_) rfl (by kernel_rfl) (by kernel_rfl) (by kernel_rfl) (fun _ _ _ h => h) (Or.inl ⟨by kernel_rfl, ?_⟩) ?_
                            rotate_left 1
                            · (intro w; go_simp; try (with_reducible rfl))
                            (try simp only [Act.put, List.getElem_toArray, List.getElem_cons_succ, List.getElem_cons_zero, List.setIfInBounds_toArray, List.set_cons_zero, List.set_cons_succ])
                            refine wpAny_take (i := 17) (v := ?_) rfl (by kernel_rfl) (by kernel_rfl) (by kernel_rfl) (fun _ _ _ h => h) (Or.inl ⟨by kernel_rfl, ?_⟩) ?_
                            rotate_left 1
                            · (intro w; go_simp; try (with_reducible rfl))
                            (try simp only [Act.put, List.getElem_toArray, List.getElem_cons_succ, List.getElem_cons_zero, List.setIfInBounds_toArray, List.set_cons_zero, List.set_cons_succ])
                            refine wpAny_take (i := 18) (v := ?_) rfl (by kernel_rfl) (by kernel_rfl) (by kernel_rfl) (fun _ _ _ h => h) (Or.inl ⟨by kernel_rfl, ?_⟩) ?_
                            rotate_left 1
                            · (intro w; go_simp; try (with_reducible rfl))
                            (try simp only [Act.put, List.getElem_toArray, List.getElem_cons_succ, List.getElem_cons_zero, List.setIfInBounds_toArray, List.set_cons_zero, List.set_cons_succ])
                            refine wpAny_take (i := 19) (v := .int .i64 kk) rfl (by kernel_rfl) (by kernel_rfl) (by kernel_rfl) (fun _ _ _ h => h) (Or.inl ⟨by kernel_rfl, ?_⟩) ?_
                            · (intro w; go_simp; first | done | exact Hsum.out)
                            (try simp only [Act.put, List.getElem_toArray, List.getElem_cons_succ, List.getElem_cons_zero, List.setIfInBounds_toArray, List.set_cons_zero, List.set_cons_succ])
                            refine wpAny_take (i := 20) (v := .bool true) rfl (by kernel_rfl) (by kernel_rfl) (by kernel_rfl) (fun _ _ _ h => h) (Or.inl ⟨by kernel_rfl, ?_⟩) ?_
                            · (intro w; go_simp; first | done | exact Hkk.out | exact Hkk.out.symm | (rw [Hkk.out]; done))
                            (try simp only [Act.put, List.getElem_toArray, List.getElem_cons_succ, List.getElem_cons_zero, List.setIfInBounds_toArray, List.set_cons_zero, List.set_cons_succ])
                            refine wpAny_take (i := 21) (v := ?_) rfl (by kernel_rfl) (by kernel_rfl) (by kernel_rfl) (fun _ _ _ h => h) (Or.inl ⟨by kernel_rfl, ?_⟩) ?_
                            rotate_left 1
                            · (intro w; go_simp; try (with_reducible rfl))
                            (try simp only [Act.put, List.getElem_toArray, List.getElem_cons_succ, List.getElem_cons_zero, List.setIfInBounds_toArray, List.set_cons_zero, List.set_cons_succ])
                            refine wpAny_take (i := 22) (v := ?_) rfl (by kernel_rfl) (by kernel_rfl) (by kernel_rfl) (fun _ _ _ h => h) (Or.inl ⟨by kernel_rfl, ?_⟩) ?_
                            rotate_left 1
                            · (intro w; go_simp; try (with_reducible rfl))
                            (try simp only [Act.put, List.getElem_toArray, List.getElem_cons_succ, List.getElem_cons_zero, List.setIfInBounds_toArray, List.set_cons_zero, List.set_cons_succ])
                            refine wpAny_done (by kernel_rfl) ?_ _
                            (try (go_wp2_with fail))
                            go_meet
                            exact ⟨rfl, B9⟩
                          exact AllReady.nil
                        exact AllReady.nil
                      refine AllReady.cons rfl (fun K hK => ?_) ?_
                      · go_simp
                        (try (refine hK _ _ ?_))
                        (try (clear hK K))
                        (try simp only [Act.put, List.getElem_toArray, List.getElem_cons_succ, List.getElem_cons_zero, List.setIfInBounds_toArray, List.set_cons_zero, List.set_cons_succ])
                        refine wpAny_ready (rs := [4]) (by kernel_rfl) (by simp) ?_
                        refine AllReady.cons rfl (fun K hK => ?_) ?_
                        · go_simp
                          (try (refine hK _ _ ?_))
                          (try (clear hK K))
                          (try simp only [Act.put, List.getElem_toArray, List.getElem_cons_succ, List.getElem_cons_zero, List.setIfInBounds_toArray, List.set_cons_zero, List.set_cons_succ])
                          refine wpAny_take (i := 9) (v := ?_) rfl (by kernel_rfl) (by kernel_rfl) (by kernel_rfl) (fun _ _ _ h => h) (Or.inl ⟨by kernel_rfl, ?_⟩) ?_
                          rotate_left 1
                          · (intro w; go_simp; try (with_reducible rfl))
                          (try simp only [Act.put, List.getElem_toArray, List.getElem_cons_succ, List.getElem_cons_zero, List.setIfInBounds_toArray, List.set_cons_zero, List.set_cons_succ])
                          refine wpAny_take (i := 10) (v := ?_) rfl (by kernel_rfl) (by kernel_rfl) (by kernel_rfl) (fun _ _ _ h => h) (Or.inl ⟨by kernel_rfl, ?_⟩) ?_
                          rotate_left 1
                          · (intro w; go_simp; try (with_reducible rfl))
                          (try simp only [Act.put, List.getElem_toArray, List.getElem_cons_succ, List.getElem_cons_zero, List.setIfInBounds_toArray, List.set_cons_zero, List.set_cons_succ])
                          refine wpAny_take (i := 11) (v := ?_) rfl (by kernel_rfl) (by kernel_rfl) (by kernel_rfl) (fun _ _ _ h => h) (Or.inl ⟨by kernel_rfl, ?_⟩) ?_
                          rotate_left 1
                          · (intro w; go_simp; try (with_reducible rfl))
                          (try simp only [Act.put, List.getElem_toArray, List.getElem_cons_succ, List.getElem_cons_zero, List.setIfInBounds_toArray, List.set_cons_zero, List.set_cons_succ])
                          refine wpAny_ready (rs := [12]) (by kernel_rfl) (by simp) ?_
                          refine AllReady.cons rfl (fun K hK => ?_) ?_
                          · go_simp
                            go_wp2_with (go_at_call 19; refine (err_any g _ _ _ hc9).mono ?_; rintro e w' ⟨rfl, rfl⟩)
                            (try (refine hK _ _ ?_))
                            (try (clear hK K))
                            (try simp only [Act.put, List.getElem_toArray, List.getElem_cons_succ, List.getElem_cons_zero, List.setIfInBounds_toArray, List.set_cons_zero, List.set_cons_succ])
                            refine wpAny_take (i := 13) (v := ?_) rfl (by kernel_rfl) (by kernel_rfl) (by kernel_rfl) (fun _ _ _ h => h) (Or.inl ⟨by kernel_rfl, ?_⟩) ?_
                            rotate_left 1
                            · (intro w; go_simp; try (with_reducible rfl))
                            (try simp only [Act.put, List.getElem_toArray, List.getElem_cons_succ, List.getElem_cons_zero, List.setIfInBounds_toArray, List.set_cons_zero, List.set_cons_succ])
                            refine wpAny_take (i := 14) (v := ?_) rfl (by kernel_rfl) (by kernel_rfl) (by kernel_rfl) (fun _ _ _ h => h) (Or.inl ⟨by kernel_rfl, ?_⟩) ?_
                            rotate_left 1
                            · (intro w; go_simp; try (with_reducible rfl))
                            (try simp only [Act.put, List.getElem_toArray, List.getElem_cons_succ, List.getElem_cons_zero, List.setIfInBounds_toArray, List.set_cons_zero, List.set_cons_succ])
                            refine wpAny_take (i := 15) (v := ?_) rfl (by kernel_rfl) (by kernel_rfl) (by kernel_rfl) (fun _ _ _ h => h) (Or.inl ⟨by kernel_rfl, ?_⟩) ?_
                            rotate_left 1
                            · (intro w; go_simp; try (with_reducible rfl))
                            (try simp only [Act.put, List.getElem_toArray, List.getElem_cons_succ, List.getElem_cons_zero, List.setIfInBounds_toArray, List.set_cons_zero, List.set_cons_succ])
                            refine wpAny_take (i := 16) (v := ?_) rfl (by kernel_rfl) (by kernel_rfl) (by kernel_rfl) (fun _ _ _ h => h) (Or.inl ⟨by kernel_rfl, ?_⟩) ?_
                            rotate_left 1
                            · (intro w; go_simp; try (with_reducible rfl))
                            (try simp only [Act.put, List.getElem_toArray, List.getElem_cons_succ, List.getElem_cons_zero, List.setIfInBounds_toArray, List.set_cons_zero, List.set_cons_succ])
                            refine wpAny_take (i := 17) (v := ?_) rfl (by kernel_rfl) (by kernel_rfl) (by kernel_rfl) (fun _ _ _ h => h) (Or.inl ⟨by kernel_rfl, ?_⟩) ?_
                            rotate_left 1
                            · (intro w; go_simp; try (with_reducible rfl))
                            (try simp only [Act.put, List.getElem_toArray, List.getElem_cons_succ, List.getElem_cons_zero, List.setIfInBounds_toArray, List.set_cons_zero, List.set_cons_succ])
                            refine wpAny_take (i := 18) (v := ?_) rfl (by kernel_rfl) (by kernel_rfl) (by kernel_rfl) (fun _ _ _ h => h) (Or.inl ⟨by kernel_rfl, ?_⟩) ?_
                            rotate_left 1
                            · (intro w; go_simp; try (with_reducible rfl))
                            (try simp only [Act.put, List.getElem_toArray, List.getElem_cons_succ, List.getElem_cons_zero, List.setIfInBounds_toArray, List.set_cons_zero, List.set_cons_succ])
                            refine wpAny_take (i := 19) (v := .int .i64 kk) rfl (by kernel_rfl) (by kernel_rfl) (by kernel_rfl) (fun _ _ _ h => h) (Or.inl ⟨by kernel_rfl, ?_⟩) ?_
                            · (intro w; go_simp; first | done | exact Hsum.out)
                            (try simp only [Act.put, List.getElem_toArray, List.getElem_cons_succ, List.getElem_cons_zero, List.setIfInBounds_toArray, List.set_cons_zero, List.set_cons_succ])
                            refine wpAny_take (i := 20) (v := .bool true) rfl (by kernel_rfl) (by kernel_rfl) (by kernel_rfl) (fun _ _ _ h => h) (Or.inl ⟨by kernel_rfl, ?_⟩) ?_
                            · (intro w; go_simp; first | done | exact Hkk.out | exact Hkk.out.symm | (rw [Hkk.out]; done))
                            (try simp only [Act.put, List.getElem_toArray, List.getElem_cons_succ, List.getElem_cons_zero, List.setIfInBounds_toArray, List.set_cons_zero, List.set_cons_succ])
                            refine wpAny_take (i := 21) (v := ?_) rfl (by kernel_rfl) (by kernel_rfl) (by kernel_rfl) (fun _ _ _ h => h) (Or.inl ⟨by kernel_rfl, ?_⟩) ?_
                            rotate_left 1
                            · (intro w; go_simp; try (with_reducible rfl))
                            (try simp only [Act.put, List.getElem_toArray, List.getElem_cons_succ, List.getElem_cons_zero, List.setIfInBounds_toArray, List.set_cons_zero, List.set_cons_succ])
                            refine wpAny_take (i := 22) (v := ?_) rfl (by kernel_rfl) (by kernel_rfl) (by kernel_rfl) (fun _ _ _ h => h) (Or.inl ⟨by kernel_rfl, ?_⟩) ?_
                            rotate_left 1
                            · (intro w; go_simp; try (with_reducible rfl))
                            (try simp only [Act.put, List.getElem_toArray, List.getElem_cons_succ, List.getElem_cons_zero, List.setIfInBounds_toArray, List.set_cons_zero, List.set_cons_succ])
                            refine wpAny_done (by kernel_rfl) ?_ _
                            (try (go_wp2_with fail))
                            go_meet
                            exact ⟨rfl, B9⟩
                          exact AllReady.nil
                        exact AllReady.nil
                      exact AllReady.nil
                    refine AllReady.cons rfl (fun K hK => ?_) ?_
                    · go_simp
                      (try (refine hK _ _ ?_))
                      (try (clear hK K))
                      (try simp only [Act.put, List.getElem_toArray, List.getElem_cons_succ, List.getElem_cons_zero, List.setIfInBounds_toArray, List.set_cons_zero, List.set_cons_succ])
                      refine wpAny_ready (rs := [3]) (by kernel_rfl) (by simp) ?_
                      refine AllReady.cons rfl (fun K hK => ?_) ?_
                      · go_simp
                        go_wp2_with (go_at_call 15; refine (bytes_any g rs 0 _ _ hcd hll').mono ?_; rintro e w9 ⟨A9, c9, rfl, hown9, hc9, g9⟩; have B9 := hbd.grown g9 z8 Hq0.out; have h9 := HS.out w9 B9; rw [show headS rs 0 (rs.length : Int) (decide (0 ≤ (rs.length : Int))) = rs by simp [headS]] at hown9 ⊢; rw [show errS rs 0 (rs.length : Int) (decide (0 ≤ (rs.length : Int))) = 0 by simp [errS]] at hc9; have q9 := run_text (P := Try.prog) w9 24 5 9 Try.underlying24 Try.underlying5 Try.underlying9 _ _ _ c9 _ (Row.of_own hown9))
                        (try (refine hK _ _ ?_))
                        (try (clear hK K))
                        (try simp only [Act.put, List.getElem_toArray, List.getElem_cons_succ, List.getElem_cons_zero, List.setIfInBounds_toArray, List.set_cons_zero, List.set_cons_succ])
                        refine wpAny_ready (rs := [4]) (by kernel_rfl) (by simp) ?_
                        refine AllReady.cons rfl (fun K hK => ?_) ?_
                        · go_simp
                          (try (refine hK _ _ ?_))
                          (try (clear hK K))
                          (try simp only [Act.put, List.getElem_toArray, List.getElem_cons_succ, List.getElem_cons_zero, List.setIfInBounds_toArray, List.set_cons_zero, List.set_cons_succ])
                          refine wpAny_take (i := 9) (v := ?_) rfl (by kernel_rfl) (by kernel_rfl) (by kernel_rfl) (fun _ _ _ h => h) (Or.inl ⟨by kernel_rfl, ?_⟩) ?_
                          rotate_left 1
                          · (intro w; go_simp; try (with_reducible rfl))
                          (try simp only [Act.put, List.getElem_toArray, List.getElem_cons_succ, List.getElem_cons_zero, List.setIfInBounds_toArray, List.set_cons_zero, List.set_cons_succ])
                          refine wpAny_take (i := 10) (v := ?_) rfl (by kernel_rfl) (by kernel_rfl) (by kernel_rfl) (fun _ _ _ h => h) (Or.inl ⟨by kernel_rfl, ?_⟩) ?_
                          rotate_left 1
                          · (intro w; go_simp; try (with_reducible rfl))
                          (try simp only [Act.put, List.getElem_toArray, List.getElem_cons_succ, List.getElem_cons_zero, List.setIfInBounds_toArray, List.set_cons_zero, List.set_cons_succ])
                          refine wpAny_take (i := 11) (v := ?_) rfl (by kernel_rfl) (by kernel_rfl) (by kernel_rfl) (fun _ _ _ h => h) (Or.inl ⟨by kernel_rfl, ?_⟩) ?_
                          rotate_left 1
                          · (intro w; go_simp; try (with_reducible rfl))
                          (try simp only [Act.put, List.getElem_toArray, List.getElem_cons_succ, List.getElem_cons_zero, List.setIfInBounds_toArray, List.set_cons_zero, List.set_cons_succ])
                          refine wpAny_ready (rs := [12]) (by kernel_rfl) (by simp) ?_
                          refine AllReady.cons rfl (fun K hK => ?_) ?_
                          · go_simp
                            go_wp2_with (go_at_call 19; refine (err_any g _ _ _ hc9).mono ?_; rintro e w' ⟨rfl, rfl⟩)
                            (try (refine hK _ _ ?_))
                            (try (clear hK K))
                            (try simp only [Act.put, List.getElem_toArray, List.getElem_cons_succ, List.getElem_cons_zero, List.setIfInBounds_toArray, List.set_cons_zero, List.set_cons_succ])
                            refine wpAny_take (i := 13) (v := ?_) rfl (by kernel_rfl) (by kernel_rfl) (by kernel_rfl) (fun _ _ _ h => h) (Or.inl ⟨by kernel_rfl, ?_⟩) ?_
                            rotate_left 1
                            · (intro w; go_simp; try (with_reducible rfl))
                            (try simp only [Act.put, List.getElem_toArray, List.getElem_cons_succ, List.getElem_cons_zero, List.setIfInBounds_toArray, List.set_cons_zero, List.set_cons_succ])
                            refine wpAny_take (i := 14) (v := ?_) rfl (by kernel_rfl) (by kernel_rfl) (by kernel_rfl) (fun _ _ _ h => h) (Or.inl ⟨by kernel_rfl, ?_⟩) ?_
                            rotate_left 1
                            · (intro w; go_simp; try (with_reducible rfl))
                            (try simp only [Act.put, List.getElem_toArray, List.getElem_cons_succ, List.getElem_cons_zero, List.setIfInBounds_toArray, List.set_cons_zero, List.set_cons_succ])
                            refine wpAny_take (i := 15) (v := ?_) rfl (by kernel_rfl) (by kernel_rfl) (by kernel_rfl) (fun _ _ _ h => h) (Or.inl ⟨by kernel_rfl, ?_⟩) ?_
                            rotate_left 1
                            · (intro w; go_simp; try (with_reducible rfl))
                            (try simp only [Act.put, List.getElem_toArray, List.getElem_cons_succ, List.getElem_cons_zero, List.setIfInBounds_toArray, List.set_cons_zero, List.set_cons_succ])
                            refine wpAny_take (i := 16) (v := ?_) rfl (by kernel_rfl) (by kernel_rfl) (by kernel_rfl) (fun _ _ _ h => h) (Or.inl ⟨by kernel_rfl, ?_⟩) ?_
                            rotate_left 1
                            · (intro w; go_simp; try (with_reducible rfl))
                            (try simp only [Act.put, List.getElem_toArray, List.getElem_cons_succ, List.getElem_cons_zero, List.setIfInBounds_toArray, List.set_cons_zero, List.set_cons_succ])
                            refine wpAny_take (i := 17) (v := ?_) rfl (by kernel_rfl) (by kernel_rfl) (by kernel_rfl) (fun _ _ _ h => h) (Or.inl ⟨by kernel_rfl, ?_⟩) ?_
                            rotate_left 1
                            · (intro w; go_simp; try (with_reducible rfl))
                            (try simp only [Act.put, List.getElem_toArray, List.getElem_cons_succ, List.getElem_cons_zero, List.setIfInBounds_toArray, List.set_cons_zero, List.set_cons_succ])
                            refine wpAny_take (i := 18) (v := ?_) rfl (by kernel_rfl) (by kernel_rfl) (by kernel_rfl) (fun _ _ _ h => h) (Or.inl ⟨by kernel_rfl, ?_⟩) ?_
                            rotate_left 1
                            · (intro w; go_simp; try (with_reducible rfl))
                            (try simp only [Act.put, List.getElem_toArray, List.getElem_cons_succ, List.getElem_cons_zero, List.setIfInBounds_toArray, List.set_cons_zero, List.set_cons_succ])
                            refine wpAny_take (i := 19) (v := .int .i64 kk) rfl (by kernel_rfl) (by kernel_rfl) (by kernel_rfl) (fun _ _ _ h => h) (Or.inl ⟨by kernel_rfl, ?_⟩) ?_
                            · (intro w; go_simp; first | done | exact Hsum.out)
                            (try simp only [Act.put, List.getElem_toArray, List.getElem_cons_succ, List.getElem_cons_zero, List.setIfInBounds_toArray, List.set_cons_zero, List.set_cons_succ])
                            refine wpAny_take (i := 20) (v := .bool true) rfl (by kernel_rfl) (by kernel_rfl) (by kernel_rfl) (fun _ _ _ h => h) (Or.inl ⟨by kernel_rfl, ?_⟩) ?_
                            · (intro w; go_simp; first | done | exact Hkk.out | exact Hkk.out.symm | (rw [Hkk.out]; done))
                            (try simp only [Act.put, List.getElem_toArray, List.getElem_cons_succ, List.getElem_cons_zero, List.setIfInBounds_toArray, List.set_cons_zero, List.set_cons_succ])
                            refine wpAny_take (i := 21) (v := ?_) rfl (by kernel_rfl) (by kernel_rfl) (by kernel_rfl) (fun _ _ _ h => h) (Or.inl ⟨by kernel_rfl, ?_⟩) ?_
                            rotate_left 1
                            · (intro w; go_simp; try (with_reducible rfl))
                            (try simp only [Act.put, List.getElem_toArray, List.getElem_cons_succ, List.getElem_cons_zero, List.setIfInBounds_toArray, List.set_cons_zero, List.set_cons_succ])
                            refine wpAny_take (i := 22) (v := ?_) rfl (by kernel_rfl) (by kernel_rfl) (by kernel_rfl) (fun _ _ _ h => h) (Or.inl ⟨by kernel_rfl, ?_⟩) ?_
                            rotate_left 1
                            · (intro w; go_simp; try (with_reducible rfl))
                            (try simp only [Act.put, List.getElem_toArray, List.getElem_cons_succ, List.getElem_cons_zero, List.setIfInBounds_toArray, List.set_cons_zero, List.set_cons_succ])
                            refine wpAny_done (by kernel_rfl) ?_ _
                            (try (go_wp2_with fail))
                            go_meet
                            exact ⟨rfl, B9⟩
                          exact AllReady.nil
                        exact AllReady.nil
                      exact AllReady.nil
                    exact AllReady.nil
                  refine AllReady.cons rfl (fun K hK => ?_) ?_
                  · go_simp
                    (try (refine hK _ _ ?_))
                    (try (clear hK K))
                    (try simp only [Act.put, List.getElem_toArray, List.getElem_cons_succ, List.getElem_cons_zero, List.setIfInBounds_toArray, List.set_cons_zero, List.set_cons_succ])
                    refine wpAny_ready (rs := [2]) (by kernel_rfl) (by simp) ?_
                    refine AllReady.cons rfl (fun K hK => ?_) ?_
                    · go_simp
                      go_wp2_with (go_at_call 18; refine (left_any g rs 0 _ hcd).mono ?_; rintro e w' ⟨rfl, rfl⟩)
                      (try (refine hK _ _ ?_))
                      (try (clear hK K))
                      (try simp only [Act.put, List.getElem_toArray, List.getElem_cons_succ, List.getElem_cons_zero, List.setIfInBounds_toArray, List.set_cons_zero, List.set_cons_succ])
                      refine wpAny_ready (rs := [3]) (by kernel_rfl) (by simp) ?_
                      refine AllReady.cons rfl (fun K hK => ?_) ?_
                      · go_simp
                        go_wp2_with (go_at_call 15; refine (bytes_any g rs 0 _ _ hcd hll').mono ?_; rintro e w9 ⟨A9, c9, rfl, hown9, hc9, g9⟩; have B9 := hbd.grown g9 z8 Hq0.out; have h9 := HS.out w9 B9; rw [show headS rs 0 (rs.length : Int) (decide (0 ≤ (rs.length : Int))) = rs by simp [headS]] at hown9 ⊢; rw [show errS rs 0 (rs.length : Int) (decide (0 ≤ (rs.length : Int))) = 0 by simp [errS]] at hc9; have q9 := run_text (P := Try.prog) w9 24 5 9 Try.underlying24 Try.underlying5 Try.underlying9 _ _ _ c9 _ (Row.of_own hown9))
                        (try (refine hK _ _ ?_))
                        (try (clear hK K))
                        (try simp only [Act.put, List.getElem_toArray, List.getElem_cons_succ, List.getElem_cons_zero, List.setIfInBounds_toArray, List.set_cons_zero, List.set_cons_succ])
                        refine wpAny_ready (rs := [4]) (by kernel_rfl) (by simp) ?_
                        refine AllReady.cons rfl (fun K hK => ?_) ?_
                        · go_simp
                          (try (refine hK _ _ ?_))
                          (try (clear hK K))
                          (try simp only [Act.put, List.getElem_toArray, List.getElem_cons_succ, List.getElem_cons_zero, List.setIfInBounds_toArray, List.set_cons_zero, List.set_cons_succ])
                          refine wpAny_take (i := 9) (v := ?_) rfl (by kernel_rfl) (by kernel_rfl) (by kernel_rfl) (fun _ _ _ h => h) (Or.inl ⟨by kernel_rfl, ?_⟩) ?_
                          rotate_left 1
                          · (intro w; go_simp; try (with_reducible rfl))
                          (try simp only [Act.put, List.getElem_toArray, List.getElem_cons_succ, List.getElem_cons_zero, List.setIfInBounds_toArray, List.set_cons_zero, List.set_cons_succ])
                          refine wpAny_take (i := 10) (v := ?_) rfl (by kernel_rfl) (by kernel_rfl) (by kernel_rfl) (fun _ _ _ h => h) (Or.inl ⟨by kernel_rfl, ?_⟩) ?_
                          rotate_left 1
                          · (intro w; go_simp; try (with_reducible rfl))
                          (try simp only [Act.put, List.getElem_toArray, List.getElem_cons_succ, List.getElem_cons_zero, List.setIfInBounds_toArray, List.set_cons_zero, List.set_cons_succ])
                          refine wpAny_take (i := 11) (v := ?_) rfl (by kernel_rfl) (by kernel_rfl) (by kernel_rfl) (fun _ _ _ h => h) (Or.inl ⟨by kernel_rfl, ?_⟩) ?_
                          rotate_left 1
                          · (intro w; go_simp; try (with_reducible rfl))
                          (try simp only [Act.put, List.getElem_toArray, List.getElem_cons_succ, List.getElem_cons_zero, List.setIfInBounds_toArray, List.set_cons_zero, List.set_cons_succ])
                          refine wpAny_ready (rs := [12]) (by kernel_rfl) (by simp) ?_
                          refine AllReady.cons rfl (fun K hK => ?_) ?_
                          · go_simp
                            go_wp2_with (go_at_call 19; refine (err_any g _ _ _ hc9).mono ?_; rintro e w' ⟨rfl, rfl⟩)
                            (try (refine hK _ _ ?_))
                            (try (clear hK K))
                            (try simp only [Act.put, List.getElem_toArray, List.getElem_cons_succ, List.getElem_cons_zero, List.setIfInBounds_toArray, List.set_cons_zero, List.set_cons_succ])
                            refine wpAny_take (i := 13) (v := ?_) rfl (by kernel_rfl) (by kernel_rfl) (by kernel_rfl) (fun _ _ _ h => h) (Or.inl ⟨by kernel_rfl, ?_⟩) ?_
                            rotate_left 1
                            · (intro w; go_simp; try (with_reducible rfl))
                            (try simp only [Act.put, List.getElem_toArray, List.getElem_cons_succ, List.getElem_cons_zero, List.setIfInBounds_toArray, List.set_cons_zero, List.set_cons_succ])
                            refine wpAny_take (i := 14) (v := ?_) rfl (by kernel_rfl) (by kernel_rfl) (by kernel_rfl) (fun _ _ _ h => h) (Or.inl ⟨by kernel_rfl, ?_⟩) ?_
                            rotate_left 1
                            · (intro w; go_simp; try (with_reducible rfl))
                            (try simp only [Act.put, List.getElem_toArray, List.getElem_cons_succ, List.getElem_cons_zero, List.setIfInBounds_toArray, List.set_cons_zero, List.set_cons_succ])
                            refine wpAny_take (i := 15) (v := ?_) rfl (by kernel_rfl) (by kernel_rfl) (by kernel_rfl) (fun _ _ _ h => h) (Or.inl ⟨by kernel_rfl, ?_⟩) ?_
                            rotate_left 1
                            · (intro w; go_simp; try (with_reducible rfl))
                            (try simp only [Act.put, List.getElem_toArray, List.getElem_cons_succ, List.getElem_cons_zero, List.setIfInBounds_toArray, List.set_cons_zero, List.set_cons_succ])
                            refine wpAny_take (i := 16) (v := ?_) rfl (by kernel_rfl) (by kernel_rfl) (by kernel_rfl) (fun _ _ _ h => h) (Or.inl ⟨by kernel_rfl, ?_⟩) ?_
                            rotate_left 1
                            · (intro w; go_simp; try (with_reducible rfl))
                            (try simp only [Act.put, List.getElem_toArray, List.getElem_cons_succ, List.getElem_cons_zero, List.setIfInBounds_toArray, List.set_cons_zero, List.set_cons_succ])
                            refine wpAny_take (i := 17) (v := ?_) rfl (by kernel_rfl) (by kernel_rfl) (by kernel_rfl) (fun _ _ _ h => h) (Or.inl ⟨by kernel_rfl, ?_⟩) ?_
                            rotate_left 1
                            · (intro w; go_simp; try (with_reducible rfl))
                            (try simp only [Act.put, List.getElem_toArray, List.getElem_cons_succ, List.getElem_cons_zero, List.setIfInBounds_toArray, List.set_cons_zero, List.set_cons_succ])
                            refine wpAny_take (i := 18) (v := ?_) rfl (by kernel_rfl) (by kernel_rfl) (by kernel_rfl) (fun _ _ _ h => h) (Or.inl ⟨by kernel_rfl, ?_⟩) ?_
                            rotate_left 1
                            · (intro w; go_simp; try (with_reducible rfl))
                            (try simp only [Act.put, List.getElem_toArray, List.getElem_cons_succ, List.getElem_cons_zero, List.setIfInBounds_toArray, List.set_cons_zero, List.set_cons_succ])
                            refine wpAny_take (i := 19) (v := .int .i64 kk) rfl (by kernel_rfl) (by kernel_rfl) (by kernel_rfl) (fun _ _ _ h => h) (Or.inl ⟨by kernel_rfl, ?_⟩) ?_
                            · (intro w; go_simp; first | done | exact Hsum.out)
                            (try simp only [Act.put, List.getElem_toArray, List.getElem_cons_succ, List.getElem_cons_zero, List.setIfInBounds_toArray, List.set_cons_zero, List.set_cons_succ])
                            refine wpAny_take (i := 20) (v := .bool true) rfl (by kernel_rfl) (by kernel_rfl) (by kernel_rfl) (fun _ _ _ h => h) (Or.inl ⟨by kernel_rfl, ?_⟩) ?_
                            · (intro w; go_simp; first | done | exact Hkk.out | exact Hkk.out.symm | (rw [Hkk.out]; done))
                            (try simp only [Act.put, List.getElem_toArray, List.getElem_cons_succ, List.getElem_cons_zero, List.setIfInBounds_toArray, List.set_cons_zero, List.set_cons_succ])
                            refine wpAny_take (i := 21) (v := ?_) rfl (by kernel_rfl) (by kernel_rfl) (by kernel_rfl) (fun _ _ _ h => h) (Or.inl ⟨by kernel_rfl, ?_⟩) ?_
                            rotate_left 1
                            · (intro w; go_simp; try (with_reducible rfl))
                            (try simp only [Act.put, List.getElem_toArray, List.getElem_cons_succ, List.getElem_cons_zero, List.setIfInBounds_toArray, List.set_cons_zero, List.set_cons_succ])
                            refine wpAny_take (i := 22) (v := ?_) rfl (by kernel_rfl) (by kernel_rfl) (by kernel_rfl) (fun _ _ _ h => h) (Or.inl ⟨by kernel_rfl, ?_⟩) ?_
                            rotate_left 1
                            · (intro w; go_simp; try (with_reducible rfl))
                            (try simp only [Act.put, List.getElem_toArray, List.getElem_cons_succ, List.getElem_cons_zero, List.setIfInBounds_toArray, List.set_cons_zero, List.set_cons_succ])
                            refine wpAny_done (by kernel_rfl) ?_ _
                            (try (go_wp2_with fail))
                            go_meet
                            exact ⟨rfl, B9⟩
                          exact AllReady.nil
                        exact AllReady.nil
                      exact AllReady.nil
                    exact AllReady.nil
                  exact AllReady.nil
                case rest =>
                  obtain ⟨rfl, B10⟩ := hcut
                  go_wp2
                  go_ret
                  exact ⟨rfl, B10⟩

set_option maxRecDepth 100000 in
theorem lifted (os : Os) (started : os.Started) (H : Type) (enc : TypeId × Value → H) :
    ReturnsInHanded {} Try.checked os 6 .any (Rows.octetOwnSpec.pre6 enc Try.prog Try.f6 Rows.octetOwnRow.domain false) (Rows.octetOwnSpec.post enc Try.prog Try.f6 false true false false) := by
  refine returnsInHanded_of_change (C := Try.checked) own started (by kernel_rfl) Try.func6
    (ChangeSpec.witness6 (enc := enc) (C := Try.checked) false ⟨#[], #[.slice none 0 0, .int .u8 0], []⟩ 8 (by kernel_rfl) (by kernel_rfl) (by kernel_rfl) (by kernel_rfl)) ?_
  intro W base args ds gs before hval0 hW _ _
  have hval : ∀ (j : Nat) t v, Try.f6.params[j]? = some t → args[j]? = some v → Value.okWide Try.prog W .any base t v := hval0
  have hW' := hW
  obtain ⟨p, q, hA0, hV, _, _, _⟩ := hW
  have hA : DataW.TrodAll enc Try.prog W 0 (fun _ => true) true Try.f6.params.toList args.toList ds p := hA0
  rw [Try.params6] at hA hval
  obtain ⟨v0, vs0, d0, ds0, p0, q0, hargs, rfl, _, h0, r0⟩ := trodAll_cons hA
  obtain ⟨v1, vs1, d1, ds1, p1, q1, rfl, rfl, _, h1, r1⟩ := trodAll_cons r0
  obtain ⟨rfl, rfl, _⟩ := trodAll_nil r1
  obtain rfl : args = #[v0, v1] := by cases args; simp_all
  obtain ⟨rfl, _⟩ := trodVars_none hV
  refine law_post (s := Rows.octetOwnSpec) rfl rfl (by rw [Try.params6]; intro t ht; simp at ht; rcases ht with rfl | rfl <;> exact ⟨by kernel_rfl, of_decide_eq_true (by kernel_rfl)⟩) rfl hW' ?_
  obtain ⟨A0, c0, l0, rfl, hl0, hr0, hlc0, hcm0⟩ := open_bytes (hval 0 24 v0 rfl rfl) h0
  obtain ⟨a1, rfl, _, _, w1⟩ := open_int Try.underlying5 (hval 1 5 v1 rfl rfl) h1
  exact walk W A0 c0 l0 hl0 hr0 hlc0 hcm0 a1 w1

theorem over : Rows.octetOwnRow.holds Try.pinned (OpenSpec.ofChange Rows.octetOwnSpec) :=
  OpenClaim.holds_of_wide 6 Try.f6 rfl rfl rfl rfl rfl rfl rfl ⟨rfl, rfl, rfl, rfl, rfl⟩ rfl rfl rfl rfl rfl (by kernel_rfl) Try.func6 (by kernel_rfl)
    (of_decide_eq_true (by kernel_rfl)) (by unfold Func.isWrapper; first | (rw [if_pos (by decide +kernel)]; kernel_rfl) | (rw [if_neg (by decide +kernel)]; exact ⟨rfl, rfl⟩))
    (fun os started H enc _ => lifted os started H enc)

/-- The statement. -/
theorem octetOwn_holds : Rows.OctetOwnSaid := over
end Go.Proofs.Ytahaeeedpnoelaa.OwnY
