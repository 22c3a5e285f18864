/-
  The contract of package ext's Parse.
-/
import Derived.Test.YtdfbbmaaonkjiaaExtE
namespace Go.Proofs.Ytdfbbmaaonkjiaa
open Go.RowKit

theorem info_item : (Try.prog.info? 46).map (fun i => (i.zero, i.size, i.bytes)) = some (some (.agg #[.int .u8 0, .slice none 0 0]), 2, 32) := by kernel_rfl

/-- Two rows of elements of other types lie in other blocks. -/
theorem own_apart {w : World} {b b' : Nat} {e e' : TypeId} {z z' n n' : Nat} {v v' : Value} {xs xs' : List Value} (h : w.ownsRow b e z v n xs) (h' : w.ownsRow b' e' z' v' n' xs') (hne : e ≠ e') : v.ownBlock = none ∨ v.ownBlock ≠ v'.ownBlock := by
  rcases h.2 with ⟨rfl, _⟩ | ⟨g, cap, cur, rfl, _, hh, _⟩
  · exact .inl rfl
  · right
    rcases h'.2 with ⟨rfl, _⟩ | ⟨g', cap', cur', rfl, _, hh', _⟩
    · simp [Value.ownBlock]
    · intro he
      have : g = g' := by simpa [Value.ownBlock] using he
      subst this
      rw [hh] at hh'
      injection hh' with hh'
      injection hh' with _ ht
      exact hne ht
theorem own_not {w : World} {b : Nat} {e : TypeId} {z n : Nat} {v : Value} {xs : List Value} {g : Nat} (h : w.ownsRow b e z v n xs) (hg : g < b) : v.ownBlock = none ∨ v.ownBlock ≠ some g := by
  right
  intro he
  have := (h.lt g he).1
  omega
theorem Whole.cut_ne {w : World} {g bx : Nat} {lo : Nat} {l : List UInt8} {e : Int} {u : Value} (hw : Whole w bx 52 #[u]) (h : CutAt w lo g l e) : bx ≠ g := by
  rintro rfl
  obtain ⟨A, n, c, h1, _⟩ := h
  have a : w.heap[bx]? = some (.cells #[u] 52 (0, 0)) := hw
  have b : w.heap[bx]? = some (.cells #[.slice A n c, .int .i64 e] 68 (0, 0)) := h1
  rw [a] at b
  injection b with b
  injection b with _ b
  exact absurd b (by decide)

/-- How many bytes are left, as memory has it. -/
def leftLen (w : World) (g : Nat) : Nat := match w.cell? ⟨g, 0, none⟩ with
  | some (.slice _ n _) => n
  | _ => 0
theorem cut_left {w : World} {lo g : Nat} {l : List UInt8} {e : Int} (h : CutAt w lo g l e) : leftLen w g = l.length := by
  obtain ⟨A, n, c, h1, h2, _⟩ := h
  have := h2.1
  rw [u8s_length] at this
  unfold leftLen
  rw [h1.cell 0]
  simp
  omega

/-- What stands at the head of a round: what was read, what is left, and what all comes to. -/
def PSt (nx : UInt8 → List UInt8 → Nx) (R : List It × Int) (w : World) (lo base g bx : Nat) (v : Value) (wr : World) (ps : List Ip) (rest : List UInt8) : Prop :=
  wr.ownsRow base 46 2 v ps.length (ipC ps) ∧ (∀ p ∈ ps, wr.ownsRow base 5 1 (.slice p.A p.it.d.length p.c) p.it.d.length (u8s p.it.d) ∧ p.it.d.length ≤ 65536) ∧
  CutAt wr lo g rest 0 ∧ Whole wr bx 52 #[.pointer (some ⟨g, 0, none⟩)] ∧ Below w.heap.size w wr ∧ pr nx (ps.map Ip.it) rest = R ∧ ps.length ≤ 14 ∧ rest.length ≤ 65536 ∧ base ≤ wr.heap.size ∧ g < base ∧ bx < base ∧ w.heap.size ≤ base ∧ w.heap.size ≤ g

/-- What Parse tells: the items and the error R. -/
def Parsed (R : List It × Int) (w : World) (e : Ending) (w' : World) : Prop :=
  ∃ A c ps, e = .returned (.tuple #[.slice A ps.length c, .int .i64 R.2]) ∧ ps.map Ip.it = R.1 ∧ Its w' A ps ∧ Below w.heap.size w w'
theorem Parsed.none (w : World) (er : Int) {w' : World} (hb : Below w.heap.size w w') : Parsed ([], er) w (.returned (.tuple #[.slice none 0 0, .int .i64 er])) w' :=
  ⟨.none, 0, [], rfl, rfl, ⟨Row.nil, by simp⟩, hb⟩
theorem PSt.done {nx : UInt8 → List UInt8 → Nx} {R : List It × Int} {w : World} {lo base g bx : Nat} {A : Option Addr} {c n : Nat} {wr wr' : World} {ps : List Ip} {rest : List UInt8} (h : PSt nx R w lo base g bx (.slice A n c) wr ps rest) (hn : n = ps.length) (hR : pr nx (ps.map Ip.it) rest = (ps.map Ip.it, 0))
    (hg : wr.grownBy wr' (some g)) : Parsed R w (.returned (.tuple #[.slice A ps.length c, .int .i64 0])) wr' := by
  subst hn
  obtain ⟨h1, h2, h3, h4, h5, h6, _, _, h9, h10, h11, h12, h13⟩ := h
  have k1 := h1.kept hg (own_not h1 h10)
  refine ⟨A, c, ps, by rw [← h6, hR], by rw [← h6, hR], ⟨Row.of_own k1, fun p hp => ?_⟩, h5.grown hg h5.size (fun q hq => by injection hq with hq; omega)⟩
  have := (h2 p hp).1
  exact ⟨Row.of_own (this.kept hg (own_not this h10)), by have := (h2 p hp).2; unfold maxLen; omega⟩
/-- One item more. -/
theorem PSt.step {nx : UInt8 → List UInt8 → Nx} {R : List It × Int} {w : World} {lo base g bx : Nat} {v v' : Value} {wr w2 w4 : World} {ps : List Ip} {rest r' : List UInt8} {i : It} {A2 : Option Addr} {c2 : Nat} {o o' : Obj}
    (h : PSt nx R w lo base g bx v wr ps rest) (hg : wr.grownBy w2 (some g)) (own2 : w2.ownsRow wr.heap.size 5 1 (.slice A2 i.d.length c2) i.d.length (u8s i.d)) (cut2 : CutAt w2 lo g r' 0)
    (hl : ps.length ≠ 14) (hr' : r'.length ≤ 65536) (hi : i.d.length ≤ 65536) (hR : pr nx (ps.map Ip.it) rest = pr nx (ps.map Ip.it ++ [i]) r')
    (own4 : w4.ownsRow base 46 2 v' (ps.length + 1) (ipC ps ++ [.int .u8 (i.id.toNat : Int), .slice A2 i.d.length c2])) (hg4 : ((w2.alloc o).alloc o').grownBy w4 v.ownBlock) :
    PSt nx R w lo base g bx v' w4 (ps ++ [⟨i, A2, c2⟩]) r' := by
  obtain ⟨h1, h2, h3, h4, h5, h6, h7, h8, h9, h10, h11, h12, h13⟩ := h
  have k1 := h1.kept hg (own_not h1 h10)
  have b2 : Below w2.heap.size w2 ((w2.alloc o).alloc o') := ((Below.refl _ _).alloc (Nat.le_refl _) _).alloc (by simp) _
  have z2 := hg.size
  have far : ∀ q, v.ownBlock = some q → base ≤ q := fun q hq => (h1.lt q hq).1
  have keep : ∀ {p : Ip}, w2.ownsRow base 5 1 (.slice p.A p.it.d.length p.c) p.it.d.length (u8s p.it.d) → w4.ownsRow base 5 1 (.slice p.A p.it.d.length p.c) p.it.d.length (u8s p.it.d) := by
    intro p hp
    exact (own_below hp b2 (Nat.le_refl _)).kept hg4 (own_apart hp k1 (by decide))
  refine ⟨by rw [ipC_snoc]; simpa [Ip.cells] using own4, fun p hp => ?_, ?_, ?_, ?_, ?_, by simp; omega, hr', ?_, h10, h11, h12, h13⟩
  · rcases List.mem_append.1 hp with hp | hp
    · have := (h2 p hp).1
      exact ⟨keep (this.kept hg (own_not this h10)), (h2 p hp).2⟩
    · simp at hp
      subst hp
      exact ⟨keep (p := ⟨i, A2, c2⟩) (own_base own2 h9), hi⟩
  · exact ((cut2.alloc _).alloc _).grown hg4 (fun q hq => by have := far q hq; omega)
  · have hbg := h4.cut_ne h3
    exact (((h4.grown hg (by simpa using hbg)).alloc _).alloc _).grown hg4 (fun e => by have := far _ e.symm; omega)
  · have B2 := h5.grown hg h5.size (fun q hq => by injection hq with hq; omega)
    exact ((B2.alloc B2.size _).alloc (by have := B2.size; simp; omega) _).grown hg4 (by have := B2.size; simp; omega) (fun q hq => by have := far q hq; omega)
  · rw [← h6, hR]
    simp
  · have := hg4.size
    simp at this
    omega
/-- What is left of the state where a nought was taken. -/
theorem PSt.skip {nx : UInt8 → List UInt8 → Nx} {R : List It × Int} {w : World} {lo base g bx : Nat} {v : Value} {wr w2 : World} {ps : List Ip} {r r' : List UInt8}
    (h : PSt nx R w lo base g bx v wr ps r) (hg : wr.grownBy w2 (some g)) (cut2 : CutAt w2 lo g r' 0) (hl : r'.length ≤ 65536) (hR : pr nx (ps.map Ip.it) r = pr nx (ps.map Ip.it) r') : PSt nx R w lo base g bx v w2 ps r' := by
  obtain ⟨h1, h2, h3, h4, h5, h6, h7, h8, h9, h10, h11, h12, h13⟩ := h
  have hbg := h4.cut_ne h3
  exact ⟨h1.kept hg (own_not h1 h10), fun p hp => ⟨((h2 p hp).1).kept hg (own_not (h2 p hp).1 h10), (h2 p hp).2⟩, cut2, h4.grown hg (by simpa using hbg), h5.grown hg h5.size (fun q hq => by injection hq with hq; omega), by rw [← h6, hR], h7, hl, by have := hg.size; omega, h10, h11, h12, h13⟩

theorem readerOf_short (g : Nat) (w : World) : Calls Try.prog 25 #[.int .u16 48862, .pointer (some ⟨g, 0, none⟩)] w fun e w' => e = .returned (.func (.func 32) #[] #[.pointer (some ⟨w.heap.size, 0, none⟩)]) ∧ w' = w.alloc (.cells #[.pointer (some ⟨g, 0, none⟩)] 52) := by
  go_enter Try.func25, Try.ntmps25
  go_wp2
  go_ret
  exact ⟨rfl, rfl⟩
theorem readerOf_long (p : Int) (h1 : 4096 ≤ p) (h2 : p ≤ 4111) (g : Nat) (w : World) : Calls Try.prog 25 #[.int .u16 p, .pointer (some ⟨g, 0, none⟩)] w fun e w' => e = .returned (.func (.func 35) #[] #[.pointer (some ⟨w.heap.size, 0, none⟩)]) ∧ w' = w.alloc (.cells #[.pointer (some ⟨g, 0, none⟩)] 52) := by
  have h0 : ¬ p = 48862 := by omega
  go_enter Try.func25, Try.ntmps25
  go_wp2
  go_ret
  exact ⟨rfl, rfl⟩
theorem readerOf_none (p : Int) (h0 : ¬ p = 48862) (h : p < 4096 ∨ 4111 < p) (g : Nat) (w : World) : Calls Try.prog 25 #[.int .u16 p, .pointer (some ⟨g, 0, none⟩)] w fun e w' => e = .returned .nilFunc ∧ w' = w.alloc (.cells #[.pointer (some ⟨g, 0, none⟩)] 52) := by
  rcases h with h | h
  · go_enter Try.func25, Try.ntmps25
    go_wp2
    go_ret
    exact ⟨rfl, rfl⟩
  · have h1 : 4096 ≤ p := by omega
    have h2 : ¬ p ≤ 4111 := by omega
    go_enter Try.func25, Try.ntmps25
    go_wp2
    go_ret
    exact ⟨rfl, rfl⟩

set_option maxRecDepth 100000 in
theorem parse_S (A : Option Addr) (c : Nat) (b : List UInt8) (w : World) (h : Row w w.heap.size 1 A b.length (u8s b)) (hl : b.length ≤ 65536) :
    Calls Try.prog 14 #[.int .u16 48862, .slice A b.length c] w (Parsed (pr nxS [] b) w) := by
  obtain ⟨R, hR⟩ : ∃ R, R = pr nxS [] b := ⟨_, rfl⟩
  rw [← hR]
  go_enter Try.func14, Try.ntmps14
  go_wp2_with fail
  refine (new_any A b.length c b w h (by omega)).mono ?_
  rintro e w1 ⟨g, rfl, hg0, cut1, b1⟩
  clear h
  go_wp2_with fail
  refine (readerOf_short g w1).mono ?_
  rintro e w2 ⟨rfl, rfl⟩
  obtain ⟨bx, hbx⟩ : ∃ bx, bx = w1.heap.size := ⟨_, rfl⟩
  have hst : PSt nxS R w w.heap.size (bx + 1) g bx (.slice none 0 0) (w1.alloc (.cells #[.pointer (some ⟨g, 0, none⟩)] 52)) [] b :=
    ⟨World.ownsRow_nil _ _ _ _, by simp, cut1.alloc _, by rw [hbx]; exact Whole.new _ _ _, b1.alloc b1.size _, hR.symm, by simp, hl, by simp [hbx], by have := cut1.lt; omega, by omega, by have := b1.size; omega, hg0⟩
  rw [← hbx]
  have HST := Lib.hid hst
  have hnil : ∀ w, (binOp .eql 55 (.func (.func 32) #[] #[.pointer (some ⟨bx, 0, none⟩)]) .nilFunc).run Try.prog w = .ok (.bool false) w := fun w => by rfl
  clear hst hR cut1 b1 hbx
  go_wp2_with fail
  clear hnil
  go_loopw [8] (fun v wr => ∃ ps rest, PSt nxS R w w.heap.size (bx + 1) g bx v wr ps rest) (fun _ wr => leftLen wr g)
  case atStart => exact ⟨[], b, HST.out⟩
  case round =>
    clear HST
    obtain ⟨ps, rest, hst⟩ := hrel
    have hst0 := hst
    obtain ⟨h1, h2, h3, h4, h5, h6, h7, h8, h9, h10, h11, h12, h13⟩ := hst0
    obtain ⟨Av, cv, rfl⟩ := own_form h1
    have HST := Lib.hid hst
    have hleft := Lib.hid (cut_left h3)
    have HC := Lib.hid h3
    have HW := Lib.hid h4
    have H6 := Lib.hid h6
    have hbg := h4.cut_ne h3
    obtain ⟨wo, rfl⟩ : ∃ wo : World, wo = wr := ⟨_, rfl⟩
    clear h1 h2 h3 h4 h5 h6 h13 hst
    cases rest with
    | nil =>
      have HF := Lib.hid (HST.out.done rfl pr_nil (World.grownBy.refl wo _))
      go_wp2_with (go_at_call 26; refine (left_any g _ _ _ HC.out).mono ?_; rintro e w' ⟨rfl, rfl⟩)
      go_ret2
      exact HF.out
    | cons f r =>
      have hp : (0 : Int) < ((f :: r).length : Int) := by simp only [List.length_cons]; omega
      have hf256 := f.toNat_lt
      have CN : Calls Try.prog 27 #[.pointer (some ⟨g, 0, none⟩), .int .i64 1] wo fun e w' => e = .returned (.int .u64 (f.toNat : Int)) ∧ CutAt w' w.heap.size g r 0 ∧ wo.grownBy w' (some g) := by
        have := num_any g (f :: r) 0 1 wo HC.out
        have g1 : headS (f :: r) 0 1 true = [f] := by simp [headS]; omega
        have g2 : restS (f :: r) 0 1 true = r := by simp [restS]; omega
        have g3 : errS (f :: r) 0 1 true = 0 := by simp [errS]; omega
        rw [show sizeB 1 = true by decide, g1, g2, g3] at this
        refine this.mono ?_
        rintro e w' ⟨rfl, k1, k2⟩
        exact ⟨by rw [be_one], k1, k2⟩
      have CL := left_any g _ _ _ HC.out
      simp only [List.length_cons] at h8
      go_wp2_with (go_at_call 26; refine CL.mono ?_; rintro e w' ⟨rfl, rfl⟩)
      refine CN.mono ?_
      rintro e w2 ⟨rfl, cut2, g2⟩
      clear CN CL
      have hne := HC.out.lt
      have hbx2 := keep_bx g2 (HW.out.cell 0) hbg
      have z2 := g2.size
      have hcl2 := Lib.hid (cut_left cut2)
      by_cases hf0 : f = 0
      · subst hf0
        have HS := Lib.hid (HST.out.skip g2 cut2 (by omega) (pr_zero nxS_shr))
        have hx : ((0 : UInt8).toNat : Int) = 0 := rfl
        rw [hx]
        clear g2 cut2 hbx2 hx
        go_wp2
        go_roundw
        case rel => exact ⟨ps, r, HS.out⟩
        case measure => rw [hcl2.out, hleft.out]; simp
      · have hfn : ¬ (f.toNat : Int) = 0 := fun e => hf0 (UInt8.toNat_inj.1 (by rw [show (0 : UInt8).toNat = 0 from rfl]; omega))
        have CR := readS_any f r g bx w2 hbx2 (by omega) hbg cut2 (by omega)
        have HG2 := Lib.hid g2
        have hshr := Lib.hid (nxS_shr f r)
        clear g2 cut2 hbx2
        go_wp2_with fail
        refine CR.mono ?_
        rintro e w3 hr
        clear CR
        cases hn : nxS f r with
        | stop =>
          rw [hn] at hr
          obtain ⟨u, A2, n2, c2, rfl, g3⟩ := hr
          have HF := Lib.hid (fun o => HST.out.done rfl (pr_stop hf0 hn) (grown_from (grown_from HG2.out g3) (grown_alloc w3 o _)))
          clear g3 hn
          go_wp2
          go_ret2
          exact HF.out _
        | bad er =>
          rw [hn] at hr
          obtain ⟨u, A2, n2, c2, rfl, her, g3⟩ := hr
          have HF := Lib.hid (fun o => show Parsed R w (.returned (.tuple #[.slice none 0 0, .int .i64 er])) (w3.alloc o) from by
            rw [← H6.out, pr_bad hf0 hn]
            have h5 := HST.out.2.2.2.2.1
            exact Parsed.none w er (h5.grown (grown_from (grown_from HG2.out g3) (grown_alloc w3 o _)) h5.size (fun q hq => by injection hq with hq; have := HST.out.2.2.2.2.2.2.2.2.2.2.2.2; omega)))
          have her' : ¬ er = 0 := her
          clear g3 hn her
          go_wp2
          go_ret2
          exact HF.out _
        | item i r' =>
          rw [hn] at hr
          obtain ⟨A2, c2, rfl, own3, cut3, g3⟩ := hr
          by_cases h14 : ps.length = 14
          · have HF := Lib.hid (fun o => show Parsed R w (.returned (.tuple #[.slice none 0 0, .int .i64 13])) (w3.alloc o) from by
              rw [← H6.out, pr_full hf0 hn (by simpa using h14)]
              have h5 := HST.out.2.2.2.2.1
              exact Parsed.none w 13 (h5.grown (grown_from (grown_from HG2.out g3) (grown_alloc w3 o _)) h5.size (fun q hq => by injection hq with hq; have := HST.out.2.2.2.2.2.2.2.2.2.2.2.2; omega)))
            have h14' : (ps.length : Int) = 14 := by omega
            clear g3 hn own3 cut3
            go_wp2
            go_ret2
            exact HF.out _
          · have h14' : ¬ (ps.length : Int) = 14 := by omega
            have hs := hshr.out i r' hn
            have own3' := own_base own3 z2
            have gall := grown_from HG2.out g3
            have hR := pr_item nxS_shr hf0 hn (acc := ps.map Ip.it) (by simpa using h14)
            have HST3 := Lib.hid (fun v' w4 o o' k4 kg => HST.out.step (v' := v') (w4 := w4) (o := o) (o' := o') gall own3' cut3 h14 (by omega) (by omega) hR k4 kg)
            have HST3' := Lib.hid (fun w4 (k : CutAt w4 w.heap.size g r' 0) => cut_left k)
            have ownl := Lib.hid (HST.out.1.kept gall (own_not HST.out.1 h10))
            have hsz := gall.size
            clear own3 own3' cut3 gall hR hn g3
            go_wp2_with (at_builtin; go_loud (refine wpl_append _ rfl (.tmp 46) (.tmp 48) 22 rfl (bx + 1) 46 (.agg #[.int .u8 0, .slice none 0 0]) 2 32 Try.underlying22 info_item rfl (by decide) _ _ _ rfl ((ownl.out.alloc _).alloc _) _ _ 1 1 [.int .u8 (i.id.toNat : Int), .slice A2 i.d.length c2] rfl (Row.fresh2 _ _ _ _ 2 1 _ rfl rfl) (by simp [Value.oneCell']) ?c1 ?c2 ?c3 ?_))
            case c1 => unfold maxLen; omega
            case c2 => omega
            case c3 => simp; omega
            intro v4 w4 own4 g4 _
            have HS := Lib.hid (HST3.out v4 w4 _ _ own4 g4)
            clear own4 g4
            have hcl := HST3'.out w4 HS.out.2.2.1
            have HCL := Lib.hid hcl
            clear hcl
            go_wp2
            go_roundw
            case rel => exact ⟨_, _, HS.out⟩
            case measure => rw [HCL.out, hleft.out]; have := hs.1; simp; omega
set_option maxRecDepth 100000 in
theorem parse_L (p : Int) (hp1 : 4096 ≤ p) (hp2 : p ≤ 4111) (A : Option Addr) (c : Nat) (b : List UInt8) (w : World) (h : Row w w.heap.size 1 A b.length (u8s b)) (hl : b.length ≤ 65536) :
    Calls Try.prog 14 #[.int .u16 p, .slice A b.length c] w (Parsed (pr nxL [] b) w) := by
  obtain ⟨R, hR⟩ : ∃ R, R = pr nxL [] b := ⟨_, rfl⟩
  rw [← hR]
  go_enter Try.func14, Try.ntmps14
  go_wp2_with fail
  refine (new_any A b.length c b w h (by omega)).mono ?_
  rintro e w1 ⟨g, rfl, hg0, cut1, b1⟩
  clear h
  go_wp2_with fail
  refine (readerOf_long p hp1 hp2 g w1).mono ?_
  rintro e w2 ⟨rfl, rfl⟩
  obtain ⟨bx, hbx⟩ : ∃ bx, bx = w1.heap.size := ⟨_, rfl⟩
  have hst : PSt nxL R w w.heap.size (bx + 1) g bx (.slice none 0 0) (w1.alloc (.cells #[.pointer (some ⟨g, 0, none⟩)] 52)) [] b :=
    ⟨World.ownsRow_nil _ _ _ _, by simp, cut1.alloc _, by rw [hbx]; exact Whole.new _ _ _, b1.alloc b1.size _, hR.symm, by simp, hl, by simp [hbx], by have := cut1.lt; omega, by omega, by have := b1.size; omega, hg0⟩
  rw [← hbx]
  have HST := Lib.hid hst
  have hnil : ∀ w, (binOp .eql 55 (.func (.func 35) #[] #[.pointer (some ⟨bx, 0, none⟩)]) .nilFunc).run Try.prog w = .ok (.bool false) w := fun w => by rfl
  clear hst hR cut1 b1 hbx
  go_wp2_with fail
  clear hnil
  go_loopw [8] (fun v wr => ∃ ps rest, PSt nxL R w w.heap.size (bx + 1) g bx v wr ps rest) (fun _ wr => leftLen wr g)
  case atStart => exact ⟨[], b, HST.out⟩
  case round =>
    clear HST
    obtain ⟨ps, rest, hst⟩ := hrel
    have hst0 := hst
    obtain ⟨h1, h2, h3, h4, h5, h6, h7, h8, h9, h10, h11, h12, h13⟩ := hst0
    obtain ⟨Av, cv, rfl⟩ := own_form h1
    have HST := Lib.hid hst
    have hleft := Lib.hid (cut_left h3)
    have HC := Lib.hid h3
    have HW := Lib.hid h4
    have H6 := Lib.hid h6
    have hbg := h4.cut_ne h3
    obtain ⟨wo, rfl⟩ : ∃ wo : World, wo = wr := ⟨_, rfl⟩
    clear h1 h2 h3 h4 h5 h6 h13 hst
    cases rest with
    | nil =>
      have HF := Lib.hid (HST.out.done rfl pr_nil (World.grownBy.refl wo _))
      go_wp2_with (go_at_call 26; refine (left_any g _ _ _ HC.out).mono ?_; rintro e w' ⟨rfl, rfl⟩)
      go_ret2
      exact HF.out
    | cons f r =>
      have hpl : (0 : Int) < ((f :: r).length : Int) := by simp only [List.length_cons]; omega
      have hf256 := f.toNat_lt
      have CN : Calls Try.prog 27 #[.pointer (some ⟨g, 0, none⟩), .int .i64 1] wo fun e w' => e = .returned (.int .u64 (f.toNat : Int)) ∧ CutAt w' w.heap.size g r 0 ∧ wo.grownBy w' (some g) := by
        have := num_any g (f :: r) 0 1 wo HC.out
        have g1 : headS (f :: r) 0 1 true = [f] := by simp [headS]; omega
        have g2 : restS (f :: r) 0 1 true = r := by simp [restS]; omega
        have g3 : errS (f :: r) 0 1 true = 0 := by simp [errS]; omega
        rw [show sizeB 1 = true by decide, g1, g2, g3] at this
        refine this.mono ?_
        rintro e w' ⟨rfl, k1, k2⟩
        exact ⟨by rw [be_one], k1, k2⟩
      have CL := left_any g _ _ _ HC.out
      simp only [List.length_cons] at h8
      go_wp2_with (go_at_call 26; refine CL.mono ?_; rintro e w' ⟨rfl, rfl⟩)
      refine CN.mono ?_
      rintro e w2 ⟨rfl, cut2, g2⟩
      clear CN CL
      have hne := HC.out.lt
      have hbx2 := keep_bx g2 (HW.out.cell 0) hbg
      have z2 := g2.size
      have hcl2 := Lib.hid (cut_left cut2)
      by_cases hf0 : f = 0
      · subst hf0
        have HS := Lib.hid (HST.out.skip g2 cut2 (by omega) (pr_zero nxL_shr))
        have hx : ((0 : UInt8).toNat : Int) = 0 := rfl
        rw [hx]
        clear g2 cut2 hbx2 hx
        go_wp2
        go_roundw
        case rel => exact ⟨ps, r, HS.out⟩
        case measure => rw [hcl2.out, hleft.out]; simp
      · have hfn : ¬ (f.toNat : Int) = 0 := fun e => hf0 (UInt8.toNat_inj.1 (by rw [show (0 : UInt8).toNat = 0 from rfl]; omega))
        have CR := readL_any f r g bx w2 hbx2 (by omega) hbg cut2 (by omega)
        have HG2 := Lib.hid g2
        have hshr := Lib.hid (nxL_shr f r)
        clear g2 cut2 hbx2
        go_wp2_with fail
        refine CR.mono ?_
        rintro e w3 hr
        clear CR
        cases hn : nxL f r with
        | stop =>
          rw [hn] at hr
          obtain ⟨u, A2, n2, c2, rfl, g3⟩ := hr
          have HF := Lib.hid (fun o => HST.out.done rfl (pr_stop hf0 hn) (grown_from (grown_from HG2.out g3) (grown_alloc w3 o _)))
          clear g3 hn
          go_wp2
          go_ret2
          exact HF.out _
        | bad er =>
          rw [hn] at hr
          obtain ⟨u, A2, n2, c2, rfl, her, g3⟩ := hr
          have HF := Lib.hid (fun o => show Parsed R w (.returned (.tuple #[.slice none 0 0, .int .i64 er])) (w3.alloc o) from by
            rw [← H6.out, pr_bad hf0 hn]
            have h5 := HST.out.2.2.2.2.1
            exact Parsed.none w er (h5.grown (grown_from (grown_from HG2.out g3) (grown_alloc w3 o _)) h5.size (fun q hq => by injection hq with hq; have := HST.out.2.2.2.2.2.2.2.2.2.2.2.2; omega)))
          have her' : ¬ er = 0 := her
          clear g3 hn her
          go_wp2
          go_ret2
          exact HF.out _
        | item i r' =>
          rw [hn] at hr
          obtain ⟨A2, c2, rfl, own3, cut3, g3⟩ := hr
          by_cases h14 : ps.length = 14
          · have HF := Lib.hid (fun o => show Parsed R w (.returned (.tuple #[.slice none 0 0, .int .i64 13])) (w3.alloc o) from by
              rw [← H6.out, pr_full hf0 hn (by simpa using h14)]
              have h5 := HST.out.2.2.2.2.1
              exact Parsed.none w 13 (h5.grown (grown_from (grown_from HG2.out g3) (grown_alloc w3 o _)) h5.size (fun q hq => by injection hq with hq; have := HST.out.2.2.2.2.2.2.2.2.2.2.2.2; omega)))
            have h14' : (ps.length : Int) = 14 := by omega
            clear g3 hn own3 cut3
            go_wp2
            go_ret2
            exact HF.out _
          · have h14' : ¬ (ps.length : Int) = 14 := by omega
            have hs := hshr.out i r' hn
            have own3' := own_base own3 z2
            have gall := grown_from HG2.out g3
            have hR := pr_item nxL_shr hf0 hn (acc := ps.map Ip.it) (by simpa using h14)
            have HST3 := Lib.hid (fun v' w4 o o' k4 kg => HST.out.step (v' := v') (w4 := w4) (o := o) (o' := o') gall own3' cut3 h14 (by omega) (by omega) hR k4 kg)
            have HST3' := Lib.hid (fun w4 (k : CutAt w4 w.heap.size g r' 0) => cut_left k)
            have ownl := Lib.hid (HST.out.1.kept gall (own_not HST.out.1 h10))
            have hsz := gall.size
            clear own3 own3' cut3 gall hR hn g3
            go_wp2_with (at_builtin; go_loud (refine wpl_append _ rfl (.tmp 46) (.tmp 48) 22 rfl (bx + 1) 46 (.agg #[.int .u8 0, .slice none 0 0]) 2 32 Try.underlying22 info_item rfl (by decide) _ _ _ rfl ((ownl.out.alloc _).alloc _) _ _ 1 1 [.int .u8 (i.id.toNat : Int), .slice A2 i.d.length c2] rfl (Row.fresh2 _ _ _ _ 2 1 _ rfl rfl) (by simp [Value.oneCell']) ?c1 ?c2 ?c3 ?_))
            case c1 => unfold maxLen; omega
            case c2 => omega
            case c3 => simp; omega
            intro v4 w4 own4 g4 _
            have HS := Lib.hid (HST3.out v4 w4 _ _ own4 g4)
            clear own4 g4
            have hcl := HST3'.out w4 HS.out.2.2.1
            have HCL := Lib.hid hcl
            clear hcl
            go_wp2
            go_roundw
            case rel => exact ⟨_, _, HS.out⟩
            case measure => rw [HCL.out, hleft.out]; have := hs.1; simp; omega

theorem parse_any (p : Int) (A : Option Addr) (c : Nat) (b : List UInt8) (w : World) (h : Row w w.heap.size 1 A b.length (u8s b)) (hl : b.length ≤ 65536) :
    Calls Try.prog 14 #[.int .u16 p, .slice A b.length c] w (Parsed (parseL p b) w) := by
  unfold parseL
  by_cases h0 : p = 48862
  · rw [if_pos h0, h0]
    exact parse_S A c b w h hl
  by_cases h1 : 4096 ≤ p ∧ p ≤ 4111
  · rw [if_neg h0, if_pos h1]
    exact parse_L p h1.1 h1.2 A c b w h hl
  rw [if_neg h0, if_neg h1]
  have C := fun g wx => readerOf_none p h0 (by omega) g wx
  have HC := Lib.hid C
  clear C h0 h1
  go_enter Try.func14, Try.ntmps14
  go_wp2_with fail
  refine (new_any A b.length c b w h (by omega)).mono ?_
  rintro e w1 ⟨g, rfl, hg0, cut1, b1⟩
  clear h cut1
  go_wp2_with fail
  refine (HC.out g w1).mono ?_
  rintro e w2 ⟨rfl, rfl⟩
  have HF := Lib.hid (Parsed.none w 0 (b1.alloc b1.size (.cells #[.pointer (some ⟨g, 0, none⟩)] 52)))
  clear b1
  have hnil : ∀ w, (binOp .eql 55 .nilFunc .nilFunc).run Try.prog w = .ok (.bool true) w := fun w => by rfl
  go_wp2
  go_ret2
  exact HF.out
end Go.Proofs.Ytdfbbmaaonkjiaa
