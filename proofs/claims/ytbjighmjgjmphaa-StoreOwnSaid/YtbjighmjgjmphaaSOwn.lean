/-
  Proved: StoreOwn returns true for every room and any bytes: what was added, and what is told, can be written over: what is kept stays; only rooms that may be are. Conditions: none.
-/
import Derived.Test.YtbjighmjgjmphaaStoE
namespace Go.Proofs.Ytbjighmjgjmphaa.SOwn
open Go.ChangeShapes Go.WideShapes Go.ChangeAt Go.RowKit

theorem own_setAt {w : World} {base : Nat} {t : TypeId} {A : Option Addr} {c n : Nat} {xs : List Value} (h : w.ownsRow base t 1 (.slice A n c) n xs) (i : Nat) (hi : i < n) :
    ∃ g, A = some ⟨g, 0, none⟩ ∧ base ≤ g ∧ g < w.heap.size ∧ w.cell? ⟨g, i, none⟩ = xs[i]? ∧ w.frozen? ⟨g, i, none⟩ = false ∧ ∀ u, (w.setCell ⟨g, i, none⟩ u).ownsRow base t 1 (.slice A n c) n (xs.set i u) := by
  obtain ⟨h1, h2⟩ := h
  rcases h2 with ⟨hv, h0⟩ | ⟨g, cap, cur, hv, hb, hg, hle, hm, hs, ht⟩
  · omega
  · injection hv with hA _ hc
    subst hA
    have hw : Whole w g t cur := hg
    refine ⟨g, rfl, hb, hw.lt, ?_, hw.free i, fun u => ⟨by simpa using h1, .inr ⟨g, cap, cur.setIfInBounds i u, by rw [hc], hb, hw.set i u, hle, hm, by simpa using hs, ?_⟩⟩⟩
    · rw [hw.cell, ← ht, List.getElem?_take, if_pos (by omega), Array.getElem?_toList]
    · rw [Array.toList_setIfInBounds, List.take_set, ht]
theorem own_but {S : Nat → Prop} {w w' : World} {base : Nat} {e : TypeId} {z n : Nat} {v : Value} {xs : List Value} (h : w.ownsRow base e z v n xs) (k : But S w w') (hS : ∀ i, base ≤ i → ¬ S i) : w'.ownsRow base e z v n xs :=
  ⟨h.1, h.2.imp id fun ⟨q, cap, cur, h1, h2, h3, h4⟩ => ⟨q, cap, cur, h1, h2, (k.block q (Array.getElem?_eq_some_iff.1 h3).1 (hS q h2)).trans h3, h4⟩⟩

/-- From i on the cells are the bytes b. -/
def Rest (b : List UInt8) (i : Nat) (xs : List Value) : Prop := xs.length = b.length ∧ ∀ j, i ≤ j → xs[j]? = (u8s b)[j]?
theorem Rest.set {b : List UInt8} {i : Nat} {xs : List Value} (h : Rest b i xs) (u : Value) : Rest b (i + 1) (xs.set i u) :=
  ⟨by simpa using h.1, fun j hj => by rw [List.getElem?_set_ne (by omega)]; exact h.2 j (by omega)⟩
theorem Rest.at {b : List UInt8} {i : Nat} {xs : List Value} (h : Rest b i xs) (hi : i < b.length) : ∃ x : UInt8, xs[i]? = some (.int .u8 (x.toNat : Int)) :=
  ⟨b[i], (h.2 i (Nat.le_refl _)).trans (u8s_get b i hi)⟩

set_option maxRecDepth 100000 in
set_option maxHeartbeats 1600000 in
theorem walk (w : World) (r0 : Int) (hr0 : (Lit.int .i64 r0).wf = true) (A : Option Addr) (c : Nat) (b : List UInt8) (hl : b.length ≤ maxLen) (rb : Row w w.heap.size 1 A b.length (u8s b)) :
    Calls Try.prog 5 #[.int .i64 r0, .slice A b.length c] w fun e w' => e = .returned (.bool true) ∧ Below w.heap.size w w' := by
  have hr' := wf_i64 hr0
  unfold maxLen at hl
  clear hr0
  by_cases h100 : 100 < b.length
  · have h1 : (100 : Int) < (b.length : Int) := by omega
    clear rb hr' h100
    go_enter Try.func5, Try.ntmps5
    go_wp2_with (go_at_call 8; refine (awake_any w).mono ?_; rintro e w1 ⟨rfl, b1⟩)
    go_ret
    exact ⟨rfl, b1⟩
  have h1 : ¬ (100 : Int) < (b.length : Int) := by omega
  have HRB := Lib.hid rb
  clear rb
  by_cases hmay : 1 ≤ r0 ∧ r0 ≤ 4096
  · obtain ⟨hm1, hm2⟩ := hmay
    obtain ⟨R, rfl⟩ : ∃ R : Nat, r0 = (R : Int) := ⟨r0.toNat, by omega⟩
    have hR1 : 1 ≤ R := by omega
    have hR2 : R ≤ 4096 := by omega
    go_enter Try.func5, Try.ntmps5
    go_wp2_with fail
    refine (awake_any w).mono ?_
    rintro e w1 ⟨rfl, b1⟩
    have HB := Lib.hid b1
    clear b1
    go_wp2_with fail
    refine (snew_any R _ hR1 hR2).mono ?_
    rintro e w3 ⟨g, m, r, rfl, s3, hg, hm, hr, b3⟩
    have B3 := bnext HB.out b3
    have hg' : w.heap.size ≤ g := Nat.le_trans HB.out.size hg
    have hmm' : w.heap.size ≤ m := Nat.le_trans HB.out.size hm
    have hr'' : w.heap.size ≤ r := Nat.le_trans HB.out.size hr
    have hlt := s3.lt
    have hS : ∀ k, k < w.heap.size → ¬ (k = g ∨ k = m ∨ k = r) := by intro k hk; omega
    have HS := Lib.hid hS
    have rb3 := HRB.out.below B3 (Nat.le_refl _)
    have hS3 : ∀ i, w3.heap.size ≤ i → ¬ (i = g ∨ i = m ∨ i = r) := by intro i hi; omega
    have HS3 := Lib.hid hS3
    have HB3 := Lib.hid B3
    have HS0 := Lib.hid s3
    have Z3 := Lib.hid B3.size
    clear hg hm hr s3 b3 HB hr' hS B3 hS3
    go_wp2_with (at_builtin; refine wpl_append _ rfl (.tmp 33) (.tmp 34) 30 rfl w3.heap.size 5 (.int .u8 0) 1 1 Try.underlying30 info_b rfl (by decide) _ 0 [] rfl (World.ownsRow_nil _ _ _ _) _ _ b.length c _ rfl rb3 (u8s_one b) ?c1 ?c2 ?c3 ?_)
    case c1 => unfold maxLen; omega
    case c2 => omega
    case c3 => omega
    intro v4 w4 hown4 hg4 _
    have b4 : Below w3.heap.size w3 w4 := (Below.refl _ w3).grown hg4 (Nat.le_refl _) (fun q hq => by simp [Value.ownBlock] at hq)
    obtain ⟨A4, c4, rfl⟩ := own_form hown4
    have s4 := HS0.out.next b4
    have hlo := own_lo hown4
    have HLT := Lib.hid (fun a (ha : A4 = some a) => show a.block < w4.heap.size from by subst ha; exact (hown4.lt a.block rfl).2)
    have z4 := b4.size
    have C1 := add_any (fun _ => False) (fun q => w4.heap.size ≤ q) g m r R [] 9 (by decide) w4.heap.size A4 c4 b (by omega) w4 (by simpa using Row.of_own hown4) (Nat.le_refl _) (fun _ a ha => by have := hlo a ha; omega) s4 (fun _ h => h.elim) (fun _ h => h) (by omega) (by omega) (by omega)
    have e1 : addL R [] ⟨9, b⟩ = [⟨9, b⟩] := by unfold addL; rw [if_pos (by simp; omega)]; rfl
    rw [e1] at C1
    have HC1 := Lib.hid C1
    have H4 := Lib.hid (And.intro hown4 (HB3.out.trans (b4.mono Z3.out)))
    have Z4 := Lib.hid z4
    clear hg4 rb3 s4 hlo hown4 C1 b4 HS0 e1 z4
    go_wp2_with fail
    refine HC1.out.mono ?_
    rintro e w5 ⟨rfl, s5, b5⟩
    have hown5 := own_but H4.out.1 b5 HS3.out
    have B5 := H4.out.2.trans (b5.below (B := w.heap.size) H4.out.2.size HS.out)
    have hat : ∃ xs, Rest b 0 xs ∧ w5.ownsRow w3.heap.size 5 1 (.slice A4 b.length c4) b.length xs ∧ SAt (fun q => w4.heap.size ≤ q) w5 g m r R [⟨9, b⟩] ∧ Below w.heap.size w w5 := ⟨u8s b, ⟨u8s_length b, fun _ _ => rfl⟩, by simpa using hown5, s5, B5⟩
    clear HC1 s5 b5 B5 hown5 H4
    go_wp2_with fail
    go_loopw [9] (fun i wx => ∃ k : Nat, k ≤ b.length ∧ i = .int .i64 k ∧ ∃ xs, Rest b k xs ∧ wx.ownsRow w3.heap.size 5 1 (.slice A4 b.length c4) b.length xs ∧ SAt (fun q => w4.heap.size ≤ q) wx g m r R [⟨9, b⟩] ∧ Below w.heap.size w wx) (fun i _ => b.length - (intOf i).toNat)
    case atStart => exact ⟨0, Nat.zero_le _, rfl, hat⟩
    case round =>
      clear hat
      obtain ⟨k, hk, rfl, xs, hrest, hown, hs, hb⟩ := hrel
      obtain ⟨wo, rfl⟩ : ∃ wo : World, wo = wr := ⟨_, rfl⟩
      by_cases hkl : k < b.length
      · obtain ⟨gc, hA, hgc, hgl, hcx, hfz, hset⟩ := own_setAt hown k hkl
        obtain ⟨x, hx⟩ := hrest.at hkl
        rw [hx] at hcx
        have hxb := u8_lt x
        have hgc4 := HLT.out _ hA
        dsimp only at hgc4
        have z3 := Z3.out
        subst hA
        have HF := Lib.hid (fun u => show ∃ xs, Rest b (k + 1) xs ∧ (wo.setCell ⟨gc, k, none⟩ u).ownsRow w3.heap.size 5 1 (.slice (some ⟨gc, 0, none⟩) b.length c4) b.length xs ∧ SAt (fun q => w4.heap.size ≤ q) (wo.setCell ⟨gc, k, none⟩ u) g m r R [⟨9, b⟩] ∧ Below w.heap.size w (wo.setCell ⟨gc, k, none⟩ u) from
          ⟨_, hrest.set u, hset u, hs.set (p := ⟨gc, k, none⟩) (by dsimp only; omega) (by dsimp only; omega) (by dsimp only; omega) (by dsimp only; omega) u, hb.setCell (by dsimp only; omega) u⟩)
        have hi1 : (0 : Int) ≤ (k : Int) := by omega
        have hi2 : (k : Int) < (b.length : Int) := by omega
        clear hrest hown hs hb hset hx z3
        go_wp2
        go_roundw
        case rel => exact ⟨k + 1, hkl, by go_num, HF.out _⟩
        case measure => simp [intOf]; omega
      · obtain rfl : k = b.length := by omega
        have hi2 : ¬ (b.length : Int) < (b.length : Int) := by omega
        have C1 := get_any _ g m r R _ 9 (by decide) wo hs
        rw [show getL [⟨9, b⟩] 9 = some b from rfl] at C1
        have HC1 := Lib.hid C1
        have zo := hb.size
        have h4s : w4.heap.size ≤ wo.heap.size ∨ True := .inr trivial
        have HW := Lib.hid (And.intro hs hb)
        have ht1 : (convert 30 9 (.slice (some ⟨wo.heap.size, 0, none⟩) b.length b.length)).run Try.prog (wo.alloc (.cells (u8s b).toArray 5)) = .ok (.string (str b)) (wo.alloc (.cells (u8s b).toArray 5)) :=
          run_text (P := Try.prog) _ 30 5 9 Try.underlying30 Try.underlying5 Try.underlying9 _ _ _ _ b (Row.fresh wo _ _ 1 b.length (u8s b) (by simp [u8s_length]) (by simp))
        have ht2 : (convert 30 9 (.slice A b.length c)).run Try.prog (wo.alloc (.cells (u8s b).toArray 5)) = .ok (.string (str b)) (wo.alloc (.cells (u8s b).toArray 5)) :=
          run_text (P := Try.prog) _ 30 5 9 Try.underlying30 Try.underlying5 Try.underlying9 _ _ _ _ b ((HRB.out.below hb (Nat.le_refl _)).alloc zo _)
        have s6 := (hs.weak (D' := fun i => w4.heap.size ≤ i ∧ i ≠ wo.heap.size) (fun i hi h => ⟨h, by omega⟩) (by have := hs.lt; have := Z4.out; omega) (by have := hs.lt; have := Z4.out; omega) (by have := hs.lt; have := Z4.out; omega)).alloc (.cells (u8s b).toArray 5)
        have B6 := hb.alloc zo (.cells (u8s b).toArray 5)
        have W6 := Whole.new wo 5 (u8s b).toArray
        have hlq := hs.lt
        clear C1 hs hb hown hrest h4s
        go_wp2_with fail
        refine HC1.out.mono ?_
        rintro e w6 ⟨rfl, h6⟩
        subst h6
        clear HC1
        go_wp2_with fail
        obtain ⟨q, hq⟩ : ∃ q, wo.heap.size = q := ⟨_, rfl⟩
        rw [hq] at W6 s6 zo hlq ⊢
        generalize wo.alloc (.cells (u8s b).toArray 5) = w6 at W6 s6 B6 ⊢
        have hat : ∃ xs, Rest b 0 xs ∧ Whole w6 q 5 xs.toArray ∧ SAt (fun i => w4.heap.size ≤ i ∧ i ≠ q) w6 g m r R [⟨9, b⟩] ∧ Below w.heap.size w w6 := ⟨u8s b, ⟨u8s_length b, fun _ _ => rfl⟩, W6, s6, B6⟩
        clear hq W6 s6 B6 ht1 ht2 HW
        go_loopw [12] (fun i wx => ∃ k : Nat, k ≤ b.length ∧ i = .int .i64 k ∧ ∃ xs, Rest b k xs ∧ Whole wx q 5 xs.toArray ∧ SAt (fun i => w4.heap.size ≤ i ∧ i ≠ q) wx g m r R [⟨9, b⟩] ∧ Below w.heap.size w wx) (fun i _ => b.length - (intOf i).toNat)
        case atStart => exact ⟨0, Nat.zero_le _, rfl, hat⟩
        case round =>
          clear hat
          obtain ⟨k, hk, rfl, xs, hrest, hown, hs, hb⟩ := hrel
          obtain ⟨wz, rfl⟩ : ∃ wz : World, wz = wr := ⟨_, rfl⟩
          by_cases hkl : k < b.length
          · obtain ⟨x, hx⟩ := hrest.at hkl
            have hcx : wz.cell? ⟨q, k, none⟩ = some (.int .u8 (x.toNat : Int)) := by rw [hown.cell]; simpa using hx
            have hfz := hown.free k
            have hxb := u8_lt x
            have HF := Lib.hid (fun u => show ∃ xs, Rest b (k + 1) xs ∧ Whole (wz.setCell ⟨q, k, none⟩ u) q 5 xs.toArray ∧ SAt (fun i => w4.heap.size ≤ i ∧ i ≠ q) (wz.setCell ⟨q, k, none⟩ u) g m r R [⟨9, b⟩] ∧ Below w.heap.size w (wz.setCell ⟨q, k, none⟩ u) from
              ⟨_, hrest.set u, by simpa using hown.set k u, hs.set (p := ⟨q, k, none⟩) (by dsimp only; omega) (by dsimp only; omega) (by dsimp only; omega) (by simp) u, hb.setCell (by dsimp only; omega) u⟩)
            have hi1 : (0 : Int) ≤ (k : Int) := by omega
            have hi2 : (k : Int) < (b.length : Int) := by omega
            clear hrest hown hs hb hx
            go_wp2
            go_roundw
            case rel => exact ⟨k + 1, hkl, by go_num, HF.out _⟩
            case measure => simp [intOf]; omega
          · obtain rfl : k = b.length := by omega
            have hi2 : ¬ (b.length : Int) < (b.length : Int) := by omega
            have C1 := get_any _ g m r R _ 9 (by decide) wz hs
            rw [show getL [⟨9, b⟩] 9 = some b from rfl] at C1
            have HC1 := Lib.hid C1
            have zz := hb.size
            have HB := Lib.hid (hb.alloc zz (.cells (u8s b).toArray 5))
            have ht1 : (convert 30 9 (.slice (some ⟨wz.heap.size, 0, none⟩) b.length b.length)).run Try.prog (wz.alloc (.cells (u8s b).toArray 5)) = .ok (.string (str b)) (wz.alloc (.cells (u8s b).toArray 5)) :=
              run_text (P := Try.prog) _ 30 5 9 Try.underlying30 Try.underlying5 Try.underlying9 _ _ _ _ b (Row.fresh wz _ _ 1 b.length (u8s b) (by simp [u8s_length]) (by simp))
            have ht2 : (convert 30 9 (.slice A b.length c)).run Try.prog (wz.alloc (.cells (u8s b).toArray 5)) = .ok (.string (str b)) (wz.alloc (.cells (u8s b).toArray 5)) :=
              run_text (P := Try.prog) _ 30 5 9 Try.underlying30 Try.underlying5 Try.underlying9 _ _ _ _ b ((HRB.out.below hb (Nat.le_refl _)).alloc zz _)
            clear C1 hs hb hown hrest
            go_wp2_with fail
            refine HC1.out.mono ?_
            rintro e w7 ⟨rfl, h7⟩
            subst h7
            clear HC1
            go_wp2
            go_ret
            exact ⟨rfl, HB.out⟩
  · have hrow0 : ∀ w', (convert 30 9 (.slice none 0 0)).run Try.prog w' = .ok (.string ⟨#[]⟩) w' := fun w' => run_text (P := Try.prog) w' 30 5 9 Try.underlying30 Try.underlying5 Try.underlying9 0 none 0 0 [] Row.nil
    have hbad : r0 < 1 ∨ 4096 < r0 := by omega
    have HC0 := Lib.hid (fun w' => snew_bad r0 w' hbad)
    have hor : r0 < 1 ∨ (1 ≤ r0 ∧ ¬ r0 ≤ 4096) := by omega
    rcases hor with ho | ⟨ho1, ho2⟩
    · clear hmay hbad
      go_enter Try.func5, Try.ntmps5
      go_wp2_with fail
      refine (awake_any w).mono ?_
      rintro e w1 ⟨rfl, b1⟩
      have HB := Lib.hid b1
      clear b1
      go_wp2_with fail
      refine (HC0.out _).mono ?_
      rintro e w3 ⟨rfl, rfl⟩
      have rb3 := HRB.out.below HB.out (Nat.le_refl _)
      have z1 := HB.out.size
      go_wp2_with (at_builtin; refine wpl_append _ rfl (.tmp 33) (.tmp 34) 30 rfl w1.heap.size 5 (.int .u8 0) 1 1 Try.underlying30 info_b rfl (by decide) _ 0 [] rfl (World.ownsRow_nil _ _ _ _) _ _ b.length c _ rfl rb3 (u8s_one b) ?d1 ?d2 ?d3 ?_)
      case d1 => unfold maxLen; omega
      case d2 => omega
      intro v4 w4 hown4 hg4 _
      have b4 : Below w.heap.size w w4 := HB.out.grown hg4 HB.out.size (fun q hq => by simp [Value.ownBlock] at hq)
      obtain ⟨A4, c4, rfl⟩ := own_form hown4
      have hat : ∃ xs, Rest b 0 xs ∧ w4.ownsRow w.heap.size 5 1 (.slice A4 b.length c4) b.length xs ∧ Below w.heap.size w w4 := ⟨u8s b, ⟨u8s_length b, fun _ _ => rfl⟩, by simpa using own_base hown4 z1, b4⟩
      have HN := Lib.hid (add_nil 9 A4 b.length c4 w4)
      clear hown4 hg4 rb3 HB b4 z1 HC0
      go_wp2_with fail
      refine HN.out.mono ?_
      rintro e w5 ⟨rfl, rfl⟩
      clear HN
      go_wp2_with fail
      go_loopw [9] (fun i wx => ∃ k : Nat, k ≤ b.length ∧ i = .int .i64 k ∧ ∃ xs, Rest b k xs ∧ wx.ownsRow w.heap.size 5 1 (.slice A4 b.length c4) b.length xs ∧ Below w.heap.size w wx) (fun i _ => b.length - (intOf i).toNat)
      case atStart => exact ⟨0, Nat.zero_le _, rfl, hat⟩
      case round =>
        clear hat
        obtain ⟨k, hk, rfl, xs, hrest, hown, hb⟩ := hrel
        obtain ⟨wo, rfl⟩ : ∃ wo : World, wo = wr := ⟨_, rfl⟩
        by_cases hkl : k < b.length
        · obtain ⟨gc, hA, hgc, hgl, hcx, hfz, hset⟩ := own_setAt hown k hkl
          obtain ⟨x, hx⟩ := hrest.at hkl
          rw [hx] at hcx
          have hxb := u8_lt x
          subst hA
          have HF := Lib.hid (fun u => show ∃ xs, Rest b (k + 1) xs ∧ (wo.setCell ⟨gc, k, none⟩ u).ownsRow w.heap.size 5 1 (.slice (some ⟨gc, 0, none⟩) b.length c4) b.length xs ∧ Below w.heap.size w (wo.setCell ⟨gc, k, none⟩ u) from
            ⟨_, hrest.set u, hset u, hb.setCell (by dsimp only; omega) u⟩)
          have hi1 : (0 : Int) ≤ (k : Int) := by omega
          have hi2 : (k : Int) < (b.length : Int) := by omega
          clear hrest hown hb hset hx hrow0
          go_wp2
          go_roundw
          case rel => exact ⟨k + 1, hkl, by go_num, HF.out _⟩
          case measure => simp [intOf]; omega
        · obtain rfl : k = b.length := by omega
          have hi2 : ¬ (b.length : Int) < (b.length : Int) := by omega
          have HB := Lib.hid hb
          have HN := Lib.hid (get_nil 9 wo)
          have ht := hrow0 wo
          clear hrest hown hb hrow0
          go_wp2_with fail
          refine HN.out.mono ?_
          rintro e w6 ⟨rfl, h6⟩
          subst h6
          go_wp2_with fail
          refine wp_loop_rounds 1 ?_
          rw [rounds_succ]
          go_wp2_with fail
          refine (get_nil 9 wo).mono ?_
          rintro e w6 ⟨rfl, h6⟩
          subst h6
          go_wp2_with (go_at_call 15; refine (slen_nil wo).mono ?_; rintro e w6 ⟨rfl, rfl⟩)
          go_ret
          exact ⟨rfl, HB.out⟩
    · clear hmay hbad
      have hdd : decide (r0 ≤ 4096) = false := by simpa using ho2
      go_enter Try.func5, Try.ntmps5
      go_wp2_with fail
      refine (awake_any w).mono ?_
      rintro e w1 ⟨rfl, b1⟩
      have HB := Lib.hid b1
      clear b1
      go_wp2_with fail
      refine (HC0.out _).mono ?_
      rintro e w3 ⟨rfl, rfl⟩
      have rb3 := HRB.out.below HB.out (Nat.le_refl _)
      have z1 := HB.out.size
      go_wp2_with (at_builtin; refine wpl_append _ rfl (.tmp 33) (.tmp 34) 30 rfl w1.heap.size 5 (.int .u8 0) 1 1 Try.underlying30 info_b rfl (by decide) _ 0 [] rfl (World.ownsRow_nil _ _ _ _) _ _ b.length c _ rfl rb3 (u8s_one b) ?k1 ?k2 ?k3 ?_)
      case k1 => unfold maxLen; omega
      case k2 => omega
      case k3 => omega
      intro v4 w4 hown4 hg4 _
      have b4 : Below w.heap.size w w4 := HB.out.grown hg4 HB.out.size (fun q hq => by simp [Value.ownBlock] at hq)
      obtain ⟨A4, c4, rfl⟩ := own_form hown4
      have hat : ∃ xs, Rest b 0 xs ∧ w4.ownsRow w.heap.size 5 1 (.slice A4 b.length c4) b.length xs ∧ Below w.heap.size w w4 := ⟨u8s b, ⟨u8s_length b, fun _ _ => rfl⟩, by simpa using own_base hown4 z1, b4⟩
      have HN := Lib.hid (add_nil 9 A4 b.length c4 w4)
      clear hown4 hg4 rb3 HB b4 z1 HC0
      go_wp2_with fail
      refine HN.out.mono ?_
      rintro e w5 ⟨rfl, rfl⟩
      clear HN
      go_wp2_with fail
      go_loopw [9] (fun i wx => ∃ k : Nat, k ≤ b.length ∧ i = .int .i64 k ∧ ∃ xs, Rest b k xs ∧ wx.ownsRow w.heap.size 5 1 (.slice A4 b.length c4) b.length xs ∧ Below w.heap.size w wx) (fun i _ => b.length - (intOf i).toNat)
      case atStart => exact ⟨0, Nat.zero_le _, rfl, hat⟩
      case round =>
        clear hat
        obtain ⟨k, hk, rfl, xs, hrest, hown, hb⟩ := hrel
        obtain ⟨wo, rfl⟩ : ∃ wo : World, wo = wr := ⟨_, rfl⟩
        by_cases hkl : k < b.length
        · obtain ⟨gc, hA, hgc, hgl, hcx, hfz, hset⟩ := own_setAt hown k hkl
          obtain ⟨x, hx⟩ := hrest.at hkl
          rw [hx] at hcx
          have hxb := u8_lt x
          subst hA
          have HF := Lib.hid (fun u => show ∃ xs, Rest b (k + 1) xs ∧ (wo.setCell ⟨gc, k, none⟩ u).ownsRow w.heap.size 5 1 (.slice (some ⟨gc, 0, none⟩) b.length c4) b.length xs ∧ Below w.heap.size w (wo.setCell ⟨gc, k, none⟩ u) from
            ⟨_, hrest.set u, hset u, hb.setCell (by dsimp only; omega) u⟩)
          have hi1 : (0 : Int) ≤ (k : Int) := by omega
          have hi2 : (k : Int) < (b.length : Int) := by omega
          clear hrest hown hb hset hx hrow0
          go_wp2
          go_roundw
          case rel => exact ⟨k + 1, hkl, by go_num, HF.out _⟩
          case measure => simp [intOf]; omega
        · obtain rfl : k = b.length := by omega
          have hi2 : ¬ (b.length : Int) < (b.length : Int) := by omega
          have HB := Lib.hid hb
          have HN := Lib.hid (get_nil 9 wo)
          have ht := hrow0 wo
          clear hrest hown hb hrow0
          go_wp2_with fail
          refine HN.out.mono ?_
          rintro e w6 ⟨rfl, h6⟩
          subst h6
          go_wp2_with fail
          refine wp_loop_rounds 1 ?_
          rw [rounds_succ]
          go_wp2_with fail
          refine (get_nil 9 wo).mono ?_
          rintro e w6 ⟨rfl, h6⟩
          subst h6
          go_wp2_with (go_at_call 15; refine (slen_nil wo).mono ?_; rintro e w6 ⟨rfl, rfl⟩)
          go_ret
          exact ⟨rfl, HB.out⟩
set_option maxRecDepth 100000 in
theorem lifted (os : Os) (started : os.Started) (H : Type) (enc : TypeId × Value → H) :
    ReturnsInHanded {} Try.checked os 5 .any (Rows.storeOwnSpec.pre6 enc Try.prog Try.f5 Rows.storeOwnRow.domain false) (Rows.storeOwnSpec.post enc Try.prog Try.f5 false true false false) := by
  refine returnsInHanded_of_change (C := Try.checked) own started (by kernel_rfl) Try.func5
    (ChangeSpec.witness6 (enc := enc) (C := Try.checked) false ⟨#[], #[.int .i64 0, .slice none 0 0], []⟩ 8 (by kernel_rfl) (by kernel_rfl) (by kernel_rfl) (by kernel_rfl)) ?_
  intro W base args ds gs before hval0 hW _ _
  have hval : ∀ (j : Nat) t v, Try.f5.params[j]? = some t → args[j]? = some v → Value.okWide Try.prog W .any base t v := hval0
  have hW' := hW
  obtain ⟨p, q, hA0, hV, _, _, _⟩ := hW
  have hA : DataW.TrodAll enc Try.prog W 0 (fun _ => true) true Try.f5.params.toList args.toList ds p := hA0
  rw [Try.params5] at hA hval
  obtain ⟨v0, vs0, d0, ds0, p0, q0, hargs, rfl, _, h0, r0⟩ := trodAll_cons hA
  obtain ⟨v1, vs1, d1, ds1, p1, q1, rfl, rfl, _, h1, r1⟩ := trodAll_cons r0
  obtain ⟨rfl, rfl, _⟩ := trodAll_nil r1
  obtain rfl : args = #[v0, v1] := by cases args; simp_all
  obtain ⟨rfl, _⟩ := trodVars_none hV
  refine law_post (s := Rows.storeOwnSpec) rfl rfl (by rw [Try.params5]; intro t ht; simp at ht; rcases ht with rfl | rfl <;> exact ⟨by kernel_rfl, of_decide_eq_true (by kernel_rfl)⟩) rfl hW' ?_
  obtain ⟨a0, rfl, _, _, w0⟩ := open_int Try.underlying3 (hval 0 3 v0 rfl rfl) h0
  obtain ⟨A1, c1, l1, rfl, hl1, hr1, _, _⟩ := open_bytes (hval 1 30 v1 rfl rfl) h1
  exact walk W a0 w0 A1 c1 l1 hl1 hr1

theorem over : Rows.storeOwnRow.holds Try.pinned (OpenSpec.ofChange Rows.storeOwnSpec) :=
  OpenClaim.holds_of_wide 5 Try.f5 rfl rfl rfl rfl rfl rfl rfl ⟨rfl, rfl, rfl, rfl, rfl⟩ rfl rfl rfl rfl rfl (by kernel_rfl) Try.func5 (by kernel_rfl)
    (of_decide_eq_true (by kernel_rfl)) (by unfold Func.isWrapper; first | (rw [if_pos (by decide +kernel)]; kernel_rfl) | (rw [if_neg (by decide +kernel)]; exact ⟨rfl, rfl⟩))
    (fun os started H enc _ => lifted os started H enc)

/-- The statement. -/
theorem storeOwn_holds : Rows.StoreOwnSaid := over
end Go.Proofs.Ytbjighmjgjmphaa.SOwn
