/-
  Contracts of package ext's bytesOf, by either head, and of Put.
-/
import Derived.Test.YtdfbbmaaonkjiaaExtC
namespace Go.Proofs.Ytdfbbmaaonkjiaa
open Go.RowKit

/-- New bytes. -/
def NewBytes (bs : List UInt8) (w : World) (e : Ending) (w' : World) : Prop :=
  ∃ A c, e = .returned (.slice A bs.length c) ∧ Row w' w'.heap.size 1 A bs.length (u8s bs) ∧ Below w.heap.size w w'
def lenV : Value → Nat
  | .slice _ n _ => n
  | _ => 0
set_option maxRecDepth 100000 in
set_option maxHeartbeats 800000 in
theorem bytesOf_long (A : Option Addr) (c : Nat) (ps : List Ip) (w : World) (h : Its w A ps) (hl : ps.length ≤ 14) (hq : ∀ p ∈ ps, p.it.d.length ≤ 255) :
    Calls Try.prog 21 #[.slice A ps.length c, .func (.func 22) #[] #[]] w (NewBytes (pad (enc hdL (ps.map Ip.it))) w) := by
  have H := Lib.hid h
  have HQ := Lib.hid hq
  obtain ⟨l, hll⟩ : ∃ l, l = ps.map Ip.it := ⟨_, rfl⟩
  have HL := Lib.hid hll
  rw [← hll]
  obtain ⟨bs, hbs⟩ : ∃ bs, bs = enc hdL l := ⟨_, rfl⟩
  have HBS := Lib.hid hbs
  rw [← hbs]
  clear h hq hll hbs
  have hacc0 : Hid (∀ k, (enc hdL (l.take k)).length ≤ 3598) := by
    intro k
    have := enc_len hdL 2 255 hdL_len (l.take k) (fun i hi => by
      have := List.mem_of_mem_take hi
      rw [HL.out] at this
      obtain ⟨p, hp, rfl⟩ := List.mem_map.1 this
      have := HQ.out p hp
      omega)
    have h2 : (l.take k).length ≤ 14 := by rw [HL.out]; simp; omega
    have h3 : (l.take k).length * (2 + 255) ≤ 14 * (2 + 255) := Nat.mul_le_mul_right _ h2
    omega
  go_enter Try.func21, Try.ntmps21
  go_wp2
  go_loopw [5, 10] (fun v i wr => ∃ k : Nat, k ≤ ps.length ∧ i = .int .i64 k ∧ wr.ownsRow w.heap.size 5 1 v (enc hdL (l.take k)).length (u8s (enc hdL (l.take k))) ∧ Below w.heap.size w wr) (fun _ i _ => ps.length - (intOf i).toNat)
  case atStart => exact ⟨0, Nat.zero_le _, rfl, World.ownsRow_nil _ _ _ _, Below.refl _ _⟩
  case round =>
    obtain ⟨k, hk, rfl, hown, hb⟩ := hrel
    by_cases hlt : k < ps.length
    · obtain ⟨g, o, hA, hg, hc0, hc1⟩ := (H.out.next hb).at k hlt
      subst hA
      have hd := (H.out.2 ps[k] (List.getElem_mem _)).1
      have hlen := HQ.out ps[k] (List.getElem_mem _)
      have hkl : k < l.length := by rw [HL.out]; simpa using hlt
      have htk := enc_take hdL l k hkl
      have hlk : l[k] = ps[k].it := by simp [HL.out]
      rw [hlk] at htk
      have hacc := hacc0.out k
      generalize ps[k] = p at hc0 hc1 hd hlen htk
      generalize enc hdL (l.take k) = acc at hown htk hacc
      have HT := Lib.hid htk
      have hi1 : (0 : Int) ≤ (k : Int) := by omega
      have hi2 : (k : Int) < (ps.length : Int) := by omega
      have hhd := hdL_len p.it
      clear htk hlk hkl
      go_wp2_with fail
      refine (longHead_any p.it p.A p.c _ hlen).mono ?_
      rintro e w2 ⟨A2, c2, rfl, r2, b2⟩
      have b2' : Below wr.heap.size wr w2 := ((Below.refl _ wr).alloc (Nat.le_refl _) _).trans (b2.mono (by simp))
      have own2 := own_below hown b2' (Nat.le_refl _)
      have hw2 : Whole w2 wr.heap.size 46 #[.int .u8 (p.it.id.toNat : Int), .slice p.A p.it.d.length p.c] := (Whole.new wr _ _).below b2 (by simp)
      have B2 := bnext hb b2'
      have hlen' : p.it.d.length ≤ 255 := by omega
      rw [hhd] at r2
      clear hown hb b2 b2' hc0 hc1 hg hlen
      go_wp2_with (at_builtin; go_loud (refine wpl_append _ rfl (.tmp 14) (.tmp 17) 26 rfl w.heap.size 5 (.int .u8 0) 1 1 Try.underlying26 info_u8 rfl (by decide) _ _ _ rfl own2 _ _ _ _ _ rfl r2 (u8s_one _) ?c1 ?c2 ?c3 ?_))
      case c1 => unfold maxLen; omega
      case c2 => omega
      case c3 => exact B2.size
      intro v3 w3 own3 g3 _
      have hw3 := hw2.grown g3 (own_far own2 hw2 (by decide))
      have B3 := B2.grown g3 B2.size (fun q hq => (own2.lt q hq).1)
      have hd3 := hd.below B3 (Nat.le_refl _)
      have hc3 := hw3.cell 1
      clear own2 g3 hw2 hw3 B2 r2 hd
      go_wp2_with (at_builtin; go_loud (refine wpl_append _ rfl (.tmp 19) (.tmp 21) 26 rfl w.heap.size 5 (.int .u8 0) 1 1 Try.underlying26 info_u8 rfl (by decide) _ _ _ rfl own3 _ _ _ _ _ rfl hd3 (u8s_one _) ?d1 ?d2 ?d3 ?_))
      case d1 => unfold maxLen; omega
      case d2 => omega
      case d3 => exact B3.size
      intro v4 w4 own4 g4 _
      have B4 := B3.grown g4 B3.size (fun q hq => (own3.lt q hq).1)
      have R : w4.ownsRow w.heap.size 5 1 v4 (enc hdL (l.take (k + 1))).length (u8s (enc hdL (l.take (k + 1)))) := by
        have e : (acc ++ (hdL p.it ++ p.it.d)).length = acc.length + 2 + p.it.d.length := by simp [hhd]; omega
        rw [HT.out, e, u8s_append, u8s_append]
        exact own4
      clear own3 own4 g4 B3 hd3 hc3
      go_wp2
      go_roundw
      case rel => exact ⟨k + 1, by omega, by go_num, R, B4⟩
      case measure => simp [intOf]; omega
    · obtain rfl : k = ps.length := by omega
      have hl2 : ps.length = l.length := by rw [HL.out]; simp
      have hacc := hacc0.out ps.length
      rw [hl2, List.take_length, ← HBS.out] at hown hacc
      clear hacc0
      have HL2 := Lib.hid hl2
      clear hl2 H
      go_wp2_with fail
      go_loopw [5] (fun v wr => ∃ m : Nat, m ≤ padN bs.length ∧ wr.ownsRow w.heap.size 5 1 v (bs ++ List.replicate m (0 : UInt8)).length (u8s (bs ++ List.replicate m (0 : UInt8))) ∧ Below w.heap.size w wr) (fun v _ => bs.length + 4 - lenV v)
      case atStart => exact ⟨0, Nat.zero_le _, by simpa using hown, hb⟩
      case round =>
        clear hown hb
        obtain ⟨m, hm, hown, hb⟩ := hrel
        have hm3 : padN bs.length ≤ 3 := by unfold padN; omega
        have hN3 : (bs ++ List.replicate m (0 : UInt8)).length = bs.length + m := by simp
        by_cases hlt : m < padN bs.length
        · have h4 := pad_step bs m hlt
          have hrep : bs ++ List.replicate (m + 1) (0 : UInt8) = (bs ++ List.replicate m (0 : UInt8)) ++ [0] := by rw [List.replicate_succ', List.append_assoc]
          generalize bs ++ List.replicate m (0 : UInt8) = L at hown h4 hrep hN3
          have HR := Lib.hid hrep
          rw [hN3] at hown h4
          obtain ⟨A5, c5, rfl⟩ := own_form hown
          have h4' : ¬ ((bs.length : Int) + m) % 4 = 0 := by omega
          have HN := Lib.hid hN3
          clear hrep hN3 h4
          go_wp2_with (at_builtin; go_loud (refine wpl_append _ rfl (.tmp 28) (.tmp 29) 26 rfl w.heap.size 5 (.int .u8 0) 1 1 Try.underlying26 info_u8 rfl (by decide) _ _ _ rfl (hown.alloc _) _ _ 1 1 [.int .u8 0] rfl (Row.one _ _ _) ?e0 ?e1 ?e2 ?e3 ?_))
          case e0 => intro u hu; simp at hu; subst hu; rfl
          case e1 => unfold maxLen; omega
          case e2 => omega
          case e3 => have := hb.size; simp; omega
          intro v6 w6 own6 g6 _
          have B6 := (hb.alloc hb.size _).grown g6 (by have := hb.size; simp; omega) (fun q hq => (hown.lt q hq).1)
          have R : w6.ownsRow w.heap.size 5 1 v6 (bs ++ List.replicate (m + 1) (0 : UInt8)).length (u8s (bs ++ List.replicate (m + 1) (0 : UInt8))) := by
            have e : (L ++ [(0 : UInt8)]).length = bs.length + m + 1 := by simp [HN.out]
            rw [HR.out, u8s_append, e]
            exact own6
          obtain ⟨A7, c7, rfl⟩ := own_form own6
          clear own6 g6 hown hb
          go_wp2
          go_roundw
          case rel => exact ⟨m + 1, by omega, R, B6⟩
          case measure => simp [lenV]; omega
        · obtain ⟨h4, hp⟩ := pad_done bs m hm hlt
          rw [hp] at hown h4
          have HF := Lib.hid (show ∀ v, wr.ownsRow w.heap.size 5 1 v (pad bs).length (u8s (pad bs)) → NewBytes (pad bs) w (.returned v) wr from fun v hv => by
            obtain ⟨A5, c5, rfl⟩ := own_form hv
            exact ⟨A5, c5, rfl, Row.of_own hv, hb⟩)
          have HF2 := Lib.hid (HF.out _ hown)
          obtain ⟨A5, c5, rfl⟩ := own_form hown
          have h4' : ((pad bs).length : Int) % 4 = 0 := by omega
          have hpb : (pad bs).length ≤ 3601 := by rw [← hp, hN3]; omega
          clear hp hown hb HF h4 hN3
          go_wp2
          go_ret
          exact HF2.out

set_option maxRecDepth 100000 in
set_option maxHeartbeats 800000 in
theorem bytesOf_short (A : Option Addr) (c : Nat) (ps : List Ip) (w : World) (h : Its w A ps) (hl : ps.length ≤ 14) (hq : ∀ p ∈ ps, p.it.id.toNat ≤ 14 ∧ 1 ≤ p.it.d.length ∧ p.it.d.length ≤ 16) :
    Calls Try.prog 21 #[.slice A ps.length c, .func (.func 23) #[] #[]] w (NewBytes (pad (enc hdS (ps.map Ip.it))) w) := by
  have H := Lib.hid h
  have HQ := Lib.hid hq
  obtain ⟨l, hll⟩ : ∃ l, l = ps.map Ip.it := ⟨_, rfl⟩
  have HL := Lib.hid hll
  rw [← hll]
  obtain ⟨bs, hbs⟩ : ∃ bs, bs = enc hdS l := ⟨_, rfl⟩
  have HBS := Lib.hid hbs
  rw [← hbs]
  clear h hq hll hbs
  have hacc0 : Hid (∀ k, (enc hdS (l.take k)).length ≤ 3598) := by
    intro k
    have := enc_len hdS 1 255 hdS_len (l.take k) (fun i hi => by
      have := List.mem_of_mem_take hi
      rw [HL.out] at this
      obtain ⟨p, hp, rfl⟩ := List.mem_map.1 this
      have := HQ.out p hp
      omega)
    have h2 : (l.take k).length ≤ 14 := by rw [HL.out]; simp; omega
    have h3 : (l.take k).length * (1 + 255) ≤ 14 * (1 + 255) := Nat.mul_le_mul_right _ h2
    omega
  go_enter Try.func21, Try.ntmps21
  go_wp2
  go_loopw [5, 10] (fun v i wr => ∃ k : Nat, k ≤ ps.length ∧ i = .int .i64 k ∧ wr.ownsRow w.heap.size 5 1 v (enc hdS (l.take k)).length (u8s (enc hdS (l.take k))) ∧ Below w.heap.size w wr) (fun _ i _ => ps.length - (intOf i).toNat)
  case atStart => exact ⟨0, Nat.zero_le _, rfl, World.ownsRow_nil _ _ _ _, Below.refl _ _⟩
  case round =>
    obtain ⟨k, hk, rfl, hown, hb⟩ := hrel
    by_cases hlt : k < ps.length
    · obtain ⟨g, o, hA, hg, hc0, hc1⟩ := (H.out.next hb).at k hlt
      subst hA
      have hd := (H.out.2 ps[k] (List.getElem_mem _)).1
      have hlen := HQ.out ps[k] (List.getElem_mem _)
      have hkl : k < l.length := by rw [HL.out]; simpa using hlt
      have htk := enc_take hdS l k hkl
      have hlk : l[k] = ps[k].it := by simp [HL.out]
      rw [hlk] at htk
      have hacc := hacc0.out k
      generalize ps[k] = p at hc0 hc1 hd hlen htk
      generalize enc hdS (l.take k) = acc at hown htk hacc
      have HT := Lib.hid htk
      have hi1 : (0 : Int) ≤ (k : Int) := by omega
      have hi2 : (k : Int) < (ps.length : Int) := by omega
      have hhd := hdS_len p.it
      clear htk hlk hkl
      go_wp2_with fail
      refine (shortHead_any p.it p.A p.c _ hlen.2.2 hlen.2.1 hlen.1).mono ?_
      rintro e w2 ⟨A2, c2, rfl, r2, b2⟩
      have b2' : Below wr.heap.size wr w2 := ((Below.refl _ wr).alloc (Nat.le_refl _) _).trans (b2.mono (by simp))
      have own2 := own_below hown b2' (Nat.le_refl _)
      have hw2 : Whole w2 wr.heap.size 46 #[.int .u8 (p.it.id.toNat : Int), .slice p.A p.it.d.length p.c] := (Whole.new wr _ _).below b2 (by simp)
      have B2 := bnext hb b2'
      have hlen' : p.it.d.length ≤ 255 := by omega
      rw [hhd] at r2
      clear hown hb b2 b2' hc0 hc1 hg hlen
      go_wp2_with (at_builtin; go_loud (refine wpl_append _ rfl (.tmp 14) (.tmp 17) 26 rfl w.heap.size 5 (.int .u8 0) 1 1 Try.underlying26 info_u8 rfl (by decide) _ _ _ rfl own2 _ _ _ _ _ rfl r2 (u8s_one _) ?c1 ?c2 ?c3 ?_))
      case c1 => unfold maxLen; omega
      case c2 => omega
      case c3 => exact B2.size
      intro v3 w3 own3 g3 _
      have hw3 := hw2.grown g3 (own_far own2 hw2 (by decide))
      have B3 := B2.grown g3 B2.size (fun q hq => (own2.lt q hq).1)
      have hd3 := hd.below B3 (Nat.le_refl _)
      have hc3 := hw3.cell 1
      clear own2 g3 hw2 hw3 B2 r2 hd
      go_wp2_with (at_builtin; go_loud (refine wpl_append _ rfl (.tmp 19) (.tmp 21) 26 rfl w.heap.size 5 (.int .u8 0) 1 1 Try.underlying26 info_u8 rfl (by decide) _ _ _ rfl own3 _ _ _ _ _ rfl hd3 (u8s_one _) ?d1 ?d2 ?d3 ?_))
      case d1 => unfold maxLen; omega
      case d2 => omega
      case d3 => exact B3.size
      intro v4 w4 own4 g4 _
      have B4 := B3.grown g4 B3.size (fun q hq => (own3.lt q hq).1)
      have R : w4.ownsRow w.heap.size 5 1 v4 (enc hdS (l.take (k + 1))).length (u8s (enc hdS (l.take (k + 1)))) := by
        have e : (acc ++ (hdS p.it ++ p.it.d)).length = acc.length + 1 + p.it.d.length := by simp [hhd]; omega
        rw [HT.out, e, u8s_append, u8s_append]
        exact own4
      clear own3 own4 g4 B3 hd3 hc3
      go_wp2
      go_roundw
      case rel => exact ⟨k + 1, by omega, by go_num, R, B4⟩
      case measure => simp [intOf]; omega
    · obtain rfl : k = ps.length := by omega
      have hl2 : ps.length = l.length := by rw [HL.out]; simp
      have hacc := hacc0.out ps.length
      rw [hl2, List.take_length, ← HBS.out] at hown hacc
      clear hacc0
      have HL2 := Lib.hid hl2
      clear hl2 H
      go_wp2_with fail
      go_loopw [5] (fun v wr => ∃ m : Nat, m ≤ padN bs.length ∧ wr.ownsRow w.heap.size 5 1 v (bs ++ List.replicate m (0 : UInt8)).length (u8s (bs ++ List.replicate m (0 : UInt8))) ∧ Below w.heap.size w wr) (fun v _ => bs.length + 4 - lenV v)
      case atStart => exact ⟨0, Nat.zero_le _, by simpa using hown, hb⟩
      case round =>
        clear hown hb
        obtain ⟨m, hm, hown, hb⟩ := hrel
        have hm3 : padN bs.length ≤ 3 := by unfold padN; omega
        have hN3 : (bs ++ List.replicate m (0 : UInt8)).length = bs.length + m := by simp
        by_cases hlt : m < padN bs.length
        · have h4 := pad_step bs m hlt
          have hrep : bs ++ List.replicate (m + 1) (0 : UInt8) = (bs ++ List.replicate m (0 : UInt8)) ++ [0] := by rw [List.replicate_succ', List.append_assoc]
          generalize bs ++ List.replicate m (0 : UInt8) = L at hown h4 hrep hN3
          have HR := Lib.hid hrep
          rw [hN3] at hown h4
          obtain ⟨A5, c5, rfl⟩ := own_form hown
          have h4' : ¬ ((bs.length : Int) + m) % 4 = 0 := by omega
          have HN := Lib.hid hN3
          clear hrep hN3 h4
          go_wp2_with (at_builtin; go_loud (refine wpl_append _ rfl (.tmp 28) (.tmp 29) 26 rfl w.heap.size 5 (.int .u8 0) 1 1 Try.underlying26 info_u8 rfl (by decide) _ _ _ rfl (hown.alloc _) _ _ 1 1 [.int .u8 0] rfl (Row.one _ _ _) ?e0 ?e1 ?e2 ?e3 ?_))
          case e0 => intro u hu; simp at hu; subst hu; rfl
          case e1 => unfold maxLen; omega
          case e2 => omega
          case e3 => have := hb.size; simp; omega
          intro v6 w6 own6 g6 _
          have B6 := (hb.alloc hb.size _).grown g6 (by have := hb.size; simp; omega) (fun q hq => (hown.lt q hq).1)
          have R : w6.ownsRow w.heap.size 5 1 v6 (bs ++ List.replicate (m + 1) (0 : UInt8)).length (u8s (bs ++ List.replicate (m + 1) (0 : UInt8))) := by
            have e : (L ++ [(0 : UInt8)]).length = bs.length + m + 1 := by simp [HN.out]
            rw [HR.out, u8s_append, e]
            exact own6
          obtain ⟨A7, c7, rfl⟩ := own_form own6
          clear own6 g6 hown hb
          go_wp2
          go_roundw
          case rel => exact ⟨m + 1, by omega, R, B6⟩
          case measure => simp [lenV]; omega
        · obtain ⟨h4, hp⟩ := pad_done bs m hm hlt
          rw [hp] at hown h4
          have HF := Lib.hid (show ∀ v, wr.ownsRow w.heap.size 5 1 v (pad bs).length (u8s (pad bs)) → NewBytes (pad bs) w (.returned v) wr from fun v hv => by
            obtain ⟨A5, c5, rfl⟩ := own_form hv
            exact ⟨A5, c5, rfl, Row.of_own hv, hb⟩)
          have HF2 := Lib.hid (HF.out _ hown)
          obtain ⟨A5, c5, rfl⟩ := own_form hown
          have h4' : ((pad bs).length : Int) % 4 = 0 := by omega
          have hpb : (pad bs).length ≤ 3601 := by rw [← hp, hN3]; omega
          clear hp hown hb HF h4 hN3
          go_wp2
          go_ret
          exact HF2.out

/-- What Put tells. -/
def PutTold (l : List It) (w : World) (e : Ending) (w' : World) : Prop :=
  ∃ A c, e = .returned (.tuple #[.int .u16 (putP l), .slice A (putB l).length c, .int .i64 (putE l)]) ∧ Row w' w'.heap.size 1 A (putB l).length (u8s (putB l)) ∧ Below w.heap.size w w'
set_option maxRecDepth 100000 in
theorem extPut_any (A : Option Addr) (c : Nat) (ps : List Ip) (w : World) (h : Its w A ps) (hl : ps.length ≤ maxLen) :
    Calls Try.prog 11 #[.slice A ps.length c] w (PutTold (ps.map Ip.it) w) := by
  have hl' := hl
  unfold maxLen at hl'
  by_cases h14 : 14 < ps.length
  · have he : putE (ps.map Ip.it) = 13 := by unfold putE; rw [if_pos (by simpa using h14)]
    have HF := Lib.hid (show PutTold (ps.map Ip.it) w (.returned (.tuple #[.int .u16 0, .slice none 0 0, .int .i64 13])) w from ⟨none, 0, by rw [putB_no (by simp [he]), putP_no (by simp [he]), he]; rfl, by rw [putB_no (by simp [he])]; exact Row.nil, Below.refl _ _⟩)
    clear he h
    go_enter Try.func11, Try.ntmps11
    go_wp2
    go_ret3
    exact HF.out
  cases hw : (ps.map Ip.it).any It.wrong with
  | true =>
    have he : putE (ps.map Ip.it) = 1 := by unfold putE; rw [if_neg (by simpa using h14), if_pos hw]
    have HF := Lib.hid (fun w' (hb : Below w.heap.size w w') => show PutTold (ps.map Ip.it) w (.returned (.tuple #[.int .u16 0, .slice none 0 0, .int .i64 1])) w' from ⟨none, 0, by rw [putB_no (by simp [he]), putP_no (by simp [he]), he]; rfl, by rw [putB_no (by simp [he])]; exact Row.nil, hb⟩)
    have C := contains_wrong A c ps w h hl
    rw [hw] at C
    clear he h hw
    go_enter Try.func11, Try.ntmps11
    go_wp2_with fail
    refine C.mono ?_
    rintro e w2 ⟨rfl, b2⟩
    go_wp2
    go_ret3
    exact HF.out _ b2
  | false =>
    have he : putE (ps.map Ip.it) = 0 := by unfold putE; rw [if_neg (by simpa using h14), if_neg (by simp [hw])]
    have hok := (any_wrong he).2
    have C := contains_wrong A c ps w h hl
    rw [hw] at C
    cases hg : (ps.map Ip.it).any It.big with
    | true =>
      have HF := Lib.hid (fun A2 c2 w' (hr : Row w' w'.heap.size 1 A2 (pad (enc hdL (ps.map Ip.it))).length (u8s (pad (enc hdL (ps.map Ip.it))))) (hb : Below w.heap.size w w') => show PutTold (ps.map Ip.it) w (.returned (.tuple #[.int .u16 4096, .slice A2 (pad (enc hdL (ps.map Ip.it))).length c2, .int .i64 0])) w' from
        ⟨A2, c2, by rw [putB_big he hg, putP_big he hg, he], by rw [putB_big he hg]; exact hr, hb⟩)
      have hq : ∀ p ∈ ps, p.it.d.length ≤ 255 := fun p hp => (It.wrong_no (hok p.it (List.mem_map.2 ⟨p, hp, rfl⟩))).2
      have D := Lib.hid (fun w' hb => contains_long A c ps w' (h.next hb) hl)
      have E := Lib.hid (fun w' hb => bytesOf_long A c ps w' (h.next hb) (by omega) hq)
      rw [hg] at D
      have H := Lib.hid h
      clear he h hw hok hq hg
      go_enter Try.func11, Try.ntmps11
      go_wp2_with fail
      refine C.mono ?_
      rintro e w2 ⟨rfl, b2⟩
      clear C
      go_wp2_with fail
      refine (D.out w2 b2).mono ?_
      rintro e w3 ⟨rfl, b3⟩
      have B3 := bnext b2 b3
      clear b2 b3
      go_wp2_with fail
      refine (E.out w3 B3).mono ?_
      rintro e w4 ⟨A2, c2, rfl, r4, b4⟩
      have HG := Lib.hid (HF.out A2 c2 w4 r4 (bnext B3 b4))
      clear r4 b4 B3
      go_wp2
      go_ret3
      exact HG.out
    | false =>
      have HF := Lib.hid (fun A2 c2 w' (hr : Row w' w'.heap.size 1 A2 (pad (enc hdS (ps.map Ip.it))).length (u8s (pad (enc hdS (ps.map Ip.it))))) (hb : Below w.heap.size w w') => show PutTold (ps.map Ip.it) w (.returned (.tuple #[.int .u16 48862, .slice A2 (pad (enc hdS (ps.map Ip.it))).length c2, .int .i64 0])) w' from
        ⟨A2, c2, by rw [putB_small he hg, putP_small he hg, he], by rw [putB_small he hg]; exact hr, hb⟩)
      have hq : ∀ p ∈ ps, p.it.id.toNat ≤ 14 ∧ 1 ≤ p.it.d.length ∧ p.it.d.length ≤ 16 := fun p hp => It.big_no (any_big hg p.it (List.mem_map.2 ⟨p, hp, rfl⟩))
      have D := Lib.hid (fun w' hb => contains_long A c ps w' (h.next hb) hl)
      have E := Lib.hid (fun w' hb => bytesOf_short A c ps w' (h.next hb) (by omega) hq)
      rw [hg] at D
      have H := Lib.hid h
      clear he h hw hok hq hg
      go_enter Try.func11, Try.ntmps11
      go_wp2_with fail
      refine C.mono ?_
      rintro e w2 ⟨rfl, b2⟩
      clear C
      go_wp2_with fail
      refine (D.out w2 b2).mono ?_
      rintro e w3 ⟨rfl, b3⟩
      have B3 := bnext b2 b3
      clear b2 b3
      go_wp2_with fail
      refine (E.out w3 B3).mono ?_
      rintro e w4 ⟨A2, c2, rfl, r4, b4⟩
      have HG := Lib.hid (HF.out A2 c2 w4 r4 (bnext B3 b4))
      clear r4 b4 B3
      go_wp2
      go_ret3
      exact HG.out
end Go.Proofs.Ytdfbbmaaonkjiaa
