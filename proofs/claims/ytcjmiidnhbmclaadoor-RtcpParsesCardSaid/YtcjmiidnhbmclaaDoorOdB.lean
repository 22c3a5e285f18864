/-
  Contracts of octet's Num and Put.
-/
import Derived.Test.YtcjmiidnhbmclaaDoorOdA
namespace Go.Proofs.YtcjmiidnhbmclaaDoor
open Go.RowKit
variable {lo : Nat}

theorem join_byte (x b : Nat) (hx : x < 72057594037927936) (hb : b < 256) : bits .or .u64 ((x : Int) * 256) (b : Int) = ((x * 256 + b : Nat) : Int) := by
  have e : ((x : Int) * 256) = ((x * 256 : Nat) : Int) := by omega
  rw [e, u64_or_nat _ _ (by omega) (by omega)]
  rw [nat_join8 _ _ (by omega) hb]

/-- Num's outcome. -/
def Numbed (w : World) (lo g : Nat) (hd rs : List UInt8) (e' : Int) (en : Ending) (w' : World) : Prop :=
  en = .returned (.int .u64 (be hd : Int)) ∧ CutAt w' lo g rs e' ∧ w.grownBy w' (some g)

theorem num_nil (n : Int) (w : World) : Calls Tryd.prog 38 #[.pointer none, .int .i64 n] w fun e w' => e = .returned (.int .u64 0) ∧ w = w' := by
  go_enter Tryd.func38, Tryd.ntmps38
  go_wp2_with (first | (go_at_call 54; refine (isSize_any _ _).mono ?_; rintro e w' ⟨rfl, rfl⟩) | (go_at_call 55; refine (take_nil _ _ _).mono ?_; rintro e w' ⟨rfl, rfl⟩))
  refine wp_loop_rounds 1 ?_
  rw [rounds_succ]
  go_wp2
  go_ret
  exact ⟨rfl, rfl⟩

theorem onum_any (g : Nat) (l : List UInt8) (e n : Int) (w : World) (h : CutAt w lo g l e) :
    Calls Tryd.prog 38 #[.pointer (some ⟨g, 0, none⟩), .int .i64 n] w (Numbed w lo g (headS l e n (sizeB n)) (restS l e n (sizeB n)) (errS l e n (sizeB n))) := by
  have hsz : (headS l e n (sizeB n)).length ≤ 8 := by
    unfold headS; split
    · rename_i hh; have := hh.2.1; simp [sizeB] at this; simp [List.length_take]; omega
    · simp
  generalize hhd : headS l e n (sizeB n) = hd at hsz ⊢
  have Hh := Lib.hid hhd
  clear hhd
  go_enter Tryd.func38, Tryd.ntmps38
  go_wp2_with (go_at_call 54; refine (isSize_any _ _).mono ?_; rintro e w' ⟨rfl, rfl⟩)
  refine (take_any g l e n (sizeB n) w h (by simp [sizeB]; omega)).mono ?_
  rintro e' w1 ⟨A, k, c, rfl, hr, hc, hg⟩
  rw [Hh.out] at hr
  have hk : k = hd.length := by have := hr.1; rw [u8s_length] at this; omega
  subst hk
  have hfin : Numbed w lo g hd (restS l e n (sizeB n)) (errS l e n (sizeB n)) (.returned (.int .u64 (be hd : Int))) w1 := ⟨rfl, hc, hg⟩
  have H := Lib.hid hfin
  clear hfin hc hg h Hh
  go_wp2
  go_loop [5, 14] (fun x i => ∃ k : Nat, k ≤ hd.length ∧ i = .int .i64 k ∧ x = .int .u64 (be (hd.take k) : Int)) (fun _ i => hd.length - (intOf i).toNat)
  case atStart => exact ⟨0, Nat.zero_le _, rfl, rfl⟩
  case round =>
    obtain ⟨k, hk, rfl, rfl⟩ := hrel
    by_cases hlt : k < hd.length
    · obtain ⟨b, o, hA, _, hcell⟩ := hr.2 (by omega)
      subst hA
      have hc1 := hcell k _ (u8s_get hd k hlt)
      have hb1 := be_small hd k (by omega)
      have hby := u8_lt hd[k]
      have Hs := Lib.hid (be_take hd k hlt)
      clear hcell hr
      go_wp2
      go_round
      case rel => exact ⟨k + 1, by omega, by go_num, by rw [Hs.out, join_byte _ _ hb1 hd[k].toNat_lt]⟩
      case measure => simp [intOf]; omega
    · have hk2 : k = hd.length := by omega
      subst hk2
      clear hr
      go_wp2
      go_ret
      simpa using H.out

/-- Parts as cells. -/
def partC (l : List (Nat × Int)) : List Value := l.flatMap fun p => [.int .u64 (p.1 : Int), .int .i64 p.2]
theorem partC_length (l : List (Nat × Int)) : (partC l).length = l.length * 2 := by induction l <;> simp_all [partC]; omega
theorem partC_get (l : List (Nat × Int)) (k : Nat) (hk : k < l.length) : (partC l)[k * 2]? = some (.int .u64 (l[k].1 : Int)) ∧ (partC l)[k * 2 + 1]? = some (.int .i64 l[k].2) := by
  induction l generalizing k with
  | nil => simp at hk
  | cons p l ih =>
    cases k with
    | zero => simp [partC]
    | succ k =>
      have h := ih k (by simpa using hk)
      have e : (k + 1) * 2 = k * 2 + 1 + 1 := by omega
      simpa [partC, e] using h

theorem byte_eq (x m : Nat) : (x : Int) / 2 ^ (8 * (m + 1) - 8) % 256 = ((UInt8.ofNat (x / 256 ^ m)).toNat : Int) := by
  have e : (2 : Int) ^ (8 * (m + 1) - 8) = ((256 ^ m : Nat) : Int) := by
    rw [show 8 * (m + 1) - 8 = 8 * m by omega, Int.pow_mul, Int.natCast_pow]
    rfl
  rw [e]
  generalize 256 ^ m = q
  rw [UInt8.toNat_ofNat', ← Int.natCast_ediv]
  omega

/-- One byte more, by the law on append. -/
theorem put_step {w wr w1 : World} {B gp : Nat} {v v' : Value} (x m s : Nat) (d acc : List UInt8) (hd : d ++ bytesN x (m + 1) = bytesN x s) {cs : Array Value}
    (hown : wr.ownsRow B 5 1 v (acc.length + d.length) (u8s (acc ++ d))) (hwh : Whole wr gp 90 cs) (hb : Below B w wr) (hB : B ≤ wr.heap.size) {o : Obj}
    (hown3 : w1.ownsRow B 5 1 v' (acc.length + d.length + 1) (u8s (acc ++ d) ++ [.int .u8 ((x : Int) / 2 ^ (8 * (m + 1) - 8) % 256)])) (hg : (wr.alloc o).grownBy w1 v.ownBlock) :
    Hid ((d ++ [UInt8.ofNat (x / 256 ^ m)]) ++ bytesN x m = bytesN x s) ∧ w1.ownsRow B 5 1 v' (acc.length + (d ++ [UInt8.ofNat (x / 256 ^ m)]).length) (u8s (acc ++ (d ++ [UInt8.ofNat (x / 256 ^ m)]))) ∧
      Whole w1 gp 90 cs ∧ Below B w w1 := by
  refine ⟨?_, ?_, ?_, ?_⟩
  · show _ = _
    rw [← hd]; simp [bytesN]
  · rw [byte_eq] at hown3
    rw [← List.append_assoc, u8s_append (acc ++ d)]
    simpa [u8s, Nat.add_assoc] using hown3
  · exact (hwh.alloc o).grown hg (own_far hown hwh (by decide))
  · exact (hb.alloc hB o).grown hg (by simp; omega) (fun k hk => (hown.lt k hk).1)

/-- Put's outcome. -/
def PutDone (w : World) (l : List (Nat × Int)) (en : Ending) (w' : World) : Prop :=
  ∃ A c, en = .returned (.slice A (putS l).length c) ∧ w'.ownsRow w.heap.size 5 1 (.slice A (putS l).length c) (putS l).length (u8s (putS l)) ∧ Below w.heap.size w w'

theorem put_any (A : Option Addr) (n c : Nat) (l : List (Nat × Int)) (w : World) (h : Row w w.heap.size 2 A n (partC l)) (hn : n ≤ 65536) (hx : ∀ p ∈ l, p.1 < 18446744073709551616) :
    Calls Tryd.prog 32 #[.slice A n c] w (PutDone w l) := by
  have hl : l.length = n := by have := h.1; rw [partC_length] at this; omega
  subst hl
  obtain ⟨B, hB⟩ : ∃ B, w.heap.size = B := ⟨_, rfl⟩
  have HB := Lib.hid hB
  clear hB
  go_enter Tryd.func32, Tryd.ntmps32
  go_wp2
  go_loopw [3, 9] (fun v i wr => ∃ k : Nat, k ≤ l.length ∧ i = .int .i64 k ∧ wr.ownsRow B 5 1 v (putS (l.take k)).length (u8s (putS (l.take k))) ∧ Below B w wr) (fun _ i _ => l.length - (intOf i).toNat)
  case atStart => exact ⟨0, Nat.zero_le _, rfl, World.ownsRow_nil _ _ _ _, Below.refl _ _⟩
  case round =>
    obtain ⟨k, hk, rfl, hown, hb⟩ := hrel
    by_cases hlt : k < l.length
    · obtain ⟨g, o, hA, hg, hcell⟩ := h.2 (by omega)
      subst hA
      have hc0 := (hb.cell (p := ⟨g, o + k * 2, none⟩) (by rw [← HB.out]; exact hg)).trans (hcell _ _ (partC_get l k hlt).1)
      have hc1 := (hb.cell (p := ⟨g, o + k * 2 + 1, none⟩) (by rw [← HB.out]; exact hg)).trans (hcell _ _ (partC_get l k hlt).2)
      clear hcell
      have htk := Lib.hid (putS_take l k hlt)
      generalize hp : l[k] = p at hc0 hc1 htk
      obtain ⟨x, size⟩ := p
      dsimp only at hc0 hc1
      have hxk : x < 18446744073709551616 := by have := hx l[k] (List.getElem_mem _); rw [hp] at this; exact this
      clear hp h
      cases hsz : sizeB size with
      | false =>
        have htk' := Lib.hid (show putS (l.take (k + 1)) = putS (l.take k) by rw [htk.out]; simp [putOne, hsz])
        have Hsz := Lib.hid hsz
        clear hsz htk
        go_wp2_with (go_at_call 54; refine (isSize_any _ _).mono ?_; rintro e w' ⟨rfl, rfl⟩; rw [Hsz.out])
        go_roundw
        case rel => exact ⟨k + 1, by omega, by go_num, by rw [htk'.out]; exact hown.alloc _, hb.alloc (by rw [← HB.out]; exact hb.size) _⟩
        case measure => simp [intOf]; omega
      | true =>
        have hs : 1 ≤ size ∧ size ≤ 8 := by simpa [sizeB] using hsz
        obtain ⟨s, rfl⟩ := Int.eq_ofNat_of_zero_le (show 0 ≤ size by omega)
        obtain ⟨hs1, hs8⟩ := hs
        have htk' := Lib.hid (show putS (l.take (k + 1)) = putS (l.take k) ++ bytesN x s by rw [htk.out]; simp [putOne, hsz])
        have Hsz := Lib.hid hsz
        have hacc : (putS (l.take k)).length ≤ 8 * 65536 := by have := putS_length (l.take k); simp only [List.length_take] at this; omega
        generalize putS (l.take k) = acc at hown htk' hacc
        clear hsz htk
        obtain ⟨wo, rfl⟩ : ∃ wo : World, wo = wr := ⟨_, rfl⟩
        go_wp2_with (go_at_call 54; refine (isSize_any _ _).mono ?_; rintro e w' ⟨rfl, rfl⟩; rw [Hsz.out])
        go_loopw [3, 6] (fun v low wi => ∃ (m : Nat) (d : List UInt8), m ≤ s ∧ low = .int .i64 (8 * (m : Int) - 8) ∧ Hid (d ++ bytesN x m = bytesN x s) ∧ wi.ownsRow B 5 1 v (acc.length + d.length) (u8s (acc ++ d)) ∧ Whole wi wo.heap.size 90 #[.int .u64 (x : Int), .int .i64 (s : Int)] ∧ Below B w wi)
          (fun _ low _ => (intOf low + 8).toNat)
        case atStart => exact ⟨s, [], Nat.le_refl _, by go_num, rfl, by simpa using hown.alloc _, Whole.new _ _ _, hb.alloc (by rw [← HB.out]; exact hb.size) _⟩
        case round =>
          obtain ⟨m, d, hm, rfl, hd, hown2, hwh, hb2⟩ := hrel
          rcases m with _ | m
          · have hd0 : d = bytesN x s := by simpa [bytesN] using hd.out
            subst hd0
            clear hd hwh
            go_wp2
            go_roundw
            case rel => exact ⟨k + 1, by omega, by go_num, by rw [htk'.out]; simpa [bytesN_length] using hown2, hb2⟩
            case measure => simp [intOf]; omega
          · have hcx := hwh.cell 0
            go_wp2_with (at_builtin; refine wpl_append _ rfl (.tmp 25) (.tmp 31) 25 rfl B 5 (.int .u8 0) 1 1 Tryd.underlying25 info_u8 rfl (by decide) _ _ _ rfl (hown2.alloc _) _ _ 1 1 [_] rfl (Row.one _ _ _) ?c1 ?c2 ?c3 ?c4 ?_)
            case c1 => intro u hu; simp at hu; subst hu; rfl
            case c2 => have : d.length ≤ s := by have := congrArg List.length hd.out; simp [bytesN_length] at this; omega
                       unfold maxLen; omega
            case c3 => have : d.length ≤ s := by have := congrArg List.length hd.out; simp [bytesN_length] at this; omega
                       omega
            case c4 => have := hb2.size; have := HB.out; simp; omega
            · intro v' w1 hown3 hg3 _
              have R := put_step x m s d acc hd.out hown2 hwh hb2 (by have := hb2.size; have := HB.out; omega) hown3 hg3
              clear hown3 hg3 hown2 hwh hb2 hd hcx
              go_wp2
              go_roundw
              case rel => exact ⟨m, _, by omega, by go_num, R.1, R.2.1, R.2.2.1, R.2.2.2⟩
              case measure => simp [intOf]; omega
    · have hk2 : k = l.length := by omega
      subst hk2
      obtain ⟨A', c', rfl⟩ := oown_form hown
      have hfin : PutDone w l (.returned (.slice A' (putS l).length c')) wr := by
        rw [List.take_length] at hown
        exact ⟨A', c', rfl, by rw [HB.out]; exact hown, by rw [HB.out]; exact hb⟩
      have H := Lib.hid hfin
      clear hfin hown hb h
      go_wp2
      go_ret
      simpa using H.out
end Go.Proofs.YtcjmiidnhbmclaaDoor
