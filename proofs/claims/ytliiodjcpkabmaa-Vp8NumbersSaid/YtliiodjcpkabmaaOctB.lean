/-
  Contracts of octet's Num and Put.
-/
import Derived.Test.YtliiodjcpkabmaaOctA
namespace Go.Proofs.Ytliiodjcpkabmaa
open Go.RowKit
variable {lo : Nat}

/-- The number of bytes, the highest first. -/
def be (l : List UInt8) : Nat := l.foldl (fun x b => x * 256 + b.toNat) 0
theorem be_snoc (l : List UInt8) (b : UInt8) : be (l ++ [b]) = be l * 256 + b.toNat := by simp [be]
theorem be_lt_from (l : List UInt8) (x : Nat) : l.foldl (fun x b => x * 256 + b.toNat) x < (x + 1) * 256 ^ l.length := by
  induction l generalizing x with
  | nil => simp
  | cons b l ih =>
    have := b.toNat_lt
    have h := ih (x * 256 + b.toNat)
    rw [List.foldl_cons, List.length_cons, Nat.pow_succ]
    refine Nat.lt_of_lt_of_le h ?_
    rw [Nat.mul_comm (256 ^ l.length) 256, ← Nat.mul_assoc]
    exact Nat.mul_le_mul_right _ (by omega)
theorem be_lt (l : List UInt8) : be l < 256 ^ l.length := by simpa [be] using be_lt_from l 0
theorem be_take (l : List UInt8) (k : Nat) (hk : k < l.length) : be (l.take (k + 1)) = be (l.take k) * 256 + l[k].toNat := by
  rw [List.take_succ_eq_append_getElem hk, be_snoc]
theorem be_small (l : List UInt8) (k : Nat) (hk : k < 8) : be (l.take k) < 72057594037927936 := by
  refine Nat.lt_of_lt_of_le (be_lt _) ?_
  refine Nat.le_trans (Nat.pow_le_pow_right (by omega) (show (l.take k).length ≤ 7 by simp [List.length_take]; omega)) (by decide)

theorem join_byte (x b : Nat) (hx : x < 72057594037927936) (hb : b < 256) : bits .or .u64 ((x : Int) * 256) (b : Int) = ((x * 256 + b : Nat) : Int) := by
  have e : ((x : Int) * 256) = ((x * 256 : Nat) : Int) := by omega
  rw [e, u64_or_nat _ _ (by omega) (by omega)]
  rw [nat_join8 _ _ (by omega) hb]

/-- Num's outcome. -/
def Numbed (w : World) (lo g : Nat) (hd rs : List UInt8) (e' : Int) (en : Ending) (w' : World) : Prop :=
  en = .returned (.int .u64 (be hd : Int)) ∧ CutAt w' lo g rs e' ∧ w.grownBy w' (some g)

theorem num_nil (n : Int) (w : World) : Calls Try.prog 20 #[.pointer none, .int .i64 n] w fun e w' => e = .returned (.int .u64 0) ∧ w = w' := by
  go_enter Try.func20, Try.ntmps20
  go_wp2_with (first | (go_at_call 30; refine (isSize_any _ _).mono ?_; rintro e w' ⟨rfl, rfl⟩) | (go_at_call 29; refine (take_nil _ _ _).mono ?_; rintro e w' ⟨rfl, rfl⟩))
  refine wp_loop_rounds 1 ?_
  rw [rounds_succ]
  go_wp2
  go_ret
  exact ⟨rfl, rfl⟩

theorem num_any (g : Nat) (l : List UInt8) (e n : Int) (w : World) (h : CutAt w lo g l e) :
    Calls Try.prog 20 #[.pointer (some ⟨g, 0, none⟩), .int .i64 n] w (Numbed w lo g (headS l e n (sizeB n)) (restS l e n (sizeB n)) (errS l e n (sizeB n))) := by
  have hsz : (headS l e n (sizeB n)).length ≤ 8 := by
    unfold headS; split
    · rename_i hh; have := hh.2.1; simp [sizeB] at this; simp [List.length_take]; omega
    · simp
  generalize hhd : headS l e n (sizeB n) = hd at hsz ⊢
  have Hh := Lib.hid hhd
  clear hhd
  go_enter Try.func20, Try.ntmps20
  go_wp2_with (go_at_call 30; refine (isSize_any _ _).mono ?_; rintro e w' ⟨rfl, rfl⟩)
  refine (take_any g l e n (sizeB n) w h (by simp [sizeB]; omega)).mono ?_
  rintro e' w1 ⟨A, k, c, rfl, hr, hc, hg⟩
  rw [Hh.out] at hr
  have hk : k = hd.length := by have := hr.1; rw [u8s_length] at this; omega
  subst hk
  have hfin : Numbed w lo g hd (restS l e n (sizeB n)) (errS l e n (sizeB n)) (.returned (.int .u64 (be hd : Int))) w1 := ⟨rfl, hc, hg⟩
  have H := Lib.hid hfin
  clear hfin hc hg h Hh
  go_wp2
  go_loop [5, 14] (fun x i => ∃ k : Nat, k ≤ hd.length ∧ i = .int .i64 k ∧ x = .int .u64 (be (hd.take k) : Int)) (fun _ i => hd.length - (intOf i).toNat)
  case atStart => exact ⟨0, Nat.zero_le _, rfl, rfl⟩
  case round =>
    obtain ⟨k, hk, rfl, rfl⟩ := hrel
    by_cases hlt : k < hd.length
    · obtain ⟨b, o, hA, _, hcell⟩ := hr.2 (by omega)
      subst hA
      have hc1 := hcell k _ (u8s_get hd k hlt)
      have hb1 := be_small hd k (by omega)
      have hby := u8_lt hd[k]
      have Hs := Lib.hid (be_take hd k hlt)
      clear hcell hr
      go_wp2
      go_round
      case rel => exact ⟨k + 1, by omega, by go_num, by rw [Hs.out, join_byte _ _ hb1 hd[k].toNat_lt]⟩
      case measure => simp [intOf]; omega
    · have hk2 : k = hd.length := by omega
      subst hk2
      clear hr
      go_wp2
      go_ret
      simpa using H.out

/-- The k lowest bytes of a number, the highest first. -/
def bytesN (x : Nat) : Nat → List UInt8
  | 0 => []
  | k + 1 => UInt8.ofNat (x / 256 ^ k) :: bytesN x k
theorem bytesN_length (x k : Nat) : (bytesN x k).length = k := by induction k <;> simp_all [bytesN]

/-- What Put puts of one part, and of a list of parts. -/
def putOne (p : Nat × Int) : List UInt8 := if sizeB p.2 = true then bytesN p.1 p.2.toNat else []
def putS (l : List (Nat × Int)) : List UInt8 := l.flatMap putOne
theorem putOne_length (p : Nat × Int) : (putOne p).length ≤ 8 := by
  unfold putOne; split
  · rename_i h; simp [sizeB] at h; rw [bytesN_length]; omega
  · simp
theorem putS_length (l : List (Nat × Int)) : (putS l).length ≤ 8 * l.length := by
  induction l with
  | nil => simp [putS]
  | cons p l ih => have := putOne_length p; simp only [putS, List.flatMap_cons, List.length_append, List.length_cons] at ih ⊢; omega
theorem putS_take (l : List (Nat × Int)) (k : Nat) (hk : k < l.length) : putS (l.take (k + 1)) = putS (l.take k) ++ putOne l[k] := by
  unfold putS; rw [List.take_succ_eq_append_getElem hk, List.flatMap_append]; simp

theorem sizeB_yes {s : Nat} (h1 : 1 ≤ s) (h8 : s ≤ 8) : sizeB (s : Int) = true := by simp [sizeB]; omega
theorem putOne_yes (x : Nat) {s : Nat} (h1 : 1 ≤ s) (h8 : s ≤ 8) : putOne (x, (s : Int)) = bytesN x s := by simp [putOne, sizeB_yes h1 h8]
theorem putOne_no (x : Nat) {s : Int} (h : sizeB s = false) : putOne (x, s) = [] := by simp [putOne, h]
theorem putS_cons (p : Nat × Int) (l : List (Nat × Int)) : putS (p :: l) = putOne p ++ putS l := by simp [putS]
theorem putS_nil : putS [] = [] := rfl

/-- Parts as cells. -/
def partC (l : List (Nat × Int)) : List Value := l.flatMap fun p => [.int .u64 (p.1 : Int), .int .i64 p.2]
theorem partC_length (l : List (Nat × Int)) : (partC l).length = l.length * 2 := by induction l <;> simp_all [partC]; omega
theorem partC_get (l : List (Nat × Int)) (k : Nat) (hk : k < l.length) : (partC l)[k * 2]? = some (.int .u64 (l[k].1 : Int)) ∧ (partC l)[k * 2 + 1]? = some (.int .i64 l[k].2) := by
  induction l generalizing k with
  | nil => simp at hk
  | cons p l ih =>
    cases k with
    | zero => simp [partC]
    | succ k =>
      have h := ih k (by simpa using hk)
      have e : (k + 1) * 2 = k * 2 + 1 + 1 := by omega
      simpa [partC, e] using h

theorem byte_eq (x m : Nat) : (x : Int) / 2 ^ (8 * (m + 1) - 8) % 256 = ((UInt8.ofNat (x / 256 ^ m)).toNat : Int) := by
  have e : (2 : Int) ^ (8 * (m + 1) - 8) = ((256 ^ m : Nat) : Int) := by
    rw [show 8 * (m + 1) - 8 = 8 * m by omega, Int.pow_mul, Int.natCast_pow]
    rfl
  rw [e]
  generalize 256 ^ m = q
  rw [UInt8.toNat_ofNat', ← Int.natCast_ediv]
  omega

/-- One byte more, by the law on append. -/
theorem put_step {w wr w1 : World} {B gp : Nat} {v v' : Value} (x m s : Nat) (d acc : List UInt8) (hd : d ++ bytesN x (m + 1) = bytesN x s) {cs : Array Value}
    (hown : wr.ownsRow B 5 1 v (acc.length + d.length) (u8s (acc ++ d))) (hwh : Whole wr gp 69 cs) (hb : Below B w wr) (hB : B ≤ wr.heap.size) {o : Obj}
    (hown3 : w1.ownsRow B 5 1 v' (acc.length + d.length + 1) (u8s (acc ++ d) ++ [.int .u8 ((x : Int) / 2 ^ (8 * (m + 1) - 8) % 256)])) (hg : (wr.alloc o).grownBy w1 v.ownBlock) :
    Hid ((d ++ [UInt8.ofNat (x / 256 ^ m)]) ++ bytesN x m = bytesN x s) ∧ w1.ownsRow B 5 1 v' (acc.length + (d ++ [UInt8.ofNat (x / 256 ^ m)]).length) (u8s (acc ++ (d ++ [UInt8.ofNat (x / 256 ^ m)]))) ∧
      Whole w1 gp 69 cs ∧ Below B w w1 := by
  refine ⟨?_, ?_, ?_, ?_⟩
  · show _ = _
    rw [← hd]; simp [bytesN]
  · rw [byte_eq] at hown3
    rw [← List.append_assoc, u8s_append (acc ++ d)]
    simpa [u8s, Nat.add_assoc] using hown3
  · exact (hwh.alloc o).grown hg (own_far hown hwh (by decide))
  · exact (hb.alloc hB o).grown hg (by simp; omega) (fun k hk => (hown.lt k hk).1)

/-- Put's outcome. -/
def PutDone (w : World) (l : List (Nat × Int)) (en : Ending) (w' : World) : Prop :=
  ∃ A c, en = .returned (.slice A (putS l).length c) ∧ w'.ownsRow w.heap.size 5 1 (.slice A (putS l).length c) (putS l).length (u8s (putS l)) ∧ Below w.heap.size w w'

theorem put_any (A : Option Addr) (n c : Nat) (l : List (Nat × Int)) (w : World) (h : Row w w.heap.size 2 A n (partC l)) (hn : n ≤ 65536) (hx : ∀ p ∈ l, p.1 < 18446744073709551616) :
    Calls Try.prog 32 #[.slice A n c] w (PutDone w l) := by
  have hl : l.length = n := by have := h.1; rw [partC_length] at this; omega
  subst hl
  obtain ⟨B, hB⟩ : ∃ B, w.heap.size = B := ⟨_, rfl⟩
  have HB := Lib.hid hB
  clear hB
  go_enter Try.func32, Try.ntmps32
  go_wp2
  go_loopw [3, 9] (fun v i wr => ∃ k : Nat, k ≤ l.length ∧ i = .int .i64 k ∧ wr.ownsRow B 5 1 v (putS (l.take k)).length (u8s (putS (l.take k))) ∧ Below B w wr) (fun _ i _ => l.length - (intOf i).toNat)
  case atStart => exact ⟨0, Nat.zero_le _, rfl, World.ownsRow_nil _ _ _ _, Below.refl _ _⟩
  case round =>
    obtain ⟨k, hk, rfl, hown, hb⟩ := hrel
    by_cases hlt : k < l.length
    · obtain ⟨g, o, hA, hg, hcell⟩ := h.2 (by omega)
      subst hA
      have hc0 := (hb.cell (p := ⟨g, o + k * 2, none⟩) (by rw [← HB.out]; exact hg)).trans (hcell _ _ (partC_get l k hlt).1)
      have hc1 := (hb.cell (p := ⟨g, o + k * 2 + 1, none⟩) (by rw [← HB.out]; exact hg)).trans (hcell _ _ (partC_get l k hlt).2)
      clear hcell
      have htk := Lib.hid (putS_take l k hlt)
      generalize hp : l[k] = p at hc0 hc1 htk
      obtain ⟨x, size⟩ := p
      dsimp only at hc0 hc1
      have hxk : x < 18446744073709551616 := by have := hx l[k] (List.getElem_mem _); rw [hp] at this; exact this
      clear hp h
      cases hsz : sizeB size with
      | false =>
        have htk' := Lib.hid (show putS (l.take (k + 1)) = putS (l.take k) by rw [htk.out]; simp [putOne, hsz])
        have Hsz := Lib.hid hsz
        clear hsz htk
        go_wp2_with (go_at_call 30; refine (isSize_any _ _).mono ?_; rintro e w' ⟨rfl, rfl⟩; rw [Hsz.out])
        go_roundw
        case rel => exact ⟨k + 1, by omega, by go_num, by rw [htk'.out]; exact hown.alloc _, hb.alloc (by rw [← HB.out]; exact hb.size) _⟩
        case measure => simp [intOf]; omega
      | true =>
        have hs : 1 ≤ size ∧ size ≤ 8 := by simpa [sizeB] using hsz
        obtain ⟨s, rfl⟩ := Int.eq_ofNat_of_zero_le (show 0 ≤ size by omega)
        obtain ⟨hs1, hs8⟩ := hs
        have htk' := Lib.hid (show putS (l.take (k + 1)) = putS (l.take k) ++ bytesN x s by rw [htk.out]; simp [putOne, hsz])
        have Hsz := Lib.hid hsz
        have hacc : (putS (l.take k)).length ≤ 8 * 65536 := by have := putS_length (l.take k); simp only [List.length_take] at this; omega
        generalize putS (l.take k) = acc at hown htk' hacc
        clear hsz htk
        obtain ⟨wo, rfl⟩ : ∃ wo : World, wo = wr := ⟨_, rfl⟩
        go_wp2_with (go_at_call 30; refine (isSize_any _ _).mono ?_; rintro e w' ⟨rfl, rfl⟩; rw [Hsz.out])
        go_loopw [3, 6] (fun v low wi => ∃ (m : Nat) (d : List UInt8), m ≤ s ∧ low = .int .i64 (8 * (m : Int) - 8) ∧ Hid (d ++ bytesN x m = bytesN x s) ∧ wi.ownsRow B 5 1 v (acc.length + d.length) (u8s (acc ++ d)) ∧ Whole wi wo.heap.size 69 #[.int .u64 (x : Int), .int .i64 (s : Int)] ∧ Below B w wi)
          (fun _ low _ => (intOf low + 8).toNat)
        case atStart => exact ⟨s, [], Nat.le_refl _, by go_num, rfl, by simpa using hown.alloc _, Whole.new _ _ _, hb.alloc (by rw [← HB.out]; exact hb.size) _⟩
        case round =>
          obtain ⟨m, d, hm, rfl, hd, hown2, hwh, hb2⟩ := hrel
          rcases m with _ | m
          · have hd0 : d = bytesN x s := by simpa [bytesN] using hd.out
            subst hd0
            clear hd hwh
            go_wp2
            go_roundw
            case rel => exact ⟨k + 1, by omega, by go_num, by rw [htk'.out]; simpa [bytesN_length] using hown2, hb2⟩
            case measure => simp [intOf]; omega
          · have hcx := hwh.cell 0
            go_wp2_with (at_builtin; refine wpl_append _ rfl (.tmp 25) (.tmp 31) 22 rfl B 5 (.int .u8 0) 1 1 Try.underlying22 info_u8 rfl (by decide) _ _ _ rfl (hown2.alloc _) _ _ 1 1 [_] rfl (Row.one _ _ _) ?c1 ?c2 ?c3 ?c4 ?_)
            case c1 => intro u hu; simp at hu; subst hu; rfl
            case c2 => have : d.length ≤ s := by have := congrArg List.length hd.out; simp [bytesN_length] at this; omega
                       unfold maxLen; omega
            case c3 => have : d.length ≤ s := by have := congrArg List.length hd.out; simp [bytesN_length] at this; omega
                       omega
            case c4 => have := hb2.size; have := HB.out; simp; omega
            · intro v' w1 hown3 hg3 _
              have R := put_step x m s d acc hd.out hown2 hwh hb2 (by have := hb2.size; have := HB.out; omega) hown3 hg3
              clear hown3 hg3 hown2 hwh hb2 hd hcx
              go_wp2
              go_roundw
              case rel => exact ⟨m, _, by omega, by go_num, R.1, R.2.1, R.2.2.1, R.2.2.2⟩
              case measure => simp [intOf]; omega
    · have hk2 : k = l.length := by omega
      subst hk2
      obtain ⟨A', c', rfl⟩ := own_form hown
      have hfin : PutDone w l (.returned (.slice A' (putS l).length c')) wr := by
        rw [List.take_length] at hown
        exact ⟨A', c', rfl, by rw [HB.out]; exact hown, by rw [HB.out]; exact hb⟩
      have H := Lib.hid hfin
      clear hfin hown hb h
      go_wp2
      go_ret
      simpa using H.out
end Go.Proofs.Ytliiodjcpkabmaa
