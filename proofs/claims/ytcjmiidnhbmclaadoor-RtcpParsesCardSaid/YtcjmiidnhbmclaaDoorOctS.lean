/-
  Contracts of the reference of layer 1: what is taken of a text.
-/
import Derived.Test.YtcjmiidnhbmclaaDoorOctN
namespace Go.Proofs.YtcjmiidnhbmclaaDoor
set_option maxRecDepth 100000
open Go.RowKit

/-- The value of the reference's state. -/
def cv (l : List UInt8) (e : Int) : Value := .agg #[.string (str l), .int .i64 e]

theorem some_err (l : List UInt8) (e n : Int) (may : Bool) (w : World) (he : e ≠ 0) :
    Calls Tryd.prog 58 #[.agg #[.string (str l), .int .i64 e], .int .i64 n, .bool may] w fun en w' => en = .returned (.tuple #[.agg #[.string (str (restS l e n may)), .int .i64 (errS l e n may)], .string (str (headS l e n may))]) ∧ Below w.heap.size w w' := by
  have e1 : restS l e n may = l := by simp [restS, he]
  have e2 : errS l e n may = e := by simp [errS, he]
  have e3 : headS l e n may = [] := by simp [headS, he]
  rw [e1, e2, e3]
  have hb : (e != 0) = true := by simpa using he
  clear e1 e2 e3 he
  go_enter Tryd.func58, Tryd.ntmps58
  go_wp2
  exact bodyPost_ret (v := .tuple #[.agg #[.string (str l), .int .i64 e], .string (str [])]) (by simp [results, Tryd.results58, go_sem, str]) rfl ⟨rfl, ((Below.refl _ _).alloc (Nat.le_refl _) _).alloc (by simp) _⟩

theorem some_bad (l : List UInt8) (n : Int) (w : World) :
    Calls Tryd.prog 58 #[.agg #[.string (str l), .int .i64 0], .int .i64 n, .bool false] w fun en w' => en = .returned (.tuple #[.agg #[.string (str (restS l 0 n false)), .int .i64 (errS l 0 n false)], .string (str (headS l 0 n false))]) ∧ Below w.heap.size w w' := by
  rw [show restS l 0 n false = l by simp [restS], show errS l 0 n false = 1 by simp [errS], show headS l 0 n false = [] by simp [headS]]
  go_enter Tryd.func58, Tryd.ntmps58
  go_wp2
  exact bodyPost_ret (v := .tuple #[.agg #[.string (str l), .int .i64 1], .string (str [])]) (by simp [results, Tryd.results58, go_sem, str]) rfl ⟨rfl, ((Below.refl _ _).alloc (Nat.le_refl _) _).alloc (by simp) _⟩

theorem some_short (l : List UInt8) (n : Int) (w : World) (hn : (l.length : Int) < n) :
    Calls Tryd.prog 58 #[.agg #[.string (str l), .int .i64 0], .int .i64 n, .bool true] w fun en w' => en = .returned (.tuple #[.agg #[.string (str (restS l 0 n true)), .int .i64 (errS l 0 n true)], .string (str (headS l 0 n true))]) ∧ Below w.heap.size w w' := by
  have hn' : ¬ n ≤ (l.length : Int) := by omega
  rw [show restS l 0 n true = l by simp [restS, hn'], show errS l 0 n true = 10 by simp [errS, hn'], show headS l 0 n true = [] by simp [headS, hn']]
  clear hn'
  go_enter Tryd.func58, Tryd.ntmps58
  go_wp2
  exact bodyPost_ret (v := .tuple #[.agg #[.string (str l), .int .i64 10], .string (str [])]) (by simp [results, Tryd.results58, go_sem, str]) rfl ⟨rfl, ((Below.refl _ _).alloc (Nat.le_refl _) _).alloc (by simp) _⟩

theorem some_ok (l : List UInt8) (n : Nat) (w : World) (hn : n ≤ l.length) (_hl : l.length ≤ maxLen) :
    Calls Tryd.prog 58 #[.agg #[.string (str l), .int .i64 0], .int .i64 n, .bool true] w fun en w' => en = .returned (.tuple #[.agg #[.string (str (restS l 0 (n : Int) true)), .int .i64 (errS l 0 n true)], .string (str (headS l 0 n true))]) ∧ Below w.heap.size w w' := by
  unfold maxLen at _hl
  have hn' : (n : Int) ≤ (l.length : Int) := by omega
  rw [show restS l 0 n true = l.drop n by simp [restS, hn'], show errS l 0 n true = 0 by simp [errS, hn'], show headS l 0 n true = l.take n by simp [headS, hn']]
  clear hn'
  go_enter Tryd.func58, Tryd.ntmps58
  go_wp2
  exact bodyPost_ret (v := .tuple #[.agg #[.string (str (l.drop n)), .int .i64 0], .string (str (l.take n))]) (by simp [results, Tryd.results58, go_sem]) rfl ⟨rfl, ((Below.refl _ _).alloc (Nat.le_refl _) _).alloc (by simp) _⟩

/-- What the reference's three calls come to. -/
def Somed (w : World) (l : List UInt8) (e n : Int) (may : Bool) (x : Value) (en : Ending) (w' : World) : Prop :=
  en = .returned (.tuple #[.agg #[.string (str (restS l e n may)), .int .i64 (errS l e n may)], x]) ∧ Below w.heap.size w w'

theorem refsome_any (l : List UInt8) (e n : Int) (may : Bool) (w : World) (hl : l.length ≤ maxLen) (hn : may = true → 0 ≤ n) :
    Calls Tryd.prog 58 #[.agg #[.string (str l), .int .i64 e], .int .i64 n, .bool may] w (Somed w l e n may (.string (str (headS l e n may)))) := by
  by_cases he : e = 0
  · subst he
    cases may with
    | false => exact some_bad l n w
    | true =>
      obtain ⟨k, rfl⟩ := Int.eq_ofNat_of_zero_le (hn rfl)
      by_cases hk : k ≤ l.length
      · exact some_ok l k w hk hl
      · exact some_short l k w (by omega)
  · exact some_err l e n may w he


set_option maxHeartbeats 800000 in
theorem reftake_key (l : List UInt8) (e n : Int) (w : World) (may : Bool) (hl : l.length ≤ maxLen) (h : (may = true ∧ 1 ≤ n ∧ n ≤ 8) ∨ (may = false ∧ ¬ 1 ≤ n) ∨ (may = false ∧ 1 ≤ n ∧ ¬ n ≤ 8)) :
    Calls Tryd.prog 43 #[.agg #[.string (str l), .int .i64 e], .int .i64 n] w (Somed w l e n may (.int .u64 (be (headS l e n may) : Int))) := by
  have hn : may = true → 0 ≤ n := by rcases h with ⟨rfl, h1, h8⟩ | ⟨rfl, h1⟩ | ⟨rfl, h1, h8⟩ <;> simp <;> omega
  have hsz : (headS l e n may).length ≤ 8 := by
    unfold headS; split
    · rename_i hh
      have : n ≤ 8 := by rcases h with ⟨rfl, h1, h8⟩ | ⟨rfl, h1⟩ | ⟨rfl, h1, h8⟩ <;> simp at hh <;> omega
      simp [List.length_take]; omega
    · simp
  have HC := Lib.hid (fun wx => refsome_any l e n may wx hl hn)
  clear hn hl
  obtain ⟨hd, hhd⟩ : ∃ hd, hd = headS l e n may := ⟨_, rfl⟩
  have Hh := Lib.hid hhd
  obtain ⟨rs, hrs⟩ : ∃ rs, rs = restS l e n may := ⟨_, rfl⟩
  have Hr := Lib.hid hrs
  obtain ⟨er, her⟩ : ∃ er, er = errS l e n may := ⟨_, rfl⟩
  have He := Lib.hid her
  rw [← hhd] at hsz ⊢
  have HE : ∀ w', Below w.heap.size w w' → Somed w l e n may (.int .u64 (be hd : Int)) (.returned (.tuple #[.agg #[.string (str rs), .int .i64 er], .int .u64 (be hd : Int)])) w' := fun w' hb => ⟨by rw [hrs, her], hb⟩
  have HF := Lib.hid HE
  clear hhd hrs her HE
  rcases h with ⟨rfl, h1, h8⟩ | ⟨rfl, h1⟩ | ⟨rfl, h1, h8⟩
  all_goals
    go_enter Tryd.func43, Tryd.ntmps43
    go_wp2_with fail
    refine (HC.out _).mono ?_
    rintro en w1 ⟨rfl, b1⟩
    rw [← Hh.out, ← Hr.out, ← He.out]
    have hw := (Whole.new2 w (.cells #[.string (str l), .int .i64 e] 106) 106 #[.string { data := #[] }, .int .i64 0]).below b1 (by simp)
    have hv := ((Whole.new w 106 #[.string (str l), .int .i64 e]).alloc (.cells #[.string { data := #[] }, .int .i64 0] 106)).below b1 (by simp; omega)
    have hc0 := hw.cell 0
    have hc1 := hw.cell 1
    have hf0 := hw.free 0
    have hf1 := hw.free 1
    have hd0 := hv.cell 0
    have hd1 := hv.cell 1
    have hg0 := hv.free 0
    have hg1 := hv.free 1
    have B1 := ((Below.refl w.heap.size w).alloc (Nat.le_refl _) (.cells #[.string (str l), .int .i64 e] 106)).alloc (by simp) (.cells #[.string { data := #[] }, .int .i64 0] 106) |>.trans (b1.mono (by simp; omega))
    clear b1 hw hv HC Hh Hr He
    go_wp2
    go_loop [7, 8] (fun x i => ∃ k : Nat, k ≤ hd.length ∧ i = .int .i64 k ∧ x = .int .u64 (be (hd.take k) : Int)) (fun _ i => hd.length - (intOf i).toNat)
    case atStart => exact ⟨0, Nat.zero_le _, rfl, rfl⟩
    case round =>
      obtain ⟨k, hk, rfl, rfl⟩ := hrel
      by_cases hlt : k < hd.length
      · have hb1 := be_small hd k (by omega)
        have hby := u8_lt hd[k]
        have Hs := Lib.hid (be_take hd k hlt)
        go_wp2
        go_round
        case rel => exact ⟨k + 1, by omega, by go_num, by rw [Hs.out]; go_num⟩
        case measure => simp [intOf]; omega
      · have hk2 : k = hd.length := by omega
        subst hk2
        go_wp2
        refine bodyPost_ret (v := .tuple #[.agg #[.string (str rs), .int .i64 er], .int .u64 (be hd : Int)]) (by simp [results, Tryd.results43, go_sem, hc0, hc1]) rfl (HF.out _ ?_)
        exact (((B1.setCell (Nat.le_refl _) _).setCell (Nat.le_refl _) _).setCell (Nat.le_succ _) _).setCell (Nat.le_succ _) _

theorem reftake_any (l : List UInt8) (e n : Int) (w : World) (hl : l.length ≤ maxLen) :
    Calls Tryd.prog 43 #[.agg #[.string (str l), .int .i64 e], .int .i64 n] w (Somed w l e n (sizeB n) (.int .u64 (be (headS l e n (sizeB n)) : Int))) := by
  refine reftake_key l e n w (sizeB n) hl ?_
  by_cases h1 : 1 ≤ n
  · by_cases h8 : n ≤ 8
    · exact .inl ⟨by simp [sizeB, h1, h8], h1, h8⟩
    · exact .inr (.inr ⟨by simp [sizeB, h8], h1, h8⟩)
  · exact .inr (.inl ⟨by simp [sizeB, h1], h1⟩)
end Go.Proofs.YtcjmiidnhbmclaaDoor
