/-
  The code's parts of rtp (layer 6): the numbers that a packet begins with.
-/
import Derived.Test.YticnaljfnjiofaaRpA
import Derived.Deep.CutBlock
import Derived.Deep.DeepCutAuto
namespace Go.Proofs.Yticnaljfnjiofaa
open Go.RowKit
set_option linter.unusedSimpArgs false
set_option linter.unusedVariables false

/-- A packet in the program. -/
def Mp.cells (p : Mp) (A1 : Option Addr) (c1 : Nat) (A2 : Option Addr) (c2 : Nat) (A3 : Option Addr) (c3 : Nat) : Array Value :=
  #[.bool p.mark, .int .u8 (p.typ : Int), .int .u16 (p.seq : Int), .int .u32 (p.time : Int), .int .u32 (p.ssrc : Int), .slice A1 p.csrc.length c1, .slice A2 p.exts.length c2, .slice A3 p.pay.length c3, .int .i64 p.pad]
def u32s (l : List Nat) : List Value := l.map fun (x : Nat) => Value.int .u32 (x : Int)
theorem u32s_get {l : List Nat} {k : Nat} {x : Nat} (h : l[k]? = some x) : (u32s l)[k]? = some (.int .u32 (x : Int)) := by simp [u32s, h]
theorem info_part : (Try.prog.info? 154).map (fun i => (i.zero, i.size, i.bytes)) = some (some (.agg #[.int .u64 0, .int .i64 0]), 2, 16) := by kernel_rfl
theorem partC_append (a b : List (Nat × Int)) : partC (a ++ b) = partC a ++ partC b := by simp [partC]

def cP (cs : List Nat) : List (Nat × Int) := cs.map fun x => (x, 4)
theorem cP_next {cs : List Nat} {k x : Nat} (h : cs[k]? = some x) : cP (cs.take (k + 1)) = cP (cs.take k) ++ [(x, 4)] := by unfold cP; rw [List.take_add_one, h]; simp
theorem cP_length (cs : List Nat) : (cP cs).length = cs.length := by simp [cP]
/-- A row of the call's own that is full. -/
theorem own_full {base : Nat} {e : TypeId} {xs : List Value} (w : World) (cur : Array Value) (n z : Nat) (hb : base ≤ w.heap.size) (hm : n ≤ maxLen) (hs : cur.size = n * z) (hx : cur.toList = xs) :
    (w.alloc (.cells cur e)).ownsRow base e z (.slice (some ⟨w.heap.size, 0, none⟩) n n) n xs :=
  ⟨by rw [← hx]; simpa using hs, .inr ⟨w.heap.size, n, cur, rfl, hb, heap_alloc_new w _, Nat.le_refl _, hm, hs, by rw [← hs, ← hx]; exact List.take_of_length_le (by simp)⟩⟩
set_option maxRecDepth 100000 in
set_option maxHeartbeats 1600000 in
theorem rparts_any (p : Mp) (A1 A2 A3 : Option Addr) (c1 c2 c3 : Nat) (w : World) (hf : p.Fit) (h1 : p.csrc.length ≤ 15) (hr : Row w w.heap.size 1 A1 p.csrc.length (u32s p.csrc)) (h2 : p.exts.length ≤ maxLen) (h3 : p.typ ≤ 127) :
    Calls Try.prog 75 #[.agg (p.cells A1 c1 A2 c2 A3 c3)] w fun e w' => ∃ A c, e = .returned (.slice A p.parts.length c) ∧ w'.ownsRow w.heap.size 154 2 (.slice A p.parts.length c) p.parts.length (partC p.parts) ∧ Below w.heap.size w w' := by
  obtain ⟨F, hF⟩ : ∃ F, p.first = F := ⟨_, rfl⟩
  obtain ⟨S, hS⟩ : ∃ S, p.second = S := ⟨_, rfl⟩
  have hparts : p.parts = [(F, 1), (S, 1), (p.seq, 2), (p.time, 4), (p.ssrc, 4)] ++ p.csrc.map fun x => (x, 4) := by unfold Mp.parts; rw [hF, hS]
  unfold Mp.first at hF
  unfold Mp.second at hS
  obtain ⟨mk, ty, sq, tm, sr, cs, ex, py, pd⟩ := p
  dsimp only [Mp.cells] at *
  rw [hparts]
  obtain ⟨BL, hBL⟩ : ∃ BL, ([(F, 1), (S, 1), (sq, 2), (tm, 4), (sr, 4)] : List (Nat × Int)) = BL := ⟨_, rfl⟩
  rw [hBL, show (cs.map fun x => (x, (4 : Int))) = cP cs from rfl]
  obtain ⟨PL, hPL⟩ : ∃ PL, BL ++ cP cs = PL := ⟨_, rfl⟩
  rw [hPL]
  have hlp : PL.length = 5 + cs.length := by rw [← hPL, List.length_append, cP_length, ← hBL]; first | rfl | (simp; done) | (simp; omega)
  obtain ⟨LN, hLN⟩ : ∃ n, PL.length = n := ⟨_, rfl⟩
  rw [hLN] at hlp ⊢
  have HPL := Lib.hid hPL
  have HBL := Lib.hid hBL
  clear hPL hLN hBL
  have hex : ex = [] ↔ ex.length = 0 := by cases ex <;> simp
  obtain ⟨n1, hn1⟩ : ∃ n, cs.length = n := ⟨_, rfl⟩
  obtain ⟨n2, hn2⟩ : ∃ n, ex.length = n := ⟨_, rfl⟩
  obtain ⟨n3, hn3⟩ : ∃ n, py.length = n := ⟨_, rfl⟩
  rw [hn1] at h1 hr hF hlp ⊢
  have HLP := Lib.hid hlp
  clear hlp
  rw [hn2] at hex h2 ⊢
  rw [hn3]
  have HF := Lib.hid hF
  have HS := Lib.hid hS
  have HX := Lib.hid hex
  have HR := Lib.hid hr
  have HN1 := Lib.hid hn1
  have HFT := Lib.hid hf
  unfold maxLen at h2
  clear hF hS hex hr hn1 hn2 hn3 hf hparts
  have HW := Lib.hid (Whole.new w 35 #[.bool mk, .int .u8 (ty : Int), .int .u16 (sq : Int), .int .u32 (tm : Int), .int .u32 (sr : Int), .slice A1 n1 c1, .slice A2 n2 c2, .slice A3 n3 c3, .int .i64 pd])
  have HB := Lib.hid ((Below.refl w.heap.size w).alloc (Nat.le_refl _) (.cells #[.bool mk, .int .u8 (ty : Int), .int .u16 (sq : Int), .int .u32 (tm : Int), .int .u32 (sr : Int), .slice A1 n1 c1, .slice A2 n2 c2, .slice A3 n3 c3, .int .i64 pd] 35))
  have hFb : F ≤ 191 := by
    have h := HF.out
    have h' := HN1.out
    have a1 : (if 0 < pd then 32 else 0) ≤ 32 := by split <;> omega
    have a2 : (if ex = [] then 0 else 16) ≤ 16 := by split <;> omega
    omega
  have hSb : S ≤ 255 := by
    have h := HS.out
    have a1 : (if mk = true then 128 else 0) ≤ 128 := by split <;> omega
    omega
  have w1 : IntKind.u64.wrap (F : Int) = (F : Int) := by simp only [IntKind.wrap, IntKind.bits, IntKind.signed]; simp; omega
  have w2 : IntKind.u64.wrap (sq : Int) = (sq : Int) := by have := HFT.out.seq; dsimp only at this; simp only [IntKind.wrap, IntKind.bits, IntKind.signed]; simp; omega
  have w3 : IntKind.u64.wrap (tm : Int) = (tm : Int) := by have := HFT.out.time; dsimp only at this; simp only [IntKind.wrap, IntKind.bits, IntKind.signed]; simp; omega
  have w4 : IntKind.u64.wrap (sr : Int) = (sr : Int) := by have := HFT.out.ssrc; dsimp only at this; simp only [IntKind.wrap, IntKind.bits, IntKind.signed]; simp; omega
  go_enter Try.func75, Try.ntmps75
  go_upto_if 15 with fail
  obtain ⟨wo, hwo⟩ : ∃ z, z = w.alloc (.cells #[.bool mk, .int .u8 (ty : Int), .int .u16 (sq : Int), .int .u32 (tm : Int), .int .u32 (sr : Int), .slice A1 n1 c1, .slice A2 n2 c2, .slice A3 n3 c3, .int .i64 pd] 35) := ⟨_, rfl⟩
  rw [← hwo] at HW HB ⊢
  clear hwo
  have k0 := HW.out.cell 0
  have k1 := HW.out.cell 1
  have k2 := HW.out.cell 2
  have k3 := HW.out.cell 3
  have k4 := HW.out.cell 4
  have k5 := HW.out.cell 5
  have k6 := HW.out.cell 6
  have k7 := HW.out.cell 7
  have k8 := HW.out.cell 8
  obtain ⟨F1, hF1⟩ : ∃ F1 : Nat, 128 + n1 + (if 0 < pd then 32 else 0) = F1 := ⟨_, rfl⟩
  have HF1 := Lib.hid hF1
  clear hF1
  go_cut [3] (fun a wx => a = .int .i64 (F1 : Int) ∧ wx = wo)
  case first =>
    by_cases hp : 0 < pd
    · have e := HF1.out
      rw [if_pos hp] at e
      have e2 : (128 : Int) + (n1 : Int) + 32 = (F1 : Int) := by omega
      clear e
      go_wp2_with fail
      go_meet
      exact ⟨by first | rfl | trivial | exact congrArg _ e2, rfl⟩
    · have e := HF1.out
      rw [if_neg hp] at e
      have e2 : (128 : Int) + (n1 : Int) = (F1 : Int) := by omega
      clear e
      go_wp2_with fail
      go_meet
      exact ⟨by first | rfl | trivial | exact congrArg _ e2, rfl⟩
  case rest =>
    obtain ⟨rfl, hwc⟩ := hcut
    subst hwc
    go_upto_if 22 with fail
    go_cut [3] (fun a wx => a = .int .i64 (F : Int) ∧ wx = wc)
    case first =>
      by_cases hp : n2 = 0
      · have e := HF.out
        rw [if_pos (HX.out.2 hp), ← HN1.out] at e
        have e2 : (F1 : Int) = (F : Int) := by have := HF1.out; have := HN1.out; omega
        have hn : ¬ (0 : Int) < (n2 : Int) := by omega
        clear e hp
        go_wp2_with fail
        go_meet
        exact ⟨by first | rfl | trivial | exact congrArg _ e2, rfl⟩
      · have e := HF.out
        rw [if_neg (fun h => hp (HX.out.1 h))] at e
        have e2 : (F1 : Int) + 16 = (F : Int) := by have := HF1.out; omega
        have hn : (0 : Int) < (n2 : Int) := by omega
        clear e hp
        go_wp2_with fail
        go_meet
        exact ⟨by first | rfl | trivial | exact congrArg _ e2, rfl⟩
    case rest =>
      obtain ⟨wd, hwd⟩ : ∃ z, z = wc := ⟨_, rfl⟩
      obtain ⟨rfl, hwe⟩ := hcut
      subst hwe
      subst hwd
      go_upto_if 31 with fail
      go_cut [4] (fun a wx => a = .int .u64 (S : Int) ∧ wx = wd)
      case first =>
        cases mk with
        | true =>
          have e2 : (ty : Int) + 128 = (S : Int) := by have := HS.out; rw [if_pos rfl] at this; omega
          go_wp2_with fail
          go_meet
          exact ⟨by first | rfl | trivial | exact congrArg _ e2, rfl⟩
        | false =>
          have e2 : (ty : Int) = (S : Int) := by have := HS.out; rw [if_neg (by simp)] at this; omega
          go_wp2_with fail
          go_meet
          exact ⟨by first | rfl | trivial | exact congrArg _ e2, rfl⟩
      case rest =>
        obtain ⟨wo, hwo⟩ : ∃ z, z = wc := ⟨_, rfl⟩
        obtain ⟨rfl, hwe⟩ := hcut
        subst hwe
        subst hwo
        have hlt0 := HW.out.lt
        have HO := Lib.hid (own_full (base := w.heap.size) (e := 154) wo #[.int .u64 (F : Int), .int .i64 1, .int .u64 (S : Int), .int .i64 1, .int .u64 (sq : Int), .int .i64 2, .int .u64 (tm : Int), .int .i64 4, .int .u64 (sr : Int), .int .i64 4] 5 2 HB.out.size (by decide) rfl (xs := partC BL) (by rw [← HBL.out]; rfl))
        have HB1 := Lib.hid (HB.out.alloc HB.out.size (.cells #[.int .u64 (F : Int), .int .i64 1, .int .u64 (S : Int), .int .i64 1, .int .u64 (sq : Int), .int .i64 2, .int .u64 (tm : Int), .int .i64 4, .int .u64 (sr : Int), .int .i64 4] 154))
        have HR1 := Lib.hid (fun w' (b' : Below w.heap.size w w') (k x : Nat) (hk : cs[k]? = some x) => show ∀ (g o : Nat), A1 = some ⟨g, o, none⟩ → w'.cell? ⟨g, o + k, none⟩ = some (.int .u32 (x : Int)) from fun g o hA => by
          obtain ⟨g', o', h1, h2, h3⟩ := HR.out.2 (by have := HN1.out; have := (List.getElem?_eq_some_iff.1 hk).1; omega)
          rw [hA] at h1
          cases h1
          exact (b'.cell (p := ⟨g, o + k, none⟩) h2).trans (h3 k _ (u32s_get hk)))
        go_wp2_with fail
        go_loopw [5, 59] (fun v i wr => ∃ k : Nat, k ≤ n1 ∧ i = .int .i64 (k : Int) ∧ wr.ownsRow w.heap.size 154 2 v (5 + k) (partC (BL ++ cP (cs.take k))) ∧ Below w.heap.size w wr) (fun _ i _ => n1 - (intOf i).toNat)
        case atStart => exact ⟨0, Nat.zero_le _, rfl, by rw [show cP (cs.take 0) = [] from rfl, List.append_nil]; exact HO.out, HB1.out⟩
        case round =>
          obtain ⟨k, hk, rfl, hown, hb⟩ := hrel
          obtain ⟨Av, cv, rfl⟩ := own_form hown
          by_cases hlt : k < n1
          · obtain ⟨x, hx⟩ : ∃ x, cs[k]? = some x := ⟨cs[k]'(by rw [HN1.out]; exact hlt), by simp⟩
            obtain ⟨g, o, rfl, _, _⟩ := HR.out.2 (by omega)
            have r0 := HR1.out wr hb k x hx g o rfl
            have hxb : x < 4294967296 := HFT.out.csrc x (List.mem_of_getElem? hx)
            have w5 : IntKind.u64.wrap (x : Int) = (x : Int) := by simp only [IntKind.wrap, IntKind.bits, IntKind.signed]; simp; omega
            have hi1 : (0 : Int) ≤ (k : Int) := by omega
            have hi2 : (k : Int) < (n1 : Int) := by omega
            have HRW := Lib.hid (show Row (wr.alloc (.cells #[.int .u64 (x : Int), .int .i64 4] 154)) (wr.heap.size + 1) 2 (some ⟨wr.heap.size, 0, none⟩) 1 [.int .u64 (x : Int), .int .i64 4] from by have := Row.fresh wr 154 #[.int .u64 (x : Int), .int .i64 4] 2 1 [.int .u64 (x : Int), .int .i64 4] rfl rfl; simpa using this)
            have HTK := Lib.hid (cP_next hx)
            have HOk := Lib.hid hown
            have HBk := Lib.hid hb
            have hsz := hb.size
            clear hown hb hx
            go_wp2_with (at_builtin; refine wpl_append _ rfl (.tmp 63) (.tmp 67) 151 rfl w.heap.size 154 (.agg #[.int .u64 0, .int .i64 0]) 2 16 Try.underlying151 info_part rfl (by decide) (.slice Av (5 + k) cv) (5 + k) (partC (BL ++ cP (cs.take k))) rfl (HOk.out.alloc _) (wr.heap.size + 1) (some ⟨wr.heap.size, 0, none⟩) 1 1 [.int .u64 (x : Int), .int .i64 4] rfl HRW.out (by simp [Value.oneCell']) ?c1 ?c2 ?c3 ?_)
            case c1 => unfold maxLen; omega
            case c2 => omega
            case c3 => simp; omega
            intro v3 w3 hown3 hg3 _
            have HB3 := Lib.hid ((HBk.out.alloc (by omega) (.cells #[.int .u64 (x : Int), .int .i64 4] 154)).grown hg3 (by simp; omega) (fun q hq => (HOk.out.lt q hq).1))
            have HO3 : Hid (w3.ownsRow w.heap.size 154 2 v3 (5 + (k + 1)) (partC (BL ++ cP (cs.take (k + 1))))) := Lib.hid (by rw [HTK.out, ← List.append_assoc, partC_append]; exact hown3)
            clear hown3 hg3 HOk HBk HRW r0
            go_wp2
            go_roundw
            case rel => exact ⟨k + 1, by omega, by go_num, HO3.out, HB3.out⟩
            case measure => simp [intOf]; omega
          · obtain rfl : k = n1 := by omega
            have HT : Hid (cs.take k = cs) := Lib.hid (by rw [← HN1.out]; exact List.take_length)
            rw [HT.out, HPL.out, ← HLP.out] at hown
            have HOk := Lib.hid hown
            have HBk := Lib.hid hb
            clear hown hb
            rw [← HLP.out]
            go_wp2
            go_ret
            exact ⟨Av, cv, rfl, HOk.out, HBk.out⟩
end Go.Proofs.Yticnaljfnjiofaa
