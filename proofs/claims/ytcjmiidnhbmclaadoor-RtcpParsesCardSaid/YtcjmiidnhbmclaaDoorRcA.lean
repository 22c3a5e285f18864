/-
  Contracts of package rtcp's bytes of numbers: wordPart, wordBytes, and the bytes of an info, a report, a pair, an ask.
-/
import Derived.Test.YtcjmiidnhbmclaaDoorOdB
import Derived.Test.YtcjmiidnhbmclaaDoorRtM
import Derived.Deep.RegionHeld3
import Derived.Deep.QuietTactic
import Derived.StillTailTactics
namespace Go.Proofs.YtcjmiidnhbmclaaDoor
open Go.RowKit
set_option maxRecDepth 100000

theorem bnextA {a b c : World} (h : Below a.heap.size a b) (h' : Below b.heap.size b c) : Below a.heap.size a c := h.trans (h'.mono h.size)
theorem wordPart_any (x : Nat) (w : World) (hx : x < 4294967296) :
    Calls Tryd.prog 60 #[.int .u32 (x : Int)] w fun e w' => e = .returned (.agg #[.int .u64 (x : Int), .int .i64 4]) ∧ Below w.heap.size w w' := by
  have B1 := (Below.refl w.heap.size w).alloc (Nat.le_refl _) (.cells #[.int .u64 (x : Int), .int .i64 4] 90)
  go_enter Tryd.func60, Tryd.ntmps60
  go_wp2
  exact bodyPost_ret (v := .agg #[.int .u64 (x : Int), .int .i64 4])
    (by simp [results, Tryd.results60, go_sem]) rfl ⟨rfl, B1⟩

/-- Bytes in new memory. -/
def Byt (w : World) (l : List UInt8) (e : Ending) (w' : World) : Prop :=
  ∃ A c, e = .returned (.slice A l.length c) ∧ w'.ownsRow w.heap.size 5 1 (.slice A l.length c) l.length (u8s l) ∧ Below w.heap.size w w'
theorem Byt.at {w0 w : World} {l : List UInt8} {e : Ending} {w' : World} (h : Byt w l e w') (hb : Below w0.heap.size w0 w) : Byt w0 l e w' := by
  obtain ⟨A, c, h1, h2, h3⟩ := h
  exact ⟨A, c, h1, oown_base h2 hb.size, bnextA hb h3⟩
/-- Put of a slice literal's parts. -/
theorem put_fresh (w : World) (cs : Array Value) (t : TypeId) (l : List (Nat × Int)) (bs : List UInt8) (n : Nat) (hcs : cs.toList = partC l) (hn : l.length = n) (hle : n ≤ 65536) (hx : ∀ p ∈ l, p.1 < 18446744073709551616) (hbs : putS l = bs) :
    Calls Tryd.prog 32 #[.slice (some ⟨w.heap.size, 0, none⟩) n n] (w.alloc (.cells cs t)) (Byt w bs) := by
  subst hbs
  have hsz : cs.size = n * 2 := by
    have := congrArg List.length hcs
    rw [partC_length] at this
    simpa [hn] using this
  refine (put_any _ n n l _ (Row.fresh w t cs 2 n _ hsz hcs) hle hx).mono ?_
  rintro e w' ⟨A, c, h1, h2, h3⟩
  exact ⟨A, c, h1, oown_base h2 (by simp), bnextA ((Below.refl _ _).alloc (Nat.le_refl _) _) h3⟩

theorem wordBytes_any (x : Nat) (w : World) (hx : x < 4294967296) :
    Calls Tryd.prog 45 #[.int .u32 (x : Int)] w (Byt w (bytesN x 4)) := by
  have hps : putS [(x, 4)] = bytesN x 4 := by simp [putS, putOne, sizeB]
  go_enter Tryd.func45, Tryd.ntmps45
  go_wp2_with fail
  refine (wordPart_any x w hx).mono ?_
  rintro e w1 ⟨rfl, b1⟩
  go_wp2_with fail
  refine (put_fresh w1 #[.int .u64 (x : Int), .int .i64 4] _ [(x, 4)] _ 1 rfl rfl (by omega) (by simp; omega) hps).mono ?_
  rintro e w2 h2
  have H2 := Lib.hid (h2.at b1)
  obtain ⟨A, c, rfl, _, _⟩ := h2
  clear hps b1
  go_wp2
  go_ret
  exact H2.out

theorem pairBytes_any (p : Nat × Nat) (w : World) (h1 : p.1 < 65536) (h2 : p.2 < 65536) :
    Calls Tryd.prog 51 #[.agg #[.int .u16 (p.1 : Int), .int .u16 (p.2 : Int)]] w (Byt w (bytesN p.1 2 ++ bytesN p.2 2)) := by
  obtain ⟨a, b⟩ := p
  dsimp only at h1 h2 ⊢
  have hps : putS [(a, 2), (b, 2)] = bytesN a 2 ++ bytesN b 2 := by simp [putS, putOne, sizeB]
  have b1 := (Below.refl w.heap.size w).alloc (Nat.le_refl _) (.cells #[.int .u16 (a : Int), .int .u16 (b : Int)] 68)
  have P := put_fresh (w.alloc (.cells #[.int .u16 (a : Int), .int .u16 (b : Int)] 68)) #[.int .u64 (a : Int), .int .i64 2, .int .u64 (b : Int), .int .i64 2] 90 [(a, 2), (b, 2)] _ 2 rfl rfl (by omega) (by simp; omega) hps
  rw [show (w.alloc (.cells #[.int .u16 (a : Int), .int .u16 (b : Int)] 68)).heap.size = w.heap.size + 1 by simp] at P
  go_enter Tryd.func51, Tryd.ntmps51
  go_wp2_with fail
  refine P.mono ?_
  rintro e w2 h2
  have H2 := Lib.hid (h2.at b1)
  obtain ⟨A, c, rfl, _, _⟩ := h2
  clear hps b1
  go_wp2
  go_ret
  exact H2.out

theorem askBytes_any (p : Nat × Nat) (w : World) (h1 : p.1 < 4294967296) (h2 : p.2 < 256) :
    Calls Tryd.prog 53 #[.agg #[.int .u32 (p.1 : Int), .int .u8 (p.2 : Int)]] w (Byt w (bytesN p.1 4 ++ [UInt8.ofNat p.2, 0, 0, 0])) := by
  obtain ⟨x0, x1⟩ := p
  dsimp only at h1 h2 ⊢
  have hps : putS [(x0, 4), (x1, 1), (0, 3)] = bytesN x0 4 ++ [UInt8.ofNat x1, 0, 0, 0] := by simp [putS, putOne, sizeB, bytesN]
  have hw_x1 : IntKind.u64.wrap (x1 : Int) = (x1 : Int) := IntWalk.u64_in _ (by omega)
  have b1 := (Below.refl w.heap.size w).alloc (Nat.le_refl _) (.cells #[.int .u32 (x0 : Int), .int .u8 (x1 : Int)] 86)
  have hw := Whole.new w 86 #[.int .u32 (x0 : Int), .int .u8 (x1 : Int)]
  obtain ⟨wo, hwo⟩ : ∃ wo, w.alloc (.cells #[.int .u32 (x0 : Int), .int .u8 (x1 : Int)] 86) = wo := ⟨_, rfl⟩
  obtain ⟨bx, hbx⟩ : ∃ bx, w.heap.size = bx := ⟨_, rfl⟩
  rw [hwo] at b1 hw
  have KEEP := Lib.hid (fun w' (b : Below wo.heap.size wo w') => show w'.cell? ⟨bx, 0, none⟩ = some (.int .u32 (x0 : Int)) ∧ w'.cell? ⟨bx, 1, none⟩ = some (.int .u8 (x1 : Int)) ∧ Below wo.heap.size wo w' from by
    have h := hw.below b hw.lt
    rw [hbx] at h
    exact ⟨h.cell 0, h.cell 1, b⟩)
  have HP := Lib.hid (fun w1 (b2 : Below wo.heap.size wo w1) => (put_fresh w1 #[.int .u64 (x0 : Int), .int .i64 4, .int .u64 (IntKind.u64.wrap (x1 : Int)), .int .i64 1, .int .u64 0, .int .i64 3] 90 [(x0, 4), (x1, 1), (0, 3)] _ 3 (by simp only [hw_x1]; rfl) rfl (by omega) (by simp; omega) hps).mono fun e w2 h2 => h2.at b2)
  have C4 := Lib.hid (fun (x : Nat) (hx : x < 4294967296) w' (b : Below wo.heap.size wo w') => show Calls Tryd.prog 60 #[.int .u32 (x : Int)] w' (fun e w'' => e = .returned (.agg #[.int .u64 (x : Int), .int .i64 4]) ∧ Below wo.heap.size wo w'') from (wordPart_any x w' hx).mono fun e w'' hh => ⟨hh.1, bnextA b hh.2⟩)
  obtain ⟨k0, k1, _⟩ := KEEP.out _ (Below.refl _ _)
  have HB1 := Lib.hid b1
  clear hw hps b1 hw_x1
  go_enter Tryd.func53, Tryd.ntmps53
  go_wp2_with fail
  clear hwo hbx
  go_region_held3 (fun w' => w'.cell? ⟨bx, 0, none⟩ = some (.int .u32 (x0 : Int)) ∧ w'.cell? ⟨bx, 1, none⟩ = some (.int .u8 (x1 : Int)) ∧ Below wo.heap.size wo w')
    (first | exact KEEP.out _ (Below.refl _ _).drew | exact KEEP.out _ b9 | exact KEEP.out _ (b9.alloc b9.size _) | go_keep)
    (first
      | (go_at_call 60; refine (C4.out _ ?_ _ ?_).mono ?_; (omega); (exact (‹_ ∧ _ ∧ Below _ _ _›).2.2); rintro e w9 ⟨rfl, b9⟩)
      | (go_at_call 32; refine (HP.out _ b9).mono ?_; rintro e w3 ⟨A3, c3, rfl, own3, b9⟩))
  have HF : Byt w _ _ _ := ⟨A3, c3, rfl, oown_base own3 HB1.out.size, bnextA HB1.out b9⟩
  have HFH := Lib.hid HF
  clear HF own3 b9 KEEP HP C4 HB1
  go_wp2
  go_ret
  exact HFH.out

theorem infoBytes_any (x0 x1 x2 x3 : Nat) (w : World) (f0 : x0 < 18446744073709551616) (f1 : x1 < 4294967296) (f2 : x2 < 4294967296) (f3 : x3 < 4294967296) :
    Calls Tryd.prog 46 #[.agg #[.int .u64 (x0 : Int), .int .u32 (x1 : Int), .int .u32 (x2 : Int), .int .u32 (x3 : Int)]] w (Byt w (bytesN x0 8 ++ (bytesN x1 4 ++ (bytesN x2 4 ++ bytesN x3 4)))) := by
  have hps : putS [(x0, 8), (x1, 4), (x2, 4), (x3, 4)] = bytesN x0 8 ++ (bytesN x1 4 ++ (bytesN x2 4 ++ bytesN x3 4)) := by simp [putS, putOne, sizeB]
  have b1 := (Below.refl w.heap.size w).alloc (Nat.le_refl _) (.cells #[.int .u64 (x0 : Int), .int .u32 (x1 : Int), .int .u32 (x2 : Int), .int .u32 (x3 : Int)] 54)
  have hw := Whole.new w 54 #[.int .u64 (x0 : Int), .int .u32 (x1 : Int), .int .u32 (x2 : Int), .int .u32 (x3 : Int)]
  obtain ⟨wo, hwo⟩ : ∃ wo, w.alloc (.cells #[.int .u64 (x0 : Int), .int .u32 (x1 : Int), .int .u32 (x2 : Int), .int .u32 (x3 : Int)] 54) = wo := ⟨_, rfl⟩
  obtain ⟨bx, hbx⟩ : ∃ bx, w.heap.size = bx := ⟨_, rfl⟩
  rw [hwo] at b1 hw
  have KEEP := Lib.hid (fun w' (b : Below wo.heap.size wo w') => show w'.cell? ⟨bx, 0, none⟩ = some (.int .u64 (x0 : Int)) ∧ w'.cell? ⟨bx, 1, none⟩ = some (.int .u32 (x1 : Int)) ∧ w'.cell? ⟨bx, 2, none⟩ = some (.int .u32 (x2 : Int)) ∧ w'.cell? ⟨bx, 3, none⟩ = some (.int .u32 (x3 : Int)) ∧ Below wo.heap.size wo w' from by
    have h := hw.below b hw.lt
    rw [hbx] at h
    exact ⟨h.cell 0, h.cell 1, h.cell 2, h.cell 3, b⟩)
  have HP := Lib.hid (fun w1 (b2 : Below wo.heap.size wo w1) => (put_fresh w1 #[.int .u64 (x0 : Int), .int .i64 8, .int .u64 (x1 : Int), .int .i64 4, .int .u64 (x2 : Int), .int .i64 4, .int .u64 (x3 : Int), .int .i64 4] 90 [(x0, 8), (x1, 4), (x2, 4), (x3, 4)] _ 4 (by rfl) rfl (by omega) (by simp; omega) hps).mono fun e w2 h2 => h2.at b2)
  have C4 := Lib.hid (fun (x : Nat) (hx : x < 4294967296) w' (b : Below wo.heap.size wo w') => show Calls Tryd.prog 60 #[.int .u32 (x : Int)] w' (fun e w'' => e = .returned (.agg #[.int .u64 (x : Int), .int .i64 4]) ∧ Below wo.heap.size wo w'') from (wordPart_any x w' hx).mono fun e w'' hh => ⟨hh.1, bnextA b hh.2⟩)
  obtain ⟨k0, k1, k2, k3, _⟩ := KEEP.out _ (Below.refl _ _)
  have HB1 := Lib.hid b1
  clear hw hps b1 
  go_enter Tryd.func46, Tryd.ntmps46
  go_wp2_with fail
  clear hwo hbx
  go_region_held3 (fun w' => w'.cell? ⟨bx, 0, none⟩ = some (.int .u64 (x0 : Int)) ∧ w'.cell? ⟨bx, 1, none⟩ = some (.int .u32 (x1 : Int)) ∧ w'.cell? ⟨bx, 2, none⟩ = some (.int .u32 (x2 : Int)) ∧ w'.cell? ⟨bx, 3, none⟩ = some (.int .u32 (x3 : Int)) ∧ Below wo.heap.size wo w')
    (first | exact KEEP.out _ (Below.refl _ _).drew | exact KEEP.out _ b9 | exact KEEP.out _ (b9.alloc b9.size _) | go_keep)
    (first
      | (go_at_call 60; refine (C4.out _ ?_ _ ?_).mono ?_; (omega); (exact (‹_ ∧ _ ∧ _ ∧ _ ∧ Below _ _ _›).2.2.2.2); rintro e w9 ⟨rfl, b9⟩)
      | (go_at_call 32; refine (HP.out _ b9).mono ?_; rintro e w3 ⟨A3, c3, rfl, own3, b9⟩))
  have HF : Byt w _ _ _ := ⟨A3, c3, rfl, oown_base own3 HB1.out.size, bnextA HB1.out b9⟩
  have HFH := Lib.hid HF
  clear HF own3 b9 KEEP HP C4 HB1
  go_wp2
  go_ret
  exact HFH.out

theorem reportBytes_any (r : Rp) (w : World) (hf : r.Fits) :
    Calls Tryd.prog 48 #[.agg r.cells.toArray] w (Byt w r.enc) := by
  obtain ⟨x0, x1, x2, x3, x4, x5, x6⟩ := r
  obtain ⟨f0, f1, f2, f3, f4, f5, f6⟩ := hf
  dsimp only at f0 f1 f2 f3 f4 f5 f6
  show Calls Tryd.prog 48 #[.agg #[.int .u32 (x0 : Int), .int .u8 (x1 : Int), .int .u32 (x2 : Int), .int .u32 (x3 : Int), .int .u32 (x4 : Int), .int .u32 (x5 : Int), .int .u32 (x6 : Int)]] w (Byt w (bytesN x0 4 ++ ([UInt8.ofNat x1] ++ (bytesN x2 3 ++ (bytesN x3 4 ++ (bytesN x4 4 ++ (bytesN x5 4 ++ bytesN x6 4)))))))
  have hps : putS [(x0, 4), (x1, 1), (x2, 3), (x3, 4), (x4, 4), (x5, 4), (x6, 4)] = bytesN x0 4 ++ ([UInt8.ofNat x1] ++ (bytesN x2 3 ++ (bytesN x3 4 ++ (bytesN x4 4 ++ (bytesN x5 4 ++ bytesN x6 4))))) := by simp [putS, putOne, sizeB, bytesN]
  have hw_x1 : IntKind.u64.wrap (x1 : Int) = (x1 : Int) := IntWalk.u64_in _ (by omega)
  have hw_x2 : IntKind.u64.wrap (x2 : Int) = (x2 : Int) := IntWalk.u64_in _ (by omega)
  have b1 := (Below.refl w.heap.size w).alloc (Nat.le_refl _) (.cells #[.int .u32 (x0 : Int), .int .u8 (x1 : Int), .int .u32 (x2 : Int), .int .u32 (x3 : Int), .int .u32 (x4 : Int), .int .u32 (x5 : Int), .int .u32 (x6 : Int)] 82)
  have hw := Whole.new w 82 #[.int .u32 (x0 : Int), .int .u8 (x1 : Int), .int .u32 (x2 : Int), .int .u32 (x3 : Int), .int .u32 (x4 : Int), .int .u32 (x5 : Int), .int .u32 (x6 : Int)]
  obtain ⟨wo, hwo⟩ : ∃ wo, w.alloc (.cells #[.int .u32 (x0 : Int), .int .u8 (x1 : Int), .int .u32 (x2 : Int), .int .u32 (x3 : Int), .int .u32 (x4 : Int), .int .u32 (x5 : Int), .int .u32 (x6 : Int)] 82) = wo := ⟨_, rfl⟩
  obtain ⟨bx, hbx⟩ : ∃ bx, w.heap.size = bx := ⟨_, rfl⟩
  rw [hwo] at b1 hw
  have KEEP := Lib.hid (fun w' (b : Below wo.heap.size wo w') => show w'.cell? ⟨bx, 0, none⟩ = some (.int .u32 (x0 : Int)) ∧ w'.cell? ⟨bx, 1, none⟩ = some (.int .u8 (x1 : Int)) ∧ w'.cell? ⟨bx, 2, none⟩ = some (.int .u32 (x2 : Int)) ∧ w'.cell? ⟨bx, 3, none⟩ = some (.int .u32 (x3 : Int)) ∧ w'.cell? ⟨bx, 4, none⟩ = some (.int .u32 (x4 : Int)) ∧ w'.cell? ⟨bx, 5, none⟩ = some (.int .u32 (x5 : Int)) ∧ w'.cell? ⟨bx, 6, none⟩ = some (.int .u32 (x6 : Int)) ∧ Below wo.heap.size wo w' from by
    have h := hw.below b hw.lt
    rw [hbx] at h
    exact ⟨h.cell 0, h.cell 1, h.cell 2, h.cell 3, h.cell 4, h.cell 5, h.cell 6, b⟩)
  have HP := Lib.hid (fun w1 (b2 : Below wo.heap.size wo w1) => (put_fresh w1 #[.int .u64 (x0 : Int), .int .i64 4, .int .u64 (IntKind.u64.wrap (x1 : Int)), .int .i64 1, .int .u64 (IntKind.u64.wrap (x2 : Int)), .int .i64 3, .int .u64 (x3 : Int), .int .i64 4, .int .u64 (x4 : Int), .int .i64 4, .int .u64 (x5 : Int), .int .i64 4, .int .u64 (x6 : Int), .int .i64 4] 90 [(x0, 4), (x1, 1), (x2, 3), (x3, 4), (x4, 4), (x5, 4), (x6, 4)] _ 7 (by simp only [hw_x1, hw_x2]; rfl) rfl (by omega) (by simp; omega) hps).mono fun e w2 h2 => h2.at b2)
  have C4 := Lib.hid (fun (x : Nat) (hx : x < 4294967296) w' (b : Below wo.heap.size wo w') => show Calls Tryd.prog 60 #[.int .u32 (x : Int)] w' (fun e w'' => e = .returned (.agg #[.int .u64 (x : Int), .int .i64 4]) ∧ Below wo.heap.size wo w'') from (wordPart_any x w' hx).mono fun e w'' hh => ⟨hh.1, bnextA b hh.2⟩)
  obtain ⟨k0, k1, k2, k3, k4, k5, k6, _⟩ := KEEP.out _ (Below.refl _ _)
  have HB1 := Lib.hid b1
  clear hw hps b1 hw_x1 hw_x2
  go_enter Tryd.func48, Tryd.ntmps48
  go_wp2_with fail
  clear hwo hbx
  go_region_held3 (fun w' => w'.cell? ⟨bx, 0, none⟩ = some (.int .u32 (x0 : Int)) ∧ w'.cell? ⟨bx, 1, none⟩ = some (.int .u8 (x1 : Int)) ∧ w'.cell? ⟨bx, 2, none⟩ = some (.int .u32 (x2 : Int)) ∧ w'.cell? ⟨bx, 3, none⟩ = some (.int .u32 (x3 : Int)) ∧ w'.cell? ⟨bx, 4, none⟩ = some (.int .u32 (x4 : Int)) ∧ w'.cell? ⟨bx, 5, none⟩ = some (.int .u32 (x5 : Int)) ∧ w'.cell? ⟨bx, 6, none⟩ = some (.int .u32 (x6 : Int)) ∧ Below wo.heap.size wo w')
    (first | exact KEEP.out _ (Below.refl _ _).drew | exact KEEP.out _ b9 | exact KEEP.out _ (b9.alloc b9.size _) | go_keep)
    (first
      | (go_at_call 60; refine (C4.out _ ?_ _ ?_).mono ?_; (omega); (exact (‹_ ∧ _ ∧ _ ∧ _ ∧ _ ∧ _ ∧ _ ∧ Below _ _ _›).2.2.2.2.2.2.2); rintro e w9 ⟨rfl, b9⟩)
      | (go_at_call 32; refine (HP.out _ b9).mono ?_; rintro e w3 ⟨A3, c3, rfl, own3, b9⟩))
  have HF : Byt w _ _ _ := ⟨A3, c3, rfl, oown_base own3 HB1.out.size, bnextA HB1.out b9⟩
  have HFH := Lib.hid HF
  clear HF own3 b9 KEEP HP C4 HB1
  go_wp2
  go_ret
  exact HFH.out
end Go.Proofs.YtcjmiidnhbmclaaDoor
