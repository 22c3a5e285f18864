/-
  Contracts of package rtcp's body of a message, kind by kind.
-/
import Derived.Test.YtcjmiidnhbmclaaDoorRcC
namespace Go.Proofs.YtcjmiidnhbmclaaDoor
open Go.RowKit
set_option maxRecDepth 100000

theorem concat2 (w : World) (t : TypeId) (A1 A2 : Option Addr) (c1 c2 : Nat) (s1 s2 bs : List UInt8) (h1 : Row w w.heap.size 1 A1 s1.length (u8s s1)) (h2 : Row w w.heap.size 1 A2 s2.length (u8s s2)) (l1 : s1.length ≤ 2000) (l2 : s2.length ≤ 2000) (hbs : s1 ++ s2 = bs) :
    Calls Tryd.prog 44 #[.slice (some ⟨w.heap.size, 0, none⟩) 2 2] (w.alloc (.cells #[.slice A1 s1.length c1, .slice A2 s2.length c2] t)) (Byt w bs) := by
  have e : joinB [(A1, c1, s1), (A2, c2, s2)] = bs := by simp [joinB, ← hbs]
  rw [← e]
  refine (concat_any w.heap.size 2 2 [(A1, c1, s1), (A2, c2, s2)] _ rfl (fun j s hj => ?_) (by simp) (fun s hs => ?_) (by omega) (fun s hs => ?_)).mono fun e w' h => h.at ((Below.refl _ _).alloc (Nat.le_refl _) _)
  · match j, hj with
    | 0, hj => simp at hj; subst hj; simp
    | 1, hj => simp at hj; subst hj; simp
  · simp at hs
    rcases hs with rfl | rfl
    · exact (h1.alloc (Nat.le_refl _) _).more (by simp)
    · exact (h2.alloc (Nat.le_refl _) _).more (by simp)
  · simp at hs
    rcases hs with rfl | rfl <;> assumption
theorem concat3 (w : World) (t : TypeId) (A1 A2 A3 : Option Addr) (c1 c2 c3 : Nat) (s1 s2 s3 bs : List UInt8) (h1 : Row w w.heap.size 1 A1 s1.length (u8s s1)) (h2 : Row w w.heap.size 1 A2 s2.length (u8s s2)) (h3 : Row w w.heap.size 1 A3 s3.length (u8s s3)) (l1 : s1.length ≤ 2000) (l2 : s2.length ≤ 2000) (l3 : s3.length ≤ 2000) (hbs : s1 ++ (s2 ++ s3) = bs) :
    Calls Tryd.prog 44 #[.slice (some ⟨w.heap.size, 0, none⟩) 3 3] (w.alloc (.cells #[.slice A1 s1.length c1, .slice A2 s2.length c2, .slice A3 s3.length c3] t)) (Byt w bs) := by
  have e : joinB [(A1, c1, s1), (A2, c2, s2), (A3, c3, s3)] = bs := by simp [joinB, ← hbs]
  rw [← e]
  refine (concat_any w.heap.size 3 3 [(A1, c1, s1), (A2, c2, s2), (A3, c3, s3)] _ rfl (fun j s hj => ?_) (by simp) (fun s hs => ?_) (by omega) (fun s hs => ?_)).mono fun e w' h => h.at ((Below.refl _ _).alloc (Nat.le_refl _) _)
  · match j, hj with
    | 0, hj => simp at hj; subst hj; simp
    | 1, hj => simp at hj; subst hj; simp
    | 2, hj => simp at hj; subst hj; simp
  · simp at hs
    rcases hs with rfl | rfl | rfl
    · exact (h1.alloc (Nat.le_refl _) _).more (by simp)
    · exact (h2.alloc (Nat.le_refl _) _).more (by simp)
    · exact (h3.alloc (Nat.le_refl _) _).more (by simp)
  · simp at hs
    rcases hs with rfl | rfl | rfl <;> assumption

set_option maxHeartbeats 1600000 in
theorem body0_any (m : Ms) (s : Sl) (w : World) (hk : m.kind = 0) (h : CmAt w w.heap.size m s) (hf : m.Fits) (hw : m.Few) : Calls Tryd.prog 31 #[.agg (m.cells s).toArray] w (Byt w m.body) := by
  obtain ⟨kind, x1, x2, x3, x4, x5, x6, reps, who, pairs, asks, x11⟩ := m
  obtain ⟨_, g1, g2, g3, g4, g5, g6, g7, g8, g9, g10, g11⟩ := hf
  obtain ⟨n1, n2, n3, n4⟩ := hw
  dsimp only at hk g1 g2 g3 g4 g5 g6 g7 g8 g9 g10 g11 n1 n2 n3 n4
  subst hk
  have hbody : Ms.body ⟨0, x1, x2, x3, x4, x5, x6, reps, who, pairs, asks, x11⟩ = bytesN x1 4 ++ (bytesN x3 8 ++ (bytesN x4 4 ++ (bytesN x5 4 ++ (bytesN x6 4 ++ repE reps)))) := by simp [Ms.body]
  rw [hbody]
  clear hbody
  show Calls Tryd.prog 31 #[.agg #[.int .i64 0, .int .u32 (x1 : Int), .int .u32 (x2 : Int), .int .u64 (x3 : Int), .int .u32 (x4 : Int), .int .u32 (x5 : Int), .int .u32 (x6 : Int), .slice s.rA reps.length s.rc, .slice s.wA who.length s.wc, .slice s.pA pairs.length s.pc, .slice s.aA asks.length s.ac, .int .u8 (x11 : Int)]] w (Byt w (bytesN x1 4 ++ (bytesN x3 8 ++ (bytesN x4 4 ++ (bytesN x5 4 ++ (bytesN x6 4 ++ repE reps))))))
  have b0 := (Below.refl w.heap.size w).alloc (Nat.le_refl _) (.cells #[.int .i64 0, .int .u32 (x1 : Int), .int .u32 (x2 : Int), .int .u64 (x3 : Int), .int .u32 (x4 : Int), .int .u32 (x5 : Int), .int .u32 (x6 : Int), .slice s.rA reps.length s.rc, .slice s.wA who.length s.wc, .slice s.pA pairs.length s.pc, .slice s.aA asks.length s.ac, .int .u8 (x11 : Int)] 59)
  have hw := Whole.new w 59 #[.int .i64 0, .int .u32 (x1 : Int), .int .u32 (x2 : Int), .int .u64 (x3 : Int), .int .u32 (x4 : Int), .int .u32 (x5 : Int), .int .u32 (x6 : Int), .slice s.rA reps.length s.rc, .slice s.wA who.length s.wc, .slice s.pA pairs.length s.pc, .slice s.aA asks.length s.ac, .int .u8 (x11 : Int)]
  obtain ⟨wo, hwo⟩ : ∃ wo, w.alloc (.cells #[.int .i64 0, .int .u32 (x1 : Int), .int .u32 (x2 : Int), .int .u64 (x3 : Int), .int .u32 (x4 : Int), .int .u32 (x5 : Int), .int .u32 (x6 : Int), .slice s.rA reps.length s.rc, .slice s.wA who.length s.wc, .slice s.pA pairs.length s.pc, .slice s.aA asks.length s.ac, .int .u8 (x11 : Int)] 59) = wo := ⟨_, rfl⟩
  obtain ⟨bx, hbx⟩ : ∃ bx, w.heap.size = bx := ⟨_, rfl⟩
  rw [hwo] at b0 hw
  have KEEP := Lib.hid (fun w' (b : Below wo.heap.size wo w') => show w'.cell? ⟨bx, 0, none⟩ = some (.int .i64 0) ∧ w'.cell? ⟨bx, 1, none⟩ = some (.int .u32 (x1 : Int)) ∧ w'.cell? ⟨bx, 3, none⟩ = some (.int .u64 (x3 : Int)) ∧ w'.cell? ⟨bx, 4, none⟩ = some (.int .u32 (x4 : Int)) ∧ w'.cell? ⟨bx, 5, none⟩ = some (.int .u32 (x5 : Int)) ∧ w'.cell? ⟨bx, 6, none⟩ = some (.int .u32 (x6 : Int)) ∧ w'.cell? ⟨bx, 7, none⟩ = some (.slice s.rA reps.length s.rc) ∧ Below wo.heap.size wo w' from by
    have h := hw.below b hw.lt
    rw [hbx] at h
    exact ⟨h.cell 0, h.cell 1, h.cell 3, h.cell 4, h.cell 5, h.cell 6, h.cell 7, b⟩)
  have bh : ∀ w', Below wo.heap.size wo w' → Below w.heap.size w w' := fun w' b => bnextA b0 b
  have C1 := Lib.hid (fun w' (b : Below wo.heap.size wo w') => show Calls Tryd.prog 45 #[.int .u32 (x1 : Int)] w' (fun e w'' => Byt w' (bytesN x1 4) e w'' ∧ Below wo.heap.size wo w'') from (wordBytes_any x1 w' g1).mono fun e w'' hh => ⟨hh, (by obtain ⟨_, _, _, _, b2⟩ := hh; exact bnextA b b2)⟩)
  obtain ⟨bs1, hbs1⟩ : ∃ b, (bytesN x1 4) = b := ⟨_, rfl⟩
  have hl1 : bs1.length ≤ 2000 := by rw [← hbs1]; simp [bytesN_length]
  rw [hbs1] at C1
  have C2 := Lib.hid (fun w' (b : Below wo.heap.size wo w') => show Calls Tryd.prog 46 #[.agg #[.int .u64 (x3 : Int), .int .u32 (x4 : Int), .int .u32 (x5 : Int), .int .u32 (x6 : Int)]] w' (fun e w'' => Byt w' (bytesN x3 8 ++ (bytesN x4 4 ++ (bytesN x5 4 ++ bytesN x6 4))) e w'' ∧ Below wo.heap.size wo w'') from (infoBytes_any x3 x4 x5 x6 w' g3 g4 g5 g6).mono fun e w'' hh => ⟨hh, (by obtain ⟨_, _, _, _, b2⟩ := hh; exact bnextA b b2)⟩)
  obtain ⟨bs2, hbs2⟩ : ∃ b, (bytesN x3 8 ++ (bytesN x4 4 ++ (bytesN x5 4 ++ bytesN x6 4))) = b := ⟨_, rfl⟩
  have hl2 : bs2.length ≤ 2000 := by rw [← hbs2]; simp [bytesN_length]
  rw [hbs2] at C2
  have C3 := Lib.hid (fun w' (b : Below wo.heap.size wo w') => show Calls Tryd.prog 47 #[.slice s.rA reps.length s.rc, .func (.func 48) #[] #[]] w' (fun e w'' => Byt w' (repE reps) e w'' ∧ Below wo.heap.size wo w'') from (eachRep_any s.rA s.rc _ reps w' ((h.reps.below (bh w' b) (Nat.le_refl _)).more (bh w' b).size) rfl (by omega) g7).mono fun e w'' hh => ⟨hh, (by obtain ⟨_, _, _, _, b2⟩ := hh; exact bnextA b b2)⟩)
  obtain ⟨bs3, hbs3⟩ : ∃ b, (repE reps) = b := ⟨_, rfl⟩
  have hl3 : bs3.length ≤ 2000 := by rw [← hbs3]; rw [repE_length]; omega
  rw [hbs3] at C3
  have HL := Lib.hid (show bs1.length ≤ 2000 ∧ bs2.length ≤ 2000 ∧ bs3.length ≤ 2000 from ⟨hl1, hl2, hl3⟩)
  have hfull : bs1 ++ (bs2 ++ (bs3)) = bytesN x1 4 ++ (bytesN x3 8 ++ (bytesN x4 4 ++ (bytesN x5 4 ++ (bytesN x6 4 ++ repE reps)))) := by rw [← hbs1, ← hbs2, ← hbs3]; simp [List.append_assoc]
  obtain ⟨full, hfu⟩ : ∃ b, (bytesN x1 4 ++ (bytesN x3 8 ++ (bytesN x4 4 ++ (bytesN x5 4 ++ (bytesN x6 4 ++ repE reps))))) = b := ⟨_, rfl⟩
  rw [hfu] at hfull ⊢
  have HFL := Lib.hid hfull
  have HB0 := Lib.hid b0
  obtain ⟨k0, k1, k3, k4, k5, k6, k7, _⟩ := KEEP.out _ (Below.refl _ _)
  clear hw bh h b0 hfull hfu hbs1 hbs2 hbs3 g7 g8 g9 g10 hl1 hl2 hl3
  go_enter Tryd.func31, Tryd.ntmps31
  go_wp2_with fail
  clear hwo hbx
  go_region_held3 (fun w' => w'.cell? ⟨bx, 0, none⟩ = some (.int .i64 0) ∧ w'.cell? ⟨bx, 1, none⟩ = some (.int .u32 (x1 : Int)) ∧ w'.cell? ⟨bx, 3, none⟩ = some (.int .u64 (x3 : Int)) ∧ w'.cell? ⟨bx, 4, none⟩ = some (.int .u32 (x4 : Int)) ∧ w'.cell? ⟨bx, 5, none⟩ = some (.int .u32 (x5 : Int)) ∧ w'.cell? ⟨bx, 6, none⟩ = some (.int .u32 (x6 : Int)) ∧ w'.cell? ⟨bx, 7, none⟩ = some (.slice s.rA reps.length s.rc) ∧ Below wo.heap.size wo w')
    (first | exact KEEP.out _ (Below.refl _ _).drew | exact KEEP.out _ b4 | exact KEEP.out _ (b3.alloc b3.size _) | exact KEEP.out _ b3 | exact KEEP.out _ b2 | exact KEEP.out _ b1 | go_keep)
    (first
      | (go_at_call 45; refine (C1.out _ ?_).mono ?_; (exact (‹_ ∧ _ ∧ _ ∧ _ ∧ _ ∧ _ ∧ _ ∧ Below _ _ _›).2.2.2.2.2.2.2); rintro e w1 ⟨⟨A1, c1, rfl, o1, s1⟩, b1⟩)
      | (go_at_call 46; refine (C2.out _ ?_).mono ?_; (exact (‹_ ∧ _ ∧ _ ∧ _ ∧ _ ∧ _ ∧ _ ∧ Below _ _ _›).2.2.2.2.2.2.2); rintro e w2 ⟨⟨A2, c2, rfl, o2, s2⟩, b2⟩)
      | (go_at_call 47; refine (C3.out _ ?_).mono ?_; (exact (‹_ ∧ _ ∧ _ ∧ _ ∧ _ ∧ _ ∧ _ ∧ Below _ _ _›).2.2.2.2.2.2.2); rintro e w3 ⟨⟨A3, c3, rfl, o3, s3⟩, b3⟩)
      | (go_at_call 44; refine (concat3 _ _ A1 A2 A3 c1 c2 c3 bs1 bs2 bs3 full ((((Row.of_own o1).below s2 (Nat.le_refl _)).below s3 s2.size).more (Nat.le_trans s2.size s3.size)) (((Row.of_own o2).below s3 (Nat.le_refl _)).more s3.size) (Row.of_own o3) HL.out.1 HL.out.2.1 HL.out.2.2 HFL.out).mono ?_; rintro e w4 ⟨A4, c4, rfl, o4, s4⟩; have b4 := bnextA b3 s4))
  have HFF := Lib.hid (show Byt w full (.returned (.slice A4 full.length c4)) w4 from ⟨A4, c4, rfl, oown_base o4 (Nat.le_trans HB0.out.size b3.size), bnextA HB0.out b4⟩)
  clear o1 o2 o3 o4 s1 s2 s3 s4 b1 b2 b3 b4 KEEP C1 C2 C3 HB0 HFL HL
  go_wp2
  go_ret
  exact HFF.out

set_option maxHeartbeats 1600000 in
theorem body1_any (m : Ms) (s : Sl) (w : World) (hk : m.kind = 1) (h : CmAt w w.heap.size m s) (hf : m.Fits) (hw : m.Few) : Calls Tryd.prog 31 #[.agg (m.cells s).toArray] w (Byt w m.body) := by
  obtain ⟨kind, x1, x2, x3, x4, x5, x6, reps, who, pairs, asks, x11⟩ := m
  obtain ⟨_, g1, g2, g3, g4, g5, g6, g7, g8, g9, g10, g11⟩ := hf
  obtain ⟨n1, n2, n3, n4⟩ := hw
  dsimp only at hk g1 g2 g3 g4 g5 g6 g7 g8 g9 g10 g11 n1 n2 n3 n4
  subst hk
  have hbody : Ms.body ⟨1, x1, x2, x3, x4, x5, x6, reps, who, pairs, asks, x11⟩ = bytesN x1 4 ++ repE reps := by simp [Ms.body]
  rw [hbody]
  clear hbody
  show Calls Tryd.prog 31 #[.agg #[.int .i64 1, .int .u32 (x1 : Int), .int .u32 (x2 : Int), .int .u64 (x3 : Int), .int .u32 (x4 : Int), .int .u32 (x5 : Int), .int .u32 (x6 : Int), .slice s.rA reps.length s.rc, .slice s.wA who.length s.wc, .slice s.pA pairs.length s.pc, .slice s.aA asks.length s.ac, .int .u8 (x11 : Int)]] w (Byt w (bytesN x1 4 ++ repE reps))
  have b0 := (Below.refl w.heap.size w).alloc (Nat.le_refl _) (.cells #[.int .i64 1, .int .u32 (x1 : Int), .int .u32 (x2 : Int), .int .u64 (x3 : Int), .int .u32 (x4 : Int), .int .u32 (x5 : Int), .int .u32 (x6 : Int), .slice s.rA reps.length s.rc, .slice s.wA who.length s.wc, .slice s.pA pairs.length s.pc, .slice s.aA asks.length s.ac, .int .u8 (x11 : Int)] 59)
  have hw := Whole.new w 59 #[.int .i64 1, .int .u32 (x1 : Int), .int .u32 (x2 : Int), .int .u64 (x3 : Int), .int .u32 (x4 : Int), .int .u32 (x5 : Int), .int .u32 (x6 : Int), .slice s.rA reps.length s.rc, .slice s.wA who.length s.wc, .slice s.pA pairs.length s.pc, .slice s.aA asks.length s.ac, .int .u8 (x11 : Int)]
  obtain ⟨wo, hwo⟩ : ∃ wo, w.alloc (.cells #[.int .i64 1, .int .u32 (x1 : Int), .int .u32 (x2 : Int), .int .u64 (x3 : Int), .int .u32 (x4 : Int), .int .u32 (x5 : Int), .int .u32 (x6 : Int), .slice s.rA reps.length s.rc, .slice s.wA who.length s.wc, .slice s.pA pairs.length s.pc, .slice s.aA asks.length s.ac, .int .u8 (x11 : Int)] 59) = wo := ⟨_, rfl⟩
  obtain ⟨bx, hbx⟩ : ∃ bx, w.heap.size = bx := ⟨_, rfl⟩
  rw [hwo] at b0 hw
  have KEEP := Lib.hid (fun w' (b : Below wo.heap.size wo w') => show w'.cell? ⟨bx, 0, none⟩ = some (.int .i64 1) ∧ w'.cell? ⟨bx, 1, none⟩ = some (.int .u32 (x1 : Int)) ∧ w'.cell? ⟨bx, 7, none⟩ = some (.slice s.rA reps.length s.rc) ∧ Below wo.heap.size wo w' from by
    have h := hw.below b hw.lt
    rw [hbx] at h
    exact ⟨h.cell 0, h.cell 1, h.cell 7, b⟩)
  have bh : ∀ w', Below wo.heap.size wo w' → Below w.heap.size w w' := fun w' b => bnextA b0 b
  have C1 := Lib.hid (fun w' (b : Below wo.heap.size wo w') => show Calls Tryd.prog 45 #[.int .u32 (x1 : Int)] w' (fun e w'' => Byt w' (bytesN x1 4) e w'' ∧ Below wo.heap.size wo w'') from (wordBytes_any x1 w' g1).mono fun e w'' hh => ⟨hh, (by obtain ⟨_, _, _, _, b2⟩ := hh; exact bnextA b b2)⟩)
  obtain ⟨bs1, hbs1⟩ : ∃ b, (bytesN x1 4) = b := ⟨_, rfl⟩
  have hl1 : bs1.length ≤ 2000 := by rw [← hbs1]; simp [bytesN_length]
  rw [hbs1] at C1
  have C2 := Lib.hid (fun w' (b : Below wo.heap.size wo w') => show Calls Tryd.prog 47 #[.slice s.rA reps.length s.rc, .func (.func 48) #[] #[]] w' (fun e w'' => Byt w' (repE reps) e w'' ∧ Below wo.heap.size wo w'') from (eachRep_any s.rA s.rc _ reps w' ((h.reps.below (bh w' b) (Nat.le_refl _)).more (bh w' b).size) rfl (by omega) g7).mono fun e w'' hh => ⟨hh, (by obtain ⟨_, _, _, _, b2⟩ := hh; exact bnextA b b2)⟩)
  obtain ⟨bs2, hbs2⟩ : ∃ b, (repE reps) = b := ⟨_, rfl⟩
  have hl2 : bs2.length ≤ 2000 := by rw [← hbs2]; rw [repE_length]; omega
  rw [hbs2] at C2
  have HL := Lib.hid (show bs1.length ≤ 2000 ∧ bs2.length ≤ 2000 from ⟨hl1, hl2⟩)
  have hfull : bs1 ++ (bs2) = bytesN x1 4 ++ repE reps := by rw [← hbs1, ← hbs2]
  obtain ⟨full, hfu⟩ : ∃ b, (bytesN x1 4 ++ repE reps) = b := ⟨_, rfl⟩
  rw [hfu] at hfull ⊢
  have HFL := Lib.hid hfull
  have HB0 := Lib.hid b0
  obtain ⟨k0, k1, k7, _⟩ := KEEP.out _ (Below.refl _ _)
  clear hw bh h b0 hfull hfu hbs1 hbs2 g7 g8 g9 g10 hl1 hl2
  go_enter Tryd.func31, Tryd.ntmps31
  go_wp2_with fail
  clear hwo hbx
  go_region_held3 (fun w' => w'.cell? ⟨bx, 0, none⟩ = some (.int .i64 1) ∧ w'.cell? ⟨bx, 1, none⟩ = some (.int .u32 (x1 : Int)) ∧ w'.cell? ⟨bx, 7, none⟩ = some (.slice s.rA reps.length s.rc) ∧ Below wo.heap.size wo w')
    (first | exact KEEP.out _ (Below.refl _ _).drew | exact KEEP.out _ b3 | exact KEEP.out _ (b2.alloc b2.size _) | exact KEEP.out _ b2 | exact KEEP.out _ b1 | go_keep)
    (first
      | (go_at_call 45; refine (C1.out _ ?_).mono ?_; (exact (‹_ ∧ _ ∧ _ ∧ Below _ _ _›).2.2.2); rintro e w1 ⟨⟨A1, c1, rfl, o1, s1⟩, b1⟩)
      | (go_at_call 47; refine (C2.out _ ?_).mono ?_; (exact (‹_ ∧ _ ∧ _ ∧ Below _ _ _›).2.2.2); rintro e w2 ⟨⟨A2, c2, rfl, o2, s2⟩, b2⟩)
      | (go_at_call 44; refine (concat2 _ _ A1 A2 c1 c2 bs1 bs2 full (((Row.of_own o1).below s2 (Nat.le_refl _)).more s2.size) (Row.of_own o2) HL.out.1 HL.out.2 HFL.out).mono ?_; rintro e w3 ⟨A3, c3, rfl, o3, s3⟩; have b3 := bnextA b2 s3))
  have HFF := Lib.hid (show Byt w full (.returned (.slice A3 full.length c3)) w3 from ⟨A3, c3, rfl, oown_base o3 (Nat.le_trans HB0.out.size b2.size), bnextA HB0.out b3⟩)
  clear o1 o2 o3 s1 s2 s3 b1 b2 b3 KEEP C1 C2 HB0 HFL HL
  go_wp2
  go_ret
  exact HFF.out

set_option maxHeartbeats 1600000 in
theorem body2_any (m : Ms) (s : Sl) (w : World) (hk : m.kind = 2) (h : CmAt w w.heap.size m s) (hf : m.Fits) (hw : m.Few) : Calls Tryd.prog 31 #[.agg (m.cells s).toArray] w (Byt w m.body) := by
  obtain ⟨kind, x1, x2, x3, x4, x5, x6, reps, who, pairs, asks, x11⟩ := m
  obtain ⟨_, g1, g2, g3, g4, g5, g6, g7, g8, g9, g10, g11⟩ := hf
  obtain ⟨n1, n2, n3, n4⟩ := hw
  dsimp only at hk g1 g2 g3 g4 g5 g6 g7 g8 g9 g10 g11 n1 n2 n3 n4
  subst hk
  have hbody : Ms.body ⟨2, x1, x2, x3, x4, x5, x6, reps, who, pairs, asks, x11⟩ = whoE who := by simp [Ms.body]
  rw [hbody]
  clear hbody
  show Calls Tryd.prog 31 #[.agg #[.int .i64 2, .int .u32 (x1 : Int), .int .u32 (x2 : Int), .int .u64 (x3 : Int), .int .u32 (x4 : Int), .int .u32 (x5 : Int), .int .u32 (x6 : Int), .slice s.rA reps.length s.rc, .slice s.wA who.length s.wc, .slice s.pA pairs.length s.pc, .slice s.aA asks.length s.ac, .int .u8 (x11 : Int)]] w (Byt w (whoE who))
  have b0 := (Below.refl w.heap.size w).alloc (Nat.le_refl _) (.cells #[.int .i64 2, .int .u32 (x1 : Int), .int .u32 (x2 : Int), .int .u64 (x3 : Int), .int .u32 (x4 : Int), .int .u32 (x5 : Int), .int .u32 (x6 : Int), .slice s.rA reps.length s.rc, .slice s.wA who.length s.wc, .slice s.pA pairs.length s.pc, .slice s.aA asks.length s.ac, .int .u8 (x11 : Int)] 59)
  have C := eachWho_any s.wA s.wc _ who (w.alloc (.cells #[.int .i64 2, .int .u32 (x1 : Int), .int .u32 (x2 : Int), .int .u64 (x3 : Int), .int .u32 (x4 : Int), .int .u32 (x5 : Int), .int .u32 (x6 : Int), .slice s.rA reps.length s.rc, .slice s.wA who.length s.wc, .slice s.pA pairs.length s.pc, .slice s.aA asks.length s.ac, .int .u8 (x11 : Int)] 59)) ((h.who.below b0 (Nat.le_refl _)).more b0.size) rfl (by omega) g8
  have HB := Lib.hid b0
  clear h g7 g8 g9 g10 b0
  go_enter Tryd.func31, Tryd.ntmps31
  go_wp2_with fail
  refine C.mono ?_
  rintro e w2 h2
  have H2 := Lib.hid (h2.at HB.out)
  obtain ⟨A, c, rfl, _, _⟩ := h2
  clear C HB
  go_wp2
  go_ret
  exact H2.out

set_option maxHeartbeats 1600000 in
theorem body3_any (m : Ms) (s : Sl) (w : World) (hk : m.kind = 3) (h : CmAt w w.heap.size m s) (hf : m.Fits) (hw : m.Few) : Calls Tryd.prog 31 #[.agg (m.cells s).toArray] w (Byt w m.body) := by
  obtain ⟨kind, x1, x2, x3, x4, x5, x6, reps, who, pairs, asks, x11⟩ := m
  obtain ⟨_, g1, g2, g3, g4, g5, g6, g7, g8, g9, g10, g11⟩ := hf
  obtain ⟨n1, n2, n3, n4⟩ := hw
  dsimp only at hk g1 g2 g3 g4 g5 g6 g7 g8 g9 g10 g11 n1 n2 n3 n4
  subst hk
  have hbody : Ms.body ⟨3, x1, x2, x3, x4, x5, x6, reps, who, pairs, asks, x11⟩ = bytesN x1 4 ++ (bytesN x2 4 ++ pairE pairs) := by simp [Ms.body]
  rw [hbody]
  clear hbody
  show Calls Tryd.prog 31 #[.agg #[.int .i64 3, .int .u32 (x1 : Int), .int .u32 (x2 : Int), .int .u64 (x3 : Int), .int .u32 (x4 : Int), .int .u32 (x5 : Int), .int .u32 (x6 : Int), .slice s.rA reps.length s.rc, .slice s.wA who.length s.wc, .slice s.pA pairs.length s.pc, .slice s.aA asks.length s.ac, .int .u8 (x11 : Int)]] w (Byt w (bytesN x1 4 ++ (bytesN x2 4 ++ pairE pairs)))
  have b0 := (Below.refl w.heap.size w).alloc (Nat.le_refl _) (.cells #[.int .i64 3, .int .u32 (x1 : Int), .int .u32 (x2 : Int), .int .u64 (x3 : Int), .int .u32 (x4 : Int), .int .u32 (x5 : Int), .int .u32 (x6 : Int), .slice s.rA reps.length s.rc, .slice s.wA who.length s.wc, .slice s.pA pairs.length s.pc, .slice s.aA asks.length s.ac, .int .u8 (x11 : Int)] 59)
  have hw := Whole.new w 59 #[.int .i64 3, .int .u32 (x1 : Int), .int .u32 (x2 : Int), .int .u64 (x3 : Int), .int .u32 (x4 : Int), .int .u32 (x5 : Int), .int .u32 (x6 : Int), .slice s.rA reps.length s.rc, .slice s.wA who.length s.wc, .slice s.pA pairs.length s.pc, .slice s.aA asks.length s.ac, .int .u8 (x11 : Int)]
  obtain ⟨wo, hwo⟩ : ∃ wo, w.alloc (.cells #[.int .i64 3, .int .u32 (x1 : Int), .int .u32 (x2 : Int), .int .u64 (x3 : Int), .int .u32 (x4 : Int), .int .u32 (x5 : Int), .int .u32 (x6 : Int), .slice s.rA reps.length s.rc, .slice s.wA who.length s.wc, .slice s.pA pairs.length s.pc, .slice s.aA asks.length s.ac, .int .u8 (x11 : Int)] 59) = wo := ⟨_, rfl⟩
  obtain ⟨bx, hbx⟩ : ∃ bx, w.heap.size = bx := ⟨_, rfl⟩
  rw [hwo] at b0 hw
  have KEEP := Lib.hid (fun w' (b : Below wo.heap.size wo w') => show w'.cell? ⟨bx, 0, none⟩ = some (.int .i64 3) ∧ w'.cell? ⟨bx, 1, none⟩ = some (.int .u32 (x1 : Int)) ∧ w'.cell? ⟨bx, 2, none⟩ = some (.int .u32 (x2 : Int)) ∧ w'.cell? ⟨bx, 9, none⟩ = some (.slice s.pA pairs.length s.pc) ∧ Below wo.heap.size wo w' from by
    have h := hw.below b hw.lt
    rw [hbx] at h
    exact ⟨h.cell 0, h.cell 1, h.cell 2, h.cell 9, b⟩)
  have bh : ∀ w', Below wo.heap.size wo w' → Below w.heap.size w w' := fun w' b => bnextA b0 b
  have C1 := Lib.hid (fun w' (b : Below wo.heap.size wo w') => show Calls Tryd.prog 45 #[.int .u32 (x1 : Int)] w' (fun e w'' => Byt w' (bytesN x1 4) e w'' ∧ Below wo.heap.size wo w'') from (wordBytes_any x1 w' g1).mono fun e w'' hh => ⟨hh, (by obtain ⟨_, _, _, _, b2⟩ := hh; exact bnextA b b2)⟩)
  obtain ⟨bs1, hbs1⟩ : ∃ b, (bytesN x1 4) = b := ⟨_, rfl⟩
  have hl1 : bs1.length ≤ 2000 := by rw [← hbs1]; simp [bytesN_length]
  rw [hbs1] at C1
  have C2 := Lib.hid (fun w' (b : Below wo.heap.size wo w') => show Calls Tryd.prog 45 #[.int .u32 (x2 : Int)] w' (fun e w'' => Byt w' (bytesN x2 4) e w'' ∧ Below wo.heap.size wo w'') from (wordBytes_any x2 w' g2).mono fun e w'' hh => ⟨hh, (by obtain ⟨_, _, _, _, b2⟩ := hh; exact bnextA b b2)⟩)
  obtain ⟨bs2, hbs2⟩ : ∃ b, (bytesN x2 4) = b := ⟨_, rfl⟩
  have hl2 : bs2.length ≤ 2000 := by rw [← hbs2]; simp [bytesN_length]
  rw [hbs2] at C2
  have C3 := Lib.hid (fun w' (b : Below wo.heap.size wo w') => show Calls Tryd.prog 50 #[.slice s.pA pairs.length s.pc, .func (.func 51) #[] #[]] w' (fun e w'' => Byt w' (pairE pairs) e w'' ∧ Below wo.heap.size wo w'') from (eachPair_any s.pA s.pc _ pairs w' ((h.pairs.below (bh w' b) (Nat.le_refl _)).more (bh w' b).size) rfl (by omega) g9).mono fun e w'' hh => ⟨hh, (by obtain ⟨_, _, _, _, b2⟩ := hh; exact bnextA b b2)⟩)
  obtain ⟨bs3, hbs3⟩ : ∃ b, (pairE pairs) = b := ⟨_, rfl⟩
  have hl3 : bs3.length ≤ 2000 := by rw [← hbs3]; rw [pairE_length]; omega
  rw [hbs3] at C3
  have HL := Lib.hid (show bs1.length ≤ 2000 ∧ bs2.length ≤ 2000 ∧ bs3.length ≤ 2000 from ⟨hl1, hl2, hl3⟩)
  have hfull : bs1 ++ (bs2 ++ (bs3)) = bytesN x1 4 ++ (bytesN x2 4 ++ pairE pairs) := by rw [← hbs1, ← hbs2, ← hbs3]
  obtain ⟨full, hfu⟩ : ∃ b, (bytesN x1 4 ++ (bytesN x2 4 ++ pairE pairs)) = b := ⟨_, rfl⟩
  rw [hfu] at hfull ⊢
  have HFL := Lib.hid hfull
  have HB0 := Lib.hid b0
  obtain ⟨k0, k1, k2, k9, _⟩ := KEEP.out _ (Below.refl _ _)
  clear hw bh h b0 hfull hfu hbs1 hbs2 hbs3 g7 g8 g9 g10 hl1 hl2 hl3
  go_enter Tryd.func31, Tryd.ntmps31
  go_wp2_with fail
  clear hwo hbx
  go_region_held3 (fun w' => w'.cell? ⟨bx, 0, none⟩ = some (.int .i64 3) ∧ w'.cell? ⟨bx, 1, none⟩ = some (.int .u32 (x1 : Int)) ∧ w'.cell? ⟨bx, 2, none⟩ = some (.int .u32 (x2 : Int)) ∧ w'.cell? ⟨bx, 9, none⟩ = some (.slice s.pA pairs.length s.pc) ∧ Below wo.heap.size wo w')
    (first | exact KEEP.out _ (Below.refl _ _).drew | exact KEEP.out _ b4 | exact KEEP.out _ (b3.alloc b3.size _) | exact KEEP.out _ b3 | exact KEEP.out _ b2 | exact KEEP.out _ b1 | go_keep)
    (first
      | (go_at_call 45; refine (C1.out _ ?_).mono ?_; (exact (‹_ ∧ _ ∧ _ ∧ _ ∧ Below _ _ _›).2.2.2.2); rintro e w1 ⟨⟨A1, c1, rfl, o1, s1⟩, b1⟩)
      | (go_at_call 45; refine (C2.out _ ?_).mono ?_; (exact (‹_ ∧ _ ∧ _ ∧ _ ∧ Below _ _ _›).2.2.2.2); rintro e w2 ⟨⟨A2, c2, rfl, o2, s2⟩, b2⟩)
      | (go_at_call 50; refine (C3.out _ ?_).mono ?_; (exact (‹_ ∧ _ ∧ _ ∧ _ ∧ Below _ _ _›).2.2.2.2); rintro e w3 ⟨⟨A3, c3, rfl, o3, s3⟩, b3⟩)
      | (go_at_call 44; refine (concat3 _ _ A1 A2 A3 c1 c2 c3 bs1 bs2 bs3 full ((((Row.of_own o1).below s2 (Nat.le_refl _)).below s3 s2.size).more (Nat.le_trans s2.size s3.size)) (((Row.of_own o2).below s3 (Nat.le_refl _)).more s3.size) (Row.of_own o3) HL.out.1 HL.out.2.1 HL.out.2.2 HFL.out).mono ?_; rintro e w4 ⟨A4, c4, rfl, o4, s4⟩; have b4 := bnextA b3 s4))
  have HFF := Lib.hid (show Byt w full (.returned (.slice A4 full.length c4)) w4 from ⟨A4, c4, rfl, oown_base o4 (Nat.le_trans HB0.out.size b3.size), bnextA HB0.out b4⟩)
  clear o1 o2 o3 o4 s1 s2 s3 s4 b1 b2 b3 b4 KEEP C1 C2 C3 HB0 HFL HL
  go_wp2
  go_ret
  exact HFF.out

set_option maxHeartbeats 1600000 in
theorem body4_any (m : Ms) (s : Sl) (w : World) (hk : m.kind = 4) (h : CmAt w w.heap.size m s) (hf : m.Fits) (hw : m.Few) : Calls Tryd.prog 31 #[.agg (m.cells s).toArray] w (Byt w m.body) := by
  obtain ⟨kind, x1, x2, x3, x4, x5, x6, reps, who, pairs, asks, x11⟩ := m
  obtain ⟨_, g1, g2, g3, g4, g5, g6, g7, g8, g9, g10, g11⟩ := hf
  obtain ⟨n1, n2, n3, n4⟩ := hw
  dsimp only at hk g1 g2 g3 g4 g5 g6 g7 g8 g9 g10 g11 n1 n2 n3 n4
  subst hk
  have hbody : Ms.body ⟨4, x1, x2, x3, x4, x5, x6, reps, who, pairs, asks, x11⟩ = bytesN x1 4 ++ bytesN x2 4 := by simp [Ms.body]
  rw [hbody]
  clear hbody
  show Calls Tryd.prog 31 #[.agg #[.int .i64 4, .int .u32 (x1 : Int), .int .u32 (x2 : Int), .int .u64 (x3 : Int), .int .u32 (x4 : Int), .int .u32 (x5 : Int), .int .u32 (x6 : Int), .slice s.rA reps.length s.rc, .slice s.wA who.length s.wc, .slice s.pA pairs.length s.pc, .slice s.aA asks.length s.ac, .int .u8 (x11 : Int)]] w (Byt w (bytesN x1 4 ++ bytesN x2 4))
  have b0 := (Below.refl w.heap.size w).alloc (Nat.le_refl _) (.cells #[.int .i64 4, .int .u32 (x1 : Int), .int .u32 (x2 : Int), .int .u64 (x3 : Int), .int .u32 (x4 : Int), .int .u32 (x5 : Int), .int .u32 (x6 : Int), .slice s.rA reps.length s.rc, .slice s.wA who.length s.wc, .slice s.pA pairs.length s.pc, .slice s.aA asks.length s.ac, .int .u8 (x11 : Int)] 59)
  have hw := Whole.new w 59 #[.int .i64 4, .int .u32 (x1 : Int), .int .u32 (x2 : Int), .int .u64 (x3 : Int), .int .u32 (x4 : Int), .int .u32 (x5 : Int), .int .u32 (x6 : Int), .slice s.rA reps.length s.rc, .slice s.wA who.length s.wc, .slice s.pA pairs.length s.pc, .slice s.aA asks.length s.ac, .int .u8 (x11 : Int)]
  obtain ⟨wo, hwo⟩ : ∃ wo, w.alloc (.cells #[.int .i64 4, .int .u32 (x1 : Int), .int .u32 (x2 : Int), .int .u64 (x3 : Int), .int .u32 (x4 : Int), .int .u32 (x5 : Int), .int .u32 (x6 : Int), .slice s.rA reps.length s.rc, .slice s.wA who.length s.wc, .slice s.pA pairs.length s.pc, .slice s.aA asks.length s.ac, .int .u8 (x11 : Int)] 59) = wo := ⟨_, rfl⟩
  obtain ⟨bx, hbx⟩ : ∃ bx, w.heap.size = bx := ⟨_, rfl⟩
  rw [hwo] at b0 hw
  have KEEP := Lib.hid (fun w' (b : Below wo.heap.size wo w') => show w'.cell? ⟨bx, 0, none⟩ = some (.int .i64 4) ∧ w'.cell? ⟨bx, 1, none⟩ = some (.int .u32 (x1 : Int)) ∧ w'.cell? ⟨bx, 2, none⟩ = some (.int .u32 (x2 : Int)) ∧ Below wo.heap.size wo w' from by
    have h := hw.below b hw.lt
    rw [hbx] at h
    exact ⟨h.cell 0, h.cell 1, h.cell 2, b⟩)
  have bh : ∀ w', Below wo.heap.size wo w' → Below w.heap.size w w' := fun w' b => bnextA b0 b
  have C1 := Lib.hid (fun w' (b : Below wo.heap.size wo w') => show Calls Tryd.prog 45 #[.int .u32 (x1 : Int)] w' (fun e w'' => Byt w' (bytesN x1 4) e w'' ∧ Below wo.heap.size wo w'') from (wordBytes_any x1 w' g1).mono fun e w'' hh => ⟨hh, (by obtain ⟨_, _, _, _, b2⟩ := hh; exact bnextA b b2)⟩)
  obtain ⟨bs1, hbs1⟩ : ∃ b, (bytesN x1 4) = b := ⟨_, rfl⟩
  have hl1 : bs1.length ≤ 2000 := by rw [← hbs1]; simp [bytesN_length]
  rw [hbs1] at C1
  have C2 := Lib.hid (fun w' (b : Below wo.heap.size wo w') => show Calls Tryd.prog 45 #[.int .u32 (x2 : Int)] w' (fun e w'' => Byt w' (bytesN x2 4) e w'' ∧ Below wo.heap.size wo w'') from (wordBytes_any x2 w' g2).mono fun e w'' hh => ⟨hh, (by obtain ⟨_, _, _, _, b2⟩ := hh; exact bnextA b b2)⟩)
  obtain ⟨bs2, hbs2⟩ : ∃ b, (bytesN x2 4) = b := ⟨_, rfl⟩
  have hl2 : bs2.length ≤ 2000 := by rw [← hbs2]; simp [bytesN_length]
  rw [hbs2] at C2
  have HL := Lib.hid (show bs1.length ≤ 2000 ∧ bs2.length ≤ 2000 from ⟨hl1, hl2⟩)
  have hfull : bs1 ++ (bs2) = bytesN x1 4 ++ bytesN x2 4 := by rw [← hbs1, ← hbs2]
  obtain ⟨full, hfu⟩ : ∃ b, (bytesN x1 4 ++ bytesN x2 4) = b := ⟨_, rfl⟩
  rw [hfu] at hfull ⊢
  have HFL := Lib.hid hfull
  have HB0 := Lib.hid b0
  obtain ⟨k0, k1, k2, _⟩ := KEEP.out _ (Below.refl _ _)
  clear hw bh h b0 hfull hfu hbs1 hbs2 g7 g8 g9 g10 hl1 hl2
  go_enter Tryd.func31, Tryd.ntmps31
  go_wp2_with fail
  clear hwo hbx
  go_region_held3 (fun w' => w'.cell? ⟨bx, 0, none⟩ = some (.int .i64 4) ∧ w'.cell? ⟨bx, 1, none⟩ = some (.int .u32 (x1 : Int)) ∧ w'.cell? ⟨bx, 2, none⟩ = some (.int .u32 (x2 : Int)) ∧ Below wo.heap.size wo w')
    (first | exact KEEP.out _ (Below.refl _ _).drew | exact KEEP.out _ b3 | exact KEEP.out _ (b2.alloc b2.size _) | exact KEEP.out _ b2 | exact KEEP.out _ b1 | go_keep)
    (first
      | (go_at_call 45; refine (C1.out _ ?_).mono ?_; (exact (‹_ ∧ _ ∧ _ ∧ Below _ _ _›).2.2.2); rintro e w1 ⟨⟨A1, c1, rfl, o1, s1⟩, b1⟩)
      | (go_at_call 45; refine (C2.out _ ?_).mono ?_; (exact (‹_ ∧ _ ∧ _ ∧ Below _ _ _›).2.2.2); rintro e w2 ⟨⟨A2, c2, rfl, o2, s2⟩, b2⟩)
      | (go_at_call 44; refine (concat2 _ _ A1 A2 c1 c2 bs1 bs2 full (((Row.of_own o1).below s2 (Nat.le_refl _)).more s2.size) (Row.of_own o2) HL.out.1 HL.out.2 HFL.out).mono ?_; rintro e w3 ⟨A3, c3, rfl, o3, s3⟩; have b3 := bnextA b2 s3))
  have HFF := Lib.hid (show Byt w full (.returned (.slice A3 full.length c3)) w3 from ⟨A3, c3, rfl, oown_base o3 (Nat.le_trans HB0.out.size b2.size), bnextA HB0.out b3⟩)
  clear o1 o2 o3 s1 s2 s3 b1 b2 b3 KEEP C1 C2 HB0 HFL HL
  go_wp2
  go_ret
  exact HFF.out

set_option maxHeartbeats 1600000 in
theorem body5_any (m : Ms) (s : Sl) (w : World) (hk : m.kind = 5) (h : CmAt w w.heap.size m s) (hf : m.Fits) (hw : m.Few) : Calls Tryd.prog 31 #[.agg (m.cells s).toArray] w (Byt w m.body) := by
  obtain ⟨kind, x1, x2, x3, x4, x5, x6, reps, who, pairs, asks, x11⟩ := m
  obtain ⟨_, g1, g2, g3, g4, g5, g6, g7, g8, g9, g10, g11⟩ := hf
  obtain ⟨n1, n2, n3, n4⟩ := hw
  dsimp only at hk g1 g2 g3 g4 g5 g6 g7 g8 g9 g10 g11 n1 n2 n3 n4
  subst hk
  have hbody : Ms.body ⟨5, x1, x2, x3, x4, x5, x6, reps, who, pairs, asks, x11⟩ = bytesN x1 4 ++ (bytesN x2 4 ++ askE asks) := by simp [Ms.body]
  rw [hbody]
  clear hbody
  show Calls Tryd.prog 31 #[.agg #[.int .i64 5, .int .u32 (x1 : Int), .int .u32 (x2 : Int), .int .u64 (x3 : Int), .int .u32 (x4 : Int), .int .u32 (x5 : Int), .int .u32 (x6 : Int), .slice s.rA reps.length s.rc, .slice s.wA who.length s.wc, .slice s.pA pairs.length s.pc, .slice s.aA asks.length s.ac, .int .u8 (x11 : Int)]] w (Byt w (bytesN x1 4 ++ (bytesN x2 4 ++ askE asks)))
  have b0 := (Below.refl w.heap.size w).alloc (Nat.le_refl _) (.cells #[.int .i64 5, .int .u32 (x1 : Int), .int .u32 (x2 : Int), .int .u64 (x3 : Int), .int .u32 (x4 : Int), .int .u32 (x5 : Int), .int .u32 (x6 : Int), .slice s.rA reps.length s.rc, .slice s.wA who.length s.wc, .slice s.pA pairs.length s.pc, .slice s.aA asks.length s.ac, .int .u8 (x11 : Int)] 59)
  have hw := Whole.new w 59 #[.int .i64 5, .int .u32 (x1 : Int), .int .u32 (x2 : Int), .int .u64 (x3 : Int), .int .u32 (x4 : Int), .int .u32 (x5 : Int), .int .u32 (x6 : Int), .slice s.rA reps.length s.rc, .slice s.wA who.length s.wc, .slice s.pA pairs.length s.pc, .slice s.aA asks.length s.ac, .int .u8 (x11 : Int)]
  obtain ⟨wo, hwo⟩ : ∃ wo, w.alloc (.cells #[.int .i64 5, .int .u32 (x1 : Int), .int .u32 (x2 : Int), .int .u64 (x3 : Int), .int .u32 (x4 : Int), .int .u32 (x5 : Int), .int .u32 (x6 : Int), .slice s.rA reps.length s.rc, .slice s.wA who.length s.wc, .slice s.pA pairs.length s.pc, .slice s.aA asks.length s.ac, .int .u8 (x11 : Int)] 59) = wo := ⟨_, rfl⟩
  obtain ⟨bx, hbx⟩ : ∃ bx, w.heap.size = bx := ⟨_, rfl⟩
  rw [hwo] at b0 hw
  have KEEP := Lib.hid (fun w' (b : Below wo.heap.size wo w') => show w'.cell? ⟨bx, 0, none⟩ = some (.int .i64 5) ∧ w'.cell? ⟨bx, 1, none⟩ = some (.int .u32 (x1 : Int)) ∧ w'.cell? ⟨bx, 2, none⟩ = some (.int .u32 (x2 : Int)) ∧ w'.cell? ⟨bx, 10, none⟩ = some (.slice s.aA asks.length s.ac) ∧ Below wo.heap.size wo w' from by
    have h := hw.below b hw.lt
    rw [hbx] at h
    exact ⟨h.cell 0, h.cell 1, h.cell 2, h.cell 10, b⟩)
  have bh : ∀ w', Below wo.heap.size wo w' → Below w.heap.size w w' := fun w' b => bnextA b0 b
  have C1 := Lib.hid (fun w' (b : Below wo.heap.size wo w') => show Calls Tryd.prog 45 #[.int .u32 (x1 : Int)] w' (fun e w'' => Byt w' (bytesN x1 4) e w'' ∧ Below wo.heap.size wo w'') from (wordBytes_any x1 w' g1).mono fun e w'' hh => ⟨hh, (by obtain ⟨_, _, _, _, b2⟩ := hh; exact bnextA b b2)⟩)
  obtain ⟨bs1, hbs1⟩ : ∃ b, (bytesN x1 4) = b := ⟨_, rfl⟩
  have hl1 : bs1.length ≤ 2000 := by rw [← hbs1]; simp [bytesN_length]
  rw [hbs1] at C1
  have C2 := Lib.hid (fun w' (b : Below wo.heap.size wo w') => show Calls Tryd.prog 45 #[.int .u32 (x2 : Int)] w' (fun e w'' => Byt w' (bytesN x2 4) e w'' ∧ Below wo.heap.size wo w'') from (wordBytes_any x2 w' g2).mono fun e w'' hh => ⟨hh, (by obtain ⟨_, _, _, _, b2⟩ := hh; exact bnextA b b2)⟩)
  obtain ⟨bs2, hbs2⟩ : ∃ b, (bytesN x2 4) = b := ⟨_, rfl⟩
  have hl2 : bs2.length ≤ 2000 := by rw [← hbs2]; simp [bytesN_length]
  rw [hbs2] at C2
  have C3 := Lib.hid (fun w' (b : Below wo.heap.size wo w') => show Calls Tryd.prog 52 #[.slice s.aA asks.length s.ac, .func (.func 53) #[] #[]] w' (fun e w'' => Byt w' (askE asks) e w'' ∧ Below wo.heap.size wo w'') from (eachAsk_any s.aA s.ac _ asks w' ((h.asks.below (bh w' b) (Nat.le_refl _)).more (bh w' b).size) rfl (by omega) g10).mono fun e w'' hh => ⟨hh, (by obtain ⟨_, _, _, _, b2⟩ := hh; exact bnextA b b2)⟩)
  obtain ⟨bs3, hbs3⟩ : ∃ b, (askE asks) = b := ⟨_, rfl⟩
  have hl3 : bs3.length ≤ 2000 := by rw [← hbs3]; rw [askE_length]; omega
  rw [hbs3] at C3
  have HL := Lib.hid (show bs1.length ≤ 2000 ∧ bs2.length ≤ 2000 ∧ bs3.length ≤ 2000 from ⟨hl1, hl2, hl3⟩)
  have hfull : bs1 ++ (bs2 ++ (bs3)) = bytesN x1 4 ++ (bytesN x2 4 ++ askE asks) := by rw [← hbs1, ← hbs2, ← hbs3]
  obtain ⟨full, hfu⟩ : ∃ b, (bytesN x1 4 ++ (bytesN x2 4 ++ askE asks)) = b := ⟨_, rfl⟩
  rw [hfu] at hfull ⊢
  have HFL := Lib.hid hfull
  have HB0 := Lib.hid b0
  obtain ⟨k0, k1, k2, k10, _⟩ := KEEP.out _ (Below.refl _ _)
  clear hw bh h b0 hfull hfu hbs1 hbs2 hbs3 g7 g8 g9 g10 hl1 hl2 hl3
  go_enter Tryd.func31, Tryd.ntmps31
  go_wp2_with fail
  clear hwo hbx
  go_region_held3 (fun w' => w'.cell? ⟨bx, 0, none⟩ = some (.int .i64 5) ∧ w'.cell? ⟨bx, 1, none⟩ = some (.int .u32 (x1 : Int)) ∧ w'.cell? ⟨bx, 2, none⟩ = some (.int .u32 (x2 : Int)) ∧ w'.cell? ⟨bx, 10, none⟩ = some (.slice s.aA asks.length s.ac) ∧ Below wo.heap.size wo w')
    (first | exact KEEP.out _ (Below.refl _ _).drew | exact KEEP.out _ b4 | exact KEEP.out _ (b3.alloc b3.size _) | exact KEEP.out _ b3 | exact KEEP.out _ b2 | exact KEEP.out _ b1 | go_keep)
    (first
      | (go_at_call 45; refine (C1.out _ ?_).mono ?_; (exact (‹_ ∧ _ ∧ _ ∧ _ ∧ Below _ _ _›).2.2.2.2); rintro e w1 ⟨⟨A1, c1, rfl, o1, s1⟩, b1⟩)
      | (go_at_call 45; refine (C2.out _ ?_).mono ?_; (exact (‹_ ∧ _ ∧ _ ∧ _ ∧ Below _ _ _›).2.2.2.2); rintro e w2 ⟨⟨A2, c2, rfl, o2, s2⟩, b2⟩)
      | (go_at_call 52; refine (C3.out _ ?_).mono ?_; (exact (‹_ ∧ _ ∧ _ ∧ _ ∧ Below _ _ _›).2.2.2.2); rintro e w3 ⟨⟨A3, c3, rfl, o3, s3⟩, b3⟩)
      | (go_at_call 44; refine (concat3 _ _ A1 A2 A3 c1 c2 c3 bs1 bs2 bs3 full ((((Row.of_own o1).below s2 (Nat.le_refl _)).below s3 s2.size).more (Nat.le_trans s2.size s3.size)) (((Row.of_own o2).below s3 (Nat.le_refl _)).more s3.size) (Row.of_own o3) HL.out.1 HL.out.2.1 HL.out.2.2 HFL.out).mono ?_; rintro e w4 ⟨A4, c4, rfl, o4, s4⟩; have b4 := bnextA b3 s4))
  have HFF := Lib.hid (show Byt w full (.returned (.slice A4 full.length c4)) w4 from ⟨A4, c4, rfl, oown_base o4 (Nat.le_trans HB0.out.size b3.size), bnextA HB0.out b4⟩)
  clear o1 o2 o3 o4 s1 s2 s3 s4 b1 b2 b3 b4 KEEP C1 C2 C3 HB0 HFL HL
  go_wp2
  go_ret
  exact HFF.out
end Go.Proofs.YtcjmiidnhbmclaaDoor
