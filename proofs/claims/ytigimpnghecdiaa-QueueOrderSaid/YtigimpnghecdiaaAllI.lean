/-
  The contract of package queue's All, of queues of things of one kind (int).
-/
import Derived.Test.YtigimpnghecdiaaQueI
import Derived.Deep.AppendLies
namespace Go.Proofs.Ytigimpnghecdiaa
open Go.RowKit

def AlledI (l : List Int) (w : World) (e : Ending) (w' : World) : Prop :=
  ∃ A c, e = .returned (.slice A l.length c) ∧ w'.ownsRow w.heap.size 3 1 (.slice A l.length c) l.length (l.map (Value.int .i64)) ∧ Below w.heap.size w w'

theorem allI_nil (w : World) : Calls Try.prog 15 #[.pointer none] w fun e w' => e = .returned (.slice none 0 0) ∧ w = w' := by
  go_enter Try.func15, Try.ntmps15
  go_wp2_with fail
  refine (lenI_nil _).mono ?_
  rintro e w1 ⟨rfl, rfl⟩
  go_wp2
  go_loop [3, 7] (fun a i => a = .slice none 0 0 ∧ i = .int .i64 0) (fun _ _ => 0)
  case atStart => exact ⟨rfl, rfl⟩
  case round =>
    obtain ⟨rfl, rfl⟩ := hrel
    go_wp2
    go_ret
    exact ⟨rfl, rfl⟩

def AllRelI (l : List Int) (w : World) (a i : Value) (wx : World) : Prop :=
  ∃ k A c, k ≤ l.length ∧ i = .int .i64 (k : Nat) ∧ a = .slice A k c ∧ wx.ownsRow w.heap.size 3 1 (.slice A k c) k ((l.take k).map (Value.int .i64)) ∧ Below w.heap.size w wx

set_option maxHeartbeats 1000000 in
theorem allI_any (g r room : Nat) (l : List Int) (w : World) (h : QI w g r room l) : Calls Try.prog 15 #[.pointer (some ⟨g, 0, none⟩)] w (AlledI l w) := by
  have hlt := h.lt
  obtain ⟨f, n, cs, hn, hg, hr, ring, h1, h2⟩ := h
  rw [List.length_map] at hn
  have hd0 := hg.cell 0
  have hd1 := hg.cell 1
  have hd2 := hg.cell 2
  have hcell : ∀ p, w.cell? ⟨r, p, none⟩ = cs[p]? := hr.cell
  have HC := Lib.hid hcell
  have hfits := ring.fits
  rw [List.length_map, ← hn] at hfits
  have hf := ring.2.1
  have HR := Lib.hid ring
  have HN := Lib.hid hn
  clear hcell hg hr ring hn
  go_enter Try.func15, Try.ntmps15
  go_wp2_with fail
  refine (lenI_at g n _ hd2).mono ?_
  rintro e w1 ⟨rfl, rfl⟩
  go_wp2
  go_loopw [3, 7] (fun a i wx => AllRelI l w a i wx) (fun _ i _ => n - (intOf i).toNat)
  case atStart => exact ⟨0, none, 0, Nat.zero_le _, rfl, rfl, by simpa using World.ownsRow_nil _ _ _ _, Below.refl _ _⟩
  case round =>
    obtain ⟨k, A, c, hk, rfl, rfl, hown, hb⟩ := hrel
    have hkn : k ≤ n := by rw [HN.out]; exact hk
    by_cases hlt' : k < n
    · have hke : k < l.length := by rw [← HN.out]; exact hlt'
      obtain ⟨u, hu⟩ : ∃ u, l[k]? = some u := ⟨l[k], by simp [hke]⟩
      obtain ⟨p, hp⟩ : ∃ p, (f + k) % room = p := ⟨_, rfl⟩
      have hpr : p < room := by rw [← hp]; exact Nat.mod_lt _ (by omega)
      have hi1 : (0 : Int) ≤ (p : Int) := by omega
      have hi2 : (p : Int) < (room : Int) := by omega
      have hcu : w.cell? ⟨r, p, none⟩ = some ((Value.int .i64) u) := by
        rw [HC.out, ← hp]
        exact HR.out.2.2.2 k _ (by simp [hu])
      have c0 : wr.cell? ⟨g, 0, none⟩ = some (.slice (some ⟨r, 0, none⟩) room room) := (hb.cell (p := ⟨g, 0, none⟩) hlt.1).trans hd0
      have c1 : wr.cell? ⟨g, 1, none⟩ = some (.int .i64 f) := (hb.cell (p := ⟨g, 1, none⟩) hlt.1).trans hd1
      have c3 : wr.cell? ⟨r, p, none⟩ = some ((Value.int .i64) u) := (hb.cell (p := ⟨r, p, none⟩) hlt.2).trans hcu
      have hk2 : k ≤ 4096 := by omega
      have hsz := hb.size
      have hown' : ∀ m, (wr.drewN m).ownsRow w.heap.size 3 1 (.slice A k c) k ((l.take k).map (Value.int .i64)) := fun _ => hown
      have ne1 : ∀ q, A = some q → w.heap.size ≤ q.block := fun q hq => by subst hq; exact (hown.lt q.block rfl).1
      have ng : (Value.slice A k c).ownBlock ≠ some g := by
        cases A with
        | none => simp [Value.ownBlock]
        | some q => have := ne1 q rfl; simp [Value.ownBlock]; omega
      have nr : (Value.slice A k c).ownBlock ≠ some r := by
        cases A with
        | none => simp [Value.ownBlock]
        | some q => have := ne1 q rfl; simp [Value.ownBlock]; omega
      have lg : g < wr.heap.size := by omega
      have lr : r < wr.heap.size := by omega
      have hfar : ∀ a, (Value.slice A k c).ownBlock = some a → w.heap.size ≤ a := fun a ha => (hown.lt a ha).1
      have HF := Lib.hid hfar
      have HO := Lib.hid hown'
      have HP := Lib.hid hp
      have HB := Lib.hid hb
      have HU := Lib.hid hu
      have HK := Lib.hid hke
      obtain ⟨i0, hi0, hz0, hz1, hz2⟩ := info_parts info_I
      have HI0 := Lib.hid hi0
      have HZ0 := Lib.hid hz0
      have HZ1 := Lib.hid hz1
      have HZ2 := Lib.hid hz2
      clear hfar hown' hown hp hb hu hke hi0 hz0 hz1 hz2 hd0 hd1 hd2 hcu ne1
      go_wp2_with fail
      go_region_held3 (fun w' => w'.cell? ⟨g, 0, none⟩ = some (.slice (some ⟨r, 0, none⟩) room room) ∧ w'.cell? ⟨g, 1, none⟩ = some (.int .i64 f) ∧ w'.cell? ⟨r, p, none⟩ = some ((Value.int .i64) u))
        (first
          | go_keep
          | (go_split_ands
             refine ⟨?_, ?_, ?_⟩
             · (rw [hgrow.cell_far _ (by simp; omega) (Ne.symm ng)]; assumption)
             · (rw [hgrow.cell_far _ (by simp; omega) (Ne.symm ng)]; assumption)
             · (rw [hgrow.cell_far _ (by simp; omega) (Ne.symm nr)]; assumption)))
        ((first
          | (refine step_append_lies _ (by rfl) _ _ _ (by rfl) w.heap.size 3 i0 _ 1 8 Try.underlying26 HI0.out HZ0.out HZ1.out HZ2.out rfl (by omega) (.slice A k c) k ((l.take k).map (Value.int .i64)) (by rfl) ((HO.out _).alloc _)
              ⟨wr.heap.size, 0, none⟩ 1 1 [(Value.int .i64) u] (by rfl) (by rfl) (World.news_of_block (cs := #[(Value.int .i64) u]) (t := 3) (fr := (0, 0)) (heap_alloc_new (wr.drewN _) _)) (by simp [Value.oneCell'])
              (by omega) (by unfold maxLen; omega) (by omega) (by simp; omega) (wr.heap.size + 1) (by simp) ?_; intro gg cap w1 hown1 hgrow hat hlt1)
          | (go_at_call 25; refine (placeI_at g r room f k p _ _ ?_ ?_ rfl HP.out h1 h2 hf hk2).mono ?_; (simp [*]); (simp [*]); rintro e w' ⟨rfl, q', rfl⟩)))
      have hfin : AllRelI l w (.slice (some ⟨gg, 0, none⟩) (k + 1) cap) (.int .i64 ((k : Int) + 1)) w1 := by
        refine ⟨k + 1, _, cap, HK.out, by go_num, rfl, ?_, ?_⟩
        · have e : (l.take (k + 1)).map (Value.int .i64) = (l.take k).map (Value.int .i64) ++ [(Value.int .i64) u] := by
            rw [List.take_add_one, HU.out]; simp
          rw [e]
          exact hown1
        · refine Below.grown ((bdrewN HB.out _).alloc (by simpa using hsz) _) hgrow (by simp; omega) HF.out
      have H := Lib.hid hfin
      clear hfin hown1 hgrow hat
      go_wp2
      go_roundw
      case rel => exact H.out
      case measure => simp [intOf]; omega
    · have hkl : k = l.length := by rw [← HN.out]; omega
      have HOWN := Lib.hid hown
      have HKL := Lib.hid hkl
      clear hown hkl
      go_wp2
      go_ret
      have hown := HOWN.out
      obtain rfl := HKL.out
      rw [List.take_length] at hown
      exact ⟨A, c, rfl, hown, hb⟩
end Go.Proofs.Ytigimpnghecdiaa
