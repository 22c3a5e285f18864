/-
  Package down (layer 14): the map of the deeds.
-/
import Derived.Test.YticnaljfnjiofaaDnCd
import Derived.WideMake
import Derived.ChangeMaps
namespace Go.Proofs.Yticnaljfnjiofaa
open Go.RowKit
set_option linter.unusedSimpArgs false
set_option linter.unusedVariables false
set_option maxRecDepth 100000

section
variable {P : Program} {t kt et : TypeId}
theorem run_ins (hm : P.underlying t = some (.map kt et)) (hk : P.underlying kt = some (.int .i64)) (w0 : World) (es : Array MapEntry) (c : Nat) (k : Int) (v : Value) (hf : Instr.findNow (.int .i64) (.int .i64 k) es.toList 0 = some none) :
    (Instr.mapUpdate t (.map (some w0.heap.size)) (.int .i64 k) v).run P (w0.alloc (.map es c)) = .ok () (w0.alloc (.map (es.push ⟨.int .i64 k, v, c⟩) (c + 1))) := by
  have hb : (w0.alloc (.map es c)).heap[w0.heap.size]? = some (.map es c) := heap_alloc_new w0 _
  have hc : ∀ w : World, (Instr.checkKey false 10000 kt (.int .i64 k)).run P w = .ok () w := fun w => MapKept.run_checkKey (k := .int .i64 k) hk (by simp [MapKept.IsKey]) false 9999
  have ea : (w0.heap.push (.map es c)).setIfInBounds w0.heap.size (.map (es.push ⟨.int .i64 k, v, c⟩) (c + 1)) = w0.heap.push (.map (es.push ⟨.int .i64 k, v, c⟩) (c + 1)) := by
    apply Array.toList_inj.1
    simp
  have e : ({ (w0.alloc (.map es c)) with heap := (w0.alloc (.map es c)).heap.setIfInBounds w0.heap.size (.map (es.push ⟨.int .i64 k, v, c⟩) (c + 1)) } : World) = w0.alloc (.map (es.push ⟨.int .i64 k, v, c⟩) (c + 1)) := by
    show ({ w0 with heap := (w0.heap.push (.map es c)).setIfInBounds w0.heap.size (.map (es.push ⟨.int .i64 k, v, c⟩) (c + 1)) } : World) = { w0 with heap := w0.heap.push (.map (es.push ⟨.int .i64 k, v, c⟩) (c + 1)) }
    rw [ea]
  have e2 : (setObj w0.heap.size (.map (es.push ⟨.int .i64 k, v, c⟩) (c + 1))).run P (w0.alloc (.map es c)) = .ok () (w0.alloc (.map (es.push ⟨.int .i64 k, v, c⟩) (c + 1))) := by
    rw [MapKept.run_setObj_map _ hb, e]
  clear e ea
  simp [Instr.mapUpdate, run_underlying hm, MapKept.run_getObj_map hb, hc, MapKept.run_findKey hk hf, e2, Result.andThen]
theorem run_look (hm : P.underlying t = some (.map kt et)) (hk : P.underlying kt = some (.int .i64)) {w : World} {m : Nat} {es : Array MapEntry} {c : Nat} {k : Int} {i : Nat} {v : Value} (hb : w.heap[m]? = some (.map es c)) (hf : Instr.findNow (.int .i64) (.int .i64 k) es.toList 0 = some (some (i, v))) :
    (Instr.lookup t (.map (some m)) (.int .i64 k) false).run P w = .ok v w := by
  have hc : ∀ b (w : World), (Instr.checkKey b 10000 kt (.int .i64 k)).run P w = .ok () w := fun b w => MapKept.run_checkKey (k := .int .i64 k) hk (by simp [MapKept.IsKey]) b 9999
  simp [Instr.lookup, run_underlying hm, MapKept.run_getObj_map hb, hc, MapKept.run_findKey hk hf, Result.andThen]
end
/-- What deeds tells: a map in which each deed stands under its number. -/
def DeedsTold (g : Nat) (x : Mn) (bg : Bool) (w : World) (e : Ending) (w' : World) : Prop :=
  ∃ bd bi bb mm, e = .returned (.map (some mm)) ∧ w.heap.size ≤ bd ∧ w.heap.size ≤ bi ∧ w.heap.size ≤ bb ∧ Whole w' bd 26 #[.pointer (some ⟨g, 0, none⟩)] ∧ Whole w' bi 74 x.cells ∧ Whole w' bb 4 #[.bool bg] ∧ Below w.heap.size w w' ∧
    (Instr.lookup 109 (.map (some mm)) (.int .i64 0) false).run Try.prog w' = .ok (.func (.func 56) #[] #[.pointer (some ⟨bd, 0, none⟩)]) w' ∧
    (Instr.lookup 109 (.map (some mm)) (.int .i64 1) false).run Try.prog w' = .ok (.func (.func 60) #[] #[.pointer (some ⟨bd, 0, none⟩), .pointer (some ⟨bi, 0, none⟩)]) w' ∧
    (Instr.lookup 109 (.map (some mm)) (.int .i64 2) false).run Try.prog w' = .ok (.func (.func 57) #[] #[.pointer (some ⟨bd, 0, none⟩), .pointer (some ⟨bi, 0, none⟩), .pointer (some ⟨bb, 0, none⟩)]) w' ∧
    (Instr.lookup 109 (.map (some mm)) (.int .i64 3) false).run Try.prog w' = .ok (.func (.func 58) #[] #[.pointer (some ⟨bd, 0, none⟩), .pointer (some ⟨bi, 0, none⟩)]) w'
theorem deeds_any (g : Nat) (x : Mn) (bg : Bool) (w : World) : Calls Try.prog 41 #[.pointer (some ⟨g, 0, none⟩), .agg x.cells, .bool bg] w (DeedsTold g x bg w) := by
  obtain ⟨xq, xt, xp, xl⟩ := x
  have hmm := @run_makeMap Try.prog
  have u1 := Try.underlying109
  have u2 := Try.underlying3
  have hz : (((w.alloc (.cells #[.pointer (some ⟨g, 0, none⟩)] 26)).alloc (.cells #[.int .u16 xq, .int .u32 xt, .int .u16 xp, .int .u8 xl] 74)).alloc (.cells #[.bool bg] 4)).heap.size = w.heap.size + 1 + 1 + 1 := by simp
  have i0 := run_ins u1 u2 (((w.alloc (.cells #[.pointer (some ⟨g, 0, none⟩)] 26)).alloc (.cells #[.int .u16 xq, .int .u32 xt, .int .u16 xp, .int .u8 xl] 74)).alloc (.cells #[.bool bg] 4)) #[] 0 0 (.func (.func 56) #[] #[.pointer (some ⟨w.heap.size, 0, none⟩)]) rfl
  have i1 := run_ins u1 u2 (((w.alloc (.cells #[.pointer (some ⟨g, 0, none⟩)] 26)).alloc (.cells #[.int .u16 xq, .int .u32 xt, .int .u16 xp, .int .u8 xl] 74)).alloc (.cells #[.bool bg] 4)) #[⟨.int .i64 0, .func (.func 56) #[] #[.pointer (some ⟨w.heap.size, 0, none⟩)], 0⟩] 1 2 (.func (.func 57) #[] #[.pointer (some ⟨w.heap.size, 0, none⟩), .pointer (some ⟨w.heap.size + 1, 0, none⟩), .pointer (some ⟨w.heap.size + 1 + 1, 0, none⟩)]) rfl
  have i2 := run_ins u1 u2 (((w.alloc (.cells #[.pointer (some ⟨g, 0, none⟩)] 26)).alloc (.cells #[.int .u16 xq, .int .u32 xt, .int .u16 xp, .int .u8 xl] 74)).alloc (.cells #[.bool bg] 4)) #[⟨.int .i64 0, .func (.func 56) #[] #[.pointer (some ⟨w.heap.size, 0, none⟩)], 0⟩, ⟨.int .i64 2, .func (.func 57) #[] #[.pointer (some ⟨w.heap.size, 0, none⟩), .pointer (some ⟨w.heap.size + 1, 0, none⟩), .pointer (some ⟨w.heap.size + 1 + 1, 0, none⟩)], 1⟩] 2 3 (.func (.func 58) #[] #[.pointer (some ⟨w.heap.size, 0, none⟩), .pointer (some ⟨w.heap.size + 1, 0, none⟩)]) rfl
  have i3 := run_ins u1 u2 (((w.alloc (.cells #[.pointer (some ⟨g, 0, none⟩)] 26)).alloc (.cells #[.int .u16 xq, .int .u32 xt, .int .u16 xp, .int .u8 xl] 74)).alloc (.cells #[.bool bg] 4)) #[⟨.int .i64 0, .func (.func 56) #[] #[.pointer (some ⟨w.heap.size, 0, none⟩)], 0⟩, ⟨.int .i64 2, .func (.func 57) #[] #[.pointer (some ⟨w.heap.size, 0, none⟩), .pointer (some ⟨w.heap.size + 1, 0, none⟩), .pointer (some ⟨w.heap.size + 1 + 1, 0, none⟩)], 1⟩, ⟨.int .i64 3, .func (.func 58) #[] #[.pointer (some ⟨w.heap.size, 0, none⟩), .pointer (some ⟨w.heap.size + 1, 0, none⟩)], 2⟩] 3 1 (.func (.func 60) #[] #[.pointer (some ⟨w.heap.size, 0, none⟩), .pointer (some ⟨w.heap.size + 1, 0, none⟩)]) rfl
  rw [hz] at i0 i1 i2 i3
  simp only [List.push_toArray, List.nil_append, List.cons_append] at i0 i1 i2 i3
  have HF : Hid (DeedsTold g ⟨xq, xt, xp, xl⟩ bg w (.returned (.map (some (w.heap.size + 1 + 1 + 1)))) ((((w.alloc (.cells #[.pointer (some ⟨g, 0, none⟩)] 26)).alloc (.cells #[.int .u16 xq, .int .u32 xt, .int .u16 xp, .int .u8 xl] 74)).alloc (.cells #[.bool bg] 4)).alloc (.map #[⟨.int .i64 0, .func (.func 56) #[] #[.pointer (some ⟨w.heap.size, 0, none⟩)], 0⟩, ⟨.int .i64 2, .func (.func 57) #[] #[.pointer (some ⟨w.heap.size, 0, none⟩), .pointer (some ⟨w.heap.size + 1, 0, none⟩), .pointer (some ⟨w.heap.size + 1 + 1, 0, none⟩)], 1⟩, ⟨.int .i64 3, .func (.func 58) #[] #[.pointer (some ⟨w.heap.size, 0, none⟩), .pointer (some ⟨w.heap.size + 1, 0, none⟩)], 2⟩, ⟨.int .i64 1, .func (.func 60) #[] #[.pointer (some ⟨w.heap.size, 0, none⟩), .pointer (some ⟨w.heap.size + 1, 0, none⟩)], 3⟩] 4))) := Lib.hid (by
    have hb : ((((w.alloc (.cells #[.pointer (some ⟨g, 0, none⟩)] 26)).alloc (.cells #[.int .u16 xq, .int .u32 xt, .int .u16 xp, .int .u8 xl] 74)).alloc (.cells #[.bool bg] 4)).alloc (.map #[⟨.int .i64 0, .func (.func 56) #[] #[.pointer (some ⟨w.heap.size, 0, none⟩)], 0⟩, ⟨.int .i64 2, .func (.func 57) #[] #[.pointer (some ⟨w.heap.size, 0, none⟩), .pointer (some ⟨w.heap.size + 1, 0, none⟩), .pointer (some ⟨w.heap.size + 1 + 1, 0, none⟩)], 1⟩, ⟨.int .i64 3, .func (.func 58) #[] #[.pointer (some ⟨w.heap.size, 0, none⟩), .pointer (some ⟨w.heap.size + 1, 0, none⟩)], 2⟩, ⟨.int .i64 1, .func (.func 60) #[] #[.pointer (some ⟨w.heap.size, 0, none⟩), .pointer (some ⟨w.heap.size + 1, 0, none⟩)], 3⟩] 4)).heap[w.heap.size + 1 + 1 + 1]? = some (.map #[⟨.int .i64 0, .func (.func 56) #[] #[.pointer (some ⟨w.heap.size, 0, none⟩)], 0⟩, ⟨.int .i64 2, .func (.func 57) #[] #[.pointer (some ⟨w.heap.size, 0, none⟩), .pointer (some ⟨w.heap.size + 1, 0, none⟩), .pointer (some ⟨w.heap.size + 1 + 1, 0, none⟩)], 1⟩, ⟨.int .i64 3, .func (.func 58) #[] #[.pointer (some ⟨w.heap.size, 0, none⟩), .pointer (some ⟨w.heap.size + 1, 0, none⟩)], 2⟩, ⟨.int .i64 1, .func (.func 60) #[] #[.pointer (some ⟨w.heap.size, 0, none⟩), .pointer (some ⟨w.heap.size + 1, 0, none⟩)], 3⟩] 4) := by rw [← hz]; exact heap_alloc_new _ _
    refine ⟨w.heap.size, w.heap.size + 1, w.heap.size + 1 + 1, w.heap.size + 1 + 1 + 1, rfl, Nat.le_refl _, by omega, by omega, (((Whole.new w 26 _).alloc _).alloc _).alloc _, ?_, ?_, ((((Below.refl w.heap.size w).alloc (Nat.le_refl _) _).alloc (by simp) _).alloc (by simp; omega) _).alloc (by simp; omega) _, run_look u1 u2 hb rfl, run_look u1 u2 hb rfl, run_look u1 u2 hb rfl, run_look u1 u2 hb rfl⟩
    · exact ((Whole.new2 w _ 74 _).alloc _).alloc _
    · have := (Whole.new2 (w.alloc (.cells #[.pointer (some ⟨g, 0, none⟩)] 26)) (.cells #[.int .u16 xq, .int .u32 xt, .int .u16 xp, .int .u8 xl] 74) 4 #[.bool bg]).alloc (.map #[⟨.int .i64 0, .func (.func 56) #[] #[.pointer (some ⟨w.heap.size, 0, none⟩)], 0⟩, ⟨.int .i64 2, .func (.func 57) #[] #[.pointer (some ⟨w.heap.size, 0, none⟩), .pointer (some ⟨w.heap.size + 1, 0, none⟩), .pointer (some ⟨w.heap.size + 1 + 1, 0, none⟩)], 1⟩, ⟨.int .i64 3, .func (.func 58) #[] #[.pointer (some ⟨w.heap.size, 0, none⟩), .pointer (some ⟨w.heap.size + 1, 0, none⟩)], 2⟩, ⟨.int .i64 1, .func (.func 60) #[] #[.pointer (some ⟨w.heap.size, 0, none⟩), .pointer (some ⟨w.heap.size + 1, 0, none⟩)], 3⟩] 4)
      simpa using this)
  dsimp only [Mn.cells]
  clear hz u1 u2
  go_enter Try.func41, Try.ntmps41
  go_wp2
  go_ret
  exact HF.out
end Go.Proofs.Yticnaljfnjiofaa
