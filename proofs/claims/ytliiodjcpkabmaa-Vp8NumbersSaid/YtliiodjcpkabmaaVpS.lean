/-
  append of bytes onto a row of the call's own, where the old row is read again behind it.
-/
import Derived.Test.YtliiodjcpkabmaaVpI
import Derived.ArgAppend
import Derived.BigFrame
import Derived.Maps.AppendAt
import Derived.Deep.AppendLies
import Derived.Laws.IdiomCopy
namespace Go.Proofs.Ytliiodjcpkabmaa
open Go.RowKit

theorem append_keep (w : World) {base g n c : Nat} {xs : List Value} (hown : w.ownsRow base 5 1 (.slice (some ⟨g, 0, none⟩) n c) n xs) (ad : Addr) (m c' : Nat) (news : List Value) (hl : news.length = m) (hnews : ∀ j u, news[j]? = some u → w.cell? (ad.add j) = some u) (h1 : ∀ u ∈ news, u.oneCell' = true)
    (h63 : n + m ≤ 100000) (hbase : base ≤ w.heap.size) :
    ∃ v' w', (Builtin.append_ #[22, 22] 22 #[.slice (some ⟨g, 0, none⟩) n c, .slice (some ad) m c']).run Try.prog w = .ok v' w' ∧ w'.ownsRow base 5 1 v' (n + m) (xs ++ news) ∧ w.grownBy w' (some g) ∧ Row w' w'.heap.size 1 (some ⟨g, 0, none⟩) n xs := by
  obtain ⟨i, hi0, hi1, hi2, hi3⟩ := info_parts info_u8
  have hx : xs.length = n := by have := hown.1; omega
  obtain ⟨v', w', hrun, hown', hg, _, _⟩ := run_append_own_at (P := Try.prog) w base 22 22 5 i (.int .u8 0) 1 1 Try.underlying22 hi0 hi1 hi2 hi3 rfl (by decide) _ n xs hown ad m c' news (by omega) hnews h1 (by unfold maxLen; omega) (by omega) hbase
  refine ⟨v', w', hrun, hown', hg, by omega, fun _ => ⟨g, 0, rfl, ?_, fun j u hu => ?_⟩⟩
  · exact Nat.lt_of_lt_of_le (hown.lt g rfl).2 hg.size
  · have hc0 : w.cell? ⟨g, 0 + j, none⟩ = some u := by have := hown.cells (g := g) rfl j u hu; rwa [Addr.add_lit] at this
    have hjn : j < n := by have := (List.getElem?_eq_some_iff.1 hu).1; omega
    have hgl := (hown.lt g rfl).2
    have hob : ∃ cur, w.heap[g]? = some (.cells cur 5 (0, 0)) ∧ cur.size = c := by
      rcases hown.2 with ⟨hv, _⟩ | ⟨g', cap, cur, hv, _, hh, _, _, hs, _⟩
      · cases hv
      · injection hv with e1 e2 e3
        injection e1 with e1
        injection e1 with e1
        subst e1 e3
        exact ⟨cur, hh, by omega⟩
    obtain ⟨cur, hcur, hcs⟩ := hob
    by_cases hr : n + m ≤ c
    · have h2 := run_append_room_cells (P := Try.prog) w 22 22 5 i Try.underlying22 hi0 g 0 n c ad m c' news (by rw [hi2]; omega) hnews h1 hr (fun j hj => by
        rw [hi2, cell_of_row w g _ cur 5 (0, 0) hcur]
        simp
        omega) (fun j _ => by simp [World.frozen?, hcur])
      rw [hrun] at h2
      injection h2 with _ h3
      rw [h3, World.cell?_setCells_out g news _ w ⟨g, 0 + j, none⟩ (fun _ _ => .inl (by rw [hi2]; simp; omega))]
      exact hc0
    · obtain ⟨v'', w'', h2, _, hg2⟩ := run_append_arg_grows (P := Try.prog) w 22 22 5 i (.int .u8 0) 1 1 Try.underlying22 hi0 hi1 hi2 hi3 rfl (by decide) ⟨g, 0, none⟩ n c xs (by omega) (fun j u hu => hown.cells (g := g) rfl j u hu) ad m c' news (by omega) hnews (by omega) (by unfold maxLen; omega) (by omega)
      rw [hrun] at h2
      injection h2 with _ h3
      rw [h3, World.cell?_of_block (a := ⟨g, 0 + j, none⟩) (hg2.block g hgl (by simp))]
      exact hc0

/-- An append whose run is known, guarded or not. -/
theorem wpl_run {P : Program} (w : World) {ops : Array Oper} {rest : List Oper} {o : Oper} {a : Act} {Q : Exit → Act → World → Prop} (hw : Region.wanted o (yielded ops a.tmps) = true) (s x : Operand) (t : TypeId)
    (ho : o.op = .call { callee := .builtin .append, args := #[s, x], argTypes := #[t, t] }) (v1 v2 v' : Value) (w' : World) (hs : a.eval s = v1) (hx : a.eval x = v2) (hrun : (Builtin.append_ #[t, t] o.type #[v1, v2]).run P w = .ok v' w')
    (h : wpList P ops Q rest (a.put o.dst v') w') : wpList P ops Q (o :: rest) a w := by
  refine BigFrame.wpList_want hw fun K hK => ?_
  unfold Oper.wp
  simp [execOp, ho, resolve, invoke, builtin, hs, hx, hrun, Result.andThen]
  exact hK _ _ h
end Go.Proofs.Ytliiodjcpkabmaa
