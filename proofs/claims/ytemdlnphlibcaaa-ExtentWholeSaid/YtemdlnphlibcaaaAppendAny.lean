/- append onto a row of one's own, of a row that may be nil. -/
import Derived.Test.YtemdlnphlibcaaaExtMem
import Derived.Laws.AppendOwn
namespace Go.Proofs.Ytemdlnphlibcaaa
namespace Xm
open Go.RowKit
set_option linter.unusedVariables false

theorem run_append_none (w : World) (ty : TypeId) (b : Option Addr) (k cap c : Nat) (h : k ≤ cap) : (Builtin.append_ #[24, 24] ty #[.slice b k cap, .slice none 0 c]).run Try.prog w = .ok (.slice b k cap) w := by
  have hu := run_underlying (P := Try.prog) (w := w) Try.underlying24
  have hz := Try.sizeOf23 w
  cases b <;> simp [Builtin.append_, hu, hz, Builtin.lenOf, Builtin.firstCells, storeCells, h, go_sem, Result.andThen]
theorem wpList_append_any (w : World) {ops : Array Oper} {rest : List Oper} {o : Oper} {a : Act} {Q : Exit → Act → World → Prop} (hg : o.guard = none) (s x : Operand)
    (hop : o.op = .call { callee := .builtin .append, args := #[s, x], argTypes := #[24, 24] }) (base : Nat)
    (v : Value) (k : Nat) (xs : List Value) (hs : a.eval s = v) (hown : w.ownsRow base 23 2 v k xs)
    (pa : Option Addr) (m c : Nat) (z : List (Int × Int)) (hx : a.eval x = .slice pa m c) (hz : m = z.length) (hrow : Exts w pa z)
    (h63 : k + m ≤ maxLen) (hby : (k + m) * 16 ≤ 140737488355328) (hbase : base ≤ w.heap.size)
    (h : ∀ v' w', w'.ownsRow base 23 2 v' (k + m) (xs ++ cells z) → w.grownBy w' v.ownBlock → wpList Try.prog ops Q rest (a.put o.dst v') w') :
    wpList Try.prog ops Q (o :: rest) a w := by
  obtain ⟨i0, hi, hz0, hz1, hz2⟩ := info_parts info_ext
  have hl := cells_length z
  rw [← hz] at hl
  cases pa with
  | some ad =>
    refine wpList_append_own w hg s x 24 hop base 23 i0 _ 2 16 Try.underlying24 hi hz0 hz1 hz2 rfl (by decide) v k xs hs hown ad m c (cells z) hx hl (fun j u hj => ?_) (cells_one' z) h63 hby hbase fun v' w' h1 h2 _ => h v' w' h1 h2
    by_cases hn : z = []
    · subst hn; simp [cells] at hj
    · obtain ⟨b, off, e, _, hc⟩ := hrow.news hn
      injection e with e
      subst e
      rw [Addr.add_lit]
      exact hc j u hj
  | none =>
    have hn : z = [] := by
      by_cases hn : z = []
      · exact hn
      · obtain ⟨_, _, e, _⟩ := hrow hn; cases e
    subst hn
    obtain rfl : m = 0 := hz
    obtain ⟨b, cap, rfl, hk⟩ : ∃ b cap, v = .slice b k cap ∧ k ≤ cap := by
      rcases hown.2 with ⟨h1, h0⟩ | ⟨g, cap, cur, h1, _, _, h2, _⟩
      · exact ⟨none, 0, by rw [h1, h0], by omega⟩
      · exact ⟨_, cap, h1, h2⟩
    have hk' := h _ w (by simpa [cells] using hown) ⟨rfl, rfl, rfl, Nat.le_refl _, fun _ _ _ => rfl⟩
    refine wpList_plain hg fun K hK => ?_
    have hrun := run_append_none w o.type b k cap c hk
    unfold Oper.wp
    simp [execOp, hop, resolve, invoke, builtin, hs, hx, hrun, Result.andThen]
    exact hK _ _ hk'
end Xm
end Go.Proofs.Ytemdlnphlibcaaa
