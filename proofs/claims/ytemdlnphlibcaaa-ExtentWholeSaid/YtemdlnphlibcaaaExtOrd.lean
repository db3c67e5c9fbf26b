/- What is told hangs on no order; one more that has a sector of one may not be used. -/
import Derived.Test.YtemdlnphlibcaaaExtCalls
namespace Go.Proofs.Ytemdlnphlibcaaa
namespace Xm
open Go.RowKit
set_option linter.unusedVariables false

theorem In.turned {u : List (Int × Int)} {n : Nat} (h : In u n) : In u.reverse n := ⟨by rw [List.length_reverse]; exact h.size, fun x hx => h.small x (by simpa using hx), h.len, h.bytes⟩
theorem okB_turned (s l : Int) (u : List (Int × Int)) : okB s l u.reverse = okB s l u := okB_perm (List.reverse_perm u)
theorem gaps_turned (s l : Int) (u : List (Int × Int)) : gaps s l u.reverse = gaps s l u := gaps_perm (List.reverse_perm u)
theorem gapsR_turned (s l : Int) (u : List (Int × Int)) : gapsR s l u.reverse = gapsR s l u := by unfold gapsR; rw [okB_turned, gaps_turned]
theorem gapsE_turned (s l : Int) (u : List (Int × Int)) : gapsE s l u.reverse = gapsE s l u := by unfold gapsE; rw [okB_turned]
theorem fitS_turned (s l m : Int) (u : List (Int × Int)) : fitS s l m u.reverse = fitS s l m u := by unfold fitS; rw [okB_turned, gaps_turned]
theorem fitL_turned (s l m : Int) (u : List (Int × Int)) : fitL s l m u.reverse = fitL s l m u := by unfold fitL; rw [okB_turned, gaps_turned]
theorem fitE_turned (s l m : Int) (u : List (Int × Int)) : fitE s l m u.reverse = fitE s l m u := by unfold fitE; rw [okB_turned, gaps_turned]
theorem gapsR_len (s l : Int) (u : List (Int × Int)) : (gapsR s l u).length ≤ 1048576 := by
  unfold gapsR
  by_cases ho : okB s l u = true
  · rw [if_pos ho]
    obtain ⟨_, _, _, h4⟩ := reg_iff.1 (ok_iff.1 ho).1
    have := gaps_len s l u; omega
  · rw [if_neg ho]; simp
theorem okB_again {s l : Int} {u : List (Int × Int)} {x : Int × Int} (hx : x ∈ u) : okB s l (u ++ [x]) = false := by
  unfold okB
  refine decide_eq_false fun ⟨_, c, d⟩ => ?_
  have h1 := (in_iff.1 (c x (by simp))).1
  have := (List.pairwise_append.1 d).2.2 x hx x (by simp)
  rcases this with h | h <;> omega
theorem In.more {u : List (Int × Int)} {n : Nat} (h : In u n) {x : Int × Int} (hx : x.1 ≤ 9223372036854775807) (hn : n ≤ 20) : In (u ++ [x]) (n + 1) :=
  ⟨by rw [List.length_append, List.length_singleton, ← h.size], fun y hy => by
    rcases List.mem_append.1 hy with c | c
    · exact h.small y c
    · rw [List.mem_singleton.1 c]; exact hx, by unfold maxLen; omega, by omega⟩
end Xm
end Go.Proofs.Ytemdlnphlibcaaa
