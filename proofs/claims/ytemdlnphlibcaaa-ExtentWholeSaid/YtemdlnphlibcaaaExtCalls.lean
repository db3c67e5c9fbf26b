/- The calls' contracts, all outcomes in one. -/
import Derived.Test.YtemdlnphlibcaaaExtFit2
namespace Go.Proofs.Ytemdlnphlibcaaa
namespace Xm
open Go.RowKit
set_option maxRecDepth 100000
set_option linter.unusedVariables false

/-- What is told, or the error. -/
def gapsR (s l : Int) (u : List (Int × Int)) : List (Int × Int) := if okB s l u = true then gaps s l u else []
def gapsE (s l : Int) (u : List (Int × Int)) : Int := if okB s l u = true then 0 else 1
def freeR (s l : Int) (u : List (Int × Int)) : Int := if okB s l u = true then free s l u else 0
/-- What a list of extents that is handed in must be. -/
structure In (u : List (Int × Int)) (n : Nat) : Prop where
  size : n = u.length
  small : Small u
  len : n ≤ maxLen
  bytes : n * 16 ≤ 140737488355328
theorem pgaps_any (s l : Int) {u : List (Int × Int)} {n : Nat} (hi : In u n) (p : Option Addr) (c : Nat) (w : World) (hu : Exts w p u) :
    Calls Try.prog 7 #[.agg #[.int .i64 s, .int .i64 l], .slice p n c] w fun e w' => ∃ q d, e = .returned (.tuple #[.slice q (gapsR s l u).length d, .int .i64 (gapsE s l u)]) ∧ Exts w' q (gapsR s l u) ∧ Below w.heap.size w w' := by
  unfold gapsR gapsE
  cases h : okB s l u with
  | false => exact (pgaps_no s l u n hi.size p c w hu hi.small hi.len hi.bytes h).mono fun e w' ⟨h1, h2⟩ => ⟨none, 0, h1, Exts.nil _ _, h2⟩
  | true =>
    refine (pgaps_ok s l u n hi.size p c w hu hi.small hi.len hi.bytes h).mono fun e w' ⟨v, h1, h2, h3⟩ => ?_
    obtain ⟨q, d, rfl, hq⟩ := Exts.own h2
    exact ⟨q, d, h1, hq, h3⟩
theorem pfit_any (s l m : Int) {u : List (Int × Int)} {n : Nat} (hi : In u n) (p : Option Addr) (c : Nat) (w : World) (hu : Exts w p u) :
    Calls Try.prog 9 #[.agg #[.int .i64 s, .int .i64 l], .int .i64 m, .slice p n c] w fun e w' => e = .returned (.tuple #[.agg #[.int .i64 (fitS s l m u), .int .i64 (fitL s l m u)], .int .i64 (fitE s l m u)]) ∧ Below w.heap.size w w' := by
  by_cases h : okB s l u = true ∧ 1 ≤ m
  · exact pfit_ok s l m u n hi.size p c w hu hi.small hi.len hi.bytes h.1 h.2
  · obtain ⟨q1, q2, q3⟩ := fit_no (l := l) h
    rw [q1, q2, q3]
    exact pfit_no s l m u n hi.size p c w hu hi.small hi.len hi.bytes h
theorem pfree_any (s l : Int) {u : List (Int × Int)} {n : Nat} (hi : In u n) (p : Option Addr) (c : Nat) (w : World) (hu : Exts w p u) :
    Calls Try.prog 14 #[.agg #[.int .i64 s, .int .i64 l], .slice p n c] w fun e w' => e = .returned (.int .i64 (freeR s l u)) ∧ Below w.heap.size w w' := by
  unfold freeR
  cases h : okB s l u with
  | false => exact pfree_no s l u n hi.size p c w hu hi.small hi.len hi.bytes h
  | true => exact pfree_ok s l u n hi.size p c w hu hi.small hi.len hi.bytes h
theorem pright_in (s l : Int) {u : List (Int × Int)} {n : Nat} (hi : In u n) (p : Option Addr) (c : Nat) (w : World) (hu : Exts w p u) :
    Calls Try.prog 12 #[.agg #[.int .i64 s, .int .i64 l], .slice p n c] w fun e w' => e = .returned (.bool (okB s l u)) ∧ Below w.heap.size w w' :=
  pright_any s l u n hi.size p c w hu hi.small hi.len hi.bytes

/-- Literal rows. -/
theorem lit_two (w : World) (a b c d : Int) : Exts (w.alloc (.cells #[.int .i64 a, .int .i64 b, .int .i64 c, .int .i64 d] 23)) (some ⟨w.heap.size, 0, none⟩) [(a, b), (c, d)] := fun _ => by
  have h := heap_alloc_new w (.cells #[.int .i64 a, .int .i64 b, .int .i64 c, .int .i64 d] 23)
  refine ⟨w.heap.size, 0, rfl, by simp, fun i hi => ?_⟩
  rw [cell_of_row _ _ _ _ _ _ h, cell_of_row _ _ _ _ _ _ h]
  match i, hi with
  | 0, _ => exact ⟨rfl, rfl⟩
  | 1, _ => exact ⟨rfl, rfl⟩
theorem lit_one (w : World) (a b : Int) : Exts (w.alloc (.cells #[.int .i64 a, .int .i64 b] 23)) (some ⟨w.heap.size, 0, none⟩) [(a, b)] := fun _ => by
  have h := Bx.new w a b
  refine ⟨w.heap.size, 0, rfl, by simp, fun i hi => ?_⟩
  match i, hi with
  | 0, _ => exact ⟨h.c0, h.c1⟩
end Xm
end Go.Proofs.Ytemdlnphlibcaaa
