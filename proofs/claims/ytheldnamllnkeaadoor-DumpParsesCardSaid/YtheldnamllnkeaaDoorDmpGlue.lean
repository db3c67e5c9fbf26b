/- The words of a text, word by word and letter by letter. -/
import Derived.Test.YtheldnamllnkeaaDoorDmpMath
namespace Go.Proofs.YtheldnamllnkeaaDoor
namespace Pd
set_option linter.unusedVariables false

/-- Words that are done, the last one so far, and the rest of the text. -/
def glue (pre : List (List UInt8)) (w : List UInt8) (l : List UInt8) : List (List UInt8) := pre ++ match words l with | [] => [w] | x :: xs => (w ++ x) :: xs
theorem glue_start (l : List UInt8) : glue [] [] l = words l := by
  unfold glue
  cases h : words l with
  | nil => exact absurd h (words_ne l)
  | cons x xs => rfl
theorem glue_end (pre : List (List UInt8)) (w : List UInt8) : glue pre w [] = pre ++ [w] := by
  simp [glue, words]
theorem glue_blank (pre : List (List UInt8)) (w r : List UInt8) : glue pre w (32 :: r) = glue (pre ++ [w]) [] r := by
  unfold glue
  rw [show words (32 :: r) = [] :: words r from by rw [words, if_pos rfl]]
  cases h : words r with
  | nil => exact absurd h (words_ne r)
  | cons x xs => simp
theorem glue_letter (pre : List (List UInt8)) (w r : List UInt8) (c : UInt8) (hc : c ≠ 32) : glue pre w (c :: r) = glue pre (w ++ [c]) r := by
  unfold glue
  rw [words, if_neg hc]
  cases h : words r with
  | nil => exact absurd h (words_ne r)
  | cons x xs => simp
end Pd
end Go.Proofs.YtheldnamllnkeaaDoor
