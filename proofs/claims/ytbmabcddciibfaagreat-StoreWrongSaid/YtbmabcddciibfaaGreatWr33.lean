/- Part 33 of the contracts and of the plain mathematics that the proof of the law rests on: StoFn. -/
import Derived.Test.YtbmabcddciibfaaGreatWr24
import Derived.Test.YtbmabcddciibfaaGreatWr32
import Derived.Deep.QuietTactic
import Derived.BigQuiet
namespace Go.Proofs.YtbmabcddciibfaaGreat
namespace So
open Go.RowKit
set_option linter.unusedVariables false
set_option maxRecDepth 100000
structure Fnd (g : Nat) (X Y Z : List UInt8) (E1 E2 : Int) : Prop where
  x : X.length = 64 * g
  y : E1 = 0 → Y.length = 64 * g
  z : E2 = 0 → Z.length = 64 * g
  any : ∀ j, j < g → (E1 = 0 ∧ piece X j = piece Y j) ∨ (E2 = 0 ∧ piece X j = piece Z j)
end So
end Go.Proofs.YtbmabcddciibfaaGreat
