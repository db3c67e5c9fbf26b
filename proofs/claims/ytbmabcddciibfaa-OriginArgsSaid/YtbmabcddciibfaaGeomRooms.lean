/- Contract of a geometry's Room. -/
import Derived.Test.YtbmabcddciibfaaGeomPages
namespace Go.Proofs.Ytbmabcddciibfaa
namespace Geo
open Go.RowKit
set_option linter.unusedVariables false
/-- Is there room for none? -/
def noneE (n : Nat) : Int := if n = 0 then 111 else 0
theorem noneE_pos {n : Nat} (h : n ≠ 0) : noneE n = 0 := if_neg h
end Geo
end Go.Proofs.Ytbmabcddciibfaa