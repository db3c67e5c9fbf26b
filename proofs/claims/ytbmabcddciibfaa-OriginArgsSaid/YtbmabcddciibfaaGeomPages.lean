/- Contracts of a geometry's Pages; what refuse says. -/
import Derived.Test.YtbmabcddciibfaaGeomWalks
namespace Go.Proofs.Ytbmabcddciibfaa
namespace Geo
open Go.RowKit
set_option linter.unusedVariables false
theorem refuse_ok {o c n lo hi : Int} (hr : Em.rightB o c = true) (h1 : lo ≤ n) (h2 : n ≤ hi) : refuse o c n lo hi = 0 := by unfold refuse; rw [if_pos hr, if_neg (by omega)]
theorem refuse_out {o c n lo hi : Int} (hr : Em.rightB o c = true) (h : n < lo ∨ hi < n) : refuse o c n lo hi = 2 := by unfold refuse; rw [if_pos hr, if_pos h]
theorem refuse_wrong {o c n lo hi : Int} (hr : Em.rightB o c = false) : refuse o c n lo hi = 1 := by unfold refuse; rw [hr]; rfl
theorem parts_13_le {n : Nat} (h : n ≤ 1048576) : Em.parts n 13 ≤ 80660 := by rw [Em.parts_13]; omega
end Geo
end Go.Proofs.Ytbmabcddciibfaa