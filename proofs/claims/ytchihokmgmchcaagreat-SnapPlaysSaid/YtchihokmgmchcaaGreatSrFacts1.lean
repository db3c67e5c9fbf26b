/- Facts1, of the proof -/
import Derived.Test.YtchihokmgmchcaaGreatSq000
import Derived.Test.YtchihokmgmchcaaGreatRows
import Derived.WalkKit
import Derived.ProofKit
set_option linter.unusedVariables false
set_option maxRecDepth 100000
set_option maxHeartbeats 4000000
namespace Go.Proofs.YtchihokmgmchcaaGreat.snapPlays
theorem Da : Tryz.prog.inPlace 3 = ["internal/abi.NoEscape", "internal/bytealg.MakeNoZero"] := by kernel_rfl
theorem Db:Tryz.prog.unfollowed 3= true:=by kernel_rfl
theorem Dc:Tryz.prog.recurses 3= true:=by kernel_rfl
theorem Dd:Tryz.prog.varsNamed 3= []:=by kernel_rfl
theorem De:joinedFacts Tryz.prog 3 Tryz.f3 Rows.snapPlaysSpec Rows.snapPlaysRow= true:=by unfold joinedFacts;rw [Da,Db,Dc,Dd];kernel_rfl
end Go.Proofs.YtchihokmgmchcaaGreat.snapPlays
