/- May a superblock be? In plain words. -/
import Derived.Test.YtbmabcddciibfaaGeomMath
namespace Go.Proofs.Ytbmabcddciibfaa
namespace Um
/-- May a superblock be? (Sectors, Origin, Chunk.) -/
def okU (a n g : Int) : Bool := Em.rightB n g && (decide (n + 17 ≤ a) && decide (a ≤ 1048576))
theorem okU_small {a n g : Int} (h : okU a n g = true) : 1 ≤ n ∧ n ≤ 1048576 ∧ 1 ≤ g ∧ g ≤ 128 ∧ n + 17 ≤ a ∧ a ≤ 1048576 := by
  unfold okU at h
  rw [Bool.and_eq_true, Bool.and_eq_true, decide_eq_true_eq, decide_eq_true_eq, Em.right_iff] at h
  omega
end Um
end Go.Proofs.Ytbmabcddciibfaa